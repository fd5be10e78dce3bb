import PyProof.Rows.All
import Wide.All
import OpenK.AllK
import Wide.FinOn
import Lean
import PyProof.EqAt
import PyProof.EqKinds
import PyProof.TupleCall
import KE.KSortTup
import KE.KDictSum
import KE.KDictOf
import PyProof.AttrMissHeap
import PyProof.WalksEnum
import PyProof.EnumMake
import PyProof.Draws
import PyProof.Rows.SetFrom
import KE.KTryOn
import KE.KTryDeep
import PySem.Challenge.RW_rootshares_k53_whole_cheapest_of_all
set_option Elab.async false
set_option linter.all false
set_option maxRecDepth 100000
noncomputable section
open PySem.W renaming Frag→zz7
open PySem renaming Shared→zz8,Value→zz9
open PySem renaming wpAny_bind→yz,wpAny_pure→yC,boot_len→zg,sizeLine_eq→zj,wpAny_holding→zw,wpAny_newObj_type→zA,wpAny_call_entry→zC,wpAny_seqItems→zE,wpAny_callSpecial?_slot→zH,wpAny_mono→zJ,wpAny_field→zN,codeAny_builtin→zT,wpAny_standAt→zW,wpAny_truthy_bool→zZ,wpAny_setField→Ab,plainId_quiet→Af,wpAny_tryCatch→Ai,wpAny_setField_rec→Ao,wpAny_loadPart_at→Au,mem_of_lookup→Ax,wpAny_of_eq→AA,wpAny_letGo→AB,wpAny_pyIter_tuple→AE,wpAny_updateSeq→AJ,wpAny_pyIter_list→AL,wpAny_attempt→AN,wpAny_typeNameOfWhole_keyiter→AO,wpAny_fieldsOf→AS,wpAny_askSetting→AU,wpAny_rule→AV,codeAny_mono→AX,wpAny_passesOwn→AZ,wpAny_setState_of→A6,wpAny_comprehension_free→Ba,wpAny_typeNameOf_keyiter→Bb,wpAny_setEntries_of→Bd,wpAny_isSubtype_exc→Be,wpAny_getItem_str_slice→Bf,wpAny_execs_nil→Bg,wpAny_Call_Name_kw→Bh,isSubtype_type→Bs,builtinLookup_eq_fast→Bt,wpAny_updateSeq_pair→Bw,wpAny_isInstance→Bx,tupleKind_room_in1→BN,wpAny_newList→B0,wpAny_onRaise→B3,wpAny_pyIter_zip→B4,wpAny_isOneOf_keyiter→B5,wpAny_newFunctionEnv→Ca,post_val_or_str→Cc,codeAny_of_tree→Cg,typeLookup_type→Ci,wpAny_newTuple→Cn,wpAny_assign_Name→Cy,wpAny_dictEntries→CD,wpAny_pyIter_slot→CF,wpAny_call→CL,codeAny_loop→CQ,wpAny_typeOf→CS,strKind_is→CV
open List renaming length_map→yA,mem_map→yD,mem_map_of_mem→yE,mem_cons→yF,mem_cons_self→yG,mem_filter→yI,getElem?_eq_getElem→yJ,mem_singleton→yK,map_append→yL,mem_append_right→yM,mem_of_getElem?→yP,mem_append→yQ,getElem?_map→yR,size_toArray→yS,mem_cons_of_mem→yT,getElem?_eq_some_iff→yV,mem_append_left→yW,length_filter_le→yY,pairwise_iff_getElem→yZ,map_cons→y0,map_map→y8,nodup_cons→zb,length_append→zc,getD_eq_getElem?_getD→zd,filter_sublist→zh,take_add_one→zi,length_cons→zk,append_nil→zt,getElem_mem→zx,filter_cons→zD,length_take→zF,not_mem_nil→zK,all_eq_true→zL,take_length→zU,sum_cons→zX,getElem_map→zY,nodup_append→Aa,getElem_of_mem→Ad,pairwise_map→Ae,append_assoc→Aj,getElem?_append_left→Ak,map_congr_left→Ay,mem_range→AD,mem_of_find?_eq_some→AH,replicate_succ'→AK,length_eq_zero_iff→AQ,map_replicate→AY,length_singleton→A1,perm_ext_iff_of_nodup→A5,lookup_cons→A8,find?_cons→Bj,contains_cons→Bm,take_of_length_le→Bp,nodup_nil→Br,getElem?_of_mem→Bz,length_filter_lt_length_iff_exists→BC,filterMap_cons→BD,forIn_cons→BG,find?_some→BJ,pairwise_cons→BO,ne_nil_of_mem→BP,lt_irrefl→BQ,length_range→BV,filter_eq_nil_iff→BY,any_cons→BZ,getElem?_eq_none→B7,length_eraseIdx→Cj,filter_map→Cm,forIn_nil→Co,mem_filterMap→Cr,append_of_mem→Cs,lt_trans→Cv,take_sublist→CA,foldl_append→CG,getElem_take→CJ,filter_congr→CK,map_nil→CO,cons_append→CT,zipIdx_cons→CU,of_mem_zip→CY,length_nil→CZ,zipIdx_nil→C0
open PySem.Heap renaming get?_push_of_some→yB,lt_size→yH,get?_push_size→yN,get?_update_other→yX,size_push→zo,get?_update_self→zu,get?_none_of_le→Bv,get?_update_ne→BE
open Nat renaming le_refl→yO,le_trans→y7,ne_of_lt→y9,lt_of_lt_of_le→za,zero_le→ze,lt_irrefl→zz,le_of_lt→Am,lt_succ_of_lt→As,le_succ→Az,le_add_right→AC,ne_of_gt→AI,lt_succ_self→AR,pow_le_pow_right→A7,lt_or_gt_of_ne→Bi,lt_or_ge→Bu,not_lt_zero→Cb
open Bool renaming false_ne_true→yU,false_eq_true→zV,and_eq_true→An,eq_iff_iff→A0,not_eq_true→By,eq_false_iff→CI,or_true→CW
open Array renaming getElem?_eq_getElem→zp,length_toList→zB,getElem?_toList→zS,getD_eq_getD_getElem?→Aw,getElem?_eq_none→AW,getElem?_eq_some_iff→A4,toList_append→BF,getElem?_setIfInBounds_ne→B8,toArray_toList→Cf,perm_iff_toList_perm→Cu
open PySem.W renaming mg_none_of→zq,kia_one→Ag,mg_of→BB
open Option.some renaming inj→zy
open PySem.PassesOwn renaming never→zG
open PySem.F renaming plainAttrs_list→zI,plain_min_loop→zM,slot_list_append→zQ,type_list_append→zR,called_set→Ap,slot_dict_keyiterator_next→Ar,slot_tuple_iterator_next→A3,entry_min_loop→Bc,slot_zip_next→Bk,args_tuple_add_2→BL,entry_tuple_add→BR,slot_tuple_add→BX,slot_dict_get→B6,args_dict_keyiterator_next_1→Ce,args_zip_next_1→CC,plain_extend_loop→CM
open PySem.Around renaming under_plainId→zO
open Ne renaming symm→zP
open PySem.Heap.SameBut renaming update→Ac,refl→CB
open PySem.Obj renaming data_mapFields→Ah,isFreed_of_fields→AF,cls_mapFields→BU
open Classical renaming em→Aq
open PyProof.Rows renaming callWith_type1→Av
open List.Nodup renaming sublist→AG
open Int renaming toNat_natCast→AM,emod_lt_of_pos→Bo,emod_nonneg→BI,mul_le_mul_of_nonneg_right→Ck,fdiv_eq_ediv_of_nonneg→Ct
open Option renaming map_some→A2,isSome_iff_exists→CN
open PySem.Paired renaming length→BA
open PySem.W.KasT renaming kasWp_bind→BH
open PySem.Calls renaming spliced_cons→BK,evalArgs_plain→B9,spliced_nil→Cz
open PySem.Code renaming quiet_builtin→BM
open PyProof.Rows.F renaming plain_set_update_loop→BS
open Sum.inr renaming inj→BW
open PySem.Txt renaming slice_le→Cd
open List.Perm renaming refl→Cp
open PySem.Str renaming cps_append→Cq
open List.cons renaming inj→Cw
namespace L2
open PySem PySem.Spec PyProof.Rows
abbrev Key:=Sum Int Str
def eT:Key->zz9->Bool
 | .inl k,v=>Value.isInt k v
 | .inr x,v=>Value.isStrOf x v
def ya (w:World):Key->Int
 | .inl k=>hashInt k
 | .inr x=>hashStr w x
theorem dA:∀{k:Key}{v:zz9},eT k v=true->(∃i t,k=Sum.inl i/\v=Value.int i t)\/(∃x t,k=Sum.inr x/\v=Value.str x t)
 | .inl i,v,h=>by
  obtain⟨t,e⟩:=Value.isInt_shape (k:=i) (v:=v) h;exact .inl ⟨i,t,rfl,e⟩
 | .inr x,v,h=>by
  obtain⟨t,e⟩:=Value.isStrOf_shape (x:=x) (v:=v) h;exact .inr ⟨x,t,rfl,e⟩
theorem rM (i:Int) (t:Tok):eT (.inl i) (.int i t)=true:=by simp [eT,Value.isInt]
theorem qS (x:Str) (t:Tok):eT (.inr x) (.str x t)=true:=by simp [eT,Value.isStrOf]
theorem wf (a b:Int):decide ((Sum.inl a:Key)=Sum.inl b)=(a == b):=by
 by_cases e:a=b
 ·subst e;simp
 ·have h:¬ (Sum.inl a:Key)=Sum.inl b:=λq=>e (Sum.inl.inj q)
  rw [decide_eq_false h];exact (beq_eq_false_iff_ne.mpr e).symm
theorem vV (a b:Str):decide ((Sum.inr a:Key)=Sum.inr b)=decide (a=b):=by
 by_cases e:a=b
 ·subst e;simp
 ·have h:¬ (Sum.inr a:Key)=Sum.inr b:=λq=>e (BW q)
  rw [decide_eq_false h,decide_eq_false e]
theorem vP (a:Int) (b:Str):decide ((Sum.inl a:Key)=Sum.inr b)=false:=decide_eq_false (λq=>nomatch q)
theorem vw (a:Str) (b:Int):decide ((Sum.inr a:Key)=Sum.inl b)=false:=decide_eq_false (λq=>nomatch q)
def bX (prog:Program) (w:World):PySem.KeyKind prog w Key where
 is:=eT
 hash:=ya w
 inj:=λv a b ha hb=>by
  rcases dA ha with ⟨i,t,rfl,rfl⟩ | ⟨x,t,rfl,rfl⟩
  ·rcases dA hb with ⟨j,u,rfl,e⟩ | ⟨y,u,rfl,e⟩
   ·injection e with e1 _;rw [e1]
   ·exact nomatch e
  ·rcases dA hb with ⟨j,u,rfl,e⟩ | ⟨y,u,rfl,e⟩
   ·exact nomatch e
   ·injection e with e1 _;rw [e1]
 byValue:=λk v h=>by
  rcases dA h with ⟨i,t,rfl,rfl⟩ | ⟨x,t,rfl,rfl⟩ <;> rfl
 pyHash:=λhv h=>by
  rcases dA hv with ⟨i,t,rfl,rfl⟩ | ⟨x,t,rfl,rfl⟩
  ·exact wpAny_pyHash_int h
  ·exact wpAny_pyHash_str h
 eqBool:=λhu hv h=>by
  rcases dA hu with ⟨i,t,rfl,rfl⟩ | ⟨x,t,rfl,rfl⟩
  ·rcases dA hv with ⟨j,u,rfl,rfl⟩ | ⟨y,u,rfl,rfl⟩
   ·rw [wf] at h;exact wpAny_eqBool_int h
   ·rw [vP] at h;exact SeqAt.EqAt.int_str i t y u _ _ _ _ h
  ·rcases dA hv with ⟨j,u,rfl,rfl⟩ | ⟨y,u,rfl,rfl⟩
   ·rw [vw] at h;exact SeqAt.EqAt.str_int x t j u _ _ _ _ h
   ·rw [vV] at h;exact wpAny_eqBool_str h
 «strs»:=λk x t v h=>by
  rcases dA h with ⟨i,u,rfl,e⟩ | ⟨y,u,rfl,e⟩
  ·exact nomatch e
  ·injection e with e1 _
   subst e1;cases v <;> rfl
theorem pE (prog:Program) (w:World) (i:Int) (t:Tok):(bX prog w).is (.inl i) (.int i t)=true:=rM i t
theorem pF (prog:Program) (w:World) (x:Str) (t:Tok):(bX prog w).is (.inr x) (.str x t)=true:=qS x t
inductive V where
 | non | bl (b:Bool) | int (i:Int) | str (x:Str) | byt (b:Array UInt8) | flt (b:UInt64) | ref (a:Addr) | ty (n:String)
 deriving DecidableEq
def RelV:V->zz9->Prop
 | .non,u=>u=Value.none
 | .bl b,u=>u=Value.bool b
 | .int i,u=>∃t,u=Value.int i t
 | .str x,u=>∃t,u=Value.str x t
 | .byt b,u=>∃t,u=Value.bytes b t
 | .flt b,u=>∃t,u=Value.float b t
 | .ref a,u=>u=Value.ref a
 | .ty n,u=>u=Value.type n
abbrev aq:List V->List zz9->Prop:=Paired RelV
theorem aq.length {xs:List V}{us:List zz9} (r:aq xs us):xs.length=us.length:=BA r
theorem aq.get:∀{xs:List V}{us:List zz9}{i:Nat}{x:V},aq xs us->xs[i]?=some x->∃u,us[i]?=some u/\RelV x u
 | _,_,_,_,.nil,e=>by simp at e
 | _,_,0,_,.cons r _,e=>by simp at e;subst e;exact⟨_,rfl,r⟩
 | _,_,i + 1,x,.cons _ t,e=>by
  obtain⟨u,h1,h2⟩:=aq.get (i:=i) (x:=x) t (by simpa using e);exact⟨u,by simpa using h1,h2⟩
theorem aq.set {x:V}{u:zz9} (r:RelV x u):∀{xs:List V}{us:List zz9} (i:Nat),aq xs us->aq (xs.set i x) (us.set i u)
 | _,_,_,.nil=>.nil
 | _,_,0,.cons _ t=>.cons r t
 | _,_,i + 1,.cons q t=>.cons q (aq.set r i t)
theorem aq.append:∀{xs ys:List V}{us ws:List zz9},aq xs us->aq ys ws->aq (xs++ys) (us++ws)
 | _,_,_,_,.nil,s=>s
 | _,_,_,_,.cons r t,s=>.cons r (aq.append t s)
def cn:Option V->Option zz9->Prop
 | some v,some u=>RelV v u
 | none,none=>True
 | _,_=>False
def KV {κ:Type}:List (κ×V)->List (κ×zz9)->Prop:=Paired λ(p:κ×V) (q:κ×zz9)=>p.1=q.1/\RelV p.2 q.2
def kV:Key->V
 | .inl i=>.int i
 | .inr x=>.str x
inductive HO where
  | lst (xs:List V)
  | tup (xs:List V)
  | dK (kvs:List (Key×V)) | dT (kvs:List (List Key×V))
  | set (S:Int->Bool) (n:Nat)
  | ins (C dx:Addr) (fs:List (Str×V))
  | own (x:Addr)
  | xd (fs:List (Str×V))
  | met (f x:Addr)
  | rng (lo hi:Int)
  | frz (o:Obj) (u:HO)
  | tbl (ps:Array zz9)
  | ext (φ:Heap->Prop)
abbrev Hp:=Addr->Option HO
def upd (H:Hp) (a:Addr) (o:HO):Hp:=λb=>if b=a then some o else H b
theorem aj {H:Hp}{a:Addr}{o:HO}:upd H a o a=some o:=by unfold upd;rw [if_pos rfl]
theorem ag {H:Hp}{a b:Addr}{o:HO} (h:b≠a):upd H a o b=H b:=by unfold upd;rw [if_neg h]
theorem i8 {H:Hp}{a b:Addr}{o u:HO} (h:H a=some o) (h':H b=some u) (d:o≠u):a≠b:=by
 intro e;subst e;rw [h] at h';exact d (zy h')
theorem ar {H:Hp}{a b:Addr}{o:HO} (h:H a=some o) (h':H b=none):a≠b:=by
 intro e;subst e;rw [h] at h';cases h'
section
variable (P:Program) (w:World)
def aF (H:Hp) (h:Heap) (a:Addr):HO->Prop
 | .lst xs=>xs.length<=sizeLine/\∃(C1:List zz9) (n:Nat),aq xs C1/\h.get? a=some { cls:=.type "list",data:=.seq C1.toArray n }
 | .tup xs=>xs.length<=sizeLine/\∃C1:List zz9,aq xs C1/\IsTup h a C1.toArray
 | .dK kvs=>kvs.length<=sizeLine/\(a == sysModules)=false/\∃vs,KV kvs vs/\h.DictOf (bX P w) a vs
 | .dT kvs=>kvs.length<=sizeLine/\(a == sysModules)=false/\∃xs:List (List Key×Addr×zz9),
   Paired (λ(p:List Key×V) (q:List Key×Addr×zz9)=>p.1=q.1/\H q.2.1=some (.tup (p.1.map kV))/\RelV p.2 q.2.2) kvs xs /\
   ∃o es ep,h.get? a=some o/\o.ExactDict/\o.data=.dict es ep/\es.toList=xs.map (entryOfKey (tupleKind (bX P w)))/\(xs.map (·.1)).Nodup
 | .set S n=>h.SetOf (intKind P w) a S n
 | .ins C dx fs=>H dx=some (.own a)/\fs.length<=1000/\dx≠a/\h.get? a=some (PySem.W.instObj C dx) /\
   ∃mA,h.Ns1 dx mA/\(∀f,cn (fs.lookup f) (mA f))/\PySem.Within mA (fs.map (·.1))
 | .own _=>∃o,h.get? a=some o
 | .xd fs=>∃mA,h.Ns1 a mA/\∀f,cn (fs.lookup f) (mA f)
 | .rng lo hi=>∃t u v,h.get? a=some { cls:=.type "range",data:=.fields #[.int lo t,.int hi u,.int 1 v] }
 | .frz o u=>h.get? a=some o/\aF H h a u
 | .tbl ps=>h.get? a=some { cls:=.none,data:=.fields ps }
 | .met f x=>h.get? a=some (PySem.W.methodObj (.ref f) (.ref x))
 | .ext φ=>φ h/\(∃o,h.get? a=some o)/\∀h1 h2:Heap,φ h1->(∀o,h1.get? a=some o->h2.get? a=some o)->φ h2
def Ds (H:Hp) (h:Heap):Prop:=∀a o,H a=some o->aF P w H h a o
end
section
variable {P:Program}{w:World}{H H':Hp}{h h':Heap}{a:Addr}{o:HO}
theorem aF.lt (x:aF P w H h a o):a < h.objs.size:=by
 cases o with
 | lst xs=>obtain⟨_,_,_,_,e⟩:=x;exact yH e
 | tup xs=>obtain⟨_,_,_,p⟩:=x;exact p.lt
 | dK kvs=>obtain⟨_,_,_,_,o,_,_,e,_⟩:=x;exact yH e
 | dT kvs=>obtain⟨_,_,_,_,o,_,_,e,_⟩:=x;exact yH e
 | set S n=>obtain⟨o,_,_,_,e,_⟩:=x;exact yH e
 | ins C dx fs=>obtain⟨_,_,_,e,_⟩:=x;exact yH e
 | own y=>obtain⟨_,e⟩:=x;exact yH e
 | xd fs=>obtain⟨_,⟨_,_,_,e,_⟩,_⟩:=x;exact yH e
 | rng lo hi=>obtain⟨_,_,_,e⟩:=x;exact yH e
 | frz ob u=>obtain⟨e,_⟩:=x;exact yH e
 | tbl ps=>exact yH (show h.get? a=some _ from x)
 | met f y=>exact yH (show h.get? a=some _ from x)
 | ext φ=>obtain⟨_,⟨_,e⟩,_⟩:=x;exact yH e
theorem Paired.mapP {α β:Type}{F G:α->β->Prop}:∀{l₁:List α}{l₂:List β},Paired F l₁ l₂->(∀a b,F a b->G a b)->Paired G l₁ l₂
 | _,_,.nil,_=>.nil
 | _,_,.cons r t,f=>.cons (f _ _ r) (Paired.mapP t f)
theorem aF.stay (x:aF P w H h a o) (k:∀b u,(b=a\/H b=some (.own a))->h.get? b=some u->h'.get? b=some u)
  (ho:∀b,H b=some (.own a)->H' b=some (.own a)) (ht:∀b xs,H b=some (.tup xs)->H' b=some (.tup xs)):aF P w H' h' a o:=by
 induction o with
 | lst xs=>obtain⟨z,C1,n,r,e⟩:=x;exact⟨z,C1,n,r,k _ _ (.inl rfl) e⟩
 | tup xs=>obtain⟨z,C1,r,ob,e,c⟩:=x;exact⟨z,C1,r,ob,k _ _ (.inl rfl) e,c⟩
 | dK kvs=>obtain⟨z,y,vs,r,ob,es,ep,e,c⟩:=x;exact⟨z,y,vs,r,ob,es,ep,k _ _ (.inl rfl) e,c⟩
 | dT kvs =>
  obtain⟨z,y,xs,r,ob,es,ep,e,c⟩:=x;exact⟨z,y,xs,Paired.mapP r λp q z=>⟨z.1,ht _ _ z.2.1,z.2.2⟩,ob,es,ep,k _ _ (.inl rfl) e,c⟩
 | set S n=>obtain⟨ob,es,ep,t,e,c⟩:=x;exact⟨ob,es,ep,t,k _ _ (.inl rfl) e,c⟩
 | ins C dx fs =>
  obtain⟨d,z,ne,e,mA,⟨od,es,ep,e2,c⟩,r⟩:=x;exact⟨ho _ d,z,ne,k _ _ (.inl rfl) e,mA,⟨od,es,ep,k _ _ (.inr d) e2,c⟩,r⟩
 | own y=>obtain⟨ob,e⟩:=x;exact⟨ob,k _ _ (.inl rfl) e⟩
 | xd fs=>obtain⟨mA,⟨od,es,ep,e,c⟩,r⟩:=x;exact⟨mA,⟨od,es,ep,k _ _ (.inl rfl) e,c⟩,r⟩
 | rng lo hi=>obtain⟨t,u,v,e⟩:=x;exact⟨t,u,v,k _ _ (.inl rfl) e⟩
 | frz ob u ih=>obtain⟨e,q⟩:=x;exact⟨k _ _ (.inl rfl) e,ih q⟩
 | tbl ps =>
  have e:h.get? a=some { cls:=.none,data:=.fields ps }:=x;show h'.get? a=some { cls:=.none,data:=.fields ps };exact k a _ (.inl rfl) e
 | met f y =>
  have e:h.get? a=some (PySem.W.methodObj (.ref f) (.ref y)):=x;show h'.get? a=some (PySem.W.methodObj (.ref f) (.ref y));exact k a _ (.inl rfl) e
 | ext φ=>obtain⟨p,⟨o,e⟩,st⟩:=x;exact⟨st _ _ p λo q=>k _ _ (.inl rfl) q,⟨o,k _ _ (.inl rfl) e⟩,st⟩
theorem Ds.lt (x:Ds P w H h) (e:H a=some o):a < h.objs.size:=(x a o e).lt
theorem Ds.fresh (x:Ds P w H h) (e:h.objs.size<=a):H a=none:=by
 cases q:H a with
 | none=>rfl
 | some u=>exact absurd (za (x.lt q) e) (zz _)
theorem Ds.kept (x:Ds P w H h) (k:∀b u,h.get? b=some u->h'.get? b=some u):Ds P w H h':=λa o e =>
 (x a o e).stay (λb u _ q=>k b u q) (λ_ q=>q) λ_ _ q=>q
theorem Ds.laid (x:Ds P w H h) (k:∀b u,h.get? b=some u->h'.get? b=some u) (hp:h.objs.size<=a) (new:aF P w (upd H a o) h' a o):Ds P w (upd H a o) h':=λb u e=>by
 have hn:=x.fresh hp
 by_cases hb:b=a
 ·subst hb;rw [aj] at e;cases e;exact new
 ·rw [ag hb] at e
  exact (x b u e).stay (λc v _ q=>k c v q) (λc q=>by rw [ag (ar q hn)];exact q) λc xs q=>by rw [ag (ar q hn)];exact q
end
def Rd (H:Hp) (a:Addr) (u:HO):Prop:=H a=some u\/∃o,H a=some (.frz o u)
theorem Rd.ok {P:Program}{w:World}{H:Hp}{h:Heap}{a:Addr}{u:HO} (r:Rd H a u) (x:Ds P w H h):aF P w H h a u:=by
 rcases r with r | ⟨o,r⟩
 ·exact x a u r
 ·obtain⟨_,q⟩:=x a _ r
  exact q
def KS:Option HO->Prop
 | some (.lst _)=>True
 | some (.dK _)=>True
 | some (.dT _)=>True
 | some (.set _ _)=>True
 | some (.ins _ _ _)=>True
 | some (.ext _)=>True
 | _=>False
section
variable {P:Program}{w:World}{H:Hp}{h h':Heap}{x e:Addr}{o':HO}
theorem Ds.write (ok:Ds P w H h) (mu:KS (H x)) (he:e=x\/H e=some (.own x)) (k:∀b u,b≠e->h.get? b=some u->h'.get? b=some u) (Jg:∃u,h'.get? e=some u)
  (new:aF P w (upd H x o') h' x o'):Ds P w (upd H x o') h':=λb u q=>by
 have JW:∀c y,H c=some (.own y)->c≠x:=λc y r z=>by subst z;rw [r] at mu;exact mu
 have Mp:∀c xs,H c=some (.tup xs)->c≠x:=λc xs r z=>by subst z;rw [r] at mu;exact mu
 by_cases hb:b=x
 ·subst hb;rw [aj] at q;cases q;exact new
 ·rw [ag hb] at q
  by_cases GW:b=e
  ·have q':H b=some (.own x):=by
    rcases he with z | z
    ·exact absurd (GW.trans z) hb
    ·rw [GW];exact z
   rw [q] at q';cases q';obtain⟨v,hv⟩:=Jg;exact⟨v,by rw [GW];exact hv⟩
  ·refine (ok b u q).stay (λc v hc r=>k c v ?_ r) (λc r=>by rw [ag (JW c b r)];exact r) λc xs r=>by rw [ag (Mp c xs r)];exact r
   rcases hc with rfl | hc
   ·exact GW
   ·rintro rfl
    rcases he with z | z
    ·exact JW c b hc z
    ·rw [hc] at z;cases z;exact hb rfl
end
structure Un (fs ex:List Addr) (H H':Hp) (h h':Heap):Prop where
 keep:∀b o,h.get? b=some o->H b=none->b∉fs->b∉ex->h'.get? b=some o
 slot:∀b o,h.get? b=some o->H b=none->b∈fs->b∉ex->∃sl,h'.get? b=some { o with slots:=sl }
 free:∀b o,h.get? b=some o->H b=none->b∉ex->H' b=none
 there:∀b o,h.get? b=some o->b∉ex->∃o',h'.get? b=some o'
 tups:∀b xs,H b=some (.tup xs)->H' b=some (.tup xs)
 frzs:∀b o u,H b=some (.frz o u)->H' b=some (.frz o u)
 tbls:∀b ps,H b=some (.tbl ps)->∃more,H' b=some (.tbl (ps++more))
section
variable {fs Ua ex ex':List Addr}{H H1 H2:Hp}{h h1 h2 h':Heap}{a x e:Addr}{o:HO}
theorem Un.any (u:Un fs ex H H1 h h1) {b:Addr}{ob:Obj} (q:h.get? b=some ob) (n:H b=none) (hx:b∉ex):∃sl,h1.get? b=some { ob with slots:=sl }:=by
 by_cases hb:b∈fs
 ·exact u.slot b ob q n hb hx
 ·exact⟨ob.slots,u.keep b ob q n hb hx⟩
theorem Un.kept (k:∀b u,h.get? b=some u->h'.get? b=some u):Un fs ex H H h h' :=
 ⟨λb ob q _ _ _=>k b ob q,λb ob q _ _ _=>⟨ob.slots,k b ob q⟩,λ_ _ _ n _=>n,λb ob q _=>⟨ob,k b ob q⟩,λ_ _ q=>q,λ_ _ _ q=>q,λ_ ps q=>⟨#[],by rw [q];simp⟩⟩
theorem Un.refl:Un fs ex H H h h:=Un.kept λ_ _ q=>q
theorem Un.laid (k:∀b u,h.get? b=some u->h'.get? b=some u) (hp:h.objs.size<=a) (hn:H a=none):Un fs ex H (upd H a o) h h' where
 keep:=λb u q _ _ _=>k b u q
 slot:=λb u q _ _ _=>⟨u.slots,k b u q⟩
 free:=λb u q n _=>by rw [ag (y9 (za (yH q) hp))];exact n
 there:=λb u q _=>⟨u,k b u q⟩
 tups:=λb xs q=>by rw [ag (ar q hn)];exact q
 frzs:=λb u xs q=>by rw [ag (ar q hn)];exact q
 tbls:=λb ps q=>⟨#[],by rw [ag (ar q hn),q];simp⟩
theorem Un.write (mu:KS (H x)) (he:e=x\/H e=some (.own x)) (k:∀b u,b≠e->h.get? b=some u->h'.get? b=some u) (Jg:∃u,h'.get? e=some u):Un fs ex H (upd H x o) h h':=by
 have hx:∀b,H b=none->b≠x:=λb n z=>by subst z;rw [n] at mu;exact mu
 have hb:∀b,H b=none->b≠e:=λb n z=>by
  subst z
  rcases he with r | r
  ·exact hx b n r
  ·rw [n] at r;cases r
 have hm:∀b u,H b=some u->¬ KS (some u)->b≠x:=λb u q nm z=>by subst z;rw [q] at mu;exact nm mu
 refine⟨λb u q n _ _=>k b u (hb b n) q,λb u q n _ _=>⟨u.slots,k b u (hb b n) q⟩,λb u q n _=>by rw [ag (hx b n)];exact n,λb u q _=>?_,
  λb xs q=>by rw [ag (hm b _ q λz=>z)];exact q,λb u xs q=>by rw [ag (hm b _ q λz=>z)];exact q,λb ps q=>⟨#[],by rw [ag (hm b _ q λz=>z),q];simp⟩⟩
 by_cases GW:b=e
 ·subst GW;exact Jg
 ·exact⟨u,k b u GW q⟩
end
def KZ (h:Heap) (H:Hp):List Addr:=(List.range h.objs.size).filter λa=>(H a).isSome
def dR (h:Heap) (H:Hp):Heap:=PySem.W.hideAll h (KZ h H)
theorem qP (h:Heap) (H:Hp):(dR h H).objs.size=h.objs.size:=PySem.W.hideAll_size _ _
theorem sA {h:Heap}{H:Hp}{b:Addr}{o:Obj} (e:h.get? b=some o) (n:H b=none):(dR h H).get? b=some o :=
 PySem.W.hideAll_get _ e λhm=>by
  have q:(H b).isSome=true:=(yI.mp hm).2;rw [n] at q;simp at q
theorem um {h:Heap}{H:Hp}{b:Addr}{o:Obj} (e:(dR h H).get? b=some o):h.get? b=some o/\H b=none:=by
 have e':h.get? b=some o:=PySem.W.of_hideAll (KZ h H) e;refine⟨e',?_⟩;cases q:H b with
 | none=>rfl
 | some x =>
  have hm:b∈KZ h H:=yI.mpr ⟨AD.mpr (yH e'),by simp [q]⟩;have z:(dR h H).get? b=none:=PySem.W.hideAll_none (KZ h H) hm;rw [z] at e;cases e
def uf (g h:Heap) (L:Addr):List (Addr×Obj):=(List.range h.objs.size).filterMap λa=>if a=L\/(g.get? a).isSome=true then none else (h.get? a).map λo=>(a,o)
def rest (g h:Heap) (L d:Addr):List (Addr×Obj):=(uf g h L).filter λp=>decide (p.1≠d)
structure Mod (K:zz7) (mg:Str->Option zz9) (base:Heap):Prop where
 kin:K.In base
 glob:base.Ns mainGlobals mg
 blt:∃mb,base.Ns builtinsNs mb/\∀x:Str,x≠"__name__"->mb x=bootBuiltins x
 nolimit:base.NoLimit
structure Cx where
 prog:Program
 w:World
 K:zz7
 mg:Str->Option zz9
 base:Heap
 A:Around
 N:List Str
 s₀:zz8
 H₀:Hp
 env:Env
 outer:List Env
 stack:List Env
 ex:List Addr
 fn:Str->Bool
 calm:Bool
 pn:List (Addr×Obj)
 xe:zz9->zz8->Prop
def Dq (l:List Env):List Addr:=l.filterMap (·.frame)
abbrev Cx.fs (X:Cx):List Addr:=Dq X.outer
def LK (sc:Scope) (x:Str):Prop:=sc.names.lookup x=some .local\/sc.names.lookup x=some .cell\/sc.names.lookup x=some .free
def Loc (sc:Scope) (x:Str):Prop:=sc.names.lookup x=some .local\/sc.names.lookup x=some .cell
def Look (env:Env) (h:Heap) (m:Str->Option zz9) (x:Str) (u:zz9):Prop :=
 (env.kindOf x=some .local/\m x=some u)\/((env.kindOf x=some .cell\/env.kindOf x=some .free)/\∃c,env.cells.lookup x=some c/\h.IsCell c (some u))
structure Cx.Ok (X:Cx):Prop where
 mod:Mod X.K X.mg X.base
 kind:X.env.scope.kind=.function
 glob:X.env.globals=mainGlobals
 blt:X.env.builtins=builtinsNs
 above:X.s₀.heap.objs.size<=X.env.locals
 inj:∀x y c,X.env.cells.lookup x=some c->X.env.cells.lookup y=some c->x=y
 has:∀x,(X.env.kindOf x=some .cell\/X.env.kindOf x=some .free)->∃c,X.env.cells.lookup x=some c
 cab:∀x c,X.fn x=true->X.env.cells.lookup x=some c->X.s₀.heap.objs.size<=c
 hd:X.calm=true->X.A.handled=none
 frames:X.A.frames=some X.stack
 stk:X.stack=X.outer\/(X.stack=X.env::X.outer/\X.env.frame=some X.env.locals)
 exf:∀b∈X.ex,b≠X.env.locals/\∀x c,X.env.cells.lookup x=some c->c≠b
 bs:∀b o,X.base.get? b=some o->X.s₀.heap.get? b=some o/\X.H₀ b=none
 bsz:X.base.objs.size<=X.s₀.heap.objs.size
 noex:∀b o,X.base.get? b=some o->b∉X.ex
 exfs:∀b∈X.ex,b∉X.fs
 funs:X.s₀.heap.FunFrames X.base X.outer
 frf:∀b∈X.fs,X.H₀ b=none
structure Inv (X:Cx) (pins:List (Addr×Obj)) (σ:List (Option V)) (H:Hp) (s:zz8):Prop where
 ok:X.Ok
 os:s.os=X.s₀.os
 bare:AllBare s.gens
 base:Un X.fs X.ex X.H₀ H X.s₀.heap s.heap
 loc:∃m,s.heap.Ns X.env.locals m/\∀(i:Nat) (x:Str) (v:V),X.N[i]?=some x->σ[i]?=some (some v)->LK X.env.scope x->∃u,RelV v u/\Look X.env s.heap m x u
 cell:∀x c,X.env.cells.lookup x=some c->∃v,s.heap.IsCell c v
 free:H X.env.locals=none
 freeC:∀x c,X.env.cells.lookup x=some c->H c=none
 pin:∀p∈X.pn++pins,s.heap.get? p.1=some p.2/\H p.1=none/\p.1≠X.env.locals/\p.1∉X.fs/\∀v,p.2.data≠.cell v
 hok:Ds X.prog X.w H s.heap
 len:σ.length=X.N.length
section
variable {X:Cx}{pins:List (Addr×Obj)}{σ:List (Option V)}{H H':Hp}{s:zz8}{h':Heap}
theorem Cx.Ok.nofr (ok:X.Ok) {b:Addr}{o:Obj} (e:X.base.get? b=some o):b∉X.fs:=λhb=>by
 have:=(ok.funs.mem hb).1;rw [e] at this;cases this
theorem Inv.bs (I:Inv X pins σ H s):∀b o,X.base.get? b=some o->s.heap.get? b=some o/\H b=none:=λb o e =>
 ⟨I.base.keep b o (I.ok.bs b o e).1 (I.ok.bs b o e).2 (I.ok.nofr e) (I.ok.noex b o e),I.base.free b o (I.ok.bs b o e).1 (I.ok.bs b o e).2 (I.ok.noex b o e)⟩
theorem Inv.bk (I:Inv X pins σ H s):∀b o,X.base.get? b=some o->s.heap.get? b=some o:=λb o e=>(I.bs b o e).1
theorem Inv.mod (I:Inv X pins σ H s):Mod X.K X.mg X.base:=I.ok.mod
theorem Inv.kIn (I:Inv X pins σ H s):X.K.In s.heap:=I.ok.mod.kin.keeps I.bk
theorem Inv.lt (I:Inv X pins σ H s):X.env.locals < s.heap.objs.size:=let ⟨_,hn,_⟩:=I.loc;hn.lt
theorem Inv.sz (I:Inv X pins σ H s):X.s₀.heap.objs.size<=s.heap.objs.size:=y7 I.ok.above (Am I.lt)
theorem Inv.nofs (I:Inv X pins σ H s) {a:Addr} (h:s.heap.objs.size<=a):a∉X.fs:=λhb=>by
 obtain⟨_,o,ho,_⟩:=I.ok.funs.mem hb;exact absurd (za (yH ho) (y7 I.sz h)) (zz _)
theorem Inv.cne (I:Inv X pins σ H s):∀x c,X.env.cells.lookup x=some c->c≠X.env.locals:=λx c e z=>by
 obtain⟨v,o,ho,hd⟩:=I.cell x c e;obtain⟨m,⟨o',es,ep,Ep,Ir,_⟩,_⟩:=I.loc;rw [z,Ep] at ho;cases ho;rw [Ir] at hd;cases hd
theorem Inv.funs (I:Inv X pins σ H s):s.heap.FunFrames X.base X.outer:=by
 have all:∀(l:List Env),(∀b∈Dq l,b∈X.fs)->X.s₀.heap.FunFrames X.base l->s.heap.FunFrames X.base l:=by
  intro l
  induction l with
  | nil=>intro _ _;trivial
  | cons env r ih =>
   intro hs hl;obtain⟨hk,⟨L,o,hf,hn,ho,hd⟩,hr⟩:=hl;have hL:L∈X.fs:=hs L (by unfold Dq;rw [BD,hf];exact yG);obtain⟨sl,e⟩:=I.base.slot L o ho (I.ok.frf L hL) hL λz=>I.ok.exfs L z hL;exact⟨hk,⟨L,_,hf,hn,e,hd⟩,ih (λb hb=>hs b (by unfold Dq;rw [BD,hf];exact yT _ hb)) hr⟩
 exact all X.outer (λ_ hb=>hb) I.ok.funs
theorem Inv.stack (I:Inv X pins σ H s):s.heap.FunFrames X.base X.stack:=by
 rcases I.ok.stk with e | ⟨e,hf⟩
 ·rw [e];exact I.funs
 ·rw [e]
  obtain⟨m,hn,_⟩:=I.loc;refine .cons (by rw [I.ok.kind];decide) hf hn ?_ I.funs;exact Bv (y7 I.ok.bsz I.ok.above)
theorem Inv.stkSub (I:Inv X pins σ H s):∀b∈Dq X.stack,b∈X.env.locals::X.fs:=λb hb=>by
 rcases I.ok.stk with e | ⟨e,hf⟩
 ·rw [e] at hb;exact yT _ hb
 ·rw [e] at hb
  unfold Dq at hb;rw [BD,hf] at hb;exact hb
theorem Inv.stkFree (I:Inv X pins σ H s):∀b∈Dq X.stack,H b=none:=λb hb=>by
 rcases yF.mp (I.stkSub b hb) with e | hb
 ·rw [e];exact I.free
 ·obtain⟨_,o,ho,_⟩:=I.ok.funs.mem hb
  exact I.base.free b o ho (I.ok.frf b hb) λz=>I.ok.exfs b z hb
theorem Inv.step {g':Array GenState}{t':Nat}{d':Drawn}{ch:List Addr} (I:Inv X pins σ H s)
  (En:∀b∈ch,(b∈X.ex\/X.s₀.heap.objs.size<=b)/\b≠X.env.locals/\(∀x c,X.env.cells.lookup x=some c->c≠b)/\∀p∈X.pn++pins,p.1≠b)
  (keep:∀b o,b≠X.env.locals->b∉X.fs->b∉ch->s.heap.get? b=some o->H b=none->h'.get? b=some o)
  (slot:∀b o,b≠X.env.locals->b∈X.fs->b∉ch->s.heap.get? b=some o->H b=none->∃sl,h'.get? b=some { o with slots:=sl }) (free:∀b o,b∉ch->s.heap.get? b=some o->H b=none->H' b=none)
  (there:∀b o,b∉ch->s.heap.get? b=some o->∃o',h'.get? b=some o')
  (tups:∀b xs,H b=some (.tup xs)->H' b=some (.tup xs)) (frzs:∀b o u,H b=some (.frz o u)->H' b=some (.frz o u)) (tbls:∀b ps,H b=some (.tbl ps)->∃more,H' b=some (.tbl (ps++more)))
  (ns:∀m,s.heap.Ns X.env.locals m->h'.Ns X.env.locals m) (hok:Ds X.prog X.w H' h') (hg:AllBare g') :
  Inv X pins σ H' { s with heap:=h',gens:=g',drawn:=d',toks:=t' }:=by
 have JZ:∀b o,X.s₀.heap.get? b=some o->b≠X.env.locals:=λb o e=>y9 (za (yH e) I.ok.above);have Eu:∀b o,X.s₀.heap.get? b=some o->b∉X.ex->b∉ch:=λb o e hx hb=>by
  rcases (En b hb).1 with z | z
  ·exact hx z
  ·exact absurd (za (yH e) z) (zz _)
 have cellK:∀x c,X.env.cells.lookup x=some c->∀v,s.heap.IsCell c v->h'.IsCell c v:=λx c e v ⟨o,ho,hd⟩=>by
  have FV:c∉ch:=λz=>(En c z).2.2.1 x c e rfl
  by_cases hc:c∈X.fs
  ·obtain⟨sl,q⟩:=slot c o (I.cne x c e) hc FV ho (I.freeC x c e)
   exact⟨_,q,hd⟩
  ·exact⟨o,keep c o (I.cne x c e) hc FV ho (I.freeC x c e),hd⟩
 refine⟨I.ok,I.os,hg,⟨λb o e n hb hx=>?_,λb o e n hb hx=>?_,λb o e n hx=>?_,λb o e hx=>?_,λb xs e=>tups b xs (I.base.tups b xs e),λb o xs e=>frzs b o xs (I.base.frzs b o xs e),λb ps e=>?_⟩,?_,λx c e=>?_,?_,λx c e=>?_,λp hp=>?_,hok,I.len⟩
 ·exact keep b o (JZ b o e) hb (Eu b o e hx) (I.base.keep b o e n hb hx) (I.base.free b o e n hx)
 ·obtain⟨sl,e1⟩:=I.base.slot b o e n hb hx
  obtain⟨L8,e2⟩:=slot b _ (JZ b o e) hb (Eu b o e hx) e1 (I.base.free b o e n hx);exact⟨L8,e2⟩
 ·obtain⟨o',e1⟩:=I.base.there b o e hx
  exact free b o' (Eu b o e hx) e1 (I.base.free b o e n hx)
 ·obtain⟨o',e1⟩:=I.base.there b o e hx
  exact there b o' (Eu b o e hx) e1
 ·obtain⟨m1,e1⟩:=I.base.tbls b ps e
  obtain⟨m2,e2⟩:=tbls b _ e1;exact⟨m1++m2,by rw [e2,Array.append_assoc]⟩
 ·obtain⟨m,hn,hl⟩:=I.loc
  refine⟨m,ns m hn,λi x v e1 e2 e3=>?_⟩;obtain⟨u,r,l⟩:=hl i x v e1 e2 e3;refine⟨u,r,?_⟩
  rcases l with l | ⟨k,c,e,z⟩
  ·exact .inl l
  ·exact .inr ⟨k,c,e,cellK x c e _ z⟩
 ·obtain⟨v,z⟩:=I.cell x c e
  exact⟨v,cellK x c e v z⟩
 ·obtain⟨m,⟨o,_,_,ho,_⟩,_⟩:=I.loc
  exact free _ o (λz=>(En _ z).2.1 rfl) ho I.free
 ·obtain⟨v,o,ho,hd⟩:=I.cell x c e
  exact free c o (λz=>(En c z).2.2.1 x c e rfl) ho (I.freeC x c e)
 ·obtain⟨e,n,ne,nf,d⟩:=I.pin p hp
  have FV:p.1∉ch:=λz=>(En p.1 z).2.2.2 p hp rfl;exact⟨keep p.1 p.2 ne nf FV e n,free p.1 p.2 FV e n,ne,nf,d⟩
theorem Inv.un {t':Nat} (I:Inv X pins σ H s) (u:Un X.fs [] H H' s.heap h') (hok:Ds X.prog X.w H' h'):Inv X pins σ H' { s with heap:=h',toks:=t' }:=by
 obtain⟨m,⟨o,es,ep,ho,r⟩,_⟩:=id I.loc;obtain⟨sl,hL⟩:=u.any ho I.free (by simp)
 exact I.step (g':=s.gens) (d':=s.drawn) (ch:=[]) (λ_ z=>nomatch z) (λb o _ hb _ e n=>u.keep b o e n hb (by simp)) (λb o _ hb _ e n=>u.slot b o e n hb (by simp)) (λb o _ e n=>u.free b o e n (by simp)) (λb o _ e=>u.there b o e (by simp)) u.tups u.frzs u.tbls (λm' hm=>by
  obtain⟨o',es',DP,Ep,r'⟩:=hm;rw [ho] at Ep;cases Ep
  exact⟨_,es',DP,hL,r'⟩) hok I.bare
theorem Inv.call {g':Array GenState}{t':Nat}{d':Drawn}{ch:List Addr} (I:Inv X pins σ H s) (u:Un (Dq X.stack) ch H H' s.heap h') (hok:Ds X.prog X.w H' h') (hg:AllBare g')
  (En:∀b∈ch,(b∈X.ex\/X.s₀.heap.objs.size<=b)/\b≠X.env.locals/\(∀x c,X.env.cells.lookup x=some c->c≠b)/\∀p∈X.pn++pins,p.1≠b) :
  Inv X pins σ H' { s with heap:=h',gens:=g',drawn:=d',toks:=t' }:=by
 obtain⟨m,⟨o,es,ep,ho,r⟩,_⟩:=id I.loc;obtain⟨sl,hL⟩:=u.any ho I.free λz=>(En _ z).2.1 rfl
 exact I.step (ch:=ch) En (λb o hL hb hc e n=>u.keep b o e n (λz=>(yF.mp (I.stkSub b z)).elim hL hb) hc) (λb o _ _ hc e n=>u.any e n hc) (λb o hc e n=>u.free b o e n hc) (λb o hc e=>u.there b o e hc) u.tups u.frzs u.tbls (λm' hm=>by
  obtain⟨o',es',DP,Ep,r'⟩:=hm;rw [ho] at Ep;cases Ep
  exact⟨_,es',DP,hL,r'⟩) hok hg
theorem Inv.turned {t':Nat}{it:Addr} (I:Inv X pins σ H s) (k:∀b o,b≠it->s.heap.get? b=some o->h'.get? b=some o) (hn:H it=none) (hL:it≠X.env.locals)
  (h1:it∈X.ex\/X.s₀.heap.objs.size<=it) (h2:∀x c,X.env.cells.lookup x=some c->c≠it) (h3:∀p∈X.pn++pins,p.1≠it):Inv X pins σ H { s with heap:=h',toks:=t' }:=by
 have JY:∀b u,H b=some u->b≠it:=λb u e z=>by rw [z,hn] at e;cases e
 refine I.step (g':=s.gens) (d':=s.drawn) (ch:=[it]) (λb hb=>?_) (λb o _ _ hc e _=>k b o (λz=>hc (by simp [z])) e) (λb o _ _ hc e _=>⟨o.slots,k b o (λz=>hc (by simp [z])) e⟩) (λ_ _ _ _ n=>n)
  (λb o hc e=>⟨o,k b o (λz=>hc (by simp [z])) e⟩) (λ_ _ e=>e) (λ_ _ _ e=>e) (λb ps e=>⟨#[],by rw [e];simp⟩) (λm hm=>?_) (λb u e=>?_) I.bare
 ·have e:b=it:=by simpa using hb
  subst e;exact⟨h1,hL,h2,h3⟩
 ·obtain⟨o,es,ep,ho,r⟩:=hm
  exact⟨o,es,ep,k _ o (zP hL) ho,r⟩
 ·refine (I.hok b u e).stay (λc v hc q=>k c v ?_ q) (λ_ q=>q) λ_ _ q=>q
  rcases hc with z | z
  ·rw [z];exact JY b u e
  ·exact JY c _ z
theorem Inv.tok (I:Inv X pins σ H s) (t:Nat):Inv X pins σ H { s with toks:=t }:=I.un (h':=s.heap) (t':=t) Un.refl I.hok
theorem Inv.kept {t':Nat} (I:Inv X pins σ H s) (k:∀b u,s.heap.get? b=some u->h'.get? b=some u):Inv X pins σ H { s with heap:=h',toks:=t' }:=I.un (Un.kept k) (I.hok.kept k)
theorem Inv.laid {a:Addr}{o:HO}{t':Nat} (I:Inv X pins σ H s) (k:∀b u,s.heap.get? b=some u->h'.get? b=some u) (hp:s.heap.objs.size<=a) (new:aF X.prog X.w (upd H a o) h' a o) :
  Inv X pins σ (upd H a o) { s with heap:=h',toks:=t' }:=I.un (Un.laid k hp (I.hok.fresh hp)) (I.hok.laid k hp new)
theorem Inv.write {x e:Addr}{o:HO}{t':Nat} (I:Inv X pins σ H s) (mu:KS (H x)) (he:e=x\/H e=some (.own x)) (k:∀b u,b≠e->s.heap.get? b=some u->h'.get? b=some u) (Jg:∃u,h'.get? e=some u)
  (new:aF X.prog X.w (upd H x o) h' x o):Inv X pins σ (upd H x o) { s with heap:=h',toks:=t' }:=I.un (Un.write mu he k Jg) (I.hok.write mu he k Jg new)
theorem Inv.pins_of {pins':List (Addr×Obj)} (I:Inv X pins σ H s) (h:∀p∈pins',s.heap.get? p.1=some p.2/\H p.1=none/\p.1≠X.env.locals/\p.1∉X.fs/\∀v,p.2.data≠.cell v):Inv X pins' σ H s :=
 ⟨I.ok,I.os,I.bare,I.base,I.loc,I.cell,I.free,I.freeC,λp hp=>(yQ.mp hp).elim (λz=>I.pin p (yW _ z)) (h p),I.hok,I.len⟩
theorem kN {N:List Str} (hN:N.Nodup) {i j:Nat}{x:Str} (a:N[i]?=some x) (b:N[j]?=some x):i=j:=by
 obtain⟨h1,e1⟩:=yV.mp a;obtain⟨h2,e2⟩:=yV.mp b;exact (List.getElem_inj hN).mp (e1.trans e2.symm)
theorem gZ {M:Model}{A:Around}{E:zz9->zz8->Prop}{i:Nat}{x:Str}{v:V}{u:zz9}{Q:Unit->zz8->Prop} (I:Inv X pins σ H s) (hN:X.N.Nodup) (hi:X.N[i]?=some x) (hx:Loc X.env.scope x) (r:RelV v u)
  (h:∀s',Inv X pins (σ.set i (some v)) H s'->(∃a,Heap.SameBut a s.heap s'.heap/\(a=X.env.locals\/X.env.cells.lookup x=some a))->Q () s') (hf:X.fn x=true\/X.env.scope.names.lookup x=some .local:=by first | exact .inl rfl | exact .inr rfl | assumption):wpAny M A (storeName X.env x u) Q E s:=by
 obtain⟨m,hn,hl⟩:=id I.loc;have NB:(X.env.scope.kind == .class || (X.env.scope.kind == .module && X.env.locals != X.env.globals))=false:=by rw [I.ok.kind];rfl
 have PX:i < σ.length:=by rw [I.len];exact (yV.mp hi).1
 have cne:=I.cne;have tracked:∀{a:Addr}{h':Heap},(∃o,s.heap.get? a=some o/\H a=none)->Heap.SameBut a s.heap h'->Ds X.prog X.w H h':=λ{a h'} ha hs b ob e=>by
  obtain⟨_,_,Hv⟩:=ha;refine (I.hok b ob e).stay (λc w' hc q=>(hs.2 c ?_).trans q) (λ_ q=>q) λ_ _ q=>q;rintro rfl
  rcases hc with rfl | hc
  ·rw [Hv] at e;cases e
  ·rw [Hv] at hc;cases hc
 rcases hx with hk | hk
 ·refine wpAny_storeName_local hk hn (λh' EB hs=>?_) NB
  obtain⟨oL,_,_,Ga,_⟩:=id hn;refine h _ ⟨I.ok,I.os,I.bare,⟨λb o e n hb hx=>?_,λb o e n hb hx=>?_,I.base.free,λb o e hx=>?_,I.base.tups,I.base.frzs,I.base.tbls⟩,⟨_,EB,λj y v' e1 e2 e3=>?_⟩,λy c e=>?_,I.free,I.freeC,λp hp=>?_,tracked ⟨oL,Ga,I.free⟩ hs,by simpa using I.len⟩ ⟨_,hs,.inl rfl⟩
  ·exact (hs.2 b (y9 (za (yH e) I.ok.above))).trans (I.base.keep b o e n hb hx)
  ·obtain⟨sl,e1⟩:=I.base.slot b o e n hb hx
   exact⟨sl,(hs.2 b (y9 (za (yH e) I.ok.above))).trans e1⟩
  ·obtain⟨o',e1⟩:=I.base.there b o e hx
   exact⟨o',(hs.2 b (y9 (za (yH e) I.ok.above))).trans e1⟩
  ·by_cases hj:j=i
   ·subst hj
    rw [hi] at e1;cases e1;rw [List.getElem?_set_self PX] at e2;cases e2;exact⟨u,r,.inl ⟨hk,by simp⟩⟩
   ·rw [List.getElem?_set_ne (zP hj)] at e2
    obtain⟨u',r',q⟩:=hl j y v' e1 e2 e3;refine⟨u',r',?_⟩
    rcases q with ⟨k,e⟩ | ⟨k,c,e,z⟩
    ·refine .inl ⟨k,?_⟩
     have:y≠x:=λe=>hj (kN hN e1 (e ▸ hi));simp [this,e]
    ·exact .inr ⟨k,c,e,z.sameBut hs (cne y c e)⟩
  ·obtain⟨w',z⟩:=I.cell y c e
   exact⟨w',z.sameBut hs (cne y c e)⟩
  ·obtain⟨e,n,ne,nf,d⟩:=I.pin p hp
   exact⟨(hs.2 p.1 ne).trans e,n,ne,nf,d⟩
 ·have Jf:X.fn x=true:=by
   rcases hf with z | z
   ·exact z
   ·rw [z] at hk;cases hk
  obtain⟨c,hc⟩:=I.ok.has x (.inl hk);obtain⟨w',z⟩:=I.cell x c hc;refine wpAny_storeName_cell I.ok.kind hk hc z (λh' Iu hs=>?_);obtain⟨oc,PJ,Nb⟩:=id z;refine h { s with heap:=h' } ⟨I.ok,I.os,I.bare,⟨λb o e n hb hx=>?_,λb o e n hb hx=>?_,I.base.free,λb o e hx=>?_,I.base.tups,I.base.frzs,I.base.tbls⟩,⟨m,hn.sameBut hs (zP (cne x c hc)),λj y v' e1 e2 e3=>?_⟩,λy c' e=>?_,I.free,I.freeC,λp hp=>?_,tracked ⟨oc,PJ,I.freeC x c hc⟩ hs,by simpa using I.len⟩ ⟨c,hs,.inr hc⟩
  ·exact (hs.2 b (y9 (za (yH e) (I.ok.cab x c Jf hc)))).trans (I.base.keep b o e n hb hx)
  ·obtain⟨sl,e1⟩:=I.base.slot b o e n hb hx
   exact⟨sl,(hs.2 b (y9 (za (yH e) (I.ok.cab x c Jf hc)))).trans e1⟩
  ·obtain⟨o',e1⟩:=I.base.there b o e hx
   exact⟨o',(hs.2 b (y9 (za (yH e) (I.ok.cab x c Jf hc)))).trans e1⟩
  ·by_cases hj:j=i
   ·subst hj
    rw [hi] at e1;cases e1;rw [List.getElem?_set_self PX] at e2;cases e2;exact⟨u,r,.inr ⟨.inl hk,c,hc,Iu⟩⟩
   ·rw [List.getElem?_set_ne (zP hj)] at e2
    obtain⟨u',r',q⟩:=hl j y v' e1 e2 e3;refine⟨u',r',?_⟩
    rcases q with q | ⟨k,c',e,z'⟩
    ·exact .inl q
    ·refine .inr ⟨k,c',e,z'.sameBut hs ?_⟩
     rintro rfl;exact hj (kN hN e1 (I.ok.inj _ _ _ e hc ▸ hi))
  ·by_cases Qf:c'=c
   ·subst Qf;exact⟨_,Iu⟩
   ·obtain⟨w2,z2⟩:=I.cell y c' e
    exact⟨w2,z2.sameBut hs Qf⟩
  ·obtain⟨e,n,ne,nf,d⟩:=I.pin p hp
   refine⟨(hs.2 p.1 ?_).trans e,n,ne,nf,d⟩;intro q;rw [q,PJ] at e;have q':oc=p.2:=zy e;exact d w' (by rw [<- q'];exact Nb)
theorem eP {M:Model}{A:Around}{E:zz9->zz8->Prop}{i:Nat}{x:Str}{v:V}{u:zz9}{Q:Unit->zz8->Prop} (I:Inv X pins σ H s) (hN:X.N.Nodup) (hi:X.N[i]?=some x) (hx:Loc X.env.scope x) (r:RelV v u)
  (h:∀s',Inv X pins (σ.set i (some v)) H s'->Q () s') (hf:X.fn x=true\/X.env.scope.names.lookup x=some .local:=by first | exact .inl rfl | exact .inr rfl | assumption):wpAny M A (storeName X.env x u) Q E s :=
 gZ I hN hi hx r (λs' I' _=>h s' I') hf
theorem Inv.call' {s':zz8}{ch:List Addr} (I:Inv X pins σ H s) (ho:s'.os=s.os) (u:Un (Dq X.stack) ch H H' s.heap s'.heap) (hok:Ds X.prog X.w H' s'.heap) (hg:AllBare s'.gens)
  (En:∀b∈ch,(b∈X.ex\/X.s₀.heap.objs.size<=b)/\b≠X.env.locals/\(∀x c,X.env.cells.lookup x=some c->c≠b)/\∀p∈X.pn++pins,p.1≠b):Inv X pins σ H' s':=by
 obtain⟨h',g',d',t',o'⟩:=s';have e:o'=s.os:=ho;subst e;exact I.call (g':=g') (t':=t') (d':=d') u hok hg En
end
abbrev XK:=zz9->Option Addr->Hp->Prop
abbrev St:=List (Option V)
abbrev VK:=V->Hp->Prop
abbrev TE:=St->Hp->VK->Prop
abbrev TT:=St->Hp->(Bool->Hp->Prop)->Prop
abbrev TA:=St->Hp->(List V->Hp->Prop)->Prop
structure Ends where
 nx:St->Hp->Prop
 rt:VK
 bk:St->Hp->Prop:=λ_ _=>False
 ct:St->Hp->Prop:=λ_ _=>False
abbrev TS:=Ends->St->Hp->Prop
def EP (X:Cx) (pins:List (Addr×Obj)) (σ:St) (Q:VK) (u:zz9) (s':zz8):Prop:=∃v H',Inv X pins σ H' s'/\RelV v u/\Q v H'
def TP (X:Cx) (pins:List (Addr×Obj)) (σ:St) (Q:Bool->Hp->Prop) (b:Bool) (s':zz8):Prop:=∃H',Inv X pins σ H' s'/\Q b H'
def AP (X:Cx) (pins:List (Addr×Obj)) (σ:St) (Q:List V->Hp->Prop) (us:List zz9) (s':zz8):Prop:=∃vs H',Inv X pins σ H' s'/\aq vs us/\Q vs H'
def SP (X:Cx) (pins:List (Addr×Obj)) (D:Ends) (f:Flow) (s':zz8):Prop :=
 match f with
 | .next=>∃σ' H',Inv X pins σ' H' s'/\D.nx σ' H'
 | .brk=>∃σ' H',Inv X pins σ' H' s'/\D.bk σ' H'
 | .cont=>∃σ' H',Inv X pins σ' H' s'/\D.ct σ' H'
 | .ret u=>∃v σ' H',Inv X pins σ' H' s'/\RelV v u/\D.rt v H'
def PE (X:Cx) (e:Expr) (t:TE):Prop :=
 ∀(pins:List (Addr×Obj)) (s:zz8) (σ:St) (H:Hp) (Q:VK),Inv X pins σ H s->t σ H Q->wpAny (model X.prog X.w) X.A (eval e X.env) (EP X pins σ Q) X.xe s
def PT (X:Cx) (e:Expr) (t:TT):Prop :=
 ∀(pins:List (Addr×Obj)) (s:zz8) (σ:St) (H:Hp) (Q:Bool->Hp->Prop),Inv X pins σ H s->t σ H Q->wpAny (model X.prog X.w) X.A (isTrue e X.env (eval e X.env)) (TP X pins σ Q) X.xe s
def PW (X:Cx) (e:Expr) (t:TT):Prop :=
 ∀(whole:Sem zz9) (pins:List (Addr×Obj)) (s:zz8) (σ:St) (H:Hp) (Q:Bool->Hp->Prop),Inv X pins σ H s->t σ H Q->wpAny (model X.prog X.w) X.A (isTrue e X.env whole) (TP X pins σ Q) X.xe s
theorem PW.pt {X:Cx}{e:Expr}{t:TT} (h:PW X e t):PT X e t:=h _
def PA (X:Cx) (es:List Expr) (t:TA):Prop :=
 ∀(pos:Pos) (pins:List (Addr×Obj)) (s:zz8) (σ:St) (H:Hp) (Q:List V->Hp->Prop),Inv X pins σ H s->t σ H Q->wpAny (model X.prog X.w) X.A (spliced (backTo pos (starEach es X.env))) (AP X pins σ Q) X.xe s
def PS (X:Cx) (st:Stmt) (t:TS):Prop :=
 ∀(pins:List (Addr×Obj)) (s:zz8) (σ:St) (H:Hp) (D:Ends),Inv X pins σ H s->t D σ H->wpAny (model X.prog X.w) X.A (exec st X.env) (SP X pins D) X.xe s
def EO (X:Cx) (st:List Stmt) (t:TS):Prop :=
 ∀(pins:List (Addr×Obj)) (s:zz8) (σ:St) (H:Hp) (D:Ends),Inv X pins σ H s->t D σ H->wpAny (model X.prog X.w) X.A (execs st X.env) (SP X pins D) X.xe s
theorem C4 {α:Type}{t:Sem α}{Q Q':α->zz8->Prop}{M:Model}{A:Around}{E:zz9->zz8->Prop}{s:zz8} (h:wpAny M A t Q E s) (hQ:∀a s,Q a s->Q' a s):wpAny M A t Q' E s:=zJ h hQ λ_ _ x=>x
section
variable {X:Cx}
def jm (i:Nat):TE:=λσ H Q=>∃v,σ[i]?=some (some v)/\Q v H
def tC (v:V):TE:=λ_ H Q=>Q v H
theorem vz {i:Nat}{x:Str}{pos:Pos} (hN:X.N[i]?=some x) (hv:LK X.env.scope x) (hd:(x == ("__debug__":Str))=false:=by decide) (FE:(x == ("__classdict__":Str))=false:=by decide):PE X (.Name x pos) (jm i):=by
 intro pins s σ H Q I h;obtain⟨v,e,h⟩:=h;obtain⟨m,hn,hl⟩:=I.loc;obtain⟨u,r,l⟩:=hl i x v hN e hv;have fin:EP X pins σ Q u s:=⟨v,H,I,r,h⟩
 rcases l with ⟨hk,hm⟩ | ⟨hk,c,hc,Fb⟩
 ·exact wpAny_Name (wpAny_loadName_local I.ok.kind hk hn hm fin) hd
 ·rcases hk with hk | hk
  ·exact wpAny_Name (wpAny_loadName_cell I.ok.kind hk hc Fb fin) hd
  ·exact wpAny_Name (wpAny_loadName_free I.ok.kind hk hc Fb fin FE) hd
theorem ak {i j pos}:PE X (.Constant (.int i) j pos) (tC (.int i)):=λ_ _ _ H _ I h=>wpAny_Constant_int ⟨.int i,H,I.tok _,⟨_,rfl⟩,h⟩
theorem dj {b j pos}:PE X (.Constant (.bool b) j pos) (tC (.bl b)):=λ_ _ _ H _ I h=>Constant_bool ⟨.bl b,H,I,rfl,h⟩
theorem dH {j pos}:PE X (.Constant .none j pos) (tC .non):=λ_ _ _ H _ I h=>Constant_none ⟨.non,H,I,rfl,h⟩
theorem gy {x j pos}:PE X (.Constant (.str x) j pos) (tC (.str x)):=λ_ _ _ H _ I h=>Calls.Constant_str ⟨.str x,H,I.tok _,⟨_,rfl⟩,h⟩
def Gl (X:Cx) (x:Str):Prop:=X.env.kindOf x=some .globalImplicit
theorem fu {E:zz9->zz8->Prop}{pins:List (Addr×Obj)}{s:zz8}{σ:St}{H:Hp}{x:Str}{u:zz9}{pos:Pos}{Q:zz9->zz8->Prop} (I:Inv X pins σ H s) (hg:Gl X x) (hm:X.mg x=some u) (h:Q u s)
  (hd:(x == ("__debug__":Str))=false:=by decide):wpAny (model X.prog X.w) X.A (eval (.Name x pos) X.env) Q E s :=
 Calls.Name_function_global I.ok.kind hg (Calls.loadGlobal_global (by rw [I.ok.glob];exact I.mod.glob.keeps I.bk) hm h) hd
theorem dE {E:zz9->zz8->Prop}{pins:List (Addr×Obj)}{s:zz8}{σ:St}{H:Hp}{x:Str}{u:zz9}{pos:Pos}{Q:zz9->zz8->Prop} (I:Inv X pins σ H s) (hg:Gl X x) (hm:X.mg x=none) (hv:bootBuiltins x=some u) (h:Q u s)
  (hn:x≠"__name__":=by decide) (hd:(x == ("__debug__":Str))=false:=by decide):wpAny (model X.prog X.w) X.A (eval (.Name x pos) X.env) Q E s:=by
 obtain⟨mb,h1,h2⟩:=I.mod.blt;exact Calls.Name_function_global I.ok.kind hg (Calls.loadGlobal_builtin (by rw [I.ok.glob];exact I.mod.glob.keeps I.bk) hm (by rw [I.ok.blt];exact h1.keeps I.bk) ((h2 x hn).trans hv) h) hd
theorem vd {x:Str}{v:V}{u:zz9}{pos:Pos} (hg:Gl X x) (hm:X.mg x=some u) (r:RelV v u) (hd:(x == ("__debug__":Str))=false:=by decide):PE X (.Name x pos) (tC v) :=
 λ_ _ _ H _ I h=>fu I hg hm ⟨v,H,I,r,h⟩ hd
theorem cS {x:Str}{v:V}{u:zz9}{pos:Pos} (hg:Gl X x) (hm:X.mg x=none) (hv:bootBuiltins x=some u) (r:RelV v u) (hn:x≠"__name__":=by decide) (hd:(x == ("__debug__":Str))=false:=by decide):PE X (.Name x pos) (tC v) :=
 λ_ _ _ H _ I h=>dE I hg hm hv ⟨v,H,I,r,h⟩ hn hd
variable {a b:Expr}{ta tb:TE}{pos:Pos}
def PC (X:Cx) (op:CmpOp) (a b:Expr) (t:TE):Prop :=
 ∀(pins:List (Addr×Obj)) (s:zz8) (σ:St) (H:Hp) (Q:VK),Inv X pins σ H s->t σ H Q ->
  wpAny (model X.prog X.w) X.A (eval a X.env) (λv s₁=>wpAny (model X.prog X.w) X.A (eval b X.env) (λu s₂=>wpAny (model X.prog X.w) X.A (compareOp op v u) (EP X pins σ Q) X.xe s₂) X.xe s₁) X.xe s
def tB (t:TE):TT:=λσ H Q=>t σ H λx H1=>∃c,x=.bl c/\Q c H1
theorem vD {op:CmpOp}{t:TE} (h:PC X op a b t) (h1:behindInMarks op b=false:=by first | exact FT _ (by decide) (by decide) | rfl):PE X (.Compare a [op] [b] pos) t:=λpins s σ H Q I hw=>wpAny_Compare1 (h pins s σ H Q I hw) h1
theorem wn {op:CmpOp}{t:TE} (h:PC X op a b t) (h1:behindInMarks op b=false:=by first | exact FT _ (by decide) (by decide) | rfl):PT X (.Compare a [op] [b] pos) (tB t):=by
 intro pins s σ H Q I hw;refine wpAny_isTrue_Compare1 (C4 (h pins s σ H _ I hw) λv s1 h1=>C4 h1 λu s2 h2=>C4 h2 λc s3 ⟨x,H1,I1,r1,q1⟩=>?_) h1;obtain⟨d,rfl,q⟩:=q1;cases r1;exact zZ ⟨H1,I1,q⟩
theorem bM {e:Expr}{t:TE} (h:PE X e t) (he:∀whole,isTrue e X.env whole=(do let v <- whole;standAt e.pos;holding [v] (truthy v)):=by intro _;rfl):PT X e (tB t):=by
 intro pins s σ H Q I hw;refine isTrue_plain (C4 (h pins s σ H _ I hw) λv s1 ⟨x,H1,I1,r1,q1⟩=>?_) (he _);obtain⟨d,rfl,q⟩:=q1;cases r1;exact zZ ⟨H1,I1,q⟩
variable {tA La:TT}{rest:List Expr}
def xW (t u:TT):TT:=λσ H Q=>t σ H λc H1=>if c=true then u σ H1 Q else Q false H1
def Q3 (t u:TT):TT:=λσ H Q=>t σ H λc H1=>if c=true then Q true H1 else u σ H1 Q
def xS (t:TT):TT:=λσ H Q=>t σ H λc H1=>Q (!c) H1
theorem vi (ha:PT X a tA):PW X (.BoolOp .And [a] pos) tA:=by
 intro wh pins s σ H Q I h;refine isTrue_and (C4 (ha pins s σ H Q I h) λc s1 e=>?_);cases c with
 | true=>exact isTrue_and_nil e
 | false=>exact e
theorem dG (ha:PT X a tA):PW X (.BoolOp .Or [a] pos) tA:=by
 intro wh pins s σ H Q I h;refine isTrue_or (C4 (ha pins s σ H Q I h) λc s1 e=>?_);cases c with
 | false=>exact isTrue_or_nil e
 | true=>exact e
theorem vB (ha:PT X a tA) (hb:PW X (.BoolOp .And (b::rest) pos) La):PW X (.BoolOp .And (a::b::rest) pos) (xW tA La):=by
 intro wh pins s σ H Q I h;refine isTrue_and (C4 (ha pins s σ H _ I h) λc s1 ⟨H1,I1,q1⟩=>?_);cases c with
 | true=>exact hb wh pins s1 σ H1 Q I1 q1
 | false=>exact⟨H1,I1,q1⟩
theorem dm (ha:PT X a tA) (hb:PW X (.BoolOp .Or (b::rest) pos) La):PW X (.BoolOp .Or (a::b::rest) pos) (Q3 tA La):=by
 intro wh pins s σ H Q I h;refine isTrue_or (C4 (ha pins s σ H _ I h) λc s1 ⟨H1,I1,q1⟩=>?_);cases c with
 | true=>exact⟨H1,I1,q1⟩
 | false=>exact hb wh pins s1 σ H1 Q I1 q1
theorem bY (ha:PT X a tA):PT X (.UnaryOp .Not a pos) (xS tA):=by
 intro pins s σ H Q I h;exact isTrue_not (ha pins s σ H (λc H1=>Q (!c) H1) I h)
def wO (ta tb:TE):TE:=λσ H Q=>ta σ H λx H1=>∃c,x=.bl c/\if c=true then tb σ H1 Q else Q (.bl false) H1
def w6 (ta:TE):TE:=λσ H Q=>ta σ H λx H1=>∃c,x=.bl c/\Q (.bl (!c)) H1
theorem di {op}{t:TE} (h:PE X a t):PE X (.BoolOp op [a] pos) t:=λpins s σ H Q I hw=>BoolOp_one (h pins s σ H Q I hw)
theorem cE (ha:PE X a ta) (hb:PE X (.BoolOp .And (b::rest) pos) tb):PE X (.BoolOp .And (a::b::rest) pos) (wO ta tb):=by
 intro pins s σ H Q I h;refine BoolOp_and (C4 (ha pins s σ H _ I h) λv s1 ⟨x,H1,I1,r1,q1⟩=>?_);obtain⟨c,rfl,q1⟩:=q1;cases r1;refine zZ ?_;cases c with
 | true=>exact hb pins s1 σ H1 Q I1 q1
 | false=>exact⟨.bl false,H1,I1,rfl,q1⟩
theorem vA (ha:PE X a ta):PE X (.UnaryOp .Not a pos) (w6 ta):=by
 intro pins s σ H Q I h;refine UnaryOp_ (C4 (ha pins s σ H _ I h) λv s1 ⟨x,H1,I1,r1,q1⟩=>?_);obtain⟨c,rfl,q1⟩:=q1;cases r1;exact not_of (zZ ⟨.bl (!c),H1,I1,rfl,q1⟩)
end
def C3 (K:zz7) (H:Hp) (a:Addr) (xs:List V):Prop :=
 Rd H a (.lst xs) \/
  ∃(o:Obj) (C1:Array zz9) (n:Nat),K.lookup a=some o/\o.cls=.type "list"/\o.dict=none/\o.data=.seq C1 n/\C1.size<=sizeLine/\aq xs C1.toList
def C2 (K:zz7) (H:Hp) (a:Addr) (xs:List V):Prop :=
 Rd H a (.tup xs) \/
  ∃(o:Obj) (C1:Array zz9) (n:Nat),K.lookup a=some o/\o.cls=.type "tuple"/\o.data=.seq C1 n/\C1.size<=sizeLine/\aq xs C1.toList
def xX:zz9->Option V
 | .none=>some .non
 | .bool b=>some (.bl b)
 | .int i _=>some (.int i)
 | .str x _=>some (.str x)
 | .bytes b _=>some (.byt b)
 | .float b _=>some (.flt b)
 | .ref a=>some (.ref a)
 | .type n=>some (.ty n)
 | _=>none
theorem RelV.abs {x:V}{u:zz9} (r:RelV x u):xX u=some x:=by
 cases x with
 | non=>cases r;rfl
 | bl _=>cases r;rfl
 | int _=>obtain⟨t,rfl⟩:=r;rfl
 | str _=>obtain⟨t,rfl⟩:=r;rfl
 | byt _=>obtain⟨t,rfl⟩:=r;rfl
 | flt _=>obtain⟨t,rfl⟩:=r;rfl
 | ref _=>cases r;rfl
 | ty _=>cases r;rfl
theorem RelV.inj {x y:V}{u:zz9} (r:RelV x u) (q:RelV y u):x=y:=zy (r.abs.symm.trans q.abs)
theorem aq.inj:∀{xs ys:List V}{us:List zz9},aq xs us->aq ys us->xs=ys
 | _,_,_,.nil,.nil=>rfl
 | _,_,_,.cons r t,.cons r' t'=>by rw [r.inj r',aq.inj t t']
section
variable {X:Cx}{pins:List (Addr×Obj)}{σ:St}{H:Hp}{s:zz8}{a:Addr}{xs ys:List V}
theorem C3.of {K:zz7} (h:H a=some (.lst xs)):C3 K H a xs:=.inl (.inl h)
theorem C2.of {K:zz7} (h:H a=some (.tup xs)):C2 K H a xs:=.inl (.inl h)
theorem Inv.list (I:Inv X pins σ H s) (h:C3 X.K H a xs):∃C1:List zz9,aq xs C1/\PlainL s.heap a C1.toArray/\xs.length<=sizeLine:=by
 rcases h with h | ⟨o,C1,n,hk,hc,hd,hs,hz,r⟩
 ·obtain⟨z,C1,n,r,e⟩:=h.ok I.hok
  exact⟨C1,r,⟨_,n,e,rfl,rfl,rfl⟩,z⟩
 ·refine⟨C1.toList,r,⟨o,n,I.kIn a o hk,hc,hd,by simpa using hs⟩,?_⟩
  have e:=r.length;simp only [zB] at e;omega
theorem Inv.tuple (I:Inv X pins σ H s) (h:C2 X.K H a xs):∃C1:List zz9,aq xs C1/\IsTup s.heap a C1.toArray/\xs.length<=sizeLine:=by
 rcases h with h | ⟨o,C1,n,hk,hc,hs,hz,r⟩
 ·obtain⟨z,C1,r,p⟩:=h.ok I.hok
  exact⟨C1,r,p,z⟩
 ·refine⟨C1.toList,r,⟨o,I.kIn a o hk,hc,n,by simpa using hs⟩,?_⟩
  have e:=r.length;simp only [zB] at e;omega
theorem Inv.list_inj (I:Inv X pins σ H s) (h:C3 X.K H a xs) (h':C3 X.K H a ys):xs=ys:=by
 obtain⟨C1,r,⟨o,n,e,_,_,d⟩,_⟩:=I.list h;obtain⟨its',r',⟨o',n',e',_,_,d'⟩,_⟩:=I.list h';rw [e] at e';cases e';rw [d] at d'
 injection d' with d1 _
 have:C1=its':=by simpa using congrArg Array.toList d1
 subst this;exact r.inj r'
theorem Inv.tuple_inj (I:Inv X pins σ H s) (h:C2 X.K H a xs) (h':C2 X.K H a ys):xs=ys:=by
 obtain⟨C1,r,⟨o,e,_,n,d⟩,_⟩:=I.tuple h;obtain⟨its',r',⟨o',e',_,n',d'⟩,_⟩:=I.tuple h';rw [e] at e';cases e';rw [d] at d'
 injection d' with d1 _
 have:C1=its':=by simpa using congrArg Array.toList d1
 subst this;exact r.inj r'
end
abbrev Cx.wish (X:Cx) (E:zz9->zz8->Prop):Cx:={ X with xe:=E }
abbrev Cx.nox (X:Cx):Cx:=X.wish λ_ _=>False
theorem Cx.Ok.wish {X:Cx} (ok:X.Ok) (E:zz9->zz8->Prop):(X.wish E).Ok :=
 ⟨ok.mod,ok.kind,ok.glob,ok.blt,ok.above,ok.inj,ok.has,ok.cab,ok.hd,ok.frames,ok.stk,ok.exf,ok.bs,ok.bsz,ok.noex,ok.exfs,ok.funs,ok.frf⟩
theorem Cx.Ok.unwish {X:Cx}{E:zz9->zz8->Prop} (ok:(X.wish E).Ok):X.Ok :=
 ⟨ok.mod,ok.kind,ok.glob,ok.blt,ok.above,ok.inj,ok.has,ok.cab,ok.hd,ok.frames,ok.stk,ok.exf,ok.bs,ok.bsz,ok.noex,ok.exfs,ok.funs,ok.frf⟩
section
variable {X:Cx}{pins:List (Addr×Obj)}{σ:St}{H:Hp}{s:zz8}{E:zz9->zz8->Prop}
theorem Inv.wish (I:Inv X pins σ H s) (E:zz9->zz8->Prop):Inv (X.wish E) pins σ H s:=⟨I.ok.wish E,I.os,I.bare,I.base,I.loc,I.cell,I.free,I.freeC,I.pin,I.hok,I.len⟩
theorem Inv.unwish (I:Inv (X.wish E) pins σ H s):Inv X pins σ H s:=⟨I.ok.unwish,I.os,I.bare,I.base,I.loc,I.cell,I.free,I.freeC,I.pin,I.hok,I.len⟩
theorem SP.unwish {D:Ends}{f:Flow}{s':zz8} (h:SP (X.wish E) pins D f s'):SP X pins D f s':=by
 cases f with
 | next=>obtain⟨σ',H',I,q⟩:=h;exact⟨σ',H',I.unwish,q⟩
 | brk=>obtain⟨σ',H',I,q⟩:=h;exact⟨σ',H',I.unwish,q⟩
 | cont=>obtain⟨σ',H',I,q⟩:=h;exact⟨σ',H',I.unwish,q⟩
 | ret u=>obtain⟨v,σ',H',I,r,q⟩:=h;exact⟨v,σ',H',I.unwish,r,q⟩
theorem PE.nox {e:Expr}{t:TE} (h:PE X.nox e t):PE X e t:=λpins s σ H Q I hw =>
 zJ (h pins s σ H Q (I.wish _) hw) (λ_ _ ⟨v,H',I',r,q⟩=>⟨v,H',I'.unwish,r,q⟩) λ_ _ z=>False.elim z
theorem EO.nox {st:List Stmt}{t:TS} (h:EO X.nox st t):EO X st t:=λpins s σ H D I hw =>
 zJ (h pins s σ H D (I.wish _) hw) (λ_ _ q=>q.unwish) λ_ _ z=>False.elim z
end
section
variable {X:Cx}{st:Stmt}{rest:List Stmt}{t u:TS}{e:Expr}{te:TE}{pos:Pos}
def wM:TS:=λD σ H=>D.nx σ H
def jq (t u:TS):TS:=λD σ H=>t { D with nx:=u D } σ H
theorem be:EO X [] wM:=λ_ _ σ H _ I h=>Bg ⟨σ,H,I,h⟩
theorem am (h1:PS X st t) (h2:EO X rest u):EO X (st::rest) (jq t u):=by
 intro pins s σ H D I h;refine wpAny_execs_cons (C4 (h1 pins s σ H { D with nx:=u D } I h) λf s1 q=>?_);cases f with
 | next =>
  obtain⟨σ',H',I',q⟩:=q;exact h2 pins s1 σ' H' D I' q
 | ret v=>exact q
 | brk=>exact q
 | cont=>exact q
theorem av (h1:PS X st t):EO X [st] t:=by
 intro pins s σ H D I h;refine wpAny_execs_cons (C4 (h1 pins s σ H D I h) λf s1 q=>?_);cases f with
 | next=>exact Bg q
 | ret v=>exact q
 | brk=>exact q
 | cont=>exact q
theorem Inv.quiet {pins:List (Addr×Obj)}{σ:St}{H:Hp}{s:zz8} (I:Inv X pins σ H s):interactive X.env=false:=by simp [interactive,I.ok.kind]
def wW (te:TE):TS:=λD σ H=>te σ H λ_ H1=>D.nx σ H1
theorem bL (he:PE X e te) (hs:swapsWith e none pos.line X.env=pure false:=by rfl):PS X (.Expr e pos) (wW te):=by
 intro pins s σ H D I h;exact wpAny_Expr_any (C4 (he pins s σ H _ I h) λv s1 ⟨x,H1,I1,r1,q1⟩=>⟨σ,H1,I1,q1⟩) I.quiet hs
def xU (te:TE):TS:=λD σ H=>te σ H D.rt
theorem aJ (he:PE X e te):PS X (.Return (some e) pos) (xU te):=by
 intro pins s σ H D I h;exact wpAny_Return_some (C4 (he pins s σ H _ I h) λv s1 ⟨x,H1,I1,r1,q1⟩=>⟨x,σ,H1,I1,r1,q1⟩)
def jh (c:TT) (t u:TS):TS:=λD σ H=>c σ H λb H1=>if b=true then t D σ H1 else u D σ H1
theorem bg {c:Expr}{a b:List Stmt}{tc:TT} (hc:PT X c tc) (ha:EO X a t) (hb:EO X b u):PS X (.If c a b pos) (jh tc t u):=by
 intro pins s σ H D I h;refine wpAny_If (C4 (hc pins s σ H _ I h) λd s1 ⟨H1,I1,q1⟩=>?_);cases d with
 | true=>exact ha pins s1 σ H1 D I1 q1
 | false=>exact hb pins s1 σ H1 D I1 q1
def vT:TS:=λ_ _ _=>False
theorem eg {Q6:List Stmt}:EO X Q6 vT:=λ_ _ _ _ _ _ h=>h.elim
end
abbrev TG:=V->St->Hp->(St->Hp->Prop)->Prop
abbrev HH:=List V->St->Hp->(St->Hp->Prop)->Prop
def PG (X:Cx) (target:Expr) (t:TG):Prop :=
 ∀(pins:List (Addr×Obj)) (s:zz8) (σ:St) (H:Hp) (v:V) (u:zz9) (Q:St->Hp->Prop),Inv X pins σ H s->RelV v u->t v σ H Q ->
  wpAny (model X.prog X.w) X.A (assign target X.env u) (λ_ s'=>∃σ' H',Inv X pins σ' H' s'/\Q σ' H') X.xe s
def KP (X:Cx) (ts:List Expr) (t:HH):Prop :=
 ∀(pins:List (Addr×Obj)) (s:zz8) (σ:St) (H:Hp) (vs:List V) (us:List zz9) (Q:St->Hp->Prop),Inv X pins σ H s->aq vs us->t vs σ H Q ->
  wpAny (model X.prog X.w) X.A (assignInOrder ((assignEach ts X.env).map (·.2)) us) (λ_ s'=>∃σ' H',Inv X pins σ' H' s'/\Q σ' H') X.xe s
abbrev jo:=V->V->V->Hp->(Hp->Prop)->Prop
def nX (X:Cx) (t:jo):Prop :=
 ∀(pins:List (Addr×Obj)) (s:zz8) (σ:St) (H:Hp) (o i v:V) (ov iv u:zz9) (Q:Hp->Prop),Inv X pins σ H s->RelV o ov->RelV i iv->RelV v u->t o i v H Q ->
  wpAny (model X.prog X.w) X.A (setItem ov iv u) (λ_ s'=>∃H',Inv X pins σ H' s'/\Q H') X.xe s
abbrev LL:=V->V->Hp->VK->Prop
def QG (X:Cx) (op:Operator) (t:LL):Prop :=
 ∀(pins:List (Addr×Obj)) (s:zz8) (σ:St) (H:Hp) (x y:V) (v u:zz9) (Q:VK),Inv X pins σ H s->RelV x v->RelV y u->t x y H Q ->
  wpAny (model X.prog X.w) X.A (inplaceOp op v u) (EP X pins σ Q) X.xe s
section
variable {X:Cx}{pos:Pos}
def bP (i:Nat):TG:=λv σ H Q=>Q (σ.set i (some v)) H
theorem bw {i:Nat}{x:Str} (hN:X.N.Nodup) (hi:X.N[i]?=some x) (hx:Loc X.env.scope x) (hf:X.fn x=true\/X.env.scope.names.lookup x=some .local:=by first | exact .inl rfl | exact .inr rfl | assumption):PG X (.Name x pos) (bP i):=by
 intro pins s σ H v u Q I r h;exact Cy (eP I hN hi hx r (λs' I'=>⟨_,H,I',h⟩) hf)
def xq:HH:=λvs σ H Q=>vs=[]/\Q σ H
def wt (t:TG) (u:HH):HH:=λvs σ H Q=>∃v r,vs=v::r/\t v σ H λσ' H'=>u r σ' H' Q
theorem d6:KP X [] xq:=by
 intro pins s σ H vs us Q I r h;obtain⟨e,h⟩:=h;subst e;cases r;exact assignInOrder_nil ⟨σ,H,I,h⟩
theorem bH {e:Expr}{es:List Expr}{t:TG}{u:HH} (h1:PG X e t) (h2:KP X es u)
  (hs:(assignEach (e::es) X.env).map (·.2)=assign e X.env::(assignEach es X.env).map (·.2):=by rfl):KP X (e::es) (wt t u):=by
 intro pins s σ H vs us Q I r h;obtain⟨v,vr,e1,h⟩:=h;subst e1;cases r with
 | cons r rr =>
  rw [hs];refine assignInOrder_cons (C4 (h1 pins s σ H _ _ _ I r h) λ_ s1 ⟨σ1,H1,I1,q1⟩=>?_);exact h2 pins s1 σ1 H1 _ _ Q I1 rr q1
def og (K:zz7) (n:Nat) (t:HH):TG:=λv σ H Q=>∃a xs,v=.ref a/\C2 K H a xs/\xs.length=n/\t xs σ H Q
theorem fG {es:List Expr}{k:Nat}{t:HH}{n:Nat} (hc:X.calm=true) (h:KP X es t)
  (hn:(assignEach es X.env).length=n:=by rfl) (Gp:(assignEach es X.env).findIdx? (·.1)=none:=by rfl):PG X (.Tuple es k pos) (og X.K n t):=by
 intro pins s σ H v u Q I r hw;obtain⟨a,xs,e1,hq,hl,hw⟩:=hw;subst e1;cases r;obtain⟨C1,rv,ht,hz⟩:=I.tuple hq;refine assign_Tuple_tuple (I.ok.hd hc) ht (by simp [hn,<- hl,rv.length]) Gp λh' hx=>?_;have I1:Inv X pins σ H { s with heap:=h' }:=I.kept (t':=s.toks) λb o e=>hx b o (y9 (yH e)) e;exact h pins _ σ H xs _ Q I1 (by simpa using rv) hw
def xw (to ti:TE) (t:jo):TG:=λv σ H Q=>to σ H λo H1=>ti σ H1 λi H2=>t o i v H2 λH3=>Q σ H3
theorem mP {o i:Expr}{to ti:TE}{t:jo} (ho:PE X o to) (hi:PE X i ti) (hs:nX X t)
  (ha:∀v,assign (.Subscript o i pos) X.env v=(do
   let ov <- holding [v] (eval o X.env)
   let iv <- holding [v,ov] (eval i X.env)
   standAt pos
   holding [v,ov,iv] (setItem ov iv v)
   release [v,ov,iv] []):=by intro _;rfl):PG X (.Subscript o i pos) (xw to ti t):=by
 intro pins s σ H v u Q I r h;rw [ha];refine yz (zw (C4 (ho pins s σ H _ I h) λov s1 ⟨x,H1,I1,r1,q1⟩=>?_));refine yz (zw (C4 (hi pins s1 σ H1 _ I1 q1) λiv s2 ⟨y,H2,I2,r2,q2⟩=>?_));refine yz (zW (yz (zw (C4 (hs pins s2 σ H2 x y v ov iv u _ I2 r1 r2 r q2) λ_ s3 ⟨H3,I3,q3⟩=>?_))));exact wpAny_release ⟨σ,H3,I3,q3⟩
def ji (te:TE) (g:TG):TS:=λD σ H=>te σ H λx H1=>g x σ H1 D.nx
theorem fE {tg e:Expr}{te:TE}{g:TG} (he:PE X e te) (hg:PG X tg g) (hs:swapsWithSole [tg] e pos.line X.env=pure false:=by rfl) (hw:swappedStores [tg] e X.env=pure none:=by rfl)
  (h1:(assignEach [tg] X.env).map (·.2)=[assign tg X.env]:=by rfl):PS X (.Assign [tg] e pos) (ji te g):=by
 intro pins s σ H D I h;refine wpAny_Assign_stores (C4 (he pins s σ H _ I h) λv s1 ⟨x,H1,I1,r1,q1⟩=>?_) hs hw;rw [h1];exact C4 (hg pins s1 σ H1 x v _ I1 r1 q1) λ_ s2 q=>q
theorem aH {i:Nat}{x:Str}{e:Expr}{te:TE}{DH:Pos} (hN:X.N.Nodup) (hi:X.N[i]?=some x) (hx:Loc X.env.scope x) (he:PE X e te) (hs:swapsWith e (some (.Name x DH)) pos.line X.env=pure false:=by rfl) (hf:X.fn x=true\/X.env.scope.names.lookup x=some .local:=by first | exact .inl rfl | exact .inr rfl | assumption) :
  PS X (.Assign [.Name x DH] e pos) (ji te (bP i)):=by
 intro pins s σ H D I h;refine wpAny_Assign_Name (C4 (he pins s σ H _ I h) λv s1 ⟨y,H1,I1,r1,q1⟩=>?_) hs;exact eP I1 hN hi hx r1 (λs2 I2=>⟨_,H1,I2,q1⟩) hf
def xA (i j:Nat) (ta:TA):TS:=λD σ H=>ta σ H λvs H1=>∃v w,vs=[v,w]/\D.nx ((σ.set i (some v)).set j (some w)) H1
theorem v5 {i j:Nat}{x y:Str}{a b:Expr}{ta:TA}{px py pt:Pos}{kt k2 Mj} (hc:X.calm=true) (hN:X.N.Nodup) (hi:X.N[i]?=some x) (hj:X.N[j]?=some y) (DE:i≠j)
  (hx:X.env.scope.names.lookup x=some .local) (hy:X.env.scope.names.lookup y=some .local) (ha:PA X [a,b] ta)
  (hw:swappedStores [.Tuple [.Name x px,.Name y py] kt pt] (.Tuple [a,b] k2 Mj) X.env=pure (some [x,y]))
  (hs:swapsWithSole [.Tuple [.Name x px,.Name y py] kt pt] (.Tuple [a,b] k2 Mj) pos.line X.env=pure false:=by rfl) :
  PS X (.Assign [.Tuple [.Name x px,.Name y py] kt pt] (.Tuple [a,b] k2 Mj) pos) (xA i j ta):=by
 intro pins s σ H D I h;rw [exec_Assign_arm];refine yz (zW ?_);rw [hs];refine yz (yC ?_);rw [if_neg (by decide)];refine yz (Tuple_ (C4 (ha _ pins s σ H _ I h) λus s1 ⟨vs,H1,I1,r1,q1⟩=>?_));obtain⟨v,w,e1,q1⟩:=q1;subst e1;obtain⟨u1,u2,rfl,rv,DY⟩:∃u1 u2,us=[u1,u2]/\RelV v u1/\RelV w u2:=by
  cases r1 with
  | cons p q =>
   cases q with
   | cons p' q' =>
    cases q';exact⟨_,_,rfl,p,p'⟩
 refine zA ?_ (by show 2<=sizeLine;decide);have I2:Inv X pins σ H1 { s1 with heap:=s1.heap.push { cls:=.type "tuple",data:=.seq [u1,u2].toArray } }:=I1.kept (t':=s1.toks) λb o e=>yB _ e;rw [hw];refine yz (yC ?_);show wpAny (model X.prog X.w) X.A (do rule "assign.swapped-stores";let items <- unpackItems (.ref s1.heap.objs.size) 2 none;assignInOrder [λv=>bindName X.env y v,λv=>bindName X.env x v] items.reverse;pure Flow.next) _ _ _;refine yz (AV (yz (unpackItems_tuple (items:=#[u1,u2]) (I.ok.hd hc) (IsTup.new s1.heap _) λh' MK=>?_)));have I3:=I2.kept (h':=h') (t':=s1.toks) λb o e=>MK b o (y9 (yH e)) e;show wpAny _ _ (assignInOrder [λv=>bindName X.env y v,λv=>bindName X.env x v] [u2,u1] >>= λ_=>pure Flow.next) _ _ _;refine yz (assignInOrder_cons (wpAny_bindName (eP I3 hN hj (.inl hy) DY (λs2 I4=>?_) (.inr hy))));refine assignInOrder_cons (wpAny_bindName (eP I4 hN hi (.inl hx) rv (λs3 I5=>assignInOrder_nil (yC ?_)) (.inr hx)));rw [List.set_comm _ _ (zP DE)] at I5;exact⟨_,H1,I5,q1⟩
def x8 (i:Nat) (te:TE) (ti:LL):TS:=λD σ H=>∃x,σ[i]?=some (some x)/\te σ H λy H1=>ti x y H1 λz H2=>D.nx (σ.set i (some z)) H2
theorem v6 {i:Nat}{x:Str}{e:Expr}{te:TE}{op:Operator}{ti:LL}{DH:Pos} (hN:X.N.Nodup) (hi:X.N[i]?=some x) (hx:Loc X.env.scope x) (he:PE X e te) (ho:QG X op ti) (hf:X.fn x=true\/X.env.scope.names.lookup x=some .local:=by first | exact .inl rfl | exact .inr rfl | assumption) :
  PS X (.AugAssign (.Name x DH) op e pos) (x8 i te ti):=by
 intro pins s σ H D I h;obtain⟨v,e1,h⟩:=h;obtain⟨m,hn,hl⟩:=I.loc;have QS:LK X.env.scope x:=by rcases hx with k | k;exact .inl k;exact .inr (.inl k)
 obtain⟨u,r,l⟩:=hl i x v hi e1 QS;refine wpAny_AugAssign_Name ?_;have go:wpAny (model X.prog X.w) X.A (eval e X.env) (λw s₂=>wpAny (model X.prog X.w) X.A (inplaceOp op u w) (λr s₃=>wpAny (model X.prog X.w) X.A (storeName X.env x r) (λ_=>SP X pins D .next) X.xe s₃) X.xe s₂) X.xe s:=by
  refine C4 (he pins s σ H _ I h) λw s1 ⟨y,H1,I1,r1,q1⟩=>?_;refine C4 (ho pins s1 σ H1 v y u w _ I1 r r1 q1) λz s2 ⟨zv,H2,I2,r2,q2⟩=>?_;exact eP I2 hN hi hx r2 (λs3 I3=>⟨_,H2,I3,q2⟩) hf
 rcases l with ⟨hk,hm⟩ | ⟨hk,c,hc,Fb⟩
 ·exact wpAny_loadName_local I.ok.kind hk hn hm go
 ·rcases hk with hk | hk
  ·exact wpAny_loadName_cell I.ok.kind hk hc Fb go
  ·rcases hx with k | k
   ·have:X.env.scope.names.lookup x=some .free:=hk
    rw [k] at this;cases this
   ·have:X.env.scope.names.lookup x=some .free:=hk
    rw [k] at this;cases this
def SA (f:Int->Int->Int):LL:=λx y H Q=>∃i j,x=.int i/\y=.int j/\Q (.int (f i j)) H
theorem v9:QG X .Add (SA λi j=>i + j):=by
 intro pins s σ H x y v u Q I r1 r2 h;obtain⟨i,j,e1,e2,q⟩:=h;subst e1;subst e2;obtain⟨t,rfl⟩:=r1;obtain⟨t',rfl⟩:=r2;exact iadd_int ⟨.int _,H,I.tok _,⟨_,rfl⟩,q⟩
end
section
variable {X:Cx}{pos:Pos}
def vW (c:TT) (tb:TS):TS:=λD σ H=>∃W:Nat->St->Hp->Prop,(∃m,W m σ H)/\∀m σ H,W m σ H ->
 c σ H λb H1=>if b=true then ∃N:St->Hp->Prop,(∀σ' H',N σ' H'->∃m',m' < m/\W m' σ' H')/\tb { D with nx:=N,ct:=N,bk:=D.nx } σ H1 else D.nx σ H1
theorem gg {c:Expr}{body:List Stmt}{tc:TT}{tb:TS} (hp:PassesOwn (model X.prog X.w) X.A X.env X.xe) (hc:PT X c tc) (hb:EO X body tb):PS X (.While c body [] pos) (vW tc tb):=by
 intro pins s σ H D I h;obtain⟨W,⟨m0,w0⟩,turn⟩:=h;refine wpAny_While (codeAny_whileLoop (λn s'=>∃σ' H',Inv X pins σ' H' s'/\W n σ' H') ?_ m0 ⟨σ,H,I,w0⟩);rintro n s1 ⟨σ1,H1,I1,w1⟩;refine AZ hp (C4 (hc pins s1 σ1 H1 _ I1 (turn n σ1 H1 w1)) λb s2 ⟨H2,I2,q2⟩=>?_);cases b with
 | true =>
  obtain⟨N,hN,q2⟩:=q2;rw [if_pos rfl];refine AZ hp (C4 (hb pins s2 σ1 H2 _ I2 q2) λf s3 q3=>?_);cases f with
  | next =>
   obtain⟨σ3,H3,I3,n3⟩:=q3;obtain⟨m',hm,w3⟩:=hN σ3 H3 n3;exact⟨m',hm,σ3,H3,I3,w3⟩
  | cont =>
   obtain⟨σ3,H3,I3,n3⟩:=q3;obtain⟨m',hm,w3⟩:=hN σ3 H3 n3;exact⟨m',hm,σ3,H3,I3,w3⟩
  | brk=>exact q3
  | ret v=>exact q3
 | false =>
  rw [if_neg yU];exact Bg ⟨σ1,H2,I2,q2⟩
end
structure It where
 go:Nat->Hp->Prop
 yld:Nat->Hp->V->Hp->Prop
 stop:Nat->Hp->Prop
def bv (X:Cx) (pins:List (Addr×Obj)) (H:Hp) (b:Addr):Prop :=
 H b=none/\b≠X.env.locals/\b∉X.fs/\(b∈X.ex\/X.s₀.heap.objs.size<=b)/\(∀x c,X.env.cells.lookup x=some c->c≠b)/\∀p∈X.pn++pins,p.1≠b
theorem Inv.fpOk {X:Cx}{pins:List (Addr×Obj)}{σ:St}{H H':Hp}{s:zz8}{b:Addr} (I:Inv X pins σ H s) (hb:s.heap.objs.size<=b) (hn:H' b=none):bv X pins H' b:=by
 refine⟨hn,AI (za I.lt hb),I.nofs hb,.inr (y7 I.sz hb),λx c e z=>?_,λp hp z=>?_⟩
 ·obtain⟨v,q⟩:=I.cell x c e
  exact absurd (za q.lt (by rw [z];exact hb)) (zz _)
 ·exact absurd (za (yH (I.pin p hp).1) (by rw [z];exact hb)) (zz _)
structure Turn (P:Program) (w:World) (K:zz7) (tg:Expr) (J:It) (fp:List Addr) (it:Addr) (tn:Nat->Heap->Prop):Prop where
 mem:it∈fp
 obj:∀i h,tn i h->∀b∈fp,∃o,h.get? b=some o/\∀v,o.data≠.cell v
 keep:∀i h h',tn i h->(∀b∈fp,∀o,h.get? b=some o->h'.get? b=some o)->tn i h'
 item:∀(X:Cx),X.prog=P->X.w=w->X.K=K->X.calm=true->∀(i:Nat) (pins:List (Addr×Obj)) (s:zz8) (σ:St) (H:Hp) (E:zz9->zz8->Prop),Inv X pins σ H s->(∀b∈fp,bv X pins H b)->tn i s.heap->J.go i H ->
  wpAny (model P w) X.A (pyNext (.ref it)) (λr s1=>∃u,r=some u /\
   wpAny (model P w) X.A (letOwnedTupleGo tg (.ref it) u) (λ_ s2=>∃x H',Inv X pins σ H' s2/\RelV x u/\J.yld i H x H'/\tn (i + 1) s2.heap/\∀b∈fp,H' b=none) E s1) E s
 done:∀(X:Cx),X.prog=P->X.w=w->X.K=K->X.calm=true->∀(i:Nat) (pins:List (Addr×Obj)) (s:zz8) (σ:St) (H:Hp) (E:zz9->zz8->Prop),Inv X pins σ H s->(∀b∈fp,bv X pins H b)->tn i s.heap->J.stop i H ->
  wpAny (model P w) X.A (pyNext (.ref it)) (λr s1=>r=none/\Inv X pins σ H s1) E s
 self:∀(A:Around) (i:Nat) (s:zz8) (Q:zz9->zz8->Prop) (E:zz9->zz8->Prop),tn i s.heap->Q (.ref it) s->wpAny (model P w) A (pyIter (.ref it)) Q E s
abbrev TI:=St->Hp->(It->Hp->Prop)->Prop
def QH (X:Cx) (pins:List (Addr×Obj)) (σ:St) (tg:Expr) (R:It->Hp->Prop) (IS:zz9) (s2:zz8):Prop :=
 ∃(it:Addr) (fp:List Addr) (tn:Nat->Heap->Prop) (J:It) (H':Hp),IS=.ref it/\Inv X pins σ H' s2/\Turn X.prog X.w X.K tg J fp it tn/\tn 0 s2.heap/\(∀b∈fp,bv X pins H' b)/\R J H'
def PI (X:Cx) (tg iter:Expr) (wi:TI):Prop :=
 ∀(pins:List (Addr×Obj)) (s:zz8) (σ:St) (H:Hp) (R:It->Hp->Prop),Inv X pins σ H s->wi σ H R ->
  wpAny (model X.prog X.w) X.A (eval iter X.env) (λv s1=>wpAny (model X.prog X.w) X.A (pyIter v) (QH X pins σ tg R) X.xe s1) X.xe s
theorem fH {M:Model}{A:Around}{E:zz9->zz8->Prop}{s:zz8}{tg:Expr}{it:Addr}{u:zz9}{o:Obj}{n:String}{vs:Array zz9}{Q:Unit->zz8->Prop} (ho:s.heap.get? it=some o) (hc:o.cls=.type n) (hd:o.data=.fields vs)
  (hn:["enumerate","zip","dict_itemiterator","dict_reverseitemiterator","odict_iterator","itertools.zip_longest","itertools.pairwise"].contains n=false) (hQ:Q () s):wpAny M A (letOwnedTupleGo tg (.ref it) u) Q E s:=by
 unfold letOwnedTupleGo;cases tg <;> first
  | exact yC hQ
  | (cases u <;> first
    | exact yC hQ
    | (refine yz (wpAny_load ho ?_)
       rw [hc,hd];show wpAny M A (if (["enumerate","zip","dict_itemiterator","dict_reverseitemiterator","odict_iterator","itertools.zip_longest","itertools.pairwise"].contains n && vs[0]? == some (rawInt _))=true then _ else _) Q E s;rw [if_neg (by intro h;rw [hn,Bool.false_and] at h;cases h)]
       exact yC hQ))
def Gk (K:zz7) (a:Addr):It :=
 ⟨λi H=>∃xs x,C3 K H a xs/\xs[i]?=some x,λi H x H'=>H'=H/\∀xs,C3 K H a xs->xs[i]?=some x,λi H=>∃xs,C3 K H a xs/\xs.length<=i⟩
def Gz (K:zz7) (a:Addr):It :=
 ⟨λi H=>∃xs x,C2 K H a xs/\xs[i]?=some x,λi H x H'=>H'=H/\∀xs,C2 K H a xs->xs[i]?=some x,λi H=>∃xs,C2 K H a xs/\xs.length<=i⟩
def G8 (lo:Int) (n:Nat):It:=⟨λi _=>i < n,λi H x H'=>H'=H/\x=.int (lo + i),λi _=>n<=i⟩
theorem kl {P:Program}{w:World}{K:zz7}{tg:Expr} (a it:Addr):Turn P w K tg (Gk K a) [it] it (λi h=>h.IsListIter it a i) where
 mem:=by simp
 obj:=λi h st b hb=>by
  have e:b=it:=by simpa using hb
  subst e;obtain⟨o,e,c,d⟩:=st;exact⟨o,e,λv z=>by rw [d] at z;cases z⟩
 keep:=λi h h' st k=>st.at λo e=>k it (by simp) o e
 item:=by
  intro X hP hw hK hc i pins s σ H E I hf st hg;subst hP hw hK;obtain⟨xs,x,hq,hx⟩:=hg;obtain⟨C1,rv,p,hz⟩:=I.list hq;obtain⟨u,hu,ru⟩:=rv.get hx;obtain⟨f0,f1,f2,f3,f4,f5⟩:=hf it (by simp);refine wpAny_pyNext_list_item st p.isList (x:=u) (by simpa using hu) λh' Dm sb=>?_;have I1:Inv X pins σ H { s with heap:=h' }:=I.turned (t':=s.toks) (λb o hb e=>(sb.2 b hb).trans e) f0 f1 f3 f4 f5;obtain⟨o,e,c,d⟩:=id Dm;exact⟨u,rfl,fH (s:={ s with heap:=h' }) e c d (by decide) ⟨x,H,I1,ru,⟨rfl,λys hy=>by rw [I.list_inj hy hq];exact hx⟩,Dm,λb hb=>(hf b hb).1⟩⟩
 done:=by
  intro X hP hw hK hc i pins s σ H E I hf st hg;subst hP hw hK;obtain⟨xs,hq,hx⟩:=hg;obtain⟨C1,rv,p,hz⟩:=I.list hq;obtain⟨f0,f1,f2,f3,f4,f5⟩:=hf it (by simp);have hl:=rv.length;exact wpAny_pyNext_list_end (I.ok.hd hc) st p.isList (by simp;omega) λh' eb=>⟨rfl,I.turned (t':=s.toks) (λb o hb e=>eb b o hb e) f0 f1 f3 f4 f5⟩
 self:=λ_ _ _ _ _ st h=>wpAny_pyIter_listiter st h
theorem jK {P:Program}{w:World}{K:zz7}{tg:Expr} (a it:Addr):Turn P w K tg (Gz K a) [it] it (λi h=>h.IsTupleIter it a i) where
 mem:=by simp
 obj:=λi h st b hb=>by
  have e:b=it:=by simpa using hb
  subst e;obtain⟨o,e,c,d⟩:=st;exact⟨o,e,λv z=>by rw [d] at z;cases z⟩
 keep:=λi h h' st k=>st.at λo e=>k it (by simp) o e
 item:=by
  intro X hP hw hK hc i pins s σ H E I hf st hg;subst hP hw hK;obtain⟨xs,x,hq,hx⟩:=hg;obtain⟨C1,rv,p,hz⟩:=I.tuple hq;obtain⟨u,hu,ru⟩:=rv.get hx;obtain⟨f0,f1,f2,f3,f4,f5⟩:=hf it (by simp);refine wpAny_pyNext_tuple_item st (show s.heap.IsTuple a C1.toArray from p) (x:=u) (by simpa using hu) λh' Dm sb=>?_;have I1:Inv X pins σ H { s with heap:=h' }:=I.turned (t':=s.toks) (λb o hb e=>(sb.2 b hb).trans e) f0 f1 f3 f4 f5;obtain⟨o,e,c,d⟩:=id Dm;exact⟨u,rfl,fH (s:={ s with heap:=h' }) e c d (by decide) ⟨x,H,I1,ru,⟨rfl,λys hy=>by rw [I.tuple_inj hy hq];exact hx⟩,Dm,λb hb=>(hf b hb).1⟩⟩
 done:=by
  intro X hP hw hK hc i pins s σ H E I hf st hg;subst hP hw hK;obtain⟨xs,hq,hx⟩:=hg;obtain⟨C1,rv,p,hz⟩:=I.tuple hq;obtain⟨f0,f1,f2,f3,f4,f5⟩:=hf it (by simp);have hl:=rv.length;exact wpAny_pyNext_tuple_end (I.ok.hd hc) st (show s.heap.IsTuple a C1.toArray from p) (by simp;omega) λh' eb=>⟨rfl,I.turned (t':=s.toks) (λb o hb e=>eb b o hb e) f0 f1 f3 f4 f5⟩
 self:=λ_ _ _ _ _ st h=>wpAny_pyIter_tupleiter st h
theorem pP {P:Program}{w:World}{K:zz7}{tg:Expr} (it:Addr) (lo:Int) (n:Nat):Turn P w K tg (G8 lo n) [it] it (λi h=>IsRangeIter h it (lo + (i:Nat) * 1) ((n:Int) - (i:Nat)) 1) where
 mem:=by simp
 obj:=λi h st b hb=>by
  have e:b=it:=by simpa using hb
  subst e
  exact⟨_,st,λv z=>by
   have z':Data.fields _=Data.cell v:=z
   cases z'⟩
 keep:=λi h h' st k=>k it (by simp) _ st
 item:=by
  intro X hP hw hK hc i pins s σ H E I hf st hg;subst hP hw hK;obtain⟨f0,f1,f2,f3,f4,f5⟩:=hf it (by simp);have W:=Walks.range (prog:=X.prog) (w:=X.w) (I.ok.hd hc) it lo 1 n;refine W.item i s _ _ hg st λv h' tk hv Dm kk=>?_;obtain⟨t,rfl⟩:=hv;have I1:Inv X pins σ H { s with heap:=h',toks:=tk }:=I.turned (λb o hb e=>kk b o (by simpa using hb) e) f0 f1 f3 f4 f5;refine⟨_,rfl,fH (s:={ s with heap:=h',toks:=tk }) (n:="range_iterator") Dm rfl rfl (by decide) ⟨.int (lo + i),H,I1,⟨t,?_⟩,⟨rfl,rfl⟩,Dm,λb hb=>(hf b hb).1⟩⟩;rw [Int.mul_one]
 done:=by
  intro X hP hw hK hc i pins s σ H E I hf st hg;subst hP hw hK;obtain⟨f0,f1,f2,f3,f4,f5⟩:=hf it (by simp);exact wpAny_pyNext_range_end (I.ok.hd hc) st (by have:n<=i:=hg;omega) λh' eb=>⟨rfl,I.turned (t':=s.toks) (λb o hb e=>eb b o hb e) f0 f1 f3 f4 f5⟩
 self:=λ_ _ _ _ _ st h=>wpAny_pyIter_rangeiter st h
section
variable {X:Cx}{tg:Expr}
def xc (K:zz7) (tl:TE):TI:=λσ H R=>tl σ H λx H1=>∃a,x=.ref a/\(∃xs,C3 K H1 a xs)/\R (Gk K a) H1
def js (K:zz7) (tl:TE):TI:=λσ H R=>tl σ H λx H1=>∃a,x=.ref a/\(∃xs,C2 K H1 a xs)/\R (Gz K a) H1
theorem bE {l:Expr}{tl:TE} (hl:PE X l tl):PI X tg l (xc X.K tl):=by
 intro pins s σ H R I h;refine C4 (hl pins s σ H _ I h) λv s1 ⟨x,H1,I1,r1,q1⟩=>?_;obtain⟨a,e,⟨xs,hq⟩,q⟩:=q1;subst e;cases r1;obtain⟨C1,rv,p,hz⟩:=I1.list hq;refine AL p.isList ?_;refine⟨s1.heap.objs.size,[s1.heap.objs.size],_,_,H1,rfl,I1.kept (t':=s1.toks) λb o e=>yB _ e,kl a _,⟨_,yN _ rfl,rfl,rfl⟩,λb hb=>?_,q⟩;have e:b=s1.heap.objs.size:=by simpa using hb
 subst e;exact I1.fpOk (yO _) (I1.hok.fresh (yO _))
theorem bJ {l:Expr}{tl:TE} (hl:PE X l tl):PI X tg l (js X.K tl):=by
 intro pins s σ H R I h;refine C4 (hl pins s σ H _ I h) λv s1 ⟨x,H1,I1,r1,q1⟩=>?_;obtain⟨a,e,⟨xs,hq⟩,q⟩:=q1;subst e;cases r1;obtain⟨C1,rv,p,hz⟩:=I1.tuple hq;refine AE (show s1.heap.IsTuple a C1.toArray from p) ?_;refine⟨s1.heap.objs.size,[s1.heap.objs.size],_,_,H1,rfl,I1.kept (t':=s1.toks) λb o e=>yB _ e,jK a _,⟨_,yN _ rfl,rfl,rfl⟩,λb hb=>?_,q⟩;have e:b=s1.heap.objs.size:=by simpa using hb
 subst e;exact I1.fpOk (yO _) (I1.hok.fresh (yO _))
theorem ku {pins:List (Addr×Obj)}{σ:St}{H:Hp}{s:zz8}{R:It->Hp->Prop}{E:zz9->zz8->Prop}{lo hi:Int}{t u v:Tok}{tk:Nat} (I:Inv X pins σ H s) (h1:-(2 ^ 62)<=lo) (h2:lo < 2 ^ 62) (h3:-(2 ^ 62)<=hi) (h4:hi < 2 ^ 62)
  (q:R (G8 lo (hi - lo).toNat) H):wpAny (model X.prog X.w) X.A (pyIter (.ref s.heap.objs.size)) (QH X pins σ tg R) E { s with heap:=s.heap.push { cls:=.type "range",data:=.fields #[.int lo t,.int hi u,.int 1 v] },toks:=tk }:=by
 refine wpAny_pyIter_range (IsRange.new ..) (small_one h1 h2 h3 h4) ?_;have I1:Inv X pins σ H { s with heap:=s.heap.push { cls:=.type "range",data:=.fields #[.int lo t,.int hi u,.int 1 v] },toks:=tk }:=I.kept λb o e=>yB _ e
 refine⟨(s.heap.push { cls:=.type "range",data:=.fields #[.int lo t,.int hi u,.int 1 v] }).objs.size,[(s.heap.push { cls:=.type "range",data:=.fields #[.int lo t,.int hi u,.int 1 v] }).objs.size],_,_,H,rfl,
  I1.kept (t':=tk) λb o e=>yB _ e,pP _ lo (hi - lo).toNat,?_,λb hb=>?_,q⟩
 ·have e1:lo + ((0:Nat):Int) * 1=lo:=by simp
  have e2:(((hi - lo).toNat:Nat):Int) - ((0:Nat):Int)=Builtin.Range.rangeSize lo hi 1:=by rw [rangeSize_one];split <;> omega
  show IsRangeIter _ _ (lo + ((0:Nat):Int) * 1) ((((hi - lo).toNat:Nat):Int) - ((0:Nat):Int)) 1;rw [e1,e2];exact yN _ rfl
 ·have e:b=(s.heap.push { cls:=.type "range",data:=.fields #[.int lo t,.int hi u,.int 1 v] }).objs.size:=by simpa using hb
  subst e;exact I1.fpOk (yO _) (I1.hok.fresh (yO _))
def wL (ta:TA):TI:=λσ H R=>ta σ H λvs H1=>∃j:Int,vs=[.int j]/\-(2 ^ 62)<=j/\j < 2 ^ 62/\R (G8 0 j.toNat) H1
def xg (ta:TA):TI:=λσ H R=>ta σ H λvs H1=>∃i j:Int,vs=[.int i,.int j]/\(-(2 ^ 62)<=i/\i < 2 ^ 62/\-(2 ^ 62)<=j/\j < 2 ^ 62)/\R (G8 i (j - i).toNat) H1
theorem eN {a:Expr}{ta:TA}{p pos:Pos} (hg:Gl X "range") (hm:X.mg "range"=none) (ha:PA X [a] ta) (hs:starEach [a] X.env=[(false,eval a X.env)]:=by rfl):PI X tg (.Call (.Name "range" p) [a] [] pos) (wL ta):=by
 intro pins s σ H R I h;refine Call_ (dE I hg hm boot_range (Av (C4 (ha pos pins s σ H _ I h) λus s1 ⟨vs,H1,I1,r1,q1⟩=>?_) hs rfl));obtain⟨j,e,q1,q2,q⟩:=q1;subst e;cases r1 with
 | cons r rr =>
  cases rr;obtain⟨t,rfl⟩:=r;exact call_range_1 (ku I1 (by omega) (by omega) q1 q2 (by simpa using q))
theorem rq {a b:Expr}{ta:TA}{p pos:Pos} (hg:Gl X "range") (hm:X.mg "range"=none) (ha:PA X [a,b] ta) (hs:starEach [a,b] X.env=[(false,eval a X.env),(false,eval b X.env)]:=by rfl) (Ea:starEach [b] X.env=[(false,eval b X.env)]:=by rfl) :
  PI X tg (.Call (.Name "range" p) [a,b] [] pos) (xg ta):=by
 intro pins s σ H R I h;refine Call_ (dE I hg hm boot_range (Av (C4 (ha pos pins s σ H _ I h) λus s1 ⟨vs,H1,I1,r1,q1⟩=>?_) (by rw [hs,Ea]) (by rw [Ea];rfl)));obtain⟨i,j,e,⟨q1,q2,q3,q4⟩,q⟩:=q1;subst e;cases r1 with
 | cons r rr =>
  cases rr with
  | cons r' rr =>
   cases rr;obtain⟨t,rfl⟩:=r;obtain⟨t',rfl⟩:=r';exact call_range_2 (ku I1 q1 q2 q3 q4 q)
def xE (wi:TI) (g:TG) (tb:TS):TS:=λD σ H=>wi σ H λJ H1=>∃W:Nat->Nat->St->Hp->Prop,(∃m,W 0 m σ H1)/\∀i m σ H,W i m σ H ->
 (J.stop i H/\D.nx σ H)\/(J.go i H/\∃N:St->Hp->Prop,(∀σ' H',N σ' H'->∃m',m' < m/\W (i + 1) m' σ' H')/\∀x H',J.yld i H x H'->g x σ H' λσ2 H2=>tb { D with nx:=N,ct:=N,bk:=D.nx } σ2 H2)
def cH (fp:List Addr) (h:Heap):List (Addr×Obj):=fp.filterMap λb=>(h.get? b).map λo=>(b,o)
theorem cy {fp:List Addr}{h:Heap}{b:Addr}{o:Obj} (hb:b∈fp) (e:h.get? b=some o):(b,o)∈cH fp h:=Cr.mpr ⟨b,hb,by rw [e];rfl⟩
theorem jP {fp:List Addr}{h:Heap}{p:Addr×Obj} (hp:p∈cH fp h):p.1∈fp/\h.get? p.1=some p.2:=by
 obtain⟨b,hb,e⟩:=Cr.mp hp;cases q:h.get? b with
 | none=>rw [q] at e;cases e
 | some o =>
  rw [q] at e;have e':(b,o)=p:=zy e;subst e';exact⟨hb,q⟩
theorem Inv.pinned {pins:List (Addr×Obj)}{σ:St}{H:Hp}{s:zz8}{fp:List Addr} (I:Inv X pins σ H s) (hf:∀b∈fp,bv X pins H b) (ho:∀b∈fp,∃o,s.heap.get? b=some o/\∀v,o.data≠.cell v):Inv X (pins++cH fp s.heap) σ H s :=
 I.pins_of λp hp=>(yQ.mp hp).elim (λz=>I.pin p (yM _ z)) λz=>by
  obtain⟨hb,e⟩:=jP z;obtain⟨f0,f1,f2,_⟩:=hf p.1 hb;obtain⟨o,e',d⟩:=ho p.1 hb;rw [e] at e';cases e';exact⟨e,f0,f1,f2,d⟩
theorem Inv.unpinned {pins pl:List (Addr×Obj)}{σ:St}{H:Hp}{s:zz8} (I:Inv X (pins++pl) σ H s):Inv X pins σ H s:=I.pins_of λp hp=>I.pin p (yM _ (yW _ hp))
theorem cv {iter:Expr}{body:List Stmt}{wi:TI}{g:TG}{tb:TS}{pos:Pos} (hp:PassesOwn (model X.prog X.w) X.A X.env X.xe) (hc:X.calm=true) (hi:PI X tg iter wi) (hg:PG X tg g) (hb:EO X body tb)
  (hs:∀x,foldedSetIterable iter X.env x=pure x:=by intro _;rfl):PS X (.For tg iter body [] pos) (xE wi g tb):=by
 intro pins s σ H D I h;refine wpAny_For (C4 (hi pins s σ H _ I h) λv s1 h1=>C4 h1 λIS s2 h2=>?_) hs;obtain⟨it,fp,tn,J,H2,e,I2,T,DW,f2,W,⟨m0,w0⟩,turn⟩:=h2;subst e;have stat:∀{H':Hp},(∀b∈fp,H' b=none)->∀b∈fp,bv X pins H' b:=λhn b hb=>⟨hn b hb,(f2 b hb).2⟩
 refine codeAny_forLoop_any (λn s'=>∃i σ' H',Inv X pins σ' H' s'/\tn i s'.heap/\(∀b∈fp,H' b=none)/\W i n σ' H') ?_ m0 ⟨0,σ,H2,I2,DW,λb hb=>(f2 b hb).1,w0⟩;rintro n s3 ⟨i,σ3,H3,I3,OE,Qv,w3⟩
 rcases turn i n σ3 H3 w3 with ⟨stop,qn⟩ | ⟨go,N,hN,step⟩
 ·refine AZ hp (C4 (T.done X rfl rfl rfl hc i pins s3 σ3 H3 X.xe I3 (stat Qv) OE stop) λr s4 ⟨hr,I4⟩=>?_)
  subst hr;exact Bg ⟨σ3,H3,I4,qn⟩
 ·refine AZ hp (C4 (T.item X rfl rfl rfl hc i pins s3 σ3 H3 X.xe I3 (stat Qv) OE go) λr s4 ⟨u,hr,h4⟩=>?_)
  subst hr;refine AZ hp (C4 h4 λ_ s5 ⟨x,H5,I5,r5,y5,L4,Ub⟩=>?_);have UF:=I5.pinned (stat Ub) (T.obj _ _ L4);refine AZ hp (C4 (hg _ s5 σ3 H5 x u _ UF r5 (step x H5 y5)) λ_ s6 ⟨σ6,H6,I6,q6⟩=>?_);refine AZ hp (C4 (hb _ s6 σ6 H6 _ I6 q6) λf s7 q7=>?_);have again:∀{σ7:St}{H7:Hp},Inv X (pins++cH fp s5.heap) σ7 H7 s7->N σ7 H7->∃m,m < n/\∃i σ' H',Inv X pins σ' H' s7/\tn i s7.heap/\(∀b∈fp,H' b=none)/\W i m σ' H':=λ{σ7 H7} I7 n7=>by
   obtain⟨m',hm,w7⟩:=hN σ7 H7 n7;refine⟨m',hm,i + 1,σ7,H7,I7.unpinned,T.keep _ _ _ L4 λb hb o e=>(I7.pin (b,o) (yM _ (yM _ (cy hb e)))).1,λb hb=>?_,w7⟩;obtain⟨o,e,d⟩:=T.obj _ _ L4 b hb;exact (I7.pin (b,o) (yM _ (yM _ (cy hb e)))).2.1
  cases f with
  | next=>obtain⟨σ7,H7,I7,n7⟩:=q7;exact again I7 n7
  | cont=>obtain⟨σ7,H7,I7,n7⟩:=q7;exact again I7 n7
  | brk=>obtain⟨σ7,H7,I7,q7⟩:=q7;exact⟨σ7,H7,I7.unpinned,q7⟩
  | ret v=>obtain⟨x7,σ7,H7,I7,r7,q7⟩:=q7;exact⟨x7,σ7,H7,I7.unpinned,r7,q7⟩
end
theorem ip {K:zz7}{a:Addr}{xs:List V}{g:TG}{tb:TS}{D:Ends}{σ:St}{H:Hp} (Pv:Nat->St->Hp->Prop) (h0:Pv 0 σ H) (hl:∀i σ H,i<=xs.length->Pv i σ H->C3 K H a xs)
  (hs:∀i x σ H,xs[i]?=some x->Pv i σ H->g x σ H λσ2 H2=>tb { D with nx:=Pv (i + 1),ct:=Pv (i + 1),bk:=D.nx } σ2 H2) (hd:∀σ H,Pv xs.length σ H->D.nx σ H) :
  ∃W:Nat->Nat->St->Hp->Prop,(∃m,W 0 m σ H)/\∀i m σ H,W i m σ H ->
   ((Gk K a).stop i H/\D.nx σ H)\/((Gk K a).go i H/\∃N:St->Hp->Prop,(∀σ' H',N σ' H'->∃m',m' < m/\W (i + 1) m' σ' H')/\∀x H',(Gk K a).yld i H x H'->g x σ H' λσ2 H2=>tb { D with nx:=N,ct:=N,bk:=D.nx } σ2 H2):=by
 refine⟨λi m σ H=>m=xs.length - i/\i<=xs.length/\Pv i σ H,⟨xs.length,by simp,ze _,h0⟩,?_⟩;rintro i m σ H ⟨rfl,hi,p⟩;have q:=hl i σ H hi p
 by_cases Dh:i < xs.length
 ·refine .inr ⟨⟨xs,xs[i],q,by simp [Dh]⟩,Pv (i + 1),λσ' H' p'=>⟨xs.length - (i + 1),by omega,rfl,Dh,p'⟩,λx H' y=>?_⟩
  obtain⟨e,y⟩:=y;subst e;exact hs i x σ _ (y xs q) p
 ·have e:i=xs.length:=by omega
  subst e;exact .inl ⟨⟨xs,q,yO _⟩,hd σ H p⟩
theorem eA {K:zz7}{a:Addr}{xs:List V}{g:TG}{tb:TS}{D:Ends}{σ:St}{H:Hp} (Pv:Nat->St->Hp->Prop) (h0:Pv 0 σ H) (hl:∀i σ H,i<=xs.length->Pv i σ H->C2 K H a xs)
  (hs:∀i x σ H,xs[i]?=some x->Pv i σ H->g x σ H λσ2 H2=>tb { D with nx:=Pv (i + 1),ct:=Pv (i + 1),bk:=D.nx } σ2 H2) (hd:∀σ H,Pv xs.length σ H->D.nx σ H) :
  ∃W:Nat->Nat->St->Hp->Prop,(∃m,W 0 m σ H)/\∀i m σ H,W i m σ H ->
   ((Gz K a).stop i H/\D.nx σ H)\/((Gz K a).go i H/\∃N:St->Hp->Prop,(∀σ' H',N σ' H'->∃m',m' < m/\W (i + 1) m' σ' H')/\∀x H',(Gz K a).yld i H x H'->g x σ H' λσ2 H2=>tb { D with nx:=N,ct:=N,bk:=D.nx } σ2 H2):=by
 refine⟨λi m σ H=>m=xs.length - i/\i<=xs.length/\Pv i σ H,⟨xs.length,by simp,ze _,h0⟩,?_⟩;rintro i m σ H ⟨rfl,hi,p⟩;have q:=hl i σ H hi p
 by_cases Dh:i < xs.length
 ·refine .inr ⟨⟨xs,xs[i],q,by simp [Dh]⟩,Pv (i + 1),λσ' H' p'=>⟨xs.length - (i + 1),by omega,rfl,Dh,p'⟩,λx H' y=>?_⟩
  obtain⟨e,y⟩:=y;subst e;exact hs i x σ _ (y xs q) p
 ·have e:i=xs.length:=by omega
  subst e;exact .inl ⟨⟨xs,q,yO _⟩,hd σ H p⟩
theorem fW {lo:Int}{n:Nat}{g:TG}{tb:TS}{D:Ends}{σ:St}{H:Hp} (Pv:Nat->St->Hp->Prop) (h0:Pv 0 σ H)
  (hs:∀i σ H,i < n->Pv i σ H->g (.int (lo + i)) σ H λσ2 H2=>tb { D with nx:=Pv (i + 1),ct:=Pv (i + 1),bk:=D.nx } σ2 H2) (hd:∀σ H,Pv n σ H->D.nx σ H) :
  ∃W:Nat->Nat->St->Hp->Prop,(∃m,W 0 m σ H)/\∀i m σ H,W i m σ H ->
   ((G8 lo n).stop i H/\D.nx σ H)\/((G8 lo n).go i H/\∃N:St->Hp->Prop,(∀σ' H',N σ' H'->∃m',m' < m/\W (i + 1) m' σ' H')/\∀x H',(G8 lo n).yld i H x H'->g x σ H' λσ2 H2=>tb { D with nx:=N,ct:=N,bk:=D.nx } σ2 H2):=by
 refine⟨λi m σ H=>m=n - i/\i<=n/\Pv i σ H,⟨n,by simp,ze _,h0⟩,?_⟩;rintro i m σ H ⟨rfl,hi,p⟩
 by_cases Dh:i < n
 ·refine .inr ⟨Dh,Pv (i + 1),λσ' H' p'=>⟨n - (i + 1),by omega,rfl,Dh,p'⟩,λx H' y=>?_⟩
  obtain⟨e,y⟩:=y;subst e y;exact hs i σ _ Dh p
 ·have e:i=n:=by omega
  subst e;exact .inl ⟨yO _,hd σ H p⟩
abbrev R2:=V->V->Hp->VK->Prop
def Dz (X:Cx) (f:zz9->zz9->Sem zz9) (r:R2):Prop :=
 ∀(pins:List (Addr×Obj)) (s:zz8) (σ:St) (H:Hp) (x y:V) (v u:zz9) (Q:VK),Inv X pins σ H s->RelV x v->RelV y u->r x y H Q ->
  wpAny (model X.prog X.w) X.A (f v u) (EP X pins σ Q) X.xe s
def Oa (X:Cx) (f:zz9->Sem zz9) (r:V->Hp->VK->Prop):Prop :=
 ∀(pins:List (Addr×Obj)) (s:zz8) (σ:St) (H:Hp) (x:V) (v:zz9) (Q:VK),Inv X pins σ H s->RelV x v->r x H Q ->
  wpAny (model X.prog X.w) X.A (f v) (EP X pins σ Q) X.xe s
def aZ (X:Cx) (f:zz9) (r:List V->Hp->VK->Prop):Prop :=
 ∀(pins:List (Addr×Obj)) (s:zz8) (σ:St) (H:Hp) (xs:List V) (us:List zz9) (Q:VK),Inv X pins σ H s->aq xs us->r xs H Q ->
  wpAny (model X.prog X.w) X.A (call f us) (EP X pins σ Q) X.xe s
def K0 (r:R2) (ta tb:TE):TE:=λσ H Q=>ta σ H λx H1=>tb σ H1 λy H2=>r x y H2 Q
def Q1 (r:V->Hp->VK->Prop) (ta:TE):TE:=λσ H Q=>ta σ H λx H1=>r x H1 Q
def rI (C:Int->Int->Prop) (g:Int->Int->V):R2:=λx y H Q=>∃i j,x=.int i/\y=.int j/\C i j/\Q (g i j) H
def HU (g:Int->Int->V):R2:=λx y H Q=>∃i j,x=.int i/\y=.int j/\Q (g i j) H
def rU (g:Int->V):V->Hp->VK->Prop:=λx H Q=>∃i,x=.int i/\Q (g i) H
section
variable {X:Cx}{a b c:Expr}{ta tb tc:TE}{pos:Pos}
theorem jw (ha:PE X a ta) (hb:PE X b tb) {pins:List (Addr×Obj)}{s:zz8}{σ:St}{H:Hp}{R:V->V->Hp->Prop} (I:Inv X pins σ H s)
  (h:ta σ H λx H1=>tb σ H1 λy H2=>R x y H2) {Q:zz9->zz8->Prop}{f:zz9->zz9->Sem zz9}
  (hf:∀v u s2 x y H2,Inv X pins σ H2 s2->RelV x v->RelV y u->R x y H2->wpAny (model X.prog X.w) X.A (f v u) Q X.xe s2) :
  wpAny (model X.prog X.w) X.A (eval a X.env) (λv s₁=>wpAny (model X.prog X.w) X.A (eval b X.env) (λu s₂=>wpAny (model X.prog X.w) X.A (f v u) Q X.xe s₂) X.xe s₁) X.xe s:=by
 refine C4 (ha pins s σ H _ I h) λv s1 ⟨x,H1,I1,r1,q1⟩=>?_;refine C4 (hb pins s1 σ H1 _ I1 q1) λu s2 ⟨y,H2,I2,r2,q2⟩=>?_;exact hf v u s2 x y H2 I2 r1 r2 q2
theorem aE {op:Operator}{r:R2} (ho:Dz X (binaryOp op) r) (ha:PE X a ta) (hb:PE X b tb):PE X (.BinOp a op b pos) (K0 r ta tb):=by
 intro pins s σ H Q I h;exact wpAny_BinOp (jw ha hb I h λv u s2 x y H2 I2 rx ry q=>ho pins s2 σ H2 x y v u Q I2 rx ry q)
theorem wK {op:UnaryOp}{r:V->Hp->VK->Prop} (ho:Oa X (unaryOp op) r) (ha:PE X a ta):PE X (.UnaryOp op a pos) (Q1 r ta):=by
 intro pins s σ H Q I h;exact UnaryOp_ (C4 (ha pins s σ H _ I h) λv s1 ⟨x,H1,I1,r1,q1⟩=>ho pins s1 σ H1 x v Q I1 r1 q1)
theorem JS {f:zz9->zz9->Sem zz9}{C:Int->Int->Prop}{g:Int->Int->Int}
  (rule:∀(i j:Int) (t u:Tok) (s:zz8) (Q:zz9->zz8->Prop) (E:zz9->zz8->Prop),C i j->Q (.int (g i j) s.toks) { s with toks:=s.toks + 1 }->wpAny (model X.prog X.w) X.A (f (.int i t) (.int j u)) Q E s) :
  Dz X f (rI C λi j=>.int (g i j)):=by
 intro pins s σ H x y v u Q I rx ry h;obtain⟨i,j,rfl,rfl,hc,q⟩:=h;obtain⟨t,rfl⟩:=rx;obtain⟨t',rfl⟩:=ry;exact rule i j t t' s _ _ hc ⟨.int (g i j),H,I.tok _,⟨_,rfl⟩,q⟩
theorem nK {f:zz9->zz9->Sem zz9}{g:Int->Int->Int}
  (rule:∀(i j:Int) (t u:Tok) (s:zz8) (Q:zz9->zz8->Prop) (E:zz9->zz8->Prop),Q (.int (g i j) s.toks) { s with toks:=s.toks + 1 }->wpAny (model X.prog X.w) X.A (f (.int i t) (.int j u)) Q E s) :
  Dz X f (HU λi j=>.int (g i j)):=by
 intro pins s σ H x y v u Q I rx ry h;obtain⟨i,j,rfl,rfl,q⟩:=h;obtain⟨t,rfl⟩:=rx;obtain⟨t',rfl⟩:=ry;exact rule i j t t' s _ _ ⟨.int (g i j),H,I.tok _,⟨_,rfl⟩,q⟩
theorem jj {f:zz9->zz9->Sem zz9}{g:Int->Int->Bool}
  (rule:∀(i j:Int) (t u:Tok) (s:zz8) (Q:zz9->zz8->Prop) (E:zz9->zz8->Prop),Q (.bool (g i j)) s->wpAny (model X.prog X.w) X.A (f (.int i t) (.int j u)) Q E s) :
  Dz X f (HU λi j=>.bl (g i j)):=by
 intro pins s σ H x y v u Q I rx ry h;obtain⟨i,j,rfl,rfl,q⟩:=h;obtain⟨t,rfl⟩:=rx;obtain⟨t',rfl⟩:=ry;exact rule i j t t' s _ _ ⟨.bl (g i j),H,I,rfl,q⟩
def xB (i j:Int):Prop:=0 < j/\j < 1073741824
def nU (i j:Int):Prop:=0<=j/\j<=1000000/\i.natAbs < 2 ^ 64
def jv (i j:Int):Prop:=(-(2 ^ 64) < i/\i < 2 ^ 64)\/(-(2 ^ 64) < j/\j < 2 ^ 64)
theorem jv.ok {i j:Int} (h:jv i j):IntMulOk i j:=by
 rcases h with ⟨h1,h2⟩ | ⟨h1,h2⟩
 ·exact .of_left (intBits_le_64 h1 h2)
 ·exact .of_right (intBits_le_64 h1 h2)
theorem cG:Dz X (binaryOp .Add) (HU λi j=>.int (i + j)):=nK λ_ _ _ _ _ _ _ q=>add_int q
theorem cF:Dz X (binaryOp .Sub) (HU λi j=>.int (i - j)):=nK λ_ _ _ _ _ _ _ q=>sub_int q
theorem dF:Dz X (binaryOp .Mult) (rI jv λi j=>.int (i * j)):=JS λ_ _ _ _ _ _ _ hc q=>mul_int q hc.ok
theorem lF:Dz X (binaryOp .FloorDiv) (rI xB λi j=>.int (i / j)):=JS λi j _ _ _ _ _ hc q=>by
 have h1:(0:Int) < j:=hc.1;have h2:j < 1073741824:=hc.2;exact floordiv_int (by omega) (by rw [Ct i (by omega)];exact q) (.inl (PyProof.noPylong_small (by omega)))
theorem df:Dz X (binaryOp .Mod) (rI (λ_ j=>0 < j) λi j=>.int (i % j)):=JS λi j _ _ _ _ _ hc q=>by
 have h1:(0:Int) < j:=hc;exact mod_int' (by omega) (by rw [Int.fmod_eq_emod_of_nonneg i (by omega)];exact q)
theorem fA:Dz X (binaryOp .Pow) (rI nU λi j=>.int (i ^ j.toNat)):=JS λ_ _ _ _ _ _ _ hc q=>pow_int_small hc.1 hc.2.1 hc.2.2 q
theorem QT {f:zz9->Sem zz9}{g:Int->Int}
  (rule:∀(i:Int) (t:Tok) (s:zz8) (Q:zz9->zz8->Prop) (E:zz9->zz8->Prop),Q (.int (g i) s.toks) { s with toks:=s.toks + 1 }->wpAny (model X.prog X.w) X.A (f (.int i t)) Q E s) :
  Oa X f (rU λi=>.int (g i)):=by
 intro pins s σ H x v Q I rx h;obtain⟨i,rfl,q⟩:=h;obtain⟨t,rfl⟩:=rx;exact rule i t s _ _ ⟨.int (g i),H,I.tok _,⟨_,rfl⟩,q⟩
theorem vS:Oa X (unaryOp .USub) (rU λi=>.int (-i)):=QT λ_ _ _ _ _ q=>neg_int q
end
def nW:V->V->Bool
 | .non,.non=>true | .non,.int _=>true | .int _,.non=>true | .non,.bl _=>true | .bl _,.non=>true | .non,.str _=>true | .str _,.non=>true
 | .int _,.int _=>true | .bl _,.bl _=>true | .str _,.str _=>true | .byt _,.byt _=>true
 | .int _,.str _=>true | .str _,.int _=>true | .bl _,.str _=>true | .str _,.bl _=>true
 | _,_=>false
def Rn:R2:=λx y H Q=>nW x y=true/\Q (.bl (decide (x=y))) H
def Rm:R2:=λx y H Q=>nW x y=true/\Q (.bl (!decide (x=y))) H
theorem iJ {i j:Int}:decide (V.int i=V.int j)=(i == j):=by
 rw [A0];simp
theorem mH {i j:Bool}:decide (V.bl i=V.bl j)=(i == j):=by
 rw [A0];simp
theorem lG {i j:Str}:decide (V.str i=V.str j)=(i == j):=by
 rw [A0];simp
theorem lb {i j:Array UInt8}:decide (V.byt i=V.byt j)=(i.toList == j.toList):=by
 rw [A0];cases i;cases j;simp
section
variable {X:Cx}{a b c:Expr}{ta tb tc:TE}{pos:Pos}
theorem aT {pins:List (Addr×Obj)}{σ:St}{H:Hp}{s:zz8}{Q:VK}{k k':Bool} (I:Inv X pins σ H s) (q:Q (.bl k) H) (e:k=k'):EP X pins σ Q (.bool k') s:=by
 subst e;exact⟨.bl k,H,I,rfl,q⟩
theorem eY:Dz X (compareOp .Eq) Rn:=by
 intro pins s σ H x y v u Q I rx ry h;obtain⟨hs,q⟩:=h;cases x with
 | non =>
  cases rx;cases y with
  | non=>cases ry;exact PySem.EqNone.eq_none_none (aT I q (by simp))
  | bl j=>cases ry;exact PySem.EqNone.eq_none_bool (aT I q (by simp))
  | int j=>obtain⟨t',rfl⟩:=ry;exact PySem.EqNone.eq_none_int (aT I q (by simp))
  | str j=>obtain⟨t',rfl⟩:=ry;exact PySem.EqNone.eq_none_str (aT I q (by simp))
  | _=>exact absurd (show false=true from hs) yU
 | bl i =>
  cases rx;cases y with
  | non=>cases ry;exact PySem.EqNone.eq_bool_none (aT I q (by simp))
  | bl j=>cases ry;exact eq_bool (aT I q mH)
  | str j=>obtain⟨t',rfl⟩:=ry;exact PySem.EqMixed.eq_bool_str (aT I q (by simp))
  | _=>exact absurd (show false=true from hs) yU
 | int i =>
  obtain⟨t,rfl⟩:=rx;cases y with
  | non=>cases ry;exact PySem.EqNone.eq_int_none (aT I q (by simp))
  | int j=>obtain⟨t',rfl⟩:=ry;exact eq_int (aT I q iJ)
  | str j=>obtain⟨t',rfl⟩:=ry;exact PySem.EqMixed.eq_int_str (aT I q (by simp))
  | _=>exact absurd (show false=true from hs) yU
 | str i =>
  obtain⟨t,rfl⟩:=rx;cases y with
  | non=>cases ry;exact PySem.EqNone.eq_str_none (aT I q (by simp))
  | bl j=>cases ry;exact PySem.EqMixed.eq_str_bool (aT I q (by simp))
  | int j=>obtain⟨t',rfl⟩:=ry;exact PySem.EqMixed.eq_str_int (aT I q (by simp))
  | str j=>obtain⟨t',rfl⟩:=ry;exact eq_str (aT I q lG)
  | _=>exact absurd (show false=true from hs) yU
 | byt i =>
  obtain⟨t,rfl⟩:=rx;cases y with
  | byt j=>obtain⟨t',rfl⟩:=ry;exact PySem.W.eq_bytes (aT I q lb)
  | _=>exact absurd (show false=true from hs) yU
 | _=>cases y <;> exact absurd (show false=true from hs) yU
theorem cW:Dz X (compareOp .NotEq) Rm:=by
 intro pins s σ H x y v u Q I rx ry h;obtain⟨hs,q⟩:=h;cases x with
 | non =>
  cases rx;cases y with
  | non=>cases ry;exact PySem.EqNone.ne_none_none (aT I q (by simp))
  | bl j=>cases ry;exact PySem.EqNone.ne_none_bool (aT I q (by simp))
  | int j=>obtain⟨t',rfl⟩:=ry;exact PySem.EqNone.ne_none_int (aT I q (by simp))
  | str j=>obtain⟨t',rfl⟩:=ry;exact PySem.EqNone.ne_none_str (aT I q (by simp))
  | _=>exact absurd (show false=true from hs) yU
 | bl i =>
  cases rx;cases y with
  | non=>cases ry;exact PySem.EqNone.ne_bool_none (aT I q (by simp))
  | bl j=>cases ry;exact ne_bool (aT I q (congrArg not mH))
  | str j=>obtain⟨t',rfl⟩:=ry;exact PySem.EqMixed.ne_bool_str (aT I q (by simp))
  | _=>exact absurd (show false=true from hs) yU
 | int i =>
  obtain⟨t,rfl⟩:=rx;cases y with
  | non=>cases ry;exact PySem.EqNone.ne_int_none (aT I q (by simp))
  | int j=>obtain⟨t',rfl⟩:=ry;exact ne_int (aT I q (congrArg not iJ))
  | str j=>obtain⟨t',rfl⟩:=ry;exact PySem.EqMixed.ne_int_str (aT I q (by simp))
  | _=>exact absurd (show false=true from hs) yU
 | str i =>
  obtain⟨t,rfl⟩:=rx;cases y with
  | non=>cases ry;exact PySem.EqNone.ne_str_none (aT I q (by simp))
  | bl j=>cases ry;exact PySem.EqMixed.ne_str_bool (aT I q (by simp))
  | int j=>obtain⟨t',rfl⟩:=ry;exact PySem.EqMixed.ne_str_int (aT I q (by simp))
  | str j=>obtain⟨t',rfl⟩:=ry;exact ne_str (aT I q (congrArg not lG))
  | _=>exact absurd (show false=true from hs) yU
 | byt i =>
  obtain⟨t,rfl⟩:=rx;cases y with
  | byt j=>obtain⟨t',rfl⟩:=ry;exact PySem.W.ne_bytes (aT I q (congrArg not lb))
  | _=>exact absurd (show false=true from hs) yU
 | _=>cases y <;> exact absurd (show false=true from hs) yU
theorem gE:Dz X (compareOp .Lt) (HU λi j=>.bl (decide (i < j))):=jj λ_ _ _ _ _ _ _ q=>lt_int q
theorem nB:Dz X (compareOp .LtE) (HU λi j=>.bl (decide (i<=j))):=jj λ_ _ _ _ _ _ _ q=>le_int q
theorem jc:Dz X (compareOp .Gt) (HU λi j=>.bl (decide (j < i))):=jj λ_ _ _ _ _ _ _ q=>gt_int q
theorem qy:Dz X (compareOp .Lt) (λx y H Q=>∃i j,x=.str i/\y=.str j/\Q (.bl (decide (i.cps.toList < j.cps.toList))) H):=by
 intro pins s σ H x y v u Q I rx ry h;obtain⟨i,j,rfl,rfl,q⟩:=h;obtain⟨t,rfl⟩:=rx;obtain⟨t',rfl⟩:=ry;exact lt_str (aT I q rfl)
theorem gv:Dz X (compareOp .Is) (λx y H Q=>y=.non/\Q (.bl (decide (x=.non))) H):=by
 intro pins s σ H x y v u Q I rx ry h;obtain⟨rfl,q⟩:=h;cases ry;refine is_none_gen (aT I q ?_);cases x <;> first
  | (cases rx;rfl)
  | (obtain⟨t,rfl⟩:=rx;rfl)
theorem lR:Dz X (compareOp .IsNot) (λx y H Q=>y=.non/\Q (.bl (!decide (x=.non))) H):=by
 intro pins s σ H x y v u Q I rx ry h;obtain⟨rfl,q⟩:=h;cases ry;refine isnot_none_gen (aT I q ?_);cases x <;> first
  | (cases rx;rfl)
  | (obtain⟨t,rfl⟩:=rx;rfl)
theorem aS (b:Expr) {op:CmpOp} (h:op≠.In:=by decide) (h2:op≠.NotIn:=by decide):behindInMarks op b=false:=by
 have e1:(op == CmpOp.In)=false:=by cases op <;> first | rfl | exact absurd rfl h
 have e2:(op == CmpOp.NotIn)=false:=by cases op <;> first | rfl | exact absurd rfl h2
 cases b <;> simp [behindInMarks,e1,e2]
theorem cT {op:CmpOp}{r:R2} (ho:Dz X (compareOp op) r) (ha:PE X a ta) (hb:PE X b tb) (hm:behindInMarks op b=false):PE X (.Compare a [op] [b] pos) (K0 r ta tb):=by
 intro pins s σ H Q I h;exact wpAny_Compare1 (jw ha hb I h λv u s2 x y H2 I2 rx ry q=>ho pins s2 σ H2 x y v u Q I2 rx ry q) hm
def ny (t:TE):TT:=λσ H Q=>t σ H λx H'=>∃k,x=.bl k/\Q k H'
theorem aQ {op:CmpOp}{r:R2} (ho:Dz X (compareOp op) r) (ha:PE X a ta) (hb:PE X b tb) (hm:behindInMarks op b=false):PT X (.Compare a [op] [b] pos) (ny (K0 r ta tb)):=by
 intro pins s σ H Q I h
 refine wpAny_isTrue_Compare1 (C4 (ha pins s σ H _ I h) λv s1 ⟨x,H1,I1,r1,q1⟩=>C4 (hb pins s1 σ H1 _ I1 q1) λu s2 ⟨y,H2,I2,r2,q2⟩ =>
  C4 (ho pins s2 σ H2 x y v u _ I2 r1 r2 q2) λc s3 ⟨z,H3,I3,r3,k,e,q3⟩=>?_) hm
 subst e;cases r3;exact zZ ⟨H3,I3,q3⟩
def mI (r r':R2) (ta tb tc:TE):TE:=λσ H Q=>ta σ H λx H1=>tb σ H1 λy H2=>r x y H2 λz H3=>∃k,z=.bl k /\
 (if k=true then tc σ H3 λw' H4=>r' y w' H4 Q else Q (.bl false) H3)
theorem tO {op HV:CmpOp}{r r':R2} (ho:Dz X (compareOp op) r) (Ep:Dz X (compareOp HV) r') (ha:PE X a ta) (hb:PE X b tb) (hc:PE X c tc)
  (hm:lastMarks [op,HV] [b,c]=false:=by with_unfolding_all rfl):PE X (.Compare a [op,HV] [b,c] pos) (mI r r' ta tb tc):=by
 intro pins s σ H Q I h
 refine Compare_chain (C4 (ha pins s σ H _ I h) λv s1 ⟨x,H1,I1,r1,q1⟩=>chain_link (C4 (hb pins s1 σ H1 _ I1 q1) λu s2 ⟨y,H2,I2,r2,q2⟩ =>
  C4 (ho pins s2 σ H2 x y v u _ I2 r1 r2 q2) λd s3 ⟨z,H3,I3,r3,k,e,q3⟩=>?_)) hm
 subst e;cases r3;refine zZ ?_;cases k with
 | false=>exact ite_ff ⟨.bl false,H3,I3,rfl,q3⟩
 | true=>exact ite_tt (chain_last (C4 (hc pins s3 σ H3 _ I3 q3) λw' s4 ⟨z',H4,I4,r4,q4⟩=>Ep pins s4 σ H4 y z' u w' Q I4 r2 r4 q4))
theorem tE {op HV:CmpOp}{r r':R2} (ho:Dz X (compareOp op) r) (Ep:Dz X (compareOp HV) r') (ha:PE X a ta) (hb:PE X b tb) (hc:PE X c tc)
  (hm:lastMarks [op,HV] [b,c]=false:=by with_unfolding_all rfl):PT X (.Compare a [op,HV] [b,c] pos) (ny (mI r r' ta tb tc)):=by
 intro pins s σ H Q I h
 refine isTrue_chain (C4 (ha pins s σ H _ I h) λv s1 ⟨x,H1,I1,r1,q1⟩=>test_link (C4 (hb pins s1 σ H1 _ I1 q1) λu s2 ⟨y,H2,I2,r2,q2⟩ =>
  C4 (ho pins s2 σ H2 x y v u _ I2 r1 r2 q2) λd s3 ⟨z,H3,I3,r3,k,e,q3⟩=>?_)) hm
 subst e;cases r3;refine zZ ?_;cases k with
 | false =>
  obtain⟨k',e',q'⟩:=q3;cases e';exact ite_ff ⟨H3,I3,q'⟩
 | true =>
  refine ite_tt (test_last (C4 (hc pins s3 σ H3 _ I3 q3) λw' s4 ⟨z',H4,I4,r4,q4⟩=>C4 (Ep pins s4 σ H4 y z' u w' _ I4 r2 r4 q4) λd' s5 ⟨z2,H5,I5,r5,k2,e2,q5⟩=>?_));subst e2;cases r5;exact zZ ⟨H5,I5,q5⟩
theorem eD:(sizeLine:Nat) < 2 ^ 63:=by rw [zj];decide
theorem jL:Dz X (binaryOp .Add) (λx y H Q=>∃i j,x=.str i/\y=.str j/\i.length + j.length<=sizeLine/\Q (.str (i++j)) H):=by
 intro pins s σ H x y v u Q I rx ry h;obtain⟨i,j,rfl,rfl,hz,q⟩:=h;obtain⟨t,rfl⟩:=rx;obtain⟨t',rfl⟩:=ry;exact add_str (λt' tk=>⟨.str (i++j),H,I.tok _,⟨_,rfl⟩,q⟩) hz
theorem vals1 {x:V}{us:List zz9} (r:aq [x] us):∃u,us=[u]/\RelV x u:=by
 cases r with
 | cons r1 r2=>cases r2;exact⟨_,rfl,r1⟩
theorem vals2 {x y:V}{us:List zz9} (r:aq [x,y] us):∃u w',us=[u,w']/\RelV x u/\RelV y w':=by
 cases r with
 | cons r1 r2 =>
  cases r2 with
  | cons r3 r4=>cases r4;exact⟨_,_,rfl,r1,r3⟩
theorem kh (hc:X.calm=true):aZ X (.builtin "max") (λxs H Q=>∃i j,xs=[.int i,.int j]/\Q (.int (if j > i then j else i)) H):=by
 intro pins s σ H xs us Q I r h;obtain⟨i,j,rfl,q⟩:=h;obtain⟨u,w',rfl,⟨t,rfl⟩,⟨t',rfl⟩⟩:=vals2 r;refine max_two_ints (I.ok.hd hc) λh' tk k=>⟨_,H,I.kept k,?_,q⟩
 by_cases hj:j > i
 ·rw [if_pos hj,if_pos hj];exact⟨_,rfl⟩
 ·rw [if_neg hj,if_neg hj];exact⟨_,rfl⟩
theorem rC (hc:X.calm=true):aZ X (.builtin "min") (λxs H Q=>∃i j,xs=[.int i,.int j]/\Q (.int (if j < i then j else i)) H):=by
 intro pins s σ H xs us Q I r h;obtain⟨i,j,rfl,q⟩:=h;obtain⟨u,w',rfl,⟨t,rfl⟩,⟨t',rfl⟩⟩:=vals2 r;refine min_two_ints (I.ok.hd hc) λh' tk k=>⟨_,H,I.kept k,?_,q⟩
 by_cases hj:j < i
 ·rw [if_pos hj,if_pos hj];exact⟨_,rfl⟩
 ·rw [if_neg hj,if_neg hj];exact⟨_,rfl⟩
theorem qJ:aZ X (.type "int") (λxs H Q=>(∃i,xs=[.int i]/\Q (.int i) H)\/∃k,xs=[.bl k]/\Q (.int (if k then 1 else 0)) H):=by
 intro pins s σ H xs us Q I r h
 rcases h with ⟨i,rfl,q⟩ | ⟨k,rfl,q⟩
 ·obtain⟨u,rfl,t,rfl⟩:=vals1 r
  exact call_int_int ⟨.int i,H,I,⟨_,rfl⟩,q⟩
 ·obtain⟨u,rfl,r1⟩:=vals1 r
  cases r1;exact call_int_bool ⟨.int (if k then 1 else 0),H,I.tok _,⟨_,rfl⟩,q⟩
end
structure jn (h:Heap) (x dx C:Addr) (mA:Str->Option zz9):Prop where
 obj:h.get? x=some (PySem.W.instObj C dx)
 ns:h.Ns1 dx mA
 ne:dx≠x
theorem qC {h:Heap}{dx:Addr}{mA:Str->Option zz9} (n:h.Ns1 dx mA):∃od,h.get? dx=some od/\∀name,PySem.W.lookIn name od=some (mA name):=by
 obtain⟨o,es,ep,ho,hd,hk,_,hm⟩:=n;refine⟨o,ho,λname=>?_⟩;have e:=hm name;unfold nsFind findBy at e;rw [<- Array.find?_toList] at e;unfold PySem.W.lookIn;rw [hd]
 dsimp only
 split
 ·rename_i y q
  rw [q] at e;exact congrArg some e
 ·rename_i q
  rw [q] at e;have a:es.toList.any (·.refKey)=false:=by
   rw [List.any_eq_false];intro y hy;obtain⟨z,t,Ip⟩:=hk y (Array.mem_toList_iff.mp hy);simp [DictEntry.refKey,Ip]
  have a':¬ es.toList.any (·.refKey)=true:=by rw [a];exact yU
  rw [if_neg a'];exact congrArg some e
theorem jn.look {h:Heap}{x dx C:Addr}{mA:Str->Option zz9} (I:jn h x dx C mA):∃od,PySem.W.InstAt h x (PySem.W.instObj C dx) C (some od)/\∀name,PySem.W.lookIn name od=some (mA name) :=
 let ⟨od,ho,hl⟩:=qC I.ns
 ⟨od,⟨I.obj,rfl,rfl,ho⟩,hl⟩
section
variable {prog:Program}{w:World}{A:Around}{E:zz9->zz8->Prop}{s:zz8}{K:zz7}{x dx C f:Addr}{mA:Str->Option zz9}{name:Str}{v:zz9}
end
theorem cn.some_of {v:V}{o:Option zz9} (r:cn (some v) o):∃u,o=some u/\RelV v u:=by
 cases o with
 | none=>exact (show False from r).elim
 | some u=>exact⟨u,rfl,r⟩
section
variable {P:Program}{w:World}{H H':Hp}{h h':Heap}{a C dx:Addr}{fs Ua:List (Str×V)}
theorem vg (hok:Ds P w H h) (e:H a=some (.ins C dx fs)):∃mA,jn h a dx C mA/\(∀f,cn (fs.lookup f) (mA f))/\PySem.Within mA (fs.map (·.1))/\fs.length<=1000/\H dx=some (.own a):=by
 obtain⟨d,z,ne,ob,mA,n,r,q⟩:=(show aF P w H h a (.ins C dx fs) from hok a _ e)
 exact⟨mA,⟨ob,n,ne⟩,r,q,z,d⟩
end
structure On (K:zz7) (C:Addr):Prop where
 pg:PySem.W.plainGet K C Str.empty=true
 hd:PySem.W.hasDictIn K C=true
 po:PySem.W.plainOver K C=true
 sa:PySem.W.findIn K (.ref C) "__setattr__"=some (some (.builtin "object.__setattr__"))
theorem On.get {K:zz7}{C:Addr} (c:On K C) (f:Str):PySem.W.plainGet K C f=true:=c.pg
structure Con (K:zz7) (C:Addr) (f:Str) (v:V) (u:zz9):Prop where
 at_:PySem.W.findIn K (.ref C) f=some (some u)
 rel:RelV v u
 get:PySem.W.specialIn K u "__get__"=some none
 cp:PySem.W.copiedNames.contains f=false
structure yy (K:zz7) (C:Addr) (m:Str) (f:Addr):Prop where
 at_:PySem.W.findIn K (.ref C) m=some (some (.ref f))
 fn:PySem.W.isFn K (.ref f)=true
 kp:PySem.W.keepIn K (.ref f)=true
section
variable {X:Cx}{pins:List (Addr×Obj)}{σ:St}{H:Hp}{s:zz8}{a C dx:Addr}{fs:List (Str×V)}{f:Str}{v:V}{A:Around}{E:zz9->zz8->Prop}
end
def nZ (X:Cx) (op:Operator) (rd:V->V->Hp->VK->Prop):Prop :=
 ∀(pins:List (Addr×Obj)) (s:zz8) (σ:St) (H:Hp) (x y:V) (u v:zz9) (Q:VK),Inv X pins σ H s->RelV x u->RelV y v->rd x y H Q->wpAny (model X.prog X.w) X.A (inplaceOp op u v) (EP X pins σ Q) X.xe s
section
variable {X:Cx}{o e value:Expr}{f:Str}{pos DH Fj:Pos}{ta tv:TE}
def xx:V->V->Hp->VK->Prop:=λx y H Q=>∃i j,x=.int i/\y=.int j/\Q (.int (i - j)) H
theorem v7:nZ X .Sub xx:=by
 rintro pins s σ H x y u v Q I rx ry ⟨i,j,rfl,rfl,q⟩;obtain⟨t,rfl⟩:=(show ∃t,u=Value.int i t from rx)
 obtain⟨t',rfl⟩:=(show ∃t',v=Value.int j t' from ry)
 exact PyProof.Rows.isub_int ⟨.int (i - j),H,I.tok _,⟨_,rfl⟩,q⟩
end
section
variable {X:Cx}{pins:List (Addr×Obj)}{σ:St}{H:Hp}{s:zz8}{A:Around}{E:zz9->zz8->Prop}{Q:zz9->zz8->Prop}{c:zz9}{b:Bool}
inductive cf (K:zz7) (H:Hp):V->zz9->Prop where
 | non:cf K H .non (.type "NoneType")
 | bl (x:Bool):cf K H (.bl x) (.type "bool")
 | int (i:Int):cf K H (.int i) (.type "int")
 | str (x:Str):cf K H (.str x) (.type "str")
 | flt (x:UInt64):cf K H (.flt x) (.type "float")
 | lst {a:Addr}{xs:List V} (e:H a=some (.lst xs)):cf K H (.ref a) (.type "list")
 | frz {a:Addr}{o:Obj}{xs:List V} (e:H a=some (.frz o (.lst xs))):cf K H (.ref a) (.type "list")
 | tup {a:Addr}{xs:List V} (e:H a=some (.tup xs)):cf K H (.ref a) (.type "tuple")
 | dK {a:Addr}{kvs:List (Key×V)} (e:H a=some (.dK kvs)):cf K H (.ref a) (.type "dict")
 | dT {a:Addr}{kvs:List (List Key×V)} (e:H a=some (.dT kvs)):cf K H (.ref a) (.type "dict")
 | ins {a C dx:Addr}{fs:List (Str×V)} (e:H a=some (.ins C dx fs)) (cl:On K C) (ha:PySem.W.findIn K (.ref C) "__class__"=some (some (.builtin "object.__class__")))
   (hn:PySem.W.specialIn K (.builtin "object.__class__") "__get__"=some (some (.builtin "getset_descriptor.__get__"))) (Eg:PySem.W.takesIn K (.builtin "object.__class__")=some true)
   (hm:PySem.W.mroIn K C (.type "object")=some true):cf K H (.ref a) (.ref C)
theorem qE {x:V}{u t:zz9} (I:Inv X pins σ H s) (rx:RelV x u) (ty:cf X.K H x t) (e:PySem.W.kitOne X.K t c=some b) (h:∀tk,Q (.bool b) { s with toks:=tk }) :
  wpAny (model X.prog X.w) A (call (.builtin "isinstance") [u,c]) Q E s:=by
 cases ty with
 | non=>cases (show u=Value.none from rx);exact Ag PySem.W.kitx_none I.kIn True.intro e (λz=>nomatch z) h
 | bl y=>cases (show u=Value.bool y from rx);exact Ag PySem.W.kitx_bool I.kIn True.intro e (λz=>nomatch z) h
 | int i=>obtain⟨t,q⟩:=(show ∃t,u=Value.int i t from rx);cases q;exact Ag PySem.W.kitx_int I.kIn True.intro e (λz=>nomatch z) h
 | str y=>obtain⟨t,q⟩:=(show ∃t,u=Value.str y t from rx);cases q;exact Ag PySem.W.kitx_str I.kIn True.intro e (λz=>nomatch z) h
 | flt y=>obtain⟨t,q⟩:=(show ∃t,u=Value.float y t from rx);cases q;exact Ag PySem.W.kitx_float I.kIn True.intro e (λz=>nomatch z) h
 | @lst a xs ea =>
  cases (show u=Value.ref a from rx);obtain⟨_,_,n,_,h1⟩:=(show aF X.prog X.w H s.heap a (.lst xs) from I.hok a _ ea)
  exact Ag PySem.W.kitx_list I.kIn ⟨_,h1,rfl⟩ e (λz=>nomatch z) h
 | @frz a ob xs ea =>
  cases (show u=Value.ref a from rx);obtain⟨_,_,_,n,_,h1⟩:=(show aF X.prog X.w H s.heap a (.frz ob (.lst xs)) from I.hok a _ ea)
  exact Ag PySem.W.kitx_list I.kIn ⟨_,h1,rfl⟩ e (λz=>nomatch z) h
 | @tup a xs ea =>
  cases (show u=Value.ref a from rx);obtain⟨_,_,_,p⟩:=(show aF X.prog X.w H s.heap a (.tup xs) from I.hok a _ ea)
  obtain⟨o,h1,h2,_⟩:=p;exact Ag PySem.W.kitx_tuple I.kIn ⟨o,h1,h2⟩ e (λz=>nomatch z) h
 | @dK a kvs ea =>
  cases (show u=Value.ref a from rx);obtain⟨_,_,vs,_,p⟩:=(show aF X.prog X.w H s.heap a (.dK kvs) from I.hok a _ ea)
  obtain⟨o,es,ep,h1,h2,_⟩:=p;exact Ag PySem.W.kitx_dict I.kIn ⟨o,h1,h2.1⟩ e (λz=>nomatch z) h
 | @dT a kvs ea =>
  cases (show u=Value.ref a from rx);obtain⟨_,_,xs,_,o,es,ep,h1,h2,_⟩:=(show aF X.prog X.w H s.heap a (.dT kvs) from I.hok a _ ea)
  exact Ag PySem.W.kitx_dict I.kIn ⟨o,h1,h2.1⟩ e (λz=>nomatch z) h
 | @ins a C dx fs ea cl ha hn Eg hm =>
  cases (show u=Value.ref a from rx);obtain⟨mA,O,_⟩:=vg I.hok ea;obtain⟨od,J,_⟩:=O.look;exact Ag (PySem.W.kitx_own (cl.get _) cl.hd ha hn Eg hm) I.kIn J e (λz=>nomatch z) h
end
structure aN (k:Nat) (A:Around):Prop where
 hd:A.handled=none
 dp:A.depth + 3 * k + 5 < recursionLimit
 un:A.units + 16 * k + 200 < cLine
 gd:A.guards=some []
theorem aN.mono {j k:Nat}{A:Around} (r:aN k A) (h:j<=k):aN j A:=⟨r.hd,by have:=r.dp;omega,by have:=r.un;omega,r.gd⟩
theorem aN.deeper {k:Nat}{A:Around} (r:aN (k + 1) A) (env:Env):aN k (A.deeper env) :=
 ⟨r.hd,by have:=r.dp;show A.depth + 1 + 3 * k + 5 < _;omega,by have:=r.un;show A.units + 3 + 16 * k + 200 < _;omega,r.gd⟩
theorem qb {A:Around}{C:Addr}{us:List zz9}{kw:List (Str×zz9)}:(A.under (.builtin "type.__call__" ⟨.ref C::us,kw⟩)).depth=A.depth + 1:=by
 first | rfl | simp [Around.under,Code.weight,Code.isCreation,Code.isGuard,Code.isCaller,Code.frames,Code.isFrame,guardIds]
theorem qp {A:Around}{C:Addr}{us:List zz9}{kw:List (Str×zz9)}:(A.under (.builtin "type.__call__" ⟨.ref C::us,kw⟩)).units=A.units + 1:=by
 first | rfl | simp [Around.under,Code.cUnits,Code.frames,Code.isFrame]
theorem aN.make {k:Nat}{A:Around} (r:aN (k + 1) A) (C:Addr) (us:List zz9) (kw:List (Str×zz9)):aN k (A.under (.builtin "type.__call__" ⟨.ref C::us,kw⟩)) :=
 ⟨r.hd,by have:=r.dp;rw [qb];omega,by have:=r.un;rw [qp];omega,by first | exact r.gd | simpa [Around.under,Code.isGuard,guardIds] using r.gd⟩
theorem aN.depth {k:Nat}{A:Around} (r:aN k A):A.depth < recursionLimit:=by have:=r.dp;omega
theorem aN.units {k:Nat}{A:Around} (r:aN k A):A.units + 64 < cLine:=by have:=r.un;omega
def xt:TA:=λ_ H Q=>Q [] H
def wD (ta:TE) (tr:TA):TA:=λσ H Q=>ta σ H λx H1=>tr σ H1 λxs H2=>Q (x::xs) H2
section
variable {X:Cx}{e:Expr}{es:List Expr}{te:TE}{t:TA}{pos:Pos}
theorem ae:PA X [] xt:=λ_ _ _ _ H Q I h=>Cz ⟨[],H,I,.nil,h⟩
theorem aa (ha:PE X e te) (hr:PA X es t) (hs:starEach (e::es) X.env=(false,eval e X.env)::starEach es X.env:=by rfl):PA X (e::es) (wD te t):=by
 intro pos pins s σ H Q I h;rw [hs];show wpAny _ _ (spliced ((false,eval e X.env)::backTo pos (starEach es X.env))) _ _ s;refine BK (C4 (ha pins s σ H _ I h) λu s1 ⟨x,H1,I1,r1,q1⟩=>?_);exact C4 (hr pos pins s1 σ H1 _ I1 q1) λus s2 ⟨xs,H2,I2,r2,q2⟩=>⟨x::xs,H2,I2,.cons r1 r2,q2⟩
def xm (t:TA):TE:=λσ H Q=>t σ H λxs H1=>xs.length<=sizeLine/\∀p,H1 p=none->Q (.ref p) (upd H1 p (.tup xs))
def xH (t:TA):TE:=λσ H Q=>t σ H λxs H1=>xs.length<=sizeLine/\∀p,H1 p=none->Q (.ref p) (upd H1 p (.lst xs))
theorem cV {x1} (h:PA X es t):PE X (.Tuple es x1 pos) (xm t):=by
 intro pins s σ H Q I hq;refine wpAny_Tuple_spliced (C4 (h pos pins s σ H _ I hq) λus s1 ⟨xs,H1,I1,r,z,q⟩=>⟨by rw [<- r.length];exact z,?_⟩);have hf:H1 s1.heap.objs.size=none:=I1.hok.fresh (yO _);refine⟨.ref s1.heap.objs.size,upd H1 s1.heap.objs.size (.tup xs),I1.laid (t':=s1.toks) (λb u e=>yB _ e) (yO _) ?_,rfl,q _ hf⟩;exact⟨z,us,r,⟨_,yN _ rfl,rfl,_,rfl⟩⟩
theorem bS (h:PA X es t):PE X (.List es pos) (xH t):=by
 intro pins s σ H Q I hq;refine wpAny_List_spliced (C4 (h pos pins s σ H _ I hq) λus s1 ⟨xs,H1,I1,r,z,q⟩=>⟨by rw [<- r.length];exact z,?_⟩);have hf:H1 s1.heap.objs.size=none:=I1.hok.fresh (yO _);refine⟨.ref s1.heap.objs.size,upd H1 s1.heap.objs.size (.lst xs),I1.laid (t':=s1.toks) (λb u e=>yB _ e) (yO _) ?_,rfl,q _ hf⟩;exact⟨z,us,0,r,yN _ rfl⟩
end
abbrev Sp:=List V->Hp->VK->XK->Prop
abbrev FG:=List Env->Hp->zz8->XK->zz9->zz8->Prop
structure eM (P:Program) (w:World) (K:zz7) (mg:Str->Option zz9) (base:Heap) (A:Around) (outer:List Env) (s:zz8) (H:Hp):Prop where
 frames:A.frames=some outer
 mod:Mod K mg base
 bs:∀b o,base.get? b=some o->s.heap.get? b=some o/\H b=none
 bsz:base.objs.size<=s.heap.objs.size
 funs:s.heap.FunFrames base outer
 frf:∀b∈Dq outer,H b=none
 hok:Ds P w H s.heap
 bare:AllBare s.gens
def CE (outer:List Env) (P:Program) (w:World) (H:Hp) (s:zz8) (Q:VK) (u:zz9) (s':zz8):Prop :=
 ∃v H',s'.os=s.os/\AllBare s'.gens/\Un (Dq outer) [] H H' s.heap s'.heap/\Ds P w H' s'.heap/\RelV v u/\Q v H'
def CR (CX:FG) (outer:List Env) (P:Program) (w:World) (H:Hp) (s:zz8) (Q:VK) (E:XK) (r:Result) (s':zz8):Prop :=
 match r with
 | .ok (.ret u)=>CE outer P w H s Q u s'
 | .ok _=>False
 | .error e=>CX outer H s E e s'
structure aG (P:Program) (w:World) (K:zz7) (mg:Str->Option zz9) (base:Heap) (CX:FG) (k:Nat) (f:Addr) (fd:FuncData) (ps:List Str) (sp:Sp):Prop where
 len:∀vs H Q E,sp vs H Q E->vs.length=ps.length
 run:∀(A:Around) (outer:List Env) (s:zz8) (H:Hp) (args:Args) (us:List zz9) (vs:List V) (Q:VK) (E:XK),aN k A->eM P w K mg base A outer s H->BindsTo s fd args (ps.zip us)->aq vs us->sp vs H Q E ->
  codeAny (model P w) A (.call (.ref f) args) (CR CX outer P w H s Q E) s
theorem eM.make {P:Program}{w:World}{K:zz7}{mg:Str->Option zz9}{base:Heap}{A:Around}{outer:List Env}{s:zz8}{H:Hp} (e:eM P w K mg base A outer s H) (C:Addr) (us:List zz9) (kw:List (Str×zz9)) :
  eM P w K mg base (A.under (.builtin "type.__call__" ⟨.ref C::us,kw⟩)) outer s H:=⟨by first | exact e.frames | (simpa [Around.under,Code.envs,Code.isFrame,pushEnvs] using e.frames),e.mod,e.bs,e.bsz,e.funs,e.frf,e.hok,e.bare⟩
section
variable {X:Cx}{pins:List (Addr×Obj)}{σ:St}{H:Hp}{s s':zz8}
theorem Inv.env0 (I:Inv X pins σ H s):eM X.prog X.w X.K X.mg X.base X.A X.stack s H :=
 ⟨I.ok.frames,I.ok.mod,I.bs,y7 I.ok.bsz I.sz,I.stack,I.stkFree,I.hok,I.bare⟩
theorem Inv.after {Q:VK}{u:zz9} (I:Inv X pins σ H s) (h:CE X.stack X.prog X.w H s Q u s'):EP X pins σ Q u s':=by
 obtain⟨v,H',os,bare,un,hok,r,q⟩:=h;obtain⟨hh,g,d,t,Rt⟩:=s';obtain rfl:Rt=s.os:=os;exact⟨v,H',I.call (h':=hh) (g':=g) (d':=d) (t':=t) (ch:=[]) un hok bare (λb z=>absurd z (by simp)),r,q⟩
end
def nA (sp:Sp) (HE:List V) (E:XK) (t:TA):TE:=λσ H Q=>t σ H λvs H1=>sp (vs++HE) H1 Q E
def Binds (K:zz7) (fd:FuncData) (ps:List Str) (ds:List zz9):Prop :=
 ∀(s:zz8) (us:List zz9),K.In s.heap->(us++ds).length=ps.length->BindsTo s fd ⟨us,[]⟩ (ps.zip (us++ds))
theorem Binds.all {K:zz7}{fd:FuncData}{ps:List Str} (h:∀us:List zz9,us.length=ps.length->bindArgs fd ⟨us,[]⟩=pure (ps.zip us)):Binds K fd ps []:=λs us _ hl=>by
 rw [zt] at hl ⊢;exact .of_eq (h us hl)
def iO (CX:FG) (X:Cx) (E:XK):Prop:=∀(pins:List (Addr×Obj)) (σ:St) (H:Hp) (s:zz8) (e:zz9) (s':zz8),Inv X pins σ H s->CX X.stack H s E e s'->X.xe e s'
section
variable {X:Cx}{CX:FG}{k:Nat}{f C:Addr}{fd:FuncData}{ps:List Str}{sp:Sp}{HE:List V}{ds:List zz9}{E:XK}{x m:Str}{p pos apos:Pos}{e o:Expr}{es:List Expr}{ta:TE}{t:TA}
theorem vM {pins:List (Addr×Obj)}{σ:St}{H:Hp}{s:zz8}{Q:VK}{us:List zz9}{vs:List V} (F:aG X.prog X.w X.K X.mg X.base CX k f fd ps sp) (hr:aN k X.A) (hb:Binds X.K fd ps ds) (hd:aq HE ds) (hx:iO CX X E)
  (I:Inv X pins σ H s) (r:aq vs us) (h:sp (vs++HE) H Q E):wpAny (model X.prog X.w) X.A (call (.ref f) us) (EP X pins σ Q) X.xe s:=by
 have r2:aq (vs++HE) (us++ds):=r.append hd;have hl:(us++ds).length=ps.length:=by rw [<- r2.length];exact F.len _ _ _ _ h
 refine CL (AX (F.run X.A X.stack s H ⟨us,[]⟩ (us++ds) (vs++HE) Q E hr I.env0 (hb s us I.kIn hl) r2 h) λr s' hq=>?_);cases r with
 | error e=>exact hx pins σ H s e s' I hq
 | ok fl =>
  cases fl with
  | ret u=>exact I.after hq
  | next=>exact False.elim hq
  | brk=>exact False.elim hq
  | cont=>exact False.elim hq
theorem uc (F:aG X.prog X.w X.K X.mg X.base CX k f fd ps sp) (hr:aN k X.A) (hg:Gl X x) (hm:X.mg x=some (.ref f)) (hk:PySem.W.keepIn X.K (.ref f)=true) (hb:Binds X.K fd ps ds) (hd:aq HE ds) (hx:iO CX X E)
  (ha:PA X (e::es) t) (FC:(x == ("__debug__":Str))=false:=by decide) (he:starEach (e::es) X.env=(false,eval e X.env)::starEach es X.env:=by rfl) (DK:(backTo pos (starEach es X.env)).any (·.1)=false:=by rfl) :
  PE X (.Call (.Name x p) (e::es) [] pos) (nA sp HE E t):=by
 intro pins s σ H Q I h;refine Bh (fu I hg hm ?_ FC);refine PySem.W.callWith_K (h₀:=X.base) I.ok.mod.kin hk (C4 (ha pos pins s σ H _ I h) λus s1 ⟨vs,H1,I1,r,q⟩=>⟨I1.kIn,?_⟩) he DK;exact vM F hr hb hd hx I1 r q
structure Mk (K:zz7) (C f:Addr):Prop where
 makes:PySem.W.makesIn K C=true
 init:PySem.W.findIn K (.ref C) "__init__"=some (some (.ref f))
 fn:PySem.W.isFn K (.ref f)=true
 kp:PySem.W.keepIn K (.ref C)=true
end
section
variable {X:Cx}{CX:FG}{k:Nat}{f C:Addr}{fd:FuncData}{ps ks:List Str}{sp:Sp}{E:XK}{x m:Str}{p pos apos Sx:Pos}{e o:Expr}{es:List Expr}{kws:List Keyword}{te ta:TE}{t tk:TA}{nm:Option Str}
structure yt (K:zz7) (fd:FuncData) (ps ks:List Str) (g:List zz9->List zz9->List zz9) (gV:List V->List V->List V):Prop where
 to:∀(s:zz8) (us ws:List zz9),K.In s.heap->(g us ws).length=ps.length->BindsTo s fd ⟨us,ks.zip ws⟩ (ps.zip (g us ws))
 rel:∀{vs:List V}{us:List zz9}{zs:List V}{ws:List zz9},aq vs us->aq zs ws->aq (gV vs zs) (g us ws)
variable {g:List zz9->List zz9->List zz9}{gV:List V->List V->List V}
end
structure aM (N P:List Str) (sc:Scope):Prop where
 kind:sc.kind=.function
 co:sc.isCoroutine=false
 gen:sc.isGenerator=false
 nd:N.Nodup
 pre:N.take P.length=P
 par:∀x∈P,sc.names.lookup x=some .local\/sc.names.lookup x=some .cell
 nofree:∀y∈sc.names,y.2≠.free
theorem j9 {kindOf:Str->Option NameKind}{x:Str}:∀{binds:List (Str×zz9)}{m:Str->Option zz9},(∀v,(x,v)∉binds)->bindL kindOf binds m x=m x
 | [],_,_=>rfl
 | (n,v)::r,m,h=>by
  unfold bindL;rw [j9 λw hw=>h w (yT _ hw)];split
  ·have:x≠n:=by rintro rfl;exact h v yG
   simp [this]
  ·rfl
theorem j5 {kindOf:Str->Option NameKind}{x:Str}:∀{binds:List (Str×zz9)}{m:Str->Option zz9},(∀v,(x,v)∉binds)->bindC kindOf binds m x=m x
 | [],_,_=>rfl
 | (n,v)::r,m,h=>by
  unfold bindC;rw [j5 λw hw=>h w (yT _ hw)];split
  ·rfl
  ·have:x≠n:=by rintro rfl;exact h v yG
   simp [this]
theorem j8 {kindOf:Str->Option NameKind}{x:Str}{v:zz9}:∀{P:List Str}{vs:List zz9}{i:Nat}{m:Str->Option zz9},P.Nodup->P[i]?=some x->vs[i]?=some v->kindOf x=some .local ->
  bindL kindOf (P.zip vs) m x=some v
 | [],_,_,_,_,h,_,_=>by simp at h
 | _::_,[],_,_,_,_,h,_=>by simp at h
 | p::P,w::vs,0,m,nd,h1,h2,hk=>by
  simp at h1 h2;subst h1;subst h2;show bindL kindOf ((p,w)::P.zip vs) m p=_;unfold bindL;rw [j9 λv hv=>(zb.mp nd).1 (CY hv).1,if_pos hk];simp
 | p::P,w::vs,i + 1,m,nd,h1,h2,hk=>by
  show bindL kindOf ((p,w)::P.zip vs) m x=_;unfold bindL;exact j8 (i:=i) (zb.mp nd).2 (by simpa using h1) (by simpa using h2) hk
theorem jO {kindOf:Str->Option NameKind}{x:Str}{v:zz9}:∀{P:List Str}{vs:List zz9}{i:Nat}{m:Str->Option zz9},P.Nodup->P[i]?=some x->vs[i]?=some v->kindOf x≠some .local ->
  bindC kindOf (P.zip vs) m x=some v
 | [],_,_,_,_,h,_,_=>by simp at h
 | _::_,[],_,_,_,_,h,_=>by simp at h
 | p::P,w::vs,0,m,nd,h1,h2,hk=>by
  simp at h1 h2;subst h1;subst h2;show bindC kindOf ((p,w)::P.zip vs) m p=_;unfold bindC;rw [j5 λv hv=>(zb.mp nd).1 (CY hv).1,if_neg hk];simp
 | p::P,w::vs,i + 1,m,nd,h1,h2,hk=>by
  show bindC kindOf ((p,w)::P.zip vs) m x=_;unfold bindC;exact jO (i:=i) (zb.mp nd).2 (by simpa using h1) (by simpa using h2) hk
def start (N:List Str) (vs:List V):St:=vs.map some++List.replicate (N.length - vs.length) none
def du (CX:FG) (P:Program) (w:World) (K:zz7) (mg:Str->Option zz9) (base:Heap) (N:List Str) (qual:Str) (scope:Scope) (f:Addr) (cd:zz9) (A:Around) (outer:List Env) (s:zz8) (H:Hp) (E:XK):Cx where
 prog:=P
 w:=w
 K:=K
 mg:=mg
 base:=base
 A:=A.deeper (envOfC qual scope s.heap.objs.size f cd)
 N:=N
 s₀:=s
 H₀:=H
 env:=envOfC qual scope s.heap.objs.size f cd
 outer:=outer
 stack:=envOfC qual scope s.heap.objs.size f cd::outer
 ex:=[]
 calm:=true
 fn:=λ_=>true
 pn:=[]
 xe:=λe s'=>wpAny (model P w) (A.deeper (envOfC qual scope s.heap.objs.size f cd)) (leaving (envOfC qual scope s.heap.objs.size f cd) e) (λ_ HS=>CX outer H s E e HS) (λe' HS=>CX outer H s E e' HS) s'
theorem kO {sc:Scope}{n:Nat}{x:Str} (h:sc.names.lookup x=some .cell):∃c,(cellsFrom n sc.names []).lookup x=some c:=by
 have q:=PySem.W.cellsFrom_some sc.names n [] (.inl h);exact CN.mp q
theorem rS {CX:FG}{P:Program}{w:World}{K:zz7}{mg:Str->Option zz9}{base:Heap}{N ps:List Str}{qual:Str}{scope:Scope}{f:Addr}{cd:zz9}{A:Around}{outer:List Env}{s s1:zz8}{H:Hp}{E:XK}{us:List zz9}{vs:List V}
  (S:aM N ps scope) (hd:A.handled=none) (e0:eM P w K mg base A outer s H) (hl:vs.length=ps.length) (r:aq vs us)
  (x:InCallC s s.heap.objs.size (bindL (envOfC qual scope s.heap.objs.size f cd).kindOf (ps.zip us) λ_=>none) (cellsFrom (s.heap.objs.size + 1) scope.names []) (bindC (envOfC qual scope s.heap.objs.size f cd).kindOf (ps.zip us) λ_=>none) s1) :
  Inv (du CX P w K mg base N qual scope f cd A outer s H E) [] (start N vs) H s1:=by
 have DK:ps.length<=N.length:=by have:=congrArg List.length S.pre;rw [zF] at this;omega
 obtain⟨h1,tk,rfl,hk⟩:=x.done;have JX:∀b:Addr,b∉(du CX P w K mg base N qual scope f cd A outer s H E).ex:=λb z=>absurd (show b∈([]:List Addr) from z) (by simp)
 refine⟨⟨e0.mod,S.kind,rfl,rfl,yO _,λy z c h1 h2=>?_,λy hy=>?_,λy c _ h=>?_,λ_=>hd,Around.frames_deeper e0.frames,.inr ⟨rfl,rfl⟩,λb z=>absurd z (JX b),e0.bs,e0.bsz,λb _ _=>JX b,λb z=>absurd z (JX b),e0.funs,e0.frf⟩,
  rfl,e0.bare,Un.kept hk,⟨_,x.toInCall.ns,λi y v h1 h2 h3=>?_⟩,λy c h=>⟨_,x.cell y c h⟩,e0.hok.fresh (yO _),λy c h=>?_,λp hp=>absurd (show p∈([]:List (Addr×Obj)) from hp) (by simp),e0.hok.kept hk,?_⟩
 ·exact name_of_addr x.apart (Ax h1) (Ax h2)
 ·have hy:scope.names.lookup y=some .cell\/scope.names.lookup y=some .free:=hy
  rcases hy with hy | hy
  ·exact kO hy
  ·exact absurd rfl (S.nofree _ (Ax hy))
 ·exact Am (x.above y c (Ax h))
 ·have hi:i < vs.length:=by
   unfold start at h2
   by_cases hi:i < vs.length
   ·exact hi
   ·rw [List.getElem?_append_right (by simpa using hi)] at h2
    rw [List.getElem?_replicate] at h2;split at h2 <;> cases h2
  have ha:vs[i]?=some v:=by
   unfold start at h2;rw [Ak (by simpa using hi),yR] at h2;cases e:vs[i]? with
   | none=>rw [e] at h2;cases h2
   | some a=>rw [e] at h2;cases h2;rfl
  obtain⟨u,hu,rv⟩:=r.get ha;have hp:ps[i]?=some y:=by
   rw [<- S.pre,List.getElem?_take_of_lt (by omega)];exact h1
  have OY:ps.Nodup:=by rw [<- S.pre];exact S.nd.sublist (CA _ _)
  refine⟨u,rv,?_⟩
  rcases S.par y (yP hp) with k | k
  ·exact .inl ⟨k,j8 OY hp hu k⟩
  ·obtain⟨c,e⟩:=kO (n:=s.heap.objs.size + 1) k
   refine .inr ⟨.inl k,c,e,?_⟩;have q:=x.cell y c e;rw [jO OY hp hu (by show scope.names.lookup y≠_;rw [k];decide)] at q;exact q
 ·exact e0.hok.fresh (Am (x.above y c (Ax h)))
 ·unfold start
  show _=N.length;rw [zc,yA,List.length_replicate];omega
theorem m6 {CX:FG}{P:Program}{w:World}{K:zz7}{mg:Str->Option zz9}{base:Heap}{k:Nat}{f:Addr}{name qual:Str}{params:Arguments}{body:List Stmt}{scope:Scope}{dV kV doc pm DB ct oc:zz9}{an od:Option Addr}
  {GG:Array (Option zz9)}{N ps:List Str}{sp:Sp} (lk:K.lookup f=some ⟨oc,od,.func (PySem.W.fnOf name qual params body scope dV kV doc pm an DB ct),GG⟩) (FE:PySem.W.codeIn K DB qual=true) (S:aM N ps scope)
  (len:∀vs H Q E,sp vs H Q E->vs.length=ps.length)
  (EC:∀(A:Around) (outer:List Env) (s:zz8) (H:Hp) (vs:List V) (Q:VK) (E:XK),aN k (A.deeper (envOfC qual scope s.heap.objs.size f DB))->sp vs H Q E ->
   ∃t,EO (du CX P w K mg base N qual scope f DB A outer s H E) body t/\t { nx:=λ_ H'=>Q .non H',rt:=Q } (start N vs) H) :
  aG P w K mg base CX (k + 1) f (PySem.W.fnOf name qual params body scope dV kV doc pm an DB ct) ps sp:=by
 refine⟨len,λA outer s H args us vs Q E hr e0 hb r EM=>?_⟩;have hl:=len _ _ _ _ EM;have KX:K.In s.heap:=e0.mod.kin.keeps λb o e=>(e0.bs b o e).1;have lim:s.heap.NoLimit:=e0.mod.nolimit.keeps λb o e=>(e0.bs b o e).1;have Kn:∀y∈ps.zip us,scope.names.lookup y.1=some .local\/(scope.names.lookup y.1=some .cell/\((cellsFrom (s.heap.objs.size + 1) scope.names []).lookup y.1).isSome=true):=λ⟨n,v⟩ hy=>by
  rcases S.par n (CY hy).1 with q | q
  ·exact .inl q
  ·exact .inr ⟨q,PySem.W.cellsFrom_some _ _ _ (.inl q)⟩
 refine codeAny_call_function hr.depth (KX _ _ lk) rfl S.co S.gen rfl (PySem.W.codeRec_of KX FE) (hb _ _ _ _ ?_);refine wpAny_newFunctionEnv_cells S.kind Kn λenv he s1 x=>?_;subst he;refine⟨lim.keeps x.toInCall.keep,codeAny_func ?_⟩;obtain⟨t,ht,hq⟩:=EC A outer s H vs Q E (hr.deeper _) EM;have I:Inv (du CX P w K mg base N qual scope f DB A outer s H E) [] (start N vs) H s1:=rS S hr.hd e0 hl r x;refine zJ (ht [] s1 (start N vs) H _ I hq) (λfl s' hs=>?_) λe s' hs=>hs;have fin:∀{σ':St}{H':Hp}{v:V}{u:zz9},Inv (du CX P w K mg base N qual scope f DB A outer s H E) [] σ' H' s'->RelV v u->Q v H'->CE outer P w H s Q u s' :=
  λ{σ' H' v u} J rv q=>⟨v,H',J.os,J.bare,J.base,J.hok,rv,q⟩
 cases fl with
 | ret u =>
  obtain⟨v,σ',H',J,rv,q⟩:=hs;exact fin J rv q
 | next =>
  obtain⟨σ',H',J,q⟩:=hs;exact fin (v:=V.non) (u:=Value.none) J rfl q
 | brk =>
  obtain⟨_,_,_,q⟩:=hs;exact False.elim q
 | cont =>
  obtain⟨_,_,_,q⟩:=hs;exact False.elim q
section
variable {X:Cx}{x:Str}{p pos:Pos}{e:Expr}{es:List Expr}{t:TA}{id T:String}{r:List V->Hp->VK->Prop}
def OB (r:List V->Hp->VK->Prop) (t:TA):TE:=λσ H Q=>t σ H λvs H1=>r vs H1 Q
theorem ay (hc:aZ X (.builtin id) r) (hg:Gl X x) (hm:X.mg x=none) (hv:bootBuiltins x=some (.builtin id)) (ha:PA X (e::es) t) (hn:x≠"__name__":=by decide) (FC:(x == ("__debug__":Str))=false:=by decide)
  (he:starEach (e::es) X.env=(false,eval e X.env)::starEach es X.env:=by rfl) (DK:(backTo pos (starEach es X.env)).any (·.1)=false:=by rfl):PE X (.Call (.Name x p) (e::es) [] pos) (OB r t):=by
 intro pins s σ H Q I h;refine Bh (dE I hg hm hv ?_ hn FC);exact PyProof.Rows.callWith_builtin1 (C4 (ha pos pins s σ H _ I h) λus s1 ⟨vs,H1,I1,r1,q1⟩=>hc pins s1 σ H1 vs us Q I1 r1 q1) he DK
theorem bV (hc:aZ X (.type T) r) (hg:Gl X x) (hm:X.mg x=none) (hv:bootBuiltins x=some (.type T)) (ha:PA X (e::es) t) (hn:x≠"__name__":=by decide) (FC:(x == ("__debug__":Str))=false:=by decide)
  (he:starEach (e::es) X.env=(false,eval e X.env)::starEach es X.env:=by rfl) (DK:(backTo pos (starEach es X.env)).any (·.1)=false:=by rfl):PE X (.Call (.Name x p) (e::es) [] pos) (OB r t):=by
 intro pins s σ H Q I h;refine Bh (dE I hg hm hv ?_ hn FC);exact Av (C4 (ha pos pins s σ H _ I h) λus s1 ⟨vs,H1,I1,r1,q1⟩=>hc pins s1 σ H1 vs us Q I1 r1 q1) he DK
end
end L2
namespace HT
open PySem PyProof.Rows
theorem yj (A:Around) (s:zz8) (a:Int) (t:Tok) (c:Int) (u:Tok) (prog:Program) (w:World) (E:zz9->zz8->Prop) (Q:zz9->zz8->Prop) (h:Q (.bool (decide (a < c))) s) :
  wpAny (model prog w) A (richCompare .Lt (.int a t) (.int c u)) Q E s :=
 (PyProof.Rows.lt_int h:wpAny (model prog w) A (compareOp .Lt (.int a t) (.int c u)) Q E s)
section
open PySem.SeqAt
open PySem.AutoSeq1 (wpAny_loadPart')
open PySem.MeetsSeq PySem.MeetsSeq2 PySem.MeetsSeq3
end
section
variable {prog:Program}{w:World}{A:Around}{E:zz9->zz8->Prop}{s:zz8}
theorem ym {t b:Addr}{vs ws:List zz9}{Q:zz9->zz8->Prop} (ht:IsTup s.heap t vs.toArray) (hb:IsTup s.heap b ws.toArray) (hv:vs≠[])
  (h1:ws=[]->Q (.ref t) s) (h2:ws≠[]->Q (.ref s.heap.objs.size) { s with heap:=s.heap.push { cls:=.type "tuple",data:=.seq (vs++ws).toArray } })
  (hsz:vs.length + ws.length<=sizeLine):wpAny (model prog w) A (binaryOp .Add (.ref t) (.ref b)) Q E s:=by
 obtain⟨⟨cls,dd,data,sl⟩,ho,hc,n,hd⟩:=id ht;obtain⟨⟨KM,HF,data2,Hg⟩,EA,FF,n2,hd2⟩:=id hb;simp only at hc hd FF hd2;subst hc hd FF hd2;have e:vs.toArray++ws.toArray=(vs++ws).toArray:=by simp
 by_cases hw:ws=[]
 ·exact concat_meets ⟨_,ho,rfl⟩ ⟨_,EA,rfl⟩ noFill_tuple_add seq_tuple_add BX BR (BL _ _)
   (tuple_addW1 t b vs.toArray ws.toArray n n2 dd HF sl Hg (by simpa using hv) (by simp [hw])) ⟨ho,EA,h1 hw⟩
 ·refine concat_meets ⟨_,ho,rfl⟩ ⟨_,EA,rfl⟩ noFill_tuple_add seq_tuple_add BX BR (BL _ _)
   (tuple_addW2 t b vs.toArray ws.toArray n n2 dd HF sl Hg (by simpa using hv) (by simpa using hw) (by rw [yS,yS];exact hsz)) ⟨ho,EA,?_⟩
  rw [e];exact h2 hw
end
end HT
namespace L2
open PySem PySem.Spec PyProof.Rows
abbrev TO:=St->Hp->(Option Int->Hp->Prop)->Prop
def PO (X:Cx) (e:Option Expr) (t:TO):Prop :=
 ∀(pins:List (Addr×Obj)) (s:zz8) (σ:St) (H:Hp) (Q:Option Int->Hp->Prop),Inv X pins σ H s->t σ H Q ->
  wpAny (model X.prog X.w) X.A (evalPart e X.env) (λu s'=>∃o H',Inv X pins σ H' s'/\IsPart u o/\Q o H') X.xe s
def u6:TO:=λ_ H Q=>Q none H
def wF (t:TE):TO:=λσ H Q=>t σ H λx H1=>∃i,x=.int i/\Q (some i) H1
section
variable {X:Cx}{e:Expr}{te:TE}{lo hi:Option Expr}{tl th:TO}{pos p2:Pos}
theorem uz:PO X none u6:=by
 intro pins s σ H Q I h;rw [evalPart_none];exact yC ⟨none,H,I,.none,h⟩
theorem uX (h:PE X e te):PO X (some e) (wF te):=by
 intro pins s σ H Q I hw;rw [evalPart_some];refine C4 (h pins s σ H _ I hw) λu s1 ⟨x,H1,I1,r1,q1⟩=>?_;obtain⟨i,rfl,q⟩:=q1;obtain⟨t,rfl⟩:=r1;exact⟨some i,H1,I1,.int i t,q⟩
def QD (X:Cx) (r:V->Option Int->Option Int->Hp->VK->Prop):Prop :=
 ∀(pins:List (Addr×Obj)) (s:zz8) (σ:St) (H:Hp) (x:V) (v vl vu:zz9) (lo hi:Option Int) (sl:Addr) (Q:VK),Inv X pins σ H s->RelV x v->s.heap.IsSliceOf sl vl vu .none->IsPart vl lo->IsPart vu hi->r x lo hi H Q ->
  ∃T id,typeLookup (.type T) "__getitem__"=pure (some (.builtin id))/\s.TypeIs v T/\wpAny (model X.prog X.w) X.A (getItem v (.ref sl)) (EP X pins σ Q) X.xe s
def Q2 (r:V->Option Int->Option Int->Hp->VK->Prop) (te:TE) (tl th:TO):TE:=λσ H Q=>te σ H λx H1=>tl σ H1 λl H2=>th σ H2 λu H3=>r x l u H3 Q
theorem sg {r:V->Option Int->Option Int->Hp->VK->Prop} (hr:QD X r) (he:PE X e te) (hl:PO X lo tl) (hu:PO X hi th):PE X (.Subscript e (.Slice lo hi none p2) pos) (Q2 r te tl th):=by
 intro pins s σ H Q I h;refine Subscript_ (C4 (he pins s σ H _ I h) λv s1 ⟨x,H1,I1,r1,q1⟩=>?_);refine wpAny_Slice (C4 (hl pins s1 σ H1 _ I1 q1) λvl s2 ⟨l,H2,I2,pl,q2⟩=>C4 (hu pins s2 σ H2 _ I2 q2) λvu s3 ⟨u,H3,I3,pu,q3⟩=>?_);rw [evalPart_none];refine yC ?_;have I4:Inv X pins σ H3 { s3 with heap:=s3.heap.push { cls:=.type "slice",data:=.fields #[vl,vu,.none] } }:=I3.kept (t':=s3.toks) λb ob q=>yB _ q;obtain⟨T,id,hT,ht,hg⟩:=hr pins { s3 with heap:=s3.heap.push { cls:=.type "slice",data:=.fields #[vl,vu,.none] } } σ H3 x v vl vu l u s3.heap.objs.size Q I4 r1 (Heap.IsSliceOf.new ..) pl pu q3;show wpAny (model X.prog X.w) X.A (subscriptTail e (.Slice lo hi none p2) v (.ref s3.heap.objs.size)) (EP X pins σ Q) X.xe { s3 with heap:=s3.heap.push { cls:=.type "slice",data:=.fields #[vl,vu,.none] } };exact tail_any (ops:=[.ref s3.heap.objs.size,v]) ht hT hg (by with_unfolding_all rfl)
def wu (K:zz7):R2:=λx y H Q=>∃a b xs ys,x=.ref a/\y=.ref b/\C2 K H a xs/\C2 K H b ys/\xs≠[]/\xs.length + ys.length<=sizeLine /\
 (ys=[]->Q (.ref a) H)/\(ys≠[]->∀p,H p=none->Q (.ref p) (upd H p (.tup (xs++ys))))
theorem aq.nil_iff {xs:List V}{us:List zz9} (r:aq xs us):us=[] ↔ xs=[]:=by
 cases r with
 | nil=>simp
 | cons _ _=>simp
theorem uH:Dz X (binaryOp .Add) (wu X.K):=by
 intro pins s σ H x y v u Q I rx ry h;obtain⟨a,b,xs,ys,rfl,rfl,ha,hb,hx,hz,q1,q2⟩:=h;cases rx;cases ry;obtain⟨C1,r1,p1,_⟩:=I.tuple ha;obtain⟨DC,r2,p2,_⟩:=I.tuple hb;refine HT.ym p1 p2 (λz=>hx (r1.nil_iff.mp z)) (λz=>⟨.ref a,H,I,rfl,q1 (r2.nil_iff.mp z)⟩) (λz=>?_) (by rw [<- r1.length,<- r2.length];exact hz);refine⟨.ref s.heap.objs.size,_,I.laid (t':=s.toks) (o:=.tup (xs++ys)) (λb ob q=>yB _ q) (yO _) ?_,rfl,q2 (λw=>z (r2.nil_iff.mpr w)) _ (I.hok.fresh (yO _))⟩;exact⟨by rw [zc];exact hz,_,r1.append r2,IsTup.new _ _⟩
end
def GJ (n:Nat) (i:Int):Option Nat:=if 0<=i then (if i < n then some i.toNat else none) else if -(n:Int)<=i then some (i + n).toNat else none
def Gy {α:Type} (xs:List α) (i:Int):Option α:=(GJ xs.length i).bind λj=>xs[j]?
theorem lJ {n:Nat}{i:Int}{j:Nat} (h:GJ n i=some j):seqIndex? i n=some j/\j < n/\-(n:Int)<=i/\i < n:=by
 unfold GJ at h
 by_cases h0:0<=i
 ·rw [if_pos h0] at h
  by_cases h1:i < n
  ·rw [if_pos h1] at h
   have e:i.toNat=j:=zy h;exact⟨by rw [seqIndex_of h0 h1,e],by omega,by omega,h1⟩
  ·rw [if_neg h1] at h;cases h
 ·rw [if_neg h0] at h
  by_cases h1:-(n:Int)<=i
  ·rw [if_pos h1] at h
   have e:(i + n).toNat=j:=zy h;exact⟨by rw [seqIndex_neg (by omega) h1,e],by omega,h1,by omega⟩
  ·rw [if_neg h1] at h;cases h
theorem iH {α:Type}{xs:List α}{i:Int}{v:α} (h:Gy xs i=some v):∃j,seqIndex? i xs.length=some j/\xs[j]?=some v/\j < xs.length/\-(xs.length:Int)<=i/\i < xs.length:=by
 unfold Gy at h;cases e:GJ xs.length i with
 | none=>rw [e] at h;cases h
 | some j =>
  rw [e] at h;obtain⟨h1,h2,h3,h4⟩:=lJ e;exact⟨j,h1,h,h2,h3,h4⟩
theorem vk {α:Type}{xs:List α}{j:Nat}{v:α} (h:xs[j]?=some v):Gy xs (j:Int)=some v:=by
 have hj:j < xs.length:=(yV.mp h).1;have e:GJ xs.length (j:Int)=some j:=by
  unfold GJ;rw [if_pos (by omega),if_pos (by omega)];simp
 unfold Gy;rw [e];exact h
theorem tX {α:Type} (xs:List α) (v:α):Gy (xs++[v]) (-1)=some v:=by
 have hl:(xs++[v]).length=xs.length + 1:=by simp
 have e:GJ (xs++[v]).length (-1)=some xs.length:=by
  unfold GJ;rw [hl,if_neg (by decide),if_pos (by omega)]
  congr 1
  omega
 unfold Gy;rw [e];show (xs++[v])[xs.length]?=some v;simp
def lu (b:Expr):Prop:=∀o i,subscripted b false o i=operate [o,i] (getItem o i)
def Gj (X:Cx) (r:R2):Prop :=
 ∀(value slice:Expr) (pins:List (Addr×Obj)) (s:zz8) (σ:St) (H:Hp) (x y:V) (v u:zz9) (Q:VK),Inv X pins σ H s->RelV x v->RelV y u->r x y H Q ->
  subscripted slice false v u=operate [v,u] (getItem v u)->wpAny (model X.prog X.w) X.A (subscriptTail value slice v u) (EP X pins σ Q) X.xe s
def Oc (X:Cx) (id:String) (r:V->List V->Hp->VK->Prop):Prop :=
 ∀(pins:List (Addr×Obj)) (s:zz8) (σ:St) (H:Hp) (x:V) (xs:List V) (v:zz9) (us:List zz9) (Q:VK),Inv X pins σ H s->RelV x v->aq xs us->r x xs H Q ->
  wpAny (model X.prog X.w) X.A (call (.builtin id) (v::us)) (EP X pins σ Q) X.xe s
section
variable {X:Cx}{a b:Expr}{ta tb:TE}{pos:Pos}
theorem Gj.or {r r':R2} (h:Gj X r) (h':Gj X r'):Gj X (λx y H Q=>r x y H Q\/r' x y H Q):=by
 intro value slice pins s σ H x y v u Q I rx ry q hs
 rcases q with q | q
 ·exact h value slice pins s σ H x y v u Q I rx ry q hs
 ·exact h' value slice pins s σ H x y v u Q I rx ry q hs
theorem aA {r:R2} (hr:Gj X r) (ha:PE X a ta) (hb:PE X b tb) (hs:lu b):PE X (.Subscript a b pos) (K0 r ta tb):=by
 intro pins s σ H Q I h;exact Subscript_ (jw ha hb I h λv u s2 x y H2 I2 rx ry q=>hr a b pins s2 σ H2 x y v u Q I2 rx ry q (hs _ _))
def om (K:zz7):R2:=λx y H Q=>∃p xs i v,x=.ref p/\y=.int i/\C3 K H p xs/\Gy xs i=some v/\Q v H
def nM (K:zz7):R2:=λx y H Q=>∃p xs i v,x=.ref p/\y=.int i/\C2 K H p xs/\Gy xs i=some v/\Q v H
def nQ:R2:=λx y H Q=>∃z i c,x=.str z/\y=.int i/\z.length<=sizeLine/\Gy z.cps.toList i=some c/\Q (.str ⟨#[c]⟩) H
theorem ud:Gj X (om X.K):=by
 intro value slice pins s σ H x y v u Q I rx ry h hs;obtain⟨p,xs,i,z,rfl,rfl,hq,he,q⟩:=h;cases rx;obtain⟨t,rfl⟩:=ry;obtain⟨C1,r,pl,hz⟩:=I.list hq;obtain⟨j,h1,h2,h3,h4,h5⟩:=iH he;obtain⟨w,ew,DY⟩:=r.get h2;have hl:=r.length;have hn:=eD;have fin:EP X pins σ Q w s:=⟨z,H,I,DY,q⟩
 by_cases h0:0<=i
 ·have hj:i.toNat=j:=by
   rw [seqIndex_of h0 h5] at h1;exact zy h1
  exact item_listR pl.isList h0 (by omega) (by rw [hj];simpa using ew) fin hs
 ·have hj:(i + (C1.toArray.size:Int)).toNat=j:=by
   rw [seqIndex_neg (by omega) h4] at h1;rw [yS,<- hl];exact zy h1
  exact subscriptTail_builtinR (x:=w) pl.isList.typeIs slot_list_getitem.lookup
   (wpAny_getItem_list_neg (Q:=λr s'=>r=w/\EP X pins σ Q r s') pl.isList (by omega) (by rw [yS] <;> omega) (by omega) (by rw [hj];simpa using ew) ⟨rfl,fin⟩) hs
theorem vE:Gj X (nM X.K):=by
 intro value slice pins s σ H x y v u Q I rx ry h hs;obtain⟨p,xs,i,z,rfl,rfl,hq,he,q⟩:=h;cases rx;obtain⟨t,rfl⟩:=ry;obtain⟨C1,r,pl,hz⟩:=I.tuple hq;obtain⟨j,h1,h2,h3,h4,h5⟩:=iH he;obtain⟨w,ew,DY⟩:=r.get h2;have hl:=r.length;have hn:=eD;have fin:EP X pins σ Q w s:=⟨z,H,I,DY,q⟩
 exact subscriptTail_builtinR (x:=w) pl.typeIs slot_tuple_getitem.lookup
  (getItem_tuple (j:=j) (Q:=λr s'=>r=w/\EP X pins σ Q r s') pl (by omega) (by omega) (by rw [yS,<- hl];exact h1) (by simpa using ew) ⟨rfl,fin⟩) hs
theorem vX:Gj X nQ:=by
 intro value slice pins s σ H x y v u Q I rx ry h hs;obtain⟨z,i,c,rfl,rfl,hz,he,q⟩:=h;obtain⟨t,rfl⟩:=rx;obtain⟨t',rfl⟩:=ry;obtain⟨j,h1,h2,h3,h4,h5⟩:=iH he;have hl:z.cps.toList.length=z.length:=by simp [Str.length]
 rw [hl] at h1 h4 h5;have hn:=eD
 exact tail_any (typeIs_str s z t) slot_str_getitem.lookup (getItem_str (c:=c) (by
  have e1:decide (i < -(2 ^ 63:Int))=false:=decide_eq_false (by omega);have e2:decide (i ≥ 2 ^ 63)=false:=decide_eq_false (by omega)
  rw [e1,e2,Bool.or_false]) (by rw [h1];simpa using h2) ⟨.str ⟨#[c]⟩,H,I.tok _,⟨_,rfl⟩,q⟩) hs
def Mi (K:zz7):R2:=λx y H Q=>om K x y H Q\/nM K x y H Q\/nQ x y H Q
theorem aI:Gj X (Mi X.K):=ud.or (vE.or vX)
theorem qe (C1:List zz9) (n j:Nat) (u:zz9):Obj.mapSeq (·.setIfInBounds j u) { cls:=.type "list",data:=.seq C1.toArray n }={ cls:=.type "list",data:=.seq (C1.set j u).toArray n }:=by
 simp [Obj.mapSeq]
theorem Inv.lst {pins:List (Addr×Obj)}{σ:St}{H:Hp}{s:zz8}{p:Addr}{xs:List V} (I:Inv X pins σ H s) (h:H p=some (.lst xs)) :
  ∃(C1:List zz9) (n:Nat),aq xs C1/\s.heap.get? p=some { cls:=.type "list",data:=.seq C1.toArray n }/\xs.length<=sizeLine:=by
 obtain⟨z,C1,n,r,e⟩:=I.hok p _ h;exact⟨C1,n,r,e,z⟩
theorem Inv.lstUpd {pins:List (Addr×Obj)}{σ:St}{H:Hp}{s:zz8}{p:Addr}{xs ys:List V}{C1 its':List zz9}{n n':Nat}{f:Obj->Obj} (I:Inv X pins σ H s) (h:H p=some (.lst xs))
  (ho:s.heap.get? p=some { cls:=.type "list",data:=.seq C1.toArray n }) (hf:f { cls:=.type "list",data:=.seq C1.toArray n }={ cls:=.type "list",data:=.seq its'.toArray n' }) (r:aq ys its') (hz:ys.length<=sizeLine) (t:Nat) :
  Inv X pins σ (upd H p (.lst ys)) { s with heap:=s.heap.update p f,toks:=t }:=by
 have e:(s.heap.update p f).get? p=some { cls:=.type "list",data:=.seq its'.toArray n' }:=by
  rw [zu f ho (by rw [hf] <;> rfl),hf]
 refine I.write (x:=p) (e:=p) (by rw [h];trivial) (.inl rfl) (λb u hb q=>(yX _ _ (zP hb)).trans q) ⟨_,e⟩ ?_;exact⟨hz,its',n',r,e⟩
def wz:V->V->V->Hp->(Hp->Prop)->Prop:=λo i v H Q=>∃p xs k j,o=.ref p/\i=.int k/\H p=some (.lst xs)/\GJ xs.length k=some j/\Q (upd H p (.lst (xs.set j v)))
theorem set_list:nX X wz:=by
 intro pins s σ H o i v ov iv u Q I ro ri rv h;obtain⟨p,xs,k,j,rfl,rfl,hp,hj,q⟩:=h;cases ro;obtain⟨t,rfl⟩:=ri;obtain⟨C1,n,r,ho,hz⟩:=I.lst hp;obtain⟨h1,h2,h3,h4⟩:=lJ hj;have hl:=r.length;have hn:=eD;have I':Inv X pins σ (upd H p (.lst (xs.set j v))) { s with heap:=s.heap.update p (Obj.mapSeq (·.setIfInBounds j u)) } :=
  I.lstUpd hp ho (qe C1 n j u) (r.set rv j) (by rw [List.length_set];exact hz) s.toks
 by_cases h0:0<=k
 ·have hk:k.toNat=j:=by
   rw [seqIndex_of h0 h4] at h1;exact zy h1
  exact PySem.W.ki_setAt ho h0 (by omega) (by rw [yS,<- hl];exact h4) (by rw [hk];exact⟨_,I',q⟩)
 ·have hk:(k + (C1.toArray.size:Int)).toNat=j:=by
   rw [seqIndex_neg (by omega) h3] at h1;rw [yS,<- hl];exact zy h1
  exact PySem.W.ki_setBack ho (by omega) (by rw [yS,<- hl];exact h3) (by omega) (by rw [hk];exact⟨_,I',q⟩)
def dJ:V->Bool
 | .non=>true
 | .bl _=>true
 | .int _=>true
 | .str _=>true
 | _=>false
def Gv:V->V->Bool
 | .non,.non=>true
 | .bl a,.bl b=>a == b
 | .bl a,.int b=>(if a then 1 else 0) == b
 | .int a,.bl b=>a == (if b then 1 else 0)
 | .int a,.int b=>a == b
 | .str a,.str b=>a == b
 | _,_=>false
theorem wc {A:Around}{s:zz8}{y x:V}{u v:zz9} (ry:RelV y u) (rx:RelV x v) (fy:dJ y=true) (fx:dJ x=true):SeqAt.EqAt A s u v (Gv y x):=by
 cases y with
 | non =>
  cases ry;cases x with
  | non=>cases rx;exact SeqAt.EqAt.same _
  | bl b=>cases rx;exact SeqAt.EqAt.none_bool b
  | int b=>obtain⟨t,rfl⟩:=rx;exact SeqAt.EqAt.none_int b t
  | str b=>obtain⟨t,rfl⟩:=rx;exact SeqAt.EqAt.none_str b t
  | _=>exact absurd (show false=true from fx) yU
 | bl a =>
  cases ry;cases x with
  | non=>cases rx;exact SeqAt.EqAt.bool_none a
  | bl b=>cases rx;exact SeqAt.EqAt.bool_bool a b
  | int b=>obtain⟨t,rfl⟩:=rx;exact SeqAt.EqAt.bool_int a b t
  | str b=>obtain⟨t,rfl⟩:=rx;exact SeqAt.EqAt.bool_str a b t
  | _=>exact absurd (show false=true from fx) yU
 | int a =>
  obtain⟨t',rfl⟩:=ry;cases x with
  | non=>cases rx;exact SeqAt.EqAt.int_none a t'
  | bl b=>cases rx;exact SeqAt.EqAt.int_bool a t' b
  | int b=>obtain⟨t,rfl⟩:=rx;exact SeqAt.EqAt.int_int a t' b t
  | str b=>obtain⟨t,rfl⟩:=rx;exact SeqAt.EqAt.int_str a t' b t
  | _=>exact absurd (show false=true from fx) yU
 | str a =>
  obtain⟨t',rfl⟩:=ry;cases x with
  | non=>cases rx;exact SeqAt.EqAt.str_none a t'
  | bl b=>cases rx;exact SeqAt.EqAt.str_bool a t' b
  | int b=>obtain⟨t,rfl⟩:=rx;exact SeqAt.EqAt.str_int a t' b t
  | str b=>obtain⟨t,rfl⟩:=rx;exact SeqAt.EqAt.str_str a t' b t
  | _=>exact absurd (show false=true from fx) yU
 | _=>exact absurd (show false=true from fy) yU
def EU (x:V) (u:zz9):Bool:=match u with
 | .none=>Gv .non x
 | .bool b=>Gv (.bl b) x
 | .int i _=>Gv (.int i) x
 | .str z _=>Gv (.str z) x
 | _=>false
theorem mJ {x y:V}{u:zz9} (r:RelV y u) (f:dJ y=true):EU x u=Gv y x:=by
 cases y with
 | non=>cases r;rfl
 | bl b=>cases r;rfl
 | int i=>obtain⟨t,rfl⟩:=r;rfl
 | str z=>obtain⟨t,rfl⟩:=r;rfl
 | _=>exact absurd (show false=true from f) yU
theorem fq {x:V}:∀{xs:List V}{us:List zz9},aq xs us->xs.all dJ=true->us.any (EU x)=xs.any λy=>Gv y x
 | _,_,.nil,_=>rfl
 | y::xs,u::us,.cons r t,f=>by
  rw [List.all_cons,An] at f;rw [BZ,BZ,mJ r f.1,fq t f.2]
theorem fk {A:Around}{s:zz8}{x:V}{v:zz9} (rx:RelV x v) (fx:dJ x=true):∀{xs:List V}{us:List zz9},aq xs us->xs.all dJ=true->∀u∈us,SeqAt.EqAt A s u v (EU x u)
 | _,_,.nil,_=>λu hu=>by cases hu
 | y::xs,u::us,.cons r t,f=>λu' hu=>by
  rw [List.all_cons,An] at f
  rcases yF.mp hu with rfl | hu
  ·rw [mJ r f.1];exact wc r rx f.1 fx
  ·exact fk rx fx t f.2 u' hu
def FK (x:V) (xs:List V):Bool:=xs.any λy=>Gv y x
def Li (K:zz7) (neg:Bool):R2:=λx y H Q=>∃p xs,y=.ref p/\(C3 K H p xs\/C2 K H p xs)/\dJ x=true/\xs.all dJ=true/\Q (.bl (if neg then !FK x xs else FK x xs)) H
theorem fh:Dz X (compareOp .In) (Li X.K false):=by
 intro pins s σ H x y v u Q I rx ry h;obtain⟨p,xs,rfl,hq,fx,fs,q⟩:=h;cases ry
 rcases hq with hq | hq
 ·obtain⟨C1,r,pl,hz⟩:=I.list hq
  refine SeqAt.in_listAt (EU x) pl.isList (λw hw=>fk rx fx r fs w (by simpa using hw)) ⟨.bl _,H,I,rfl,?_⟩;rw [show C1.toArray.any (EU x)=C1.any (EU x) by simp,fq r fs];exact q
 ·obtain⟨C1,r,pl,hz⟩:=I.tuple hq
  refine SeqAt.in_tupleAt (EU x) pl (λw hw=>fk rx fx r fs w (by simpa using hw)) ⟨.bl _,H,I,rfl,?_⟩;rw [show C1.toArray.any (EU x)=C1.any (EU x) by simp,fq r fs];exact q
theorem gP:Dz X (compareOp .NotIn) (Li X.K true):=by
 intro pins s σ H x y v u Q I rx ry h;obtain⟨p,xs,rfl,hq,fx,fs,q⟩:=h;cases ry
 rcases hq with hq | hq
 ·obtain⟨C1,r,pl,hz⟩:=I.list hq
  refine SeqAt.notIn_listAt (EU x) pl.isList (λw hw=>fk rx fx r fs w (by simpa using hw)) ⟨.bl _,H,I,rfl,?_⟩;rw [show C1.toArray.any (EU x)=C1.any (EU x) by simp,fq r fs];exact q
 ·obtain⟨C1,r,pl,hz⟩:=I.tuple hq
  refine SeqAt.notIn_tupleAt (EU x) pl (λw hw=>fk rx fx r fs w (by simpa using hw)) ⟨.bl _,H,I,rfl,?_⟩;rw [show C1.toArray.any (EU x)=C1.any (EU x) by simp,fq r fs];exact q
theorem bj:aZ X (.builtin "len") (λxs H Q=>∃p ys,xs=[.ref p]/\(C3 X.K H p ys\/C2 X.K H p ys)/\Q (.int ys.length) H):=by
 intro pins s σ H xs us Q I r h;obtain⟨p,ys,rfl,hq,q⟩:=h;obtain⟨u,rfl,rx⟩:=vals1 r;cases rx;have hn:=eD
 rcases hq with hq | hq
 ·obtain⟨C1,r',pl,hz⟩:=I.list hq
  have C6:=r'.length;exact Calls.call_len_list pl.isList (by simp only [yS] <;> omega) ⟨.int ys.length,H,I.tok _,⟨s.toks + 1,by rw [yS,C6]⟩,q⟩
 ·obtain⟨C1,r',pl,hz⟩:=I.tuple hq
  have C6:=r'.length;exact len_tuple pl (by simp only [yS] <;> omega) ⟨.int ys.length,H,I.tok _,⟨s.toks + 1,by rw [yS,C6]⟩,q⟩
theorem o8:aZ X (.builtin "len") (λxs H Q=>∃z,xs=[.str z]/\z.length<=sizeLine/\Q (.int z.length) H):=by
 intro pins s σ H xs us Q I r h;obtain⟨z,rfl,hz,q⟩:=h;obtain⟨u,rfl,t,rfl⟩:=vals1 r;have hn:=eD;exact len_str (by omega) ⟨.int z.length,H,I.tok _,⟨_,rfl⟩,q⟩
theorem o7:aZ X (.type "list") (λxs H Q=>∃p ys,xs=[.ref p]/\(C3 X.K H p ys\/C2 X.K H p ys)/\∀l,H l=none->Q (.ref l) (upd H l (.lst ys))):=by
 intro pins s σ H xs us Q I r h;obtain⟨p,ys,rfl,hq,q⟩:=h;obtain⟨u,rfl,rx⟩:=vals1 r;cases rx;have fin:∀(C1:List zz9),aq ys C1->ys.length<=sizeLine->∀(h':Heap) (c':Nat),(∀b o',s.heap.get? b=some o'->h'.get? b=some o') ->
   h'.get? s.heap.objs.size=some { cls:=.type "list",dict:=none,data:=.seq C1.toArray c',slots:=#[] }->EP X pins σ Q (.ref s.heap.objs.size) { s with heap:=h' }:=λC1 r' hz h' c' kp e =>
  ⟨.ref s.heap.objs.size,_,I.laid (t':=s.toks) kp (yO _) (show aF X.prog X.w _ h' _ (.lst ys) from ⟨hz,C1,c',r',e⟩),rfl,q _ (I.hok.fresh (yO _))⟩
 rcases hq with hq | hq
 ·obtain⟨C1,r',pl,hz⟩:=I.list hq
  have C6:=r'.length;obtain⟨o,ho,hc,n,hd⟩:=pl.isList;exact call_list_seq p (.inl rfl) ho hc hd (λh' c' kp e=>fin C1 r' hz h' c' kp e) (by simp only [yS] <;> omega)
 ·obtain⟨C1,r',pl,hz⟩:=I.tuple hq
  have C6:=r'.length;obtain⟨o,ho,hc,n,hd⟩:=pl;exact call_list_seq p (.inr rfl) ho hc hd (λh' c' kp e=>fin C1 r' hz h' c' kp e) (by simp only [yS] <;> omega)
theorem da:aZ X (.type "tuple") (λxs H Q=>∃p ys,xs=[.ref p]/\((C3 X.K H p ys/\∀l,H l=none->Q (.ref l) (upd H l (.tup ys)))\/(C2 X.K H p ys/\Q (.ref p) H))):=by
 intro pins s σ H xs us Q I r h;obtain⟨p,ys,rfl,h⟩:=h;obtain⟨u,rfl,rx⟩:=vals1 r;cases rx
 rcases h with ⟨hq,q⟩ | ⟨hq,q⟩
 ·obtain⟨C1,r',pl,hz⟩:=I.list hq
  have C6:=r'.length;refine call_tuple_list pl.isList (λh' kp=>?_) (by simp only [yS] <;> omega);have I1:Inv X pins σ H { s with heap:=h' }:=I.kept (t':=s.toks) kp;have I2:Inv X pins σ (upd H h'.objs.size (.tup ys)) { s with heap:=h'.push { cls:=.type "tuple",data:=.seq C1.toArray } } :=
   I1.laid (t':=s.toks) (λb o e=>yB _ e) (yO _) (show aF X.prog X.w _ _ _ (.tup ys) from ⟨hz,C1,r',IsTup.new _ _⟩)
  exact⟨.ref h'.objs.size,_,I2,rfl,q _ (I1.hok.fresh (yO _))⟩
 ·obtain⟨C1,r',pl,hz⟩:=I.tuple hq
  exact call_tuple_same pl ⟨.ref p,H,I,rfl,q⟩
def Ou (K:zz7) (T:String) (x:V) (H:Hp):Prop:=match x with
 | .str _=>T="str"
 | .int _=>T="int"
 | .ref p=>(T="list"/\∃xs,C3 K H p xs)\/(T="tuple"/\∃o,K.lookup p=some o/\o.cls=.type "tuple"/\o.dict=none) \/
   (T="dict"/\((∃kvs,H p=some (.dK kvs))\/∃kvs,H p=some (.dT kvs)))\/(T="set"/\∃S n,H p=some (.set S n))
 | _=>False
theorem vF {pins:List (Addr×Obj)}{σ:St}{H:Hp}{s:zz8}{T:String}{x:V}{v:zz9} (I:Inv X pins σ H s) (r:RelV x v) (ty:Ou X.K T x H) :
  s.TypeIs v T/\∀a,v=.ref a->∃ob,s.heap.get? a=some ob/\ob.dict=none:=by
 cases x with
 | str z =>
  obtain⟨t,rfl⟩:=r;cases (show T="str" from ty);exact⟨typeIs_str s z t,λ_ e=>nomatch e⟩
 | int i =>
  obtain⟨t,rfl⟩:=r;cases (show T="int" from ty);exact⟨typeIs_int s i t,λ_ e=>nomatch e⟩
 | ref p =>
  cases r
  rcases ty with ⟨rfl,xs,hq⟩ | ⟨rfl,o,hk,hc,hd⟩ | ⟨rfl,hk⟩ | ⟨rfl,S,n,hk⟩
  ·obtain⟨C1,_,pl,_⟩:=I.list hq
   refine⟨pl.isList.typeIs,λa e=>?_⟩;cases e;obtain⟨o,n,e,c,hd,_⟩:=pl;exact⟨o,e,hd⟩
  ·refine⟨⟨o,I.kIn p o hk,hc⟩,λa e=>?_⟩
   cases e;exact⟨o,I.kIn _ o hk,hd⟩
  ·have z:∃o,s.heap.get? p=some o/\o.ExactDict:=by
    rcases hk with ⟨kvs,hk⟩ | ⟨kvs,hk⟩
    ·obtain⟨_,_,_,_,o,_,_,e,ex,_⟩:=I.hok p _ hk
     exact⟨o,e,ex⟩
    ·obtain⟨_,_,_,_,o,_,_,e,ex,_⟩:=I.hok p _ hk
     exact⟨o,e,ex⟩
   obtain⟨o,e,ex⟩:=z;refine⟨⟨o,e,ex.1⟩,λa e2=>?_⟩;cases e2;exact⟨o,e,ex.2.1⟩
  ·obtain⟨o,_,_,_,e,ex,_⟩:=I.hok p _ hk
   refine⟨⟨o,e,ex.1⟩,λa e2=>?_⟩;cases e2;exact⟨o,e,ex.2.1⟩
 | _=>exact False.elim ty
def Q5 (K:zz7) (T:String) (r:V->List V->Hp->VK->Prop) (to:TE) (t:TA):TE:=λσ H Q=>to σ H λx H1=>Ou K T x H1/\t σ H1 λxs H2=>r x xs H2 Q
variable {o e:Expr}{es:List Expr}{to:TE}{t:TA}{name:Str}{apos Df:Pos}{T id:String}{r:V->List V->Hp->VK->Prop}
theorem cK (pa:PlainAttrs T) (slot:Slot T name id) (SW:typeOf (.builtin id)=pure (.type "method_descriptor")) (hm:Oc X id r) (ho:PE X o to) (ha:PA X (e::es) t)
  (Kz:attributeBase o name X.env (eval o X.env)=eval o X.env:=by rfl)
  (Gd:((backTo Df (starEach (e::es) X.env)).all (λx=>!x.1) && (backToKw Df (keywordEach [] X.env)).all (λx=>x.1.isSome)
   && decide ((e::es).length + ([]:List Keyword).length + (if ([]:List Keyword).isEmpty then 0 else 1) < 30))=true:=by rfl)
  (Kl:(apos.endLine == Df.line)=true:=by rfl) (hs:starEach (e::es) X.env=(false,eval e X.env)::starEach es X.env:=by rfl) (Ig:(backTo Df (starEach es X.env)).any (·.1)=false:=by rfl) :
  PE X (.Call (.Attribute o name apos) (e::es) [] Df) (Q5 X.K T r to t):=by
 intro pins s σ H Q I h;refine wpAny_Call_method_late Kz Gd Kl rfl (C4 (ho pins s σ H _ I h) λv s1 ⟨x,H1,I1,r1,ty,q1⟩=>?_);obtain⟨h1,h2⟩:=vF I1 r1 ty;refine⟨T,id,pa,slot,SW,h1,h2,?_⟩;have hA:=ha Df pins s1 σ H1 _ I1 q1;rw [hs] at hA ⊢;refine Calls.callWith_builtin (by show (false || (backTo Df (starEach es X.env)).any (·.1))=false;rw [Ig] <;> rfl) (B9 ?_);exact C4 hA λus s2 ⟨vs,H2,I2,r2,q2⟩=>hm pins s2 σ H2 x vs v us Q I2 r1 r2 q2
/- xs.append(e),list.index on a J3 tuple .. are Oc facts of 06m -/
end
def Od (X:Cx) (id:String) (r:V->List V->Hp->VK->Prop):Prop :=
 ∀(pins:List (Addr×Obj)) (s:zz8) (σ:St) (H:Hp) (x:V) (xs:List V) (v:zz9) (us:List zz9) (Q:VK),Inv X pins σ H s->RelV x v->aq xs us->r x xs H Q ->
  wpAny (model X.prog X.w) X.A (call (.builtin id) (v::us)) (EP X pins σ Q) X.xe s
theorem aq.one:∀{x:V}{us:List zz9},aq [x] us->∃u,us=[u]/\RelV x u
 | _,_,.cons r .nil=>⟨_,rfl,r⟩
theorem aq.eraseIdx:∀{xs:List V}{us:List zz9} (i:Nat),aq xs us->aq (xs.eraseIdx i) (us.eraseIdx i)
 | _,_,_,.nil=>.nil
 | _,_,0,.cons _ t=>t
 | _,_,i + 1,.cons r t=>.cons r (aq.eraseIdx i t)
theorem kg {α:Type}:∀(l:List α) (i:Nat),(l.eraseIdx i).length<=l.length
 | [],_=>yO _
 | _::_,0=>Az _
 | _::r,i + 1=>Nat.succ_le_succ (kg r i)
section
variable {X:Cx}{pins:List (Addr×Obj)}{σ:St}{H:Hp}{s:zz8}{l b:Addr}{xs ys zs:List V}
theorem Inv.lset {C1 its':List zz9}{n:Nat}{f:Array zz9->Array zz9}{t':Nat} (I:Inv X pins σ H s) (hH:H l=some (.lst xs))
  (e:s.heap.get? l=some { cls:=.type "list",data:=.seq C1.toArray n }) (hf:f C1.toArray=its'.toArray) (hv:aq ys its') (hz:ys.length<=sizeLine) :
  Inv X pins σ (upd H l (.lst ys)) { s with heap:=s.heap.update l (Obj.mapSeq f),toks:=t' }:=by
 have q:=PySem.IsL.update e f;rw [hf] at q;refine I.write (x:=l) (e:=l) (by rw [hH];exact trivial) (.inl rfl) (λb' u hb hu=>(yX s.heap (Obj.mapSeq f) (zP hb)).trans hu) ⟨_,q⟩ ?_;exact⟨hz,its',_,hv,q⟩
theorem Inv.lnew {C1:List zz9}{t':Nat} (I:Inv X pins σ H s) (hv:aq ys C1) (hz:ys.length<=sizeLine) :
  Inv X pins σ (upd H s.heap.objs.size (.lst ys)) { s with heap:=s.heap.push { cls:=.type "list",data:=.seq C1.toArray },toks:=t' } :=
 I.laid (λ_ _ q=>yB _ q) (yO _) ⟨hz,C1,0,hv,yN _ rfl⟩
theorem Inv.fresh (I:Inv X pins σ H s):H s.heap.objs.size=none:=I.hok.fresh (yO _)
theorem Inv.lstM (I:Inv X pins σ H s) (hH:H l=some (.lst xs)):xs.length<=sizeLine/\∃(C1:List zz9) (n:Nat),aq xs C1/\xs.length=C1.length/\s.heap.get? l=some { cls:=.type "list",data:=.seq C1.toArray n }:=by
 obtain⟨z,C1,n,r,e⟩:=I.hok l _ hH;exact⟨z,C1,n,r,r.length,e⟩
theorem sZ {n:Nat} (h:n<=sizeLine):Builtin.List.listTooLong n=false:=by
 unfold Builtin.List.listTooLong;exact decide_eq_false (by omega)
end
section
variable {X:Cx}
def uv:V->List V->Hp->VK->Prop:=λx vs H Q=>∃l xs y,x=.ref l/\vs=[y]/\H l=some (.lst xs)/\xs.length < sizeLine/\Q .non (upd H l (.lst (xs++[y])))
theorem dB:Od X "list.append" uv:=by
 intro pins s σ H x vs v us Q I rx rv h;obtain⟨l,xs,y,rfl,rfl,hH,hz,q⟩:=h;cases rx;obtain⟨u,rfl,ru⟩:=rv.one;obtain⟨z,C1,n,r,hl,e⟩:=I.lstM hH;refine call_meets F.slot_list_append ⟨_,e,rfl⟩ F.entry_list_append (F.args_list_append_2 _ _) (PySem.list_append l C1.toArray n u (by rw [yS];omega)) ⟨e,?_⟩;refine⟨.non,_,I.lset (its':=C1++[u]) hH e (by simp) (r.append (.cons ru .nil)) ?_,rfl,q⟩;rw [zc,A1];omega
def uw:V->List V->Hp->VK->Prop:=λx vs H Q=>∃l b xs zs,x=.ref l/\vs=[.ref b]/\H l=some (.lst xs)/\H b=some (.lst zs)/\xs.length + zs.length<=sizeLine/\Q .non (upd H l (.lst (xs++zs)))
theorem rA:Od X "list.extend" uw:=by
 intro pins s σ H x vs v us Q I rx rv h;obtain⟨l,b,xs,zs,rfl,rfl,hH,hB,hz,q⟩:=h;cases rx;obtain⟨u,rfl,ru⟩:=rv.one;cases ru;obtain⟨z,C1,n,r,hl,e⟩:=I.lstM hH;obtain⟨z2,DC,n2,r2,PU,e2⟩:=I.lstM hB;have hsz:C1.toArray.size + DC.toArray.size<=sizeLine:=by rw [yS,yS];omega
 have Kk:¬ (!C1.toArray.isEmpty && Builtin.List.listTooLong (C1.toArray.size + DC.toArray.size))=true:=by
  rw [sZ hsz,Bool.and_false];exact yU
 refine call_meets F.slot_list_extend ⟨_,e,rfl⟩ F.entry_list_extend (F.args_list_extend_2 _ _)
  (AutoSeq1.list_extend_list_list_0 l C1.toArray n b DC.toArray n2 Kk (by rw [yS];omega) (by omega)) ⟨e,e2,?_⟩
 refine⟨.non,_,I.lset (its':=C1++DC) hH e (by simp) (r.append r2) ?_,rfl,q⟩;rw [zc];omega
def wm:V->List V->Hp->VK->Prop:=λx vs H Q=>∃l xs i k y,x=.ref l/\vs=[.int i]/\H l=some (.lst xs)/\-(2 ^ 63)<=i/\i < 2 ^ 63/\seqIndex? i xs.length=some k/\xs[k]?=some y/\Q y (upd H l (.lst (xs.eraseIdx k)))
theorem sG:Od X "list.pop" wm:=by
 intro pins s σ H x vs v us Q I rx rv h;obtain⟨l,xs,i,k,y,rfl,rfl,hH,h1,h2,hk,hy,q⟩:=h;cases rx;obtain⟨u,rfl,ru⟩:=rv.one;obtain⟨t,rfl⟩:=ru;obtain⟨z,C1,n,r,hl,e⟩:=I.lstM hH;obtain⟨w,hw,DY⟩:=r.get hy;refine call_meets F.slot_list_pop ⟨_,e,rfl⟩ F.entry_list_pop (F.args_list_pop_2 _ _)
  (MeetsSeq.list_pop_at l C1.toArray n i t k w (fitsIndex_both h1 h2) (by rw [yS,<- hl];exact hk) (by rw [<- zS];exact hw) (by rw [yS];omega)) ⟨e,?_⟩
 refine⟨y,_,I.lset (its':=C1.eraseIdx k) hH e ?_ (r.eraseIdx k) ?_,DY,q⟩
 ·show C1.toArray.eraseIdxIfInBounds k=(C1.eraseIdx k).toArray
  rw [List.eraseIdxIfInBounds_toArray]
 ·have:=kg xs k
  omega
def xI:R2:=λx y H Q=>∃l b xs zs,x=.ref l/\y=.ref b/\H l=some (.lst xs)/\H b=some (.lst zs)/\xs.length + zs.length<=sizeLine/\∀p,H p=none->Q (.ref p) (upd H p (.lst (xs++zs)))
theorem vy:Dz X (binaryOp .Add) xI:=by
 intro pins s σ H x y v u Q I rx ry h;obtain⟨l,b,xs,zs,rfl,rfl,hH,hB,hz,q⟩:=h;cases rx;cases ry;obtain⟨z,C1,n,r,hl,e⟩:=I.lstM hH;obtain⟨z2,DC,n2,r2,PU,e2⟩:=I.lstM hB;refine PySem.P.add_list e e2 ?_ (by rw [yS,yS];omega);have ea:C1.toArray++DC.toArray=(C1++DC).toArray:=by simp
 rw [ea];exact⟨.ref _,_,I.lnew (t':=s.toks) (r.append r2) (by rw [zc];omega),rfl,q _ I.fresh⟩
end
section
variable {prog:Program}{w:World}{A:Around}{E:zz9->zz8->Prop}{s:zz8}
end
section
variable {X:Cx}
end
end L2
namespace Att
open PySem PySem.W PySem.Calls PyProof.Rows
theorem ou {P:Params}{h:Heap}:∀(ns:List Int) (vs:List zz9),WellAll P h vs (ns.map WData.int)->IntsAre vs ns:=by
 intro ns
 induction ns with
 | nil =>
  intro vs w;rw [CO] at w;cases w;exact .nil
 | cons n ns ih =>
  intro vs w;rw [y0] at w;cases w with
  | cons a b =>
   cases a;exact .cons _ _ (ih _ b)
theorem rg {l:OpenLaw}{n:Nat} (hn:l.most=some n) {P:Params}{h:Heap}{args:List WData}{vals:List zz9}
  (GT:l.row.toRowW.claim.pre args=true) (ML:WellAll P h vals args) :
  ∃a vs ns,vals=[Value.ref a]/\args=[WData.list (ns.map WData.int)]/\h.get? a=some { cls:=.type "list",data:=.seq vs.toArray }/\IntsAre vs ns/\ns.length<=n:=by
 have S4:WShape.hasAll [] args [.list .int]=true:=(pre_splitW GT).1;have hc:l.pre.holds [] { args:=args }=true:=(pre_splitW GT).2;obtain⟨d,r,rfl,h1,h2⟩:=hasAllW_cons S4;obtain rfl:=hasAllW_nil h2;obtain⟨xs,rfl,h3⟩:=hasW_list h1;obtain⟨ns,rfl⟩:=items_int h3;have C6:ns.length<=n:=by
  unfold OpenLaw.pre at hc;have h4:(WTm.not (.lt (.lit (.int (n:Int))) (.len (.arg 0)))).holds [] { args:=[.list (ns.map .int)] }=true:=by
   have h4:=(holds_andW hc).1;rw [hn] at h4;exact h4
  have h5:=condW_of h4 (w_not (w_lt w_lit (w_len_list (w_arg rfl))));rw [yA] at h5;refine Nat.le_of_not_lt λq=>?_;have q':(n:Int) < ((ns.length:Nat):Int):=by omega
  first
   | (rw [decide_eq_true q'] at h5;exact absurd h5 (by decide))
   | (simp at h5;omega)
 cases ML with
 | cons w1 w2 =>
  cases w2;cases w1 with
  | list ho DM=>exact⟨_,_,ns,rfl,rfl,ho,ou ns _ DM,C6⟩
theorem qX (l:OpenLaw) (args:List WData):l.row.toRowW.claim.post args (.bool true) args=true :=
 postW_of (r:=l.row.toRowW) (X:=(true == true))
  (show WShape.has [] (.bool true) .bool=true by first | rfl | decide | simp [WShape.has,WShape.arms,WShape.armsAll])
  (show (WTm.eq .res (.lit (.bool true))).value [] { args:=args,res:=some (.bool true),after:=args }=some (.bool (true == true)) from w_eq_bool (w_res rfl) w_lit) rfl
theorem yg {l:OpenLaw}{n:Nat}{q:Program}{loose:List Str}{XP:(Str->Option zz9)->Heap->Prop}{YP:World->Heap->Prop}{d:DefRec}
  (hn:l.most=some n) (Kw:d.params.defaults=[])
  (call:∀(w:World) (s₀ s₁:zz8) (mg mb:Str->Option zz9) (fa:Addr) (o:Obj) (pm cd doc:zz9) (a:Addr) (vs:List zz9) (ns:List Int),
   Ground q loose [] XP w s₀ mg mb s₁.heap->YP w s₁.heap ->
   s₁.heap.get? fa=some o->o.data=.func (docDef d.name d.params d.body d.scope pm cd doc)->s₁.heap.CodeRec cd d.name->mg d.name=some (.ref fa) ->
   s₁.heap.get? a=some { cls:=.type "list",data:=.seq vs.toArray }->IntsAre vs ns->ns.length<=n->s₁.gens=#[] ->
   codeAny (model l.prog w) callerA (.call (.ref fa) ⟨[.ref a],[]⟩) (λr s'=>r=.ok (.ret (.bool true))/\OldK s₁.heap s'.heap/\s'.os=s₁.os/\AllBare s'.gens) s₁) :
  WalkO q loose XP YP l.row.toRowW d [] (λf vs=>PySem.call f vs):=by
 intro w s₀ s₁ mg mb G Y fa o pm cd doc dV kV ho hd FE hD Ik hg args vals as GT Tn hrd ML Hu;obtain rfl:dV=.none:=Dflts.none hD Kw;obtain rfl:kV=.none:=Dflts.noKw hD;obtain⟨a,vs,ns,rfl,rfl,Ih,hints,C6⟩:=rg hn GT ML;refine enter_call (AX (call w s₀ s₁ mg mb fa o pm cd doc a vs ns G Y ho (fd_plain hd) FE Ik Ih hints C6 hg) λr s' hq=>?_);obtain⟨rfl,h2,h3,h4⟩:=hq;exact⟨.inl ⟨.bool true,.bool true,[],rfl,λ_=>rfl,.bool true,qX l _,λ_=>⟨List.Pairwise.nil,λ_ hm=>(nomatch hm)⟩⟩,h2,h3,h4⟩
section
variable {prog:Program}{w:World}{A:Around}{E:zz9->zz8->Prop}{s:zz8}{K:Frag}
end
end Att
namespace L2
open PySem PySem.Spec PyProof.Rows
theorem jM:∀{vs:List zz9}{ns:List Int},IntsAre vs ns->aq (ns.map V.int) vs
 | _,_,.nil=>.nil
 | _,_,.cons n t h=>.cons ⟨t,rfl⟩ (jM h)
def jx (H:Hp):Prop:=∀b,H b=none\/∃o xs,H b=some (.frz o (.lst xs))
theorem sW {P:Program}{w:World}{K:zz7}{mg mb:Str->Option zz9}{CX:FG}{k:Nat}{fa a:Addr}{fd:FuncData}{x:Str}{sp:Sp}{s₁:zz8}{vs:List zz9}{ns:List Int}
  (KX:K.In s₁.heap) (ES:s₁.heap.Ns mainGlobals mg) (hb:s₁.heap.Ns builtinsNs mb) (Iv:∀x:Str,x≠"__name__"->mb x=bootBuiltins x) (Nm:s₁.heap.NoLimit) (hg:s₁.gens=#[])
  (ha:s₁.heap.get? a=some { cls:=.type "list",data:=.seq vs.toArray }) (hi:IntsAre vs ns) (hl:ns.length<=sizeLine) (hr:aN k callerA)
  (F:∀base:Heap,K.In base->base.Ns mainGlobals mg->aG P w K mg base CX k fa fd [x] sp) (Ky:∀(s:zz8) (u:zz9),BindsTo s fd ⟨[u],[]⟩ [(x,u)])
  (EM:∀H:Hp,jx H->C3 K H a (ns.map V.int)->sp [.ref a] H (λv _=>v=.bl true) λ_ _ _=>False)
  (NO:∀H e s',CX [] H s₁ (λ_ _ _=>False) e s'->False) :
  codeAny (model P w) callerA (.call (.ref fa) ⟨[.ref a],[]⟩) (λr s'=>r=.ok (.ret (.bool true))/\OldK s₁.heap s'.heap/\s'.os=s₁.os/\AllBare s'.gens) s₁:=by
 have rv:=jM hi;have MA:=hi.length;have core:∀H:Hp,jx H->C3 K H a (ns.map V.int)->Ds P w H s₁.heap->(∀b,H b≠none->b=a)->(H a≠none->K.lookup a=none) ->
   codeAny (model P w) callerA (.call (.ref fa) ⟨[.ref a],[]⟩) (λr s'=>r=.ok (.ret (.bool true))/\OldK s₁.heap s'.heap/\s'.os=s₁.os/\AllBare s'.gens) s₁:=by
  intro H hO hS hok hA hK;have Ff:∀{b:Addr}{o:Obj},s₁.heap.get? b=some o->H b=none->(dR s₁.heap H).get? b=some o:=λe n=>sA e n;have JX:∀{b:Addr}{o:Obj}{es:Array DictEntry}{ep:Nat},s₁.heap.get? b=some o->o.data=.dict es ep->H b=none:=λ{b o es ep} e d=>by
   cases q:H b with
   | none=>rfl
   | some u =>
    have e':b=a:=hA b (by rw [q];simp);subst e';rw [ha] at e;cases e;have d':Data.seq vs.toArray _=Data.dict es ep:=d;cases d'
  have Ln:∀{b:Addr}{m:Str->Option zz9},s₁.heap.Ns b m->(dR s₁.heap H).Ns b m:=λ{b m} ⟨o,es,ep,e,d,r⟩=>⟨o,es,ep,Ff e (JX e d),d,r⟩
  have Qn:K.In (dR s₁.heap H):=λb o e=>Ff (KX b o e) (by
   cases q:H b with
   | none=>rfl
   | some u =>
    have e':b=a:=hA b (by rw [q];simp);subst e'
    rw [hK (by rw [q];simp)] at e;cases e)
  have hM:Mod K mg (dR s₁.heap H):=⟨Qn,Ln ES,⟨mb,Ln hb,Iv⟩,let ⟨mc,h1,h2⟩:=Nm;⟨mc,Ln h1,h2⟩⟩
  have e0:eM P w K mg (dR s₁.heap H) callerA [] s₁ H:=⟨rfl,hM,λb o e=>um e,Nat.le_of_eq (qP _ _),trivial,λb hb=>absurd (show b∈([]:List Addr) from hb) (by simp),hok,.of_eq hg⟩
  refine AX ((F _ Qn (Ln ES)).run callerA [] s₁ H ⟨[.ref a],[]⟩ [.ref a] [.ref a] _ _ hr e0 (Ky s₁ (.ref a)) (.cons rfl .nil) (EM H hO hS)) λr s' h=>?_;cases r with
  | error e=>exact (NO H e s' h).elim
  | ok fl =>
   cases fl with
   | next=>exact False.elim h
   | brk=>exact False.elim h
   | cont=>exact False.elim h
   | ret u =>
    obtain⟨v,H',os,bare,un,Na,r',q⟩:=h;have q':v=.bl true:=q;subst q';obtain rfl:u=Value.bool true:=r';refine⟨rfl,OldK.of_keep λb o e=>?_,os,bare⟩;cases q:H b with
    | none=>exact un.keep b o e q (by intro z;exact absurd (show b∈([]:List Addr) from z) (by simp)) (by simp)
    | some u =>
     rcases hO b with z | ⟨ob,xs,z⟩
     ·rw [q] at z;cases z
     ·have z2:=un.frzs b ob _ z
      obtain⟨e1,_⟩:=hok b _ z;obtain⟨e2,_⟩:=Na b _ z2;rw [e] at e1;cases e1;exact e2
 cases hk:K.lookup a with
 | some o =>
  have e:=KX a o hk;rw [ha] at e;cases e;refine core (λ_=>none) (λ_=>.inl rfl) (.inr ⟨_,vs.toArray,_,hk,rfl,rfl,rfl,by rw [yS,MA];exact hl,by simpa using rv⟩) (λb u z=>by have z':(none:Option HO)=some u:=z;cases z') (λb z=>absurd rfl z) λz=>absurd rfl z
 | none =>
  refine core (λb=>if b=a then some (.frz { cls:=.type "list",data:=.seq vs.toArray } (.lst (ns.map V.int))) else none) (λb=>?_) (.inl (.inr ⟨{ cls:=.type "list",data:=.seq vs.toArray },if_pos rfl⟩)) (λb u z=>?_) (λb z=>?_) λ_=>hk
  ·by_cases hb:b=a
   ·exact .inr ⟨_,_,if_pos hb⟩
   ·exact .inl (if_neg hb)
  ·by_cases hb:b=a
   ·have z':=(if_pos hb).symm.trans z
    cases z';subst hb;exact⟨ha,by rw [yA];exact hl,vs,_,rv,ha⟩
   ·have z':=(if_neg hb).symm.trans z
    cases z'
  ·by_cases hb:b=a
   ·exact hb
   ·exact absurd (if_neg hb) z
theorem yn {l:PySem.W.OpenLaw}{n k:Nat}{q:Program}{loose:List Str}{XP:(Str->Option zz9)->Heap->Prop}{YP:World->Heap->Prop}{d:DefRec}{K:Params->zz7}{CX:World->FG}{sp:World->Sp}{x:Str}
  (hn:l.most=some n) (Nh:n<=sizeLine) (Kw:d.params.defaults=[]) (hr:aN k callerA)
  (hY:∀(w:World) (h:Heap),YP w h->(K w.params).In h)
  (F:∀(w:World) (mg:Str->Option zz9) (fa:Addr) (h:Heap),(K w.params).In h->h.Ns mainGlobals mg->mg d.name=some (.ref fa) ->
   ∃fd:FuncData,(∀(s:zz8) (u:zz9),BindsTo s fd ⟨[u],[]⟩ [(x,u)]) /\
    ∀base:Heap,(K w.params).In base->base.Ns mainGlobals mg->aG l.prog w (K w.params) mg base (CX w) k fa fd [x] (sp w))
  (EM:∀(w:World) (H:Hp) (a:Addr) (ns:List Int),ns.length<=n->jx H->C3 (K w.params) H a (ns.map V.int)->sp w [.ref a] H (λv _=>v=.bl true) λ_ _ _=>False)
  (NO:∀(w:World) (H:Hp) (s:zz8) (e:zz9) (s':zz8),CX w [] H s (λ_ _ _=>False) e s'->False) :
  PySem.W.WalkO q loose XP YP l.row.toRowW d [] (λf vs=>PySem.call f vs):=by
 refine Att.yg hn Kw λw s₀ s₁ mg mb fa o pm cd doc a vs ns G Y ho hd FE Ik Ih hints C6 hg=>?_;have KX:=hY w _ Y;obtain⟨fd,hb,hF⟩:=F w mg fa _ KX G.T.g Ik;exact sW KX G.T.g G.T.b G.T.builtins G.T.nolimit hg Ih hints (y7 C6 Nh) hr hF hb (λH hO hS=>EM w H a ns C6 hO hS) λH e s'=>NO w H s₁ e s'
end L2
/- THE UC LM (shape;LID,My.* are Oo):
  My.Adr: a structure of Oy addresses Q0 QQ Pd names (classes,Jk);My.Txt K t: a structure (Prop) of Oy equations over K;
  My.txt_mk:{K}{implicit addresses ..} (e1:nsIn K mainGlobals "law"=some (some (.ref f))) (e2:K.lookup f=some ⟨oc,od,.func (fnOf "law" "law" params body scope dV kV doc pm an DB ct),sl⟩) (e3:codeIn K DB "law"=true) ..:∃t,My.Txt K t
set_option maxRecDepth 100000 in
set_option maxHeartbeats 0 in
theorem PySem.Challenge.cw_LID_holds : PySem.Challenge.rw_LID.Holds := by
 w_on;o_law;k_head;(case hw=>w_witness2)
 k_fill
 refine L2.yn (l:=PySem.Challenge.rw_LID) (n:=63) (k:=40) (x:="script") (CX:=λw=>..) (sp:=λ_=>My.sp_law) rfl (by decide) rfl ⟨rfl,by decide,by decide⟩ (λw h Y=>PySem.W.kIn_of Y) ?F ?S ?C
 case F =>
  intro w mg fa h KX G Ik;have T:∃t,My.Txt (L2.KOf KX) t:=by
   dsimp only [L2.KOf]
   refine' My.txt_mk ?e1 ?e2 ?e3 ..
   (case e1=>PySem.W.k_is)
   (case e2=>PySem.W.k_is)
   ..
  obtain⟨t,T⟩:=T;have e0:=Ik.symm.trans (BB KX G T.law);cases e0;exact⟨_,λs u=>.of_eq rfl,λbase kb nb=>My.law_fn T kb nb⟩
 case S=>exact λw H a ns hl hO hS=>..
 case C=>exact ..
(Oy tactic k_is has no namespace: write k_is) -/
namespace L2
open PySem PySem.Spec PyProof.Rows
def cU (s:Stmt):Arguments:=match s with
 | .FunctionDef _ a _ _ _ _ _ _ _ _=>a
 | _=>{ posonlyargs:=[],args:=[],vararg:=none,kwonlyargs:=[],kw_defaults:=[],kwarg:=none,defaults:=[] }
def cu (s:Stmt):List Stmt:=match s with
 | .FunctionDef _ _ b _ _ _ _ _ _ _=>b
 | _=>[]
def aC (s:Stmt):Scope:=match s with
 | .FunctionDef _ _ _ _ _ _ sc _ _ _=>sc
 | _=>{ kind:=.function,names:=[],isGenerator:=false,isCoroutine:=false }
abbrev Dl:FG:=λ_ _ _ _ _ _=>False
abbrev E0:XK:=λ_ _ _=>False
theorem wC {X:Cx}:iO Dl X E0:=λ_ _ _ _ _ _ _ h=>h.elim
structure Dk (K:zz7) (x qual:Str) (st:Stmt) (f:Addr) (fd:FuncData):Prop where
 ex:∃(oc:zz9) (od:Option Addr) (kV doc pm:zz9) (an:Option Addr) (DB ct:zz9) (GG:Array (Option zz9)),
  fd=PySem.W.fnOf x qual (cU st) (cu st) (aC st) .none kV doc pm an DB ct/\K.lookup f=some ⟨oc,od,.func fd,GG⟩/\PySem.W.codeIn K DB qual=true
 kp:PySem.W.keepIn K (.ref f)=true
variable {P:Program}{w:World}{K:zz7}{mg:Str->Option zz9}{base:Heap}{f:Addr}{fd:FuncData}
theorem Dk.ok {x qual:Str}{st:Stmt}{f:Addr}{fd:FuncData}{N ps:List Str}{k:Nat}{sp:Sp} (F:Dk K x qual st f fd) (S:aM N ps (aC st)) (len:∀vs H Q E,sp vs H Q E->vs.length=ps.length)
  (EC:∀(DB:zz9) (A:Around) (outer:List Env) (s:zz8) (H:Hp) (vs:List V) (Q:VK) (E:XK),aN k (A.deeper (envOfC qual (aC st) s.heap.objs.size f DB))->sp vs H Q E ->
   ∃t,EO (du Dl P w K mg base N qual (aC st) f DB A outer s H E).nox (cu st) t/\t { nx:=λ_ H'=>Q .non H',rt:=Q } (start N vs) H):aG P w K mg base Dl (k + 1) f fd ps sp:=by
 obtain⟨oc,od,kV,doc,pm,an,DB,ct,GG,rfl,lk,FE⟩:=F.ex;refine m6 lk FE S len λA outer s H vs Q E hr EM=>?_;obtain⟨t,h,q⟩:=EC DB A outer s H vs Q E hr EM;exact⟨t,h.nox,q⟩
theorem Dk.binds {x qual:Str}{st:Stmt}{f:Addr}{fd:FuncData}{ps:List Str} (F:Dk K x qual st f fd)
  (h:∀(kV doc pm:zz9) (an:Option Addr) (DB ct:zz9) (us:List zz9),us.length=ps.length->bindArgs (PySem.W.fnOf x qual (cU st) (cu st) (aC st) .none kV doc pm an DB ct) ⟨us,[]⟩=pure (ps.zip us)):Binds K fd ps []:=by
 obtain⟨oc,od,kV,doc,pm,an,DB,ct,GG,rfl,lk,FE⟩:=F.ex;exact .all (h kV doc pm an DB ct)
theorem gq {x qual:Str}{st:Stmt}{f:Addr}{oc:zz9}{od an:Option Addr}{GG:Array (Option zz9)}{kV doc pm DB ct:zz9} (l:K.lookup f=some ⟨oc,od,.func (PySem.W.fnOf x qual (cU st) (cu st) (aC st) .none kV doc pm an DB ct),GG⟩)
  (c:PySem.W.codeIn K DB qual=true) (k:PySem.W.keepIn K (.ref f)=true):Dk K x qual st f (PySem.W.fnOf x qual (cU st) (cu st) (aC st) .none kV doc pm an DB ct):=⟨⟨oc,od,kV,doc,pm,an,DB,ct,GG,rfl,l,c⟩,k⟩
theorem wx {A:Around}{k:Nat} (hr:aN k A):A.units + 1 < cLine:=Nat.lt_of_le_of_lt (Nat.add_le_add_left (by decide:1<=64) _) hr.units
theorem rP {n:Nat} (h:n<=1000):n < sizeLine:=Nat.lt_of_le_of_lt h (by decide)
section
variable {X:Cx}
theorem pv (i:Nat) {x:Str}{pos:Pos} (hN:X.N[i]?=some x:=by rfl) (hv:LK X.env.scope x:=by first | exact Or.inl rfl | exact Or.inr (Or.inl rfl) | exact Or.inr (Or.inr rfl)) (hd:(x == ("__debug__":Str))=false:=by decide)
  (FE:(x == ("__classdict__":Str))=false:=by decide):PE X (.Name x pos) (jm i):=vz hN hv hd FE
end
theorem bh {A B:Prop} (h:B):if false=true then A else B:=by
 rw [if_neg yU];exact h
theorem aX {A B:Prop} (h:A):if true=true then A else B:=by
 rw [if_pos rfl];exact h
theorem bc {c A B:Prop} [Decidable c] (h1:c->A) (h2:¬ c->B):if c then A else B:=by
 by_cases h:c
 ·rw [if_pos h]
  exact h1 h
 ·rw [if_neg h]
  exact h2 h
theorem eU {c A B:Prop} [Decidable c] (hc:c) (h:B):if (!decide c)=true then A else B:=by
 rw [decide_eq_true hc];exact bh h
def ai (H H':Hp):Prop:=∀b o,H b=some o->H' b=some o
theorem ai.refl (H:Hp):ai H H:=λ_ _ h=>h
theorem ai.trans {H H1 H2:Hp} (a:ai H H1) (b:ai H1 H2):ai H H2:=λc o h=>b c o (a c o h)
theorem ai.free {H H':Hp} (e:ai H H') {l:Addr} (h:H' l=Option.none):H l=Option.none:=by
 cases q:H l with
 | none=>rfl
 | some o =>
  rw [e l o q] at h;cases h
theorem ai.seq {K:zz7}{H H':Hp}{a:Addr}{xs:List V} (e:ai H H') (h:C3 K H a xs):C3 K H' a xs:=by
 rcases h with (h | ⟨o,h⟩) | h
 ·exact .inl (.inl (e _ _ h))
 ·exact .inl (.inr ⟨o,e _ _ h⟩)
 ·exact .inr h
def bK (env:Env):List (Str×NameKind)->List (Str×Addr)->List (Str×Addr)
 | [],C5=>C5
 | (x,k)::r,C5=>if (k == NameKind.free)=true then (match env.cells.lookup x with | some c=>bK env r ((x,c)::C5) | none=>bK env r C5) else bK env r C5
theorem fV (env:Env):∀(ns:List (Str×NameKind)) (C5:List (Str×Addr)) (x:Str) (c:Addr),(x,c)∈bK env ns C5->(x,c)∈C5\/env.cells.lookup x=some c
 | [],C5,x,c,h=>.inl h
 | (y,k)::r,C5,x,c,h=>by
  unfold bK at h;split at h
  ·split at h
   ·next d e =>
    rcases fV env r _ x c h with z | z
    ·rcases yF.mp z with q | q
     ·cases q;exact .inr e
     ·exact .inl q
    ·exact .inr z
   ·exact fV env r C5 x c h
  ·exact fV env r C5 x c h
theorem fY (env:Env):∀(ns:List (Str×NameKind)) (C5:List (Str×Addr)) (p:Str×Addr),p∈C5->p∈bK env ns C5
 | [],C5,p,h=>h
 | (y,k)::r,C5,p,h=>by
  unfold bK;split
  ·split
   ·exact fY env r _ p (yT _ h)
   ·exact fY env r _ p h
  ·exact fY env r _ p h
theorem fZ (env:Env):∀(ns:List (Str×NameKind)) (C5:List (Str×Addr)) (x:Str) (c:Addr),(x,NameKind.free)∈ns->env.cells.lookup x=some c->(x,c)∈bK env ns C5
 | [],C5,x,c,h,_=>nomatch h
 | (y,k)::r,C5,x,c,h,e=>by
  unfold bK
  rcases yF.mp h with q | q
  ·cases q
   rw [if_pos (show (NameKind.free == NameKind.free)=true from rfl),e];exact fY env r _ _ yG
  ·split
   ·split
    ·exact fZ env r _ x c q e
    ·exact fZ env r _ x c q e
   ·exact fZ env r _ x c q e
theorem tL {l:List (Str×Addr)}{x:Str}{c:Addr} (h:(x,c)∈l):∃d,l.lookup x=some d:=by
 induction l with
 | nil=>cases h
 | cons p r ih =>
  obtain⟨y,d⟩:=p;rw [A8];cases hx:x == y with
  | true=>exact⟨d,rfl⟩
  | false =>
   rcases yF.mp h with q | q
   ·cases q
    rw [beq_self_eq_true] at hx;cases hx
   ·exact ih q
theorem cR {env:Env}{ns:List (Str×NameKind)}{x:Str}{c:Addr} (h:(bK env ns []).lookup x=some c):env.cells.lookup x=some c:=by
 rcases fV env ns [] x c (Ax h) with z | z
 ·cases z
 ·exact z
theorem kF {env:Env}{ns:List (Str×NameKind)}{x:Str}{c:Addr} (h:(x,NameKind.free)∈ns) (e:env.cells.lookup x=some c):(bK env ns []).lookup x=some c:=by
 obtain⟨d,q⟩:=tL (fZ env ns [] x c h e);rw [q,<- cR q,e]
theorem pS {env:Env}{scope:Scope} (h:∀x∈scope.names,x.2=NameKind.free->∃c,env.cells.lookup x.1=some c):closureFor scope env=pure (bK env scope.names []):=by
 have go:∀(ns:List (Str×NameKind)) (C5:List (Str×Addr)),(∀x∈ns,x.2=NameKind.free->∃c,env.cells.lookup x.1=some c) ->
   (forIn ns C5 (λx cs=>match x with | (name,kind)=>if (kind == NameKind.free)=true then (do let c <- cellOf env name;pure (ForInStep.yield ((name,c)::cs))) else pure (ForInStep.yield cs)):Sem (List (Str×Addr)))=pure (bK env ns C5):=by
  intro ns
  induction ns with
  | nil=>intro C5 _;rfl
  | cons p r ih =>
   intro C5 hh;obtain⟨y,k⟩:=p;rw [BG];unfold bK
   by_cases hk:(k == NameKind.free)=true
   ·rw [if_pos hk]
    obtain⟨c,e⟩:=hh (y,k) yG (by cases k <;> first | rfl | cases hk)
    dsimp only at e ⊢
    rw [if_pos hk];unfold cellOf;rw [e];exact ih _ λx hx=>hh x (yT _ hx)
   ·rw [if_neg hk]
    dsimp only
    rw [if_neg hk];exact ih _ λx hx=>hh x (yT _ hx)
 unfold closureFor;have q:=go scope.names [] h;simp only [bind_pure];exact q
def aw (X:Cx) (scope:Scope) (N:List Str) (C:Addr) (s0:zz8) (H0:Hp) (fp:List Addr):Cx :=
 { X with N:=N,s₀:=s0,H₀:=H0,env:=compEnvC scope (bK X.env scope.names []) C X.env,outer:=X.stack,stack:=X.stack,ex:=fp,fn:=λ_=>false,pn:=[],xe:=λ_ _=>False }
def Fe (ix:List (Option Nat)) (σ:St):St:=ix.map λo=>match o with | none=>none | some j=>(σ[j]?).join
def jb (No:List Str) (out:Str->Option NameKind) (scope:Scope) (N:List Str) (ix:List (Option Nat)):Bool :=
 (N.length == ix.length) && (N.zip ix).all λp=>match p.2 with | none=>true | some j=>(No[j]? == some p.1) && (scope.names.lookup p.1 == some NameKind.free) && ((out p.1 == some .cell) || (out p.1 == some .free))
structure bD (X:Cx) (scope:Scope) (N:List Str) (ix:List (Option Nat)):Prop where
 kind:scope.kind=.function
 names:scope.names.all (λx=>(x.2 != .cell) && ((x.2 != .local) || (scope.names.lookup x.1 == some .local)) && ((x.2 != .free) || (X.env.kindOf x.1 == some .cell) || (X.env.kindOf x.1 == some .free)))=true
 em:jb X.N X.env.kindOf scope N ix=true
 nd:N.Nodup
theorem i7 {scope:Scope}{env:Env}{x:Str}{k:NameKind}:∀{ns:List (Str×NameKind)},(ns.map λ(n,k)=>if (k == NameKind.free && env.scope.kind == .function && env.kindOf n == some .cell)=true then (n,NameKind.cell) else (n,k)).lookup x=some k ->
  (k=.cell\/k=.free)->(∀y∈ns,y.2≠.cell)->(x,NameKind.free)∈ns
 | [],h,_,_=>by cases h
 | (n,k')::r,h,hk,hc=>by
  have ih:=λh'=>i7 (scope:=scope) (env:=env) (x:=x) (k:=k) (ns:=r) h' hk λy hy=>hc y (yT _ hy);have key:∀Lu:NameKind,List.lookup x ((n,Lu)::(r.map λ(n,k)=>if (k == NameKind.free && env.scope.kind == .function && env.kindOf n == some .cell)=true then (n,NameKind.cell) else (n,k)))=some k ->
    (Lu=k'\/(Lu=.cell/\k'=.free))->(x,NameKind.free)∈(n,k')::r:=λLu h hq=>by
   rw [A8] at h;cases hx:x == n with
   | true =>
    rw [hx] at h;cases h;have e:x=n:=eq_of_beq hx;subst e
    rcases hq with q | ⟨_,q⟩
    ·rcases hk with z | z
     ·exact absurd (q.symm.trans z) (hc (x,k') yG)
     ·rw [<- q,z];exact yG
    ·rw [q];exact yG
   | false =>
    rw [hx] at h;exact yT _ (ih h)
  rw [y0] at h
  dsimp only at h
  split at h
  ·next hh =>
   refine key _ h (.inr ⟨rfl,?_⟩);cases k' <;> first | rfl | (simp at hh)
  ·exact key _ h (.inl rfl)
theorem mm {env:Env}{x:Str}:∀{ns:List (Str×NameKind)},ns.lookup x=some NameKind.free->∃k,(k=NameKind.cell\/k=NameKind.free) /\
  (ns.map λ(n,k)=>if (k == NameKind.free && env.scope.kind == .function && env.kindOf n == some .cell)=true then (n,NameKind.cell) else (n,k)).lookup x=some k
 | [],h=>by cases h
 | (n,k')::r,h=>by
  rw [A8] at h;rw [y0]
  dsimp only
  cases hx:x == n with
  | true =>
   rw [hx] at h;cases h;split
   ·exact⟨_,.inl rfl,by rw [A8,hx]⟩
   ·exact⟨_,.inr rfl,by rw [A8,hx]⟩
  | false =>
   rw [hx] at h;obtain⟨k,hk,e⟩:=mm (env:=env) (ns:=r) h;refine⟨k,hk,?_⟩;split <;> (rw [A8,hx];exact e)
section
variable {X:Cx}{scope:Scope}{N:List Str}{ix:List (Option Nat)}
theorem bD.nocell (L:bD X scope N ix):∀x∈scope.names,x.2≠.cell:=λx hx z=>by
 have q:=zL.mp L.names x hx;rw [z] at q;simp at q
theorem bD.locals (L:bD X scope N ix):∀x∈scope.names,x.2=.local->scope.names.lookup x.1=some .local:=λx hx z=>by
 have q:=zL.mp L.names x hx;rw [z] at q;simpa using q
theorem bD.frees (L:bD X scope N ix):∀x∈scope.names,x.2=.free->X.env.kindOf x.1=some .cell\/X.env.kindOf x.1=some .free:=λx hx z=>by
 have q:=zL.mp L.names x hx;rw [z] at q;simpa using q
theorem bD.clos (L:bD X scope N ix) (ok:X.Ok):closureFor scope X.env=pure (bK X.env scope.names []) :=
 pS λx hx z=>ok.has _ (L.frees x hx z)
theorem bD.len (L:bD X scope N ix):N.length=ix.length:=by
 have q:=L.em;unfold jb at q;rw [An] at q;exact eq_of_beq q.1
theorem bD.out (L:bD X scope N ix) {i j:Nat}{x:Str} (h1:N[i]?=some x) (h2:ix[i]?=some (some j)):X.N[j]?=some x/\scope.names.lookup x=some NameKind.free/\(X.env.kindOf x=some .cell\/X.env.kindOf x=some .free):=by
 have q:=L.em;unfold jb at q;rw [An] at q;have hz:(N.zip ix)[i]?=some (x,some j):=by
  rw [List.getElem?_zip_eq_some];exact⟨h1,h2⟩
 have r:=zL.mp q.2 _ (yP hz);simp only [An,Bool.or_eq_true,beq_iff_eq] at r;exact⟨r.1.1,r.1.2,r.2⟩
theorem w5 (L:bD X scope N ix) {pins:List (Addr×Obj)}{σ:St}{H2:Hp}{s2:zz8}{C:Addr}{fp:List Addr} (I2:Inv X pins σ H2 s2) (hC:s2.heap.objs.size<=C) (hf:∀b∈fp,bv X pins H2 b) (hb:∀b∈fp,b < s2.heap.objs.size) :
  (aw X scope N C s2 H2 fp).Ok where
 mod:=I2.ok.mod
 kind:=L.kind
 glob:=I2.ok.glob
 blt:=I2.ok.blt
 above:=hC
 inj:=λx y c h1 h2=>I2.ok.inj x y c (cR h1) (cR h2)
 has:=λx hx=>by
  have hm:(x,NameKind.free)∈scope.names:=by
   rcases hx with hx | hx
   ·exact i7 (scope:=scope) (env:=X.env) hx (.inl rfl) L.nocell
   ·exact i7 (scope:=scope) (env:=X.env) hx (.inr rfl) L.nocell
  obtain⟨c,e⟩:=I2.ok.has x (L.frees _ hm rfl);exact⟨c,kF hm e⟩
 cab:=λx c h _=>Bool.noConfusion h
 hd:=I2.ok.hd
 frames:=I2.ok.frames
 stk:=.inl rfl
 exf:=λb h=>⟨y9 (za (hb b h) hC),λx c e=>(hf b h).2.2.2.2.1 x c (cR e)⟩
 bs:=λb o e=>I2.bs b o e
 bsz:=y7 I2.ok.bsz I2.sz
 noex:=λb o e h=>by
  rcases (hf b h).2.2.2.1 with z | z
  ·exact I2.ok.noex b o e z
  ·exact absurd (za (yH e) (y7 I2.ok.bsz z)) (zz _)
 exfs:=λb h z=>(yF.mp (I2.stkSub b z)).elim (hf b h).2.1 (hf b h).2.2.1
 funs:=I2.stack
 frf:=λb h=>I2.stkFree b h
end
def FN (X:Cx) (ifs:List Expr) (t:TT):Prop :=
 ∀(pins:List (Addr×Obj)) (s:zz8) (σ:St) (H:Hp) (Q:Bool->Hp->Prop),Inv X pins σ H s->t σ H Q ->
  wpAny (model X.prog X.w) X.A (forIn ifs true λc r=>if r=true then do let ok <- isTrue c X.env (eval c X.env);pure (ForInStep.yield ok) else pure (ForInStep.yield r)) (TP X pins σ Q) X.xe s
def b6:TT:=λ_ H Q=>Q true H
theorem bo {X:Cx}:FN X [] b6:=λ_ _ _ H _ I h=>wpAny_tests_nil ⟨H,I,h⟩
theorem b7 {X:Cx}{c:Expr}{t:TT} (h:PT X c t):FN X [c] t:=λpins s σ H Q I q=>wpAny_tests_one (h pins s σ H Q I q)
section
variable {prog:Program}{w:World}{A:Around}{R:Result->zz8->Prop}{s:zz8}
theorem uY {elt tg iter:Expr}{ifs:List Expr}{scope:Scope}{pos:Pos}{it C5:zz9}{env:Env} (J:Nat->zz8->Prop)
  (turn:∀n s,J n s->wpAny (model prog w) A (pyNext it) (λr s1=>match r with
   | none=>R (.ok .next) s1
   | some v=>wpAny (model prog w) A (letOwnedTupleGo tg it v) (λ_ s2=>wpAny (model prog w) A (assign tg env v) (λ_ s3 =>
     wpAny (model prog w) A (forIn ifs true λc r=>if r=true then do let ok <- isTrue c env (eval c env);pure (ForInStep.yield ok) else pure (ForInStep.yield r)) (λok s4 =>
      if ok=true then wpAny (model prog w) A (eval elt env) (λx s5=>wpAny (model prog w) A (call (.builtin "list.append") [C5,x]) (λ_ s6=>∃m,m < n/\J m s6) (λ_ _=>False) s5) (λ_ _=>False) s4
      else ∃m,m < n/\J m s4) (λ_ _=>False) s3) (λ_ _=>False) s2) (λ_ _=>False) s1) (λ_ _=>False) s)
  (n:Nat) (h:J n s):codeAny (model prog w) A (.compLoop (.ListComp elt [⟨tg,iter,ifs,0⟩] scope pos) 0 it C5 env) R s:=by
 refine CQ rfl J (λk t hJ=>?_) n h;show wpAny _ A ((compTurn (.ListComp elt [⟨tg,iter,ifs,0⟩] scope pos) 0 it C5 env).onRaise (λx=>do noteFrame x env;theTreesLotGoes x)) _ _ t;refine wpAny_noted (zJ (E:=λ_ _=>False) ?_ (λ_ _ q=>q) λ_ _ f=>f.elim);rw [compTurn_list];refine yz (zW (yz (C4 (turn k t hJ) λr s1 h1=>?_)));cases r with
 | none=>exact yC h1
 | some v =>
  refine yz (C4 h1 λ_ s2 h2=>yz (C4 h2 λ_ s3 h3=>yz (C4 h3 λok s4 h4=>?_)));cases ok with
  | false=>exact yC ⟨rfl,h4⟩
  | true=>exact yz (yz (C4 h4 λx s5 h5=>yz (C4 h5 λ_ s6 h6=>yC (yC ⟨rfl,h6⟩))))
end
def EJ (J:It) (g:TG) (tt:TT) (te:TE) (σ':St) (fin:List V->Hp->Prop) (H1:Hp):Prop :=
 ∃W:Nat->Nat->List V->St->Hp->Prop,(∃m,W 0 m [] σ' H1)/\∀i m ys σ H,W i m ys σ H ->
  (J.stop i H/\ys.length<=sizeLine/\fin ys H)\/(J.go i H/\ys.length < sizeLine/\∃Nx:List V->St->Hp->Prop,(∀DF σ' H',Nx DF σ' H'->∃m',m' < m/\W (i + 1) m' DF σ' H') /\
   ∀x H',J.yld i H x H'->g x σ H' λσ2 H2=>tt σ2 H2 λb H3=>if b=true then te σ2 H3 (λv H4=>Nx (ys++[v]) σ2 H4) else Nx ys σ2 H3)
def Q4 (wi:TI) (g:TG) (tt:TT) (te:TE) (ix:List (Option Nat)):TE:=λσ H Q=>wi σ H λJ H1=>EJ J g tt te (Fe ix σ) (λys H'=>∀p,H' p=none->Q (.ref p) (upd H' p (.lst ys))) H1
section
variable {X:Cx}{scope:Scope}{N:List Str}{ix:List (Option Nat)}
theorem mB {pins pins':List (Addr×Obj)}{σ σ':St}{H2 H':Hp}{s2 s':zz8}{C D:Addr}{fp:List Addr}{ys:List V}{C1:List zz9}{k:Nat}{h':Heap} (I2:Inv X pins σ H2 s2) (hf:∀b∈fp,bv X pins H2 b)
  (I':Inv (aw X scope N C s2 H2 fp) pins' σ' H' s') (hC:s2.heap.objs.size<=C) (hD:s2.heap.objs.size<=D) (Ec:D≠C) (hn:H' D=none) (ho:s'.heap.get? D=some { cls:=.type "list",data:=.seq C1.toArray k }) (rv:aq ys C1) (hz:ys.length<=sizeLine)
  (hs:∀b o,b≠C->s'.heap.get? b=some o->h'.get? b=some o):Inv X pins σ (upd H' D (.lst ys)) { s' with heap:=h' }:=by
 have B:Un (Dq X.stack) fp H2 H' s2.heap s'.heap:=I'.base;have Eu:∀b o,s2.heap.get? b=some o->b≠C:=λb o e=>y9 (za (yH e) hC);have RL:∀b o,s2.heap.get? b=some o->b≠D:=λb o e=>y9 (za (yH e) hD);have NL:H' C=none:=I'.free;have tD:∀b u,H' b=some u->b≠D:=λb u e=>ar e hn;have tC:∀b u,H' b=some u->b≠C:=λb u e=>ar e NL;refine I2.call' (s':={ s' with heap:=h' }) (ch:=fp) I'.os ⟨λb o e n hb hx=>?_,λb o e n hb hx=>?_,λb o e n hx=>?_,λb o e hx=>?_,λb xs e=>?_,λb o u e=>?_,λb ps e=>?_⟩ (λb u e=>?_) I'.bare λb hb=>⟨(hf b hb).2.2.2.1,(hf b hb).2.1,(hf b hb).2.2.2.2.1,(hf b hb).2.2.2.2.2⟩
 ·exact hs b o (Eu b o e) (B.keep b o e n hb hx)
 ·obtain⟨sl,q⟩:=B.slot b o e n hb hx
  exact⟨sl,hs b _ (Eu b o e) q⟩
 ·rw [ag (RL b o e)];exact B.free b o e n hx
 ·obtain⟨o',q⟩:=B.there b o e hx
  exact⟨o',hs b o' (Eu b o e) q⟩
 ·rw [ag (tD b _ (B.tups b xs e))];exact B.tups b xs e
 ·rw [ag (tD b _ (B.frzs b o u e))];exact B.frzs b o u e
 ·obtain⟨m,q⟩:=B.tbls b ps e
  exact⟨m,by rw [ag (tD b _ q)];exact q⟩
 ·by_cases hb:b=D
  ·subst hb
   rw [aj] at e;cases e;exact⟨hz,C1,k,rv,hs b _ Ec ho⟩
  ·rw [ag hb] at e
   refine (I'.hok b u e).stay (λc v hc q=>hs c v ?_ q) (λc q=>by rw [ag (tD c _ q)];exact q) λc xs q=>by rw [ag (tD c _ q)];exact q
   rcases hc with z | z
   ·rw [z];exact tC b u e
   ·exact tC c _ z
theorem i6 (L:bD X scope N ix) {pins:List (Addr×Obj)}{σ:St}{H2:Hp}{s2:zz8}{C:Addr}{fp:List Addr}{h1:Heap}{tk:Nat}{m:Str->Option zz9} (I2:Inv X pins σ H2 s2) (hC:s2.heap.objs.size<=C) (hf:∀b∈fp,bv X pins H2 b) (hb:∀b∈fp,b < s2.heap.objs.size)
  (kp:∀b o,s2.heap.get? b=some o->h1.get? b=some o) (hn:h1.Ns C m):Inv (aw X scope N C s2 H2 fp) [] (Fe ix σ) H2 { s2 with heap:=h1,toks:=tk }:=by
 refine⟨w5 L I2 hC hf hb,rfl,I2.bare,Un.kept kp,⟨m,hn,λi x v e1 e2 e3=>?_⟩,λx c e=>?_,I2.hok.fresh hC,λx c e=>I2.freeC x c (cR e),λp hp=>absurd (show p∈([]:List (Addr×Obj)) from hp) (by simp),I2.hok.kept kp,?_⟩
 ·unfold Fe at e2
  rw [yR] at e2;cases q:ix[i]? with
  | none=>rw [q] at e2;cases e2
  | some o =>
   rw [q] at e2;cases o with
   | none=>cases e2
   | some j =>
    have Jm:(σ[j]?).join=some v:=zy e2;have e4:σ[j]?=some (some v):=by
     cases z:σ[j]? with
     | none=>rw [z] at Jm;cases Jm
     | some y=>rw [z] at Jm;exact congrArg some Jm
    obtain⟨a1,a2,a3⟩:=L.out e1 q;obtain⟨mo,_,hl⟩:=I2.loc;obtain⟨u,r,lk⟩:=hl j x v a1 e4 (.inr a3);refine⟨u,r,?_⟩
    rcases lk with ⟨k,_⟩ | ⟨k,c,e,o,ho,hd⟩
    ·rcases a3 with z | z
     ·rw [z] at k;cases k
     ·rw [z] at k;cases k
    ·obtain⟨k',To,e'⟩:=mm (env:=X.env) a2
     refine .inr ⟨?_,c,kF (Ax a2) e,o,kp _ _ ho,hd⟩
     rcases To with z | z
     ·subst z;exact .inl e'
     ·subst z;exact .inr e'
 ·obtain⟨v,o,ho,hd⟩:=I2.cell x c (cR e)
  exact⟨v,o,kp _ _ ho,hd⟩
 ·unfold Fe
  rw [yA];exact L.len.symm
variable {tg iter elt:Expr}{ifs:List Expr}{pos:Pos}{g:TG}{tt:TT}{te:TE}
theorem mS (L:bD X scope N ix) (hc:X.calm=true) (hg:∀C s0 H0 fp,PG (aw X scope N C s0 H0 fp) tg g) (ht:∀C s0 H0 fp,FN (aw X scope N C s0 H0 fp) ifs tt) (he:∀C s0 H0 fp,PE (aw X scope N C s0 H0 fp) elt te)
  {pins:List (Addr×Obj)}{σ:St}{H2:Hp}{s2:zz8}{it:Addr}{fp:List Addr}{tn:Nat->Heap->Prop}{J:It}{fin:List V->Hp->Prop}{E:zz9->zz8->Prop}{RR:zz9->Addr->Result->zz8->Prop}
  (I2:Inv X pins σ H2 s2) (T:Turn X.prog X.w X.K tg J fp it tn) (st:tn 0 s2.heap) (f2:∀b∈fp,bv X pins H2 b) (hW:EJ J g tt te (Fe ix σ) fin H2)
  (KD:∀D C s' m ys H',s'.heap.Ns C m->s'.os=s2.os->D≠C->bv X pins (upd H' D (.lst ys)) C->(∀h',Heap.SameBut C s'.heap h'->Inv X pins σ (upd H' D (.lst ys)) { s' with heap:=h' })->H' D=none->fin ys H'->RR (.ref D) C (.ok .next) s') :
  wpAny (model X.prog X.w) X.A (newList []) (λC5 s3=>wpAny (model X.prog X.w) X.A (newFunctionEnv scope X.env.globals (bK X.env scope.names []) [] X.env.qual none .none (some X.env)) (λEF s4 =>
   codeAny (model X.prog X.w) X.A (.compStart (.ListComp elt [⟨tg,iter,ifs,0⟩] scope pos) 0 (.ref it) C5 { EF with scope:=relabel scope X.env }) (RR C5 EF.locals) s4) E s3) E s2:=by
 obtain⟨W,⟨m0,w0⟩,turn⟩:=hW;have Gf:∀b∈fp,b < s2.heap.objs.size:=λb hb=>by
  obtain⟨o,e,_⟩:=T.obj _ _ st b hb;exact yH e
 refine zA (Ca L.nocell (by intro y hy;simp at hy) (λh1 ES E2=>?_) L.kind)
 dsimp only at ES E2 ⊢
 generalize hG:s2.heap.push { cls:=.type "list",dict:=none,data:=.seq ([]:List zz9).toArray }=G at ES E2 ⊢;have HC:G.objs.size=s2.heap.objs.size + 1:=by rw [<- hG,zo]
 generalize Iy:s2.heap.objs.size=D at HC Gf;generalize IB:G.objs.size=C at HC ES E2 ⊢;have Ec:D≠C:=by omega
 have nq:∀b:Nat,b < s2.heap.objs.size->b≠C/\b≠D:=λb h=>⟨by omega,by omega⟩
 have HW:∀b∈fp,b≠C/\b≠D:=λb hb=>nq b (by rw [Iy];exact Gf b hb);have kG:∀b o,s2.heap.get? b=some o->G.get? b=some o:=λb o e=>by rw [<- hG];exact yB _ e
 have kp:∀b o,s2.heap.get? b=some o->h1.get? b=some o:=λb o e=>E2.extBut b o (nq b (yH e)).1 (yB _ (kG b o e));have oD:∃n,h1.get? D=some { cls:=.type "list",data:=.seq ([]:List zz9).toArray n }:=⟨_,E2.extBut _ _ Ec (yB _ (by rw [<- hG,<- Iy];exact yN _ rfl))⟩
 have I4:=i6 L (tk:=s2.toks + ([]:List (Str×zz9)).length) I2 (C:=C) (by omega) f2 (by rw [Iy];exact Gf) kp ES;have Hf:tn 0 h1:=T.keep _ _ _ st λb _ o e=>kp b o e;have Jj:D∉(aw X scope N C s2 H2 fp).fs:=λz=>by
  have z':D∈Dq X.stack:=z
  rcases yF.mp (I2.stkSub D z') with q | q
  ·exact (nq _ I2.lt).2 q.symm
  ·exact I2.nofs (a:=D) (by omega) q
 have EG:∀x c,(aw X scope N C s2 H2 fp).env.cells.lookup x=some c->c≠D:=λx c e z=>by
  obtain⟨v,o,ho,_⟩:=I2.cell x c (cR e);exact (nq c (yH ho)).2 z
 have stat:∀{H':Hp}{pl:List (Addr×Obj)},(∀b∈fp,H' b=none)->(∀p∈pl,p.1=D)->∀b∈fp,bv (aw X scope N C s2 H2 fp) pl H' b:=λ{H' pl} hn hp b hb=>by
  have Dh:=Gf b hb;refine⟨hn b hb,(HW b hb).1,λz=>?_,.inl hb,λx c e=>(f2 b hb).2.2.2.2.1 x c (cR e),λp hq z=>?_⟩
  ·exact (yF.mp (I2.stkSub b z)).elim (f2 b hb).2.1 (f2 b hb).2.2.1
  ·have Em:p∈pl:=by simpa [aw] using hq
   exact (HW b hb).2 (z.symm.trans (hp p Em))
 have GF:∀{pl:List (Addr×Obj)}{σ':St}{H':Hp}{s':zz8}{o:Obj},Inv (aw X scope N C s2 H2 fp) pl σ' H' s'->s'.heap.get? D=some o->H' D=none->(∀v,o.data≠.cell v)->Inv (aw X scope N C s2 H2 fp) [(D,o)] σ' H' s' :=
  λ{pl σ' H' s' o} I' ho hn hd=>I'.pins_of λp hp=>by
   have e:p=(D,o):=by simpa using hp
   subst e;exact⟨ho,hn,Ec,Jj,hd⟩
 have loop:∀s4:zz8,s4={ s2 with heap:=h1,toks:=s2.toks + ([]:List (Str×zz9)).length } ->
   codeAny (model X.prog X.w) X.A (.compLoop (.ListComp elt [⟨tg,iter,ifs,0⟩] scope pos) 0 (.ref it) (.ref D) (aw X scope N C s2 H2 fp).env) (RR (.ref D) C) s4:=by
  rintro s4 rfl;refine uY (λn s'=>∃i σ' H' ys C1 k,Inv (aw X scope N C s2 H2 fp) [(D,{ cls:=.type "list",data:=.seq C1.toArray k })] σ' H' s'/\tn i s'.heap/\(∀b∈fp,H' b=none)/\aq ys C1/\W i n ys σ' H') ?_ m0 ?_
  ·rintro n s' ⟨i,σ',H',ys,C1,k,I',Dm,Gh,rv,w'⟩
   have T8:=I'.pin _ (yM _ yG)
   rcases turn i n ys σ' H' w' with ⟨stop,hz,qf⟩ | ⟨go,hz,Nx,hN,step⟩
   ·refine C4 (T.done (aw X scope N C s2 H2 fp) rfl rfl rfl hc i _ s' σ' H' _ I' (stat Gh (by simp)) Dm stop) λr s5 ⟨hr,I5⟩=>?_
    subst hr;have IA:=I5.pin _ (yM _ yG);obtain⟨m5,Ki,_⟩:=I5.loc;refine KD D C s5 m5 ys H' Ki I5.os Ec (I2.fpOk (by omega) (by rw [ag (zP Ec)];exact I5.free)) (λh' DS=>?_) IA.2.1 qf;exact mB I2 f2 I5 (by omega) (by omega) Ec IA.2.1 IA.1 rv hz λb o hb e=>DS.extBut b o hb e
   ·refine C4 (T.item (aw X scope N C s2 H2 fp) rfl rfl rfl hc i _ s' σ' H' _ I' (stat Gh (by simp)) Dm go) λr s5 ⟨u,hr,h5⟩=>?_
    subst hr;refine C4 h5 λ_ s6 ⟨x,H6,I6,r6,y6,Es,ID⟩=>?_;have IH:=I6.pinned (stat ID (by simp)) (T.obj _ _ Es);refine C4 (hg C s2 H2 fp _ s6 σ' H6 x u _ IH r6 (step x H6 y6)) λ_ s7 ⟨σ7,H7,I7,q7⟩=>?_;refine C4 (ht C s2 H2 fp _ s7 σ7 H7 _ I7 q7) λok s8 ⟨H8,I8,q8⟩=>?_;have back:∀{H9:Hp}{s9:zz8},Inv (aw X scope N C s2 H2 fp) ([(D,{ cls:=.type "list",data:=.seq C1.toArray k })]++cH fp s6.heap) σ7 H9 s9->tn (i + 1) s9.heap/\∀b∈fp,H9 b=none:=λ{H9 s9} I9=>by
     refine⟨T.keep _ _ _ Es λb hb o e=>(I9.pin (b,o) (yM _ (yM _ (cy hb e)))).1,λb hb=>?_⟩;obtain⟨o,e,d⟩:=T.obj _ _ Es b hb;exact (I9.pin (b,o) (yM _ (yM _ (cy hb e)))).2.1
    cases ok with
    | false =>
     rw [if_neg yU] at q8 ⊢;obtain⟨m',hm,w8⟩:=hN _ _ _ q8;obtain⟨HR,IC⟩:=back I8;exact⟨m',hm,i + 1,σ7,H8,ys,C1,k,I8.unpinned,HR,IC,rv,w8⟩
    | true =>
     rw [if_pos rfl] at q8 ⊢;refine C4 (he C s2 H2 fp _ s8 σ7 H8 _ I8 q8) λy s9 ⟨v,H9,I9,r9,q9⟩=>?_;have Iz:=I9.pin _ (yM _ (yW _ yG));obtain⟨L3,NV⟩:=back I9;refine wpAny_list_append_plain (hsz:=by have:=rv.length;rw [yS];omega) ⟨k,Iz.1⟩ λh' Fz DS=>?_;obtain⟨m',hm,w9⟩:=hN _ _ _ q9;obtain⟨k',Ep⟩:=Fz;have HJ:Inv (aw X scope N C s2 H2 fp) [] σ7 H9 { s9 with heap:=h' }:=(I9.pins_of (pins':=[]) λp hp=>absurd hp (by simp)).turned (t':=s9.toks) (it:=D) (λb o hb e=>DS.extBut b o hb e) Iz.2.1 Ec (.inr (by show s2.heap.objs.size<=D;omega)) EG (λp hp=>absurd hp (by simp [aw]));refine⟨m',hm,i + 1,σ7,H9,ys++[v],C1++[y],k',GF HJ (by rw [Ep];simp) Iz.2.1 (λv z=>by cases z),?_,NV,rv.append (.cons r9 .nil),w9⟩;exact T.keep _ _ _ L3 λb hb o e=>DS.extBut b o (HW b hb).2 e
  ·obtain⟨n,e⟩:=oD
   exact⟨0,Fe ix σ,H2,[],[],n,GF I4 e (I2.hok.fresh (by omega)) (λv z=>by cases z),Hf,λb hb=>(f2 b hb).1,.nil,w0⟩
 have q:=loop _ rfl;exact codeAny_compStart_list q (T.self _ 0 _ _ _ Hf q)
end
theorem fg {ss:List Str}:∀{us:List zz9},aq (ss.map V.str) us->StrsAre us ss:=by
 induction ss with
 | nil=>intro us r;rw [CO] at r;cases r;exact .nil
 | cons n ns ih =>
  intro us r;rw [y0] at r;cases r with
  | cons r1 r2 =>
   obtain⟨t,e⟩:=r1;subst e;exact .cons n t (ih r2)
theorem fU:∀{vs:List zz9}{ss:List Str},StrsAre vs ss->aq (ss.map V.str) vs
 | _,_,.nil=>.nil
 | _,_,.cons n t h=>.cons ⟨t,rfl⟩ (fU h)
section
variable {X:Cx}
variable {scope:Scope}{N:List Str}{ix:List (Option Nat)}{tg iter elt:Expr}{ifs:List Expr}{pos:Pos}{g:TG}{tt:TT}{te:TE}{wi:TI}
theorem aY (L:bD X scope N ix) (hc:X.calm=true) (hi:PI X tg iter wi) (hg:∀C s0 H0 fp,PG (aw X scope N C s0 H0 fp) tg g) (ht:∀C s0 H0 fp,FN (aw X scope N C s0 H0 fp) ifs tt) (he:∀C s0 H0 fp,PE (aw X scope N C s0 H0 fp) elt te)
  (hs:∀x,foldedSetIterable iter X.env x=pure x:=by intro _;rfl):PE X (.ListComp elt [⟨tg,iter,ifs,0⟩] scope pos) (Q4 wi g tt te ix):=by
 intro pins s σ H Q I h;rw [eval_ListComp];refine Ba (use:=none) rfl hs (L.clos I.ok) L.kind L.locals (C4 (hi pins s σ H _ I h) λv s1 h1=>C4 h1 λIS s2 h2=>?_);obtain⟨it,fp,tn,J,H2,rfl,I2,T,DW,f2,hW⟩:=h2;refine mS (RR:=λC5 C=>compPost (model X.prog X.w) X.A X.xe none (EP X pins σ Q) C5 C) L hc hg ht he I2 T DW f2 hW ?_;intro D C s' m ys H' hn ho Ec hC hI hD fin;exact⟨m,hn,λh' DS=>⟨.ref D,_,hI h' DS,rfl,fin D hD⟩⟩
def wq (i:Nat) (wi:TI) (g:TG) (tt:TT) (te:TE) (ix:List (Option Nat)):TS:=λD σ H=>wi σ H λJ H1=>EJ J g tt te (Fe ix σ) (λys H'=>∀p,H' p=none->D.nx (σ.set i (some (.ref p))) (upd H' p (.lst ys))) H1
theorem dX {i:Nat}{y:Str}{py FR:Pos} (hN:X.N.Nodup) (Eb:X.N[i]?=some y) (hx:Loc X.env.scope y) (L:bD X scope N ix) (hc:X.calm=true) (hi:PI X tg iter wi) (hg:∀C s0 H0 fp,PG (aw X scope N C s0 H0 fp) tg g)
  (ht:∀C s0 H0 fp,FN (aw X scope N C s0 H0 fp) ifs tt) (he:∀C s0 H0 fp,PE (aw X scope N C s0 H0 fp) elt te)
  (MU:swapsWith (.ListComp elt [⟨tg,iter,ifs,0⟩] scope pos) (some (.Name y py)) FR.line X.env=pure true:=by rfl) (hs:∀x,foldedSetIterable iter X.env x=pure x:=by intro _;rfl)
  (hf:X.fn y=true\/X.env.scope.names.lookup y=some .local:=by first | exact .inl rfl | exact .inr rfl | assumption) :
  PS X (.Assign [.Name y py] (.ListComp elt [⟨tg,iter,ifs,0⟩] scope pos) FR) (wq i wi g tt te ix):=by
 intro pins s σ H D I h;rw [exec_Assign_Name_used _ _ _ _ MU];refine yz (zW (yz ?_));show wpAny _ X.A (do let _ <- comprehension (.ListComp elt [⟨tg,iter,ifs,0⟩] scope pos) scope X.env _ (newList []) false (eval iter X.env) (some (assign (.Name y py) X.env))) _ _ s
 refine yz (C4 (Ba (use:=some (assign (.Name y py) X.env)) (Q:=λ_ s'=>SP X pins D .next s') rfl hs (L.clos I.ok) L.kind L.locals
  (C4 (hi pins s σ H _ I h) λv s1 h1=>C4 h1 λIS s2 h2=>?_)) λ_ s' hq=>yC (yC hq))
 obtain⟨it,fp,tn,J,H2,rfl,I2,T,DW,f2,hW⟩:=h2;refine mS (RR:=λC5 C=>compPost (model X.prog X.w) X.A X.xe (some (assign (.Name y py) X.env)) (λ_ s'=>SP X pins D .next s') C5 C) L hc hg ht he I2 T DW f2 hW ?_;intro Da C s' m ys H' hn ho Ec hC hI hD fin;have I':=hI s'.heap (CB _ _);show wpAny _ X.A (assign (.Name y py) X.env (.ref Da)) _ _ s';refine Cy (gZ (v:=.ref Da) I' hN Eb hx rfl (λHS II ch=>?_) hf);obtain⟨a,IV,MM⟩:=ch;obtain⟨c1,c2,c3,c4,c5,c6⟩:=hC;have NM:C≠a:=by
  rcases MM with z | z
  ·rw [z];exact c2
  ·exact λw=>c5 y a z w.symm
 refine⟨m,hn.sameBut IV NM,λh' DS=>⟨_,_,II.turned (t':=HS.toks) (it:=C) (λb o hb e=>DS.extBut b o hb e) c1 c2 c4 c5 c6,fin Da hD⟩⟩
end
mutual
inductive DV (H:Hp):V->PyData->Prop
 | non:DV H .non .none
 | bl (b:Bool):DV H (.bl b) (.bool b)
 | int (i:Int):DV H (.int i) (.int i)
 | str (x:Str):DV H (.str x) (.str x)
 | tup {a:Addr}{xs:List V}{ds:List PyData}:H a=some (.tup xs)->Er H xs ds->DV H (.ref a) (.tuple ds)
 | lst {a:Addr}{xs:List V}{ds:List PyData}:H a=some (.lst xs)->Er H xs ds->DV H (.ref a) (.list ds)
inductive Er (H:Hp):List V->List PyData->Prop
 | nil:Er H [] []
 | cons {x:V}{d:PyData}{xs:List V}{ds:List PyData}:DV H x d->Er H xs ds->Er H (x::xs) (d::ds)
end
section
variable {P:Program}{w:World}{H:Hp}{h:Heap}
mutual
theorem DV.reads (ok:Ds P w H h):∀{x:V}{d:PyData}{u:zz9},DV H x d->RelV x u->∃as,Reads h u d as
 | _,_,u,.non,r=>by cases (show u=Value.none from r);exact⟨_,Reads.none⟩
 | _,_,u,.bl b,r=>by cases (show u=Value.bool b from r);exact⟨_,Reads.bool b⟩
 | _,_,u,.int i,r=>by obtain⟨t,e⟩:=(show ∃t,u=Value.int i t from r);cases e;exact⟨_,Reads.int i t⟩
 | _,_,u,.str x,r=>by obtain⟨t,e⟩:=(show ∃t,u=Value.str x t from r);cases e;exact⟨_,Reads.str x t⟩
 | _,_,u,.tup (a:=a) (xs:=xs) e q,r=>by
  cases (show u=Value.ref a from r);obtain⟨_,C1,rv,o,ho,hc,n,hd⟩:=(show aF P w H h a (.tup xs) from ok a _ e)
  obtain⟨as,z⟩:=Er.reads ok q rv;exact⟨as,Reads.tuple ho hc hd (by simpa using z)⟩
 | _,_,u,.lst (a:=a) (xs:=xs) e q,r=>by
  cases (show u=Value.ref a from r);obtain⟨_,C1,n,rv,ho⟩:=(show aF P w H h a (.lst xs) from ok a _ e)
  obtain⟨as,z⟩:=Er.reads ok q rv;exact⟨_,Reads.list ho rfl rfl (by simpa using z)⟩
theorem Er.reads (ok:Ds P w H h):∀{xs:List V}{ds:List PyData}{us:List zz9},Er H xs ds->aq xs us->∃as,ReadsAll h us ds as
 | _,_,_,.nil,.nil=>⟨_,ReadsAll.nil⟩
 | _,_,_,.cons a b,.cons r rs=>by
  obtain⟨as,p⟩:=DV.reads ok a r;obtain⟨bs,q⟩:=Er.reads ok b rs;exact⟨_,ReadsAll.cons p q⟩
end
end
theorem Er.strs {H:Hp}:∀ss:List Str,Er H (ss.map V.str) (ss.map PyData.str)
 | []=>.nil
 | x::r=>.cons (.str x) (Er.strs r)
section
variable {X:Cx}
open SeqAt in
theorem iU {k:Nat} (hr:aN k X.A):Dz X (compareOp .NotEq) (λx y H Q=>∃d e,DV H x d/\DV H y e/\shaped d=true/\shaped e=true/\Q (.bl (!PyData.eqv d e)) H):=by
 intro pins s σ H x y v u Q I rx ry h;obtain⟨d,e,dx,dy,sd,se,q⟩:=h;obtain⟨as,r1⟩:=dx.reads I.hok rx;obtain⟨bs,r2⟩:=dy.reads I.hok ry;exact ne_dataH r1 r2 sd se hr.units ⟨.bl (!PyData.eqv d e),H,I,rfl,q⟩
theorem qr (bs:List Bool):((List.range bs.length).all λi=>(bs[i]?).getD true)=bs.all id:=by
 rw [A0,zL,zL];constructor
 ·intro h b hb
  obtain⟨i,hi,e⟩:=List.mem_iff_getElem.mp hb;have:=h i (AD.mpr hi);rw [yJ hi,e] at this;simpa using this
 ·intro h i hi
  have hi:=AD.mp hi;rw [yJ hi];simpa using h _ (zx hi)
theorem eh (hc:X.calm=true):aZ X (.builtin "all") (λxs H Q=>∃(p:Addr) (bs:List Bool),xs=[.ref p]/\C3 X.K H p (bs.map V.bl)/\Q (.bl (bs.all id)) H):=by
 intro pins s σ H xs us Q I r h;obtain⟨p,bs,rfl,hq,q⟩:=h;obtain⟨u,rfl,rx⟩:=vals1 r;cases rx;obtain⟨C1,r',pl,hz⟩:=I.list hq;have Dh:p < s.heap.objs.size:=by obtain⟨o,n,e,_⟩:=pl;exact yH e
 have C6:=r'.length;rw [yA] at C6;refine call_all_walk (AL pl.isList ?_)
 refine⟨s.heap.objs.size,[s.heap.objs.size,p],[s.heap.objs.size],C1.toArray.size,_,_,λi=>(bs[i]?).getD true,rfl,Walks.list (A:=X.A.in1) (I.ok.hd hc) _ p (y9 Dh) C1.toArray,
  ⟨⟨_,yN _ rfl,rfl,rfl⟩,pl.isList.push _⟩,λi v s' Q' E' hP hQ=>?_,λh' tk hk=>?_⟩
 ·have Ql:C1[i]?=some v:=by simpa using hP
  have hb:∃b,bs[i]?=some b/\v=Value.bool b:=by
   have hi:i < bs.length:=by rw [C6];exact (yV.mp Ql).1
   have e1:(bs.map V.bl)[i]?=some (V.bl bs[i]):=by rw [yR,yJ hi];rfl
   obtain⟨w',e2,DY⟩:=r'.get e1;rw [Ql] at e2;cases e2;exact⟨bs[i],yJ hi,DY⟩
  obtain⟨b,e,rfl⟩:=hb;simp only [e,Option.getD_some] at hQ;exact zZ hQ
 ·have e:((List.range C1.toArray.size).all λi=>(bs[i]?).getD true)=bs.all id:=by
   rw [yS,<- C6];exact qr bs
  rw [e];refine⟨.bl (bs.all id),H,I.kept (t':=tk) λb x e=>hk b x (λhm=>?_) (yB _ e),rfl,q⟩;rw [yK.mp hm] at e;exact zz _ (yH e)
theorem cQ {T:String}:aZ X (.builtin "isinstance") (λxs H Q=>∃x t b,xs=[x,.ty T]/\cf X.K H x t/\PySem.W.kitOne X.K t (.type T)=some b/\Q (.bl b) H):=by
 intro pins s σ H xs us Q I r h;obtain⟨x,t,b,rfl,ty,e,q⟩:=h;obtain⟨u,w',rfl,rx,ry⟩:=vals2 r;cases (show w'=Value.type T from ry);exact qE I rx ty e λtk=>⟨.bl b,H,I.tok tk,rfl,q⟩
theorem kr:Dz X (compareOp .LtE) (λx y H Q=>∃i j,x=.str i/\y=.str j/\Q (.bl (!decide (j.cps.toList < i.cps.toList))) H):=by
 intro pins s σ H x y v u Q I rx ry h;obtain⟨i,j,rfl,rfl,q⟩:=h;obtain⟨t,rfl⟩:=rx;obtain⟨t',rfl⟩:=ry;exact PySem.P.le_str ⟨.bl (!decide (j.cps.toList < i.cps.toList)),H,I,rfl,q⟩
theorem uN:Oc X "str.join" (λx xs H Q=>∃(z:Str) (p:Addr) (ss:List Str),x=.str z/\xs=[.ref p]/\C3 X.K H p (ss.map V.str)/\(ss.map (·.length)).sum + ss.length * z.length<=16777216/\Q (.str (Txt.join z ss)) H):=by
 intro pins s σ H x xs v us Q I rx rs h;obtain⟨z,p,ss,rfl,rfl,hq,hz,q⟩:=h;obtain⟨t,rfl⟩:=rx;obtain⟨u,rfl,ru⟩:=vals1 rs;cases ru;obtain⟨C1,r',pl,_⟩:=I.list hq;exact join_list pl.isList (fg r') hz λt' k=>⟨.str (Txt.join z ss),H,I.tok k,⟨_,rfl⟩,q⟩
theorem fS:aZ X (.builtin "sorted") (λxs H Q=>∃(p:Addr) (ss:List Str),xs=[.ref p]/\C3 X.K H p (ss.map V.str)/\ss.length < 64/\∀(Dg:List Str) (q:Addr),Dg.Perm ss->sortedS Dg=true->H q=none->Q (.ref q) (upd H q (.lst (Dg.map V.str)))):=by
 intro pins s σ H xs us Q I r h;obtain⟨p,ss,rfl,hq,HD,q⟩:=h;obtain⟨u,rfl,rx⟩:=vals1 r;cases rx;obtain⟨C1,r',pl,hz⟩:=I.list hq;have C6:=r'.length;rw [yA] at C6;refine sorted_strs pl.isList (fg r') (by omega) λout Dg a1 a2 a3=>?_;obtain⟨e,he⟩:=sortedAll_at s.heap C1 out;have hv:aq (Dg.map V.str) out.toList:=fU a1;have FA:H (s.heap.objs.size + 1)=none:=I.hok.fresh (Az _);refine⟨.ref (s.heap.objs.size + 1),_,I.laid (t':=s.toks) (o:=.lst (Dg.map V.str)) (λb o z=>sortedAll_old z) (Az _) ⟨?_,out.toList,e,hv,?_⟩,rfl,q Dg _ a2 a3 FA⟩
 ·rw [yA,a2.length_eq,zj];omega
 ·simpa [seqObj] using he
end
end L2
set_option maxHeartbeats 4000000
namespace L2
open PySem PySem.W PyProof.Rows
abbrev gp (p:Array Nat) (i:Nat):Nat:=p.getD i 0
structure Ord (N:Nat) (lt:Nat->Nat->Bool):Prop where
 tr:∀i j k,lt i j=true->lt j k=true->lt i k=true
 irr:∀i,lt i i=false
 tot:∀i j,i < N->j < N->i≠j->lt i j=true\/lt j i=true
def Pm (N:Nat) (p:Array Nat):Prop:=p.Perm (List.toArray (List.range N))
theorem Pm.size {N:Nat}{p:Array Nat} (h:Pm N p):p.size=N:=by
 have:=Array.Perm.size_eq h;simpa using this
theorem eK {p:Array Nat}{i:Nat} (h:i < p.size):gp p i=p[i]:=by simp [gp,Array.getD,h]
theorem f7 {p q:Array Nat}{i j:Nat} (h:p[i]?=q[j]?):gp p i=gp q j:=by simp [gp,Aw,h]
theorem Pm.lt {N:Nat}{p:Array Nat} (h:Pm N p) {i:Nat} (hi:i < N):gp p i < N:=by
 have hs:i < p.size:=by rw [h.size];exact hi
 rw [eK hs];have hm:p[i]∈(List.toArray (List.range N)):=h.mem_iff.mp (Array.getElem_mem hs);simpa using hm
theorem Pm.nd {N:Nat}{p:Array Nat} (h:Pm N p):p.toList.Nodup:=by
 have hp:p.toList.Perm (List.range N):=by simpa using Cu.mp h
 exact hp.nodup_iff.mpr List.nodup_range
theorem Pm.inj {N:Nat}{p:Array Nat} (h:Pm N p) {i j:Nat} (hi:i < N) (hj:j < N) (DE:i≠j):gp p i≠gp p j:=by
 have MX:i < p.size:=by rw [h.size];exact hi
 have MW:j < p.size:=by rw [h.size];exact hj
 rw [eK MX,eK MW];intro e;have nd:=h.nd
 rcases Bi DE with z | z
 ·exact yZ.mp nd i j (by simpa using MX) (by simpa using MW) z (by simpa using e)
 ·exact yZ.mp nd j i (by simpa using MW) (by simpa using MX) z (by simpa using e.symm)
section
variable {N:Nat}{lt:Nat->Nat->Bool}{cmp:Nat->Nat->(Bool->zz8->Prop)->zz8->Prop}{s:zz8}
def EX (lt:Nat->Nat->Bool) (p:Array Nat) (b:Nat):Prop:=∀i j,i < j->j < b->lt (gp p i) (gp p j)=true
def Jq (lt:Nat->Nat->Bool) (p:Array Nat) (b:Nat):Prop:=∀i j,i < j->j < b->lt (gp p j) (gp p i)=true
theorem EX.more (O:Ord N lt) {p:Array Nat}{n:Nat} (h:EX lt p n) (h1:1<=n) (e:lt (gp p (n - 1)) (gp p n)=true):EX lt p (n + 1):=λi j DE hj=>by
 by_cases q:j < n
 ·exact h i j DE q
 ·have:j=n:=by omega
  subst this
  by_cases z:i=j - 1
  ·rw [z];exact e
  ·exact O.tr _ _ _ (h i (j - 1) (by omega) (by omega)) e
theorem Jq.more (O:Ord N lt) {p:Array Nat}{n:Nat} (h:Jq lt p n) (h1:1<=n) (e:lt (gp p n) (gp p (n - 1))=true):Jq lt p (n + 1):=λi j DE hj=>by
 by_cases q:j < n
 ·exact h i j DE q
 ·have:j=n:=by omega
  subst this
  by_cases z:i=j - 1
  ·rw [z];exact e
  ·exact O.tr _ _ _ e (h i (j - 1) (by omega) (by omega))
theorem Ord.other (O:Ord N lt) {p:Array Nat} (hp:Pm N p) {i j:Nat} (hi:i < N) (hj:j < N) (DE:i≠j) (e:lt (gp p i) (gp p j)≠true):lt (gp p j) (gp p i)=true :=
 (O.tot _ _ (hp.lt hi) (hp.lt hj) (hp.inj hi hj DE)).resolve_left e
variable (O:Ord N lt) (hc:∀(i j:Nat) (C:Bool->zz8->Prop),i < N->j < N->i≠j->C (lt i j) s->cmp i j C s)
include O hc
theorem iN {p:Array Nat} (hp:Pm N p) {Q:Nat->zz8->Prop}:∀(f n:Nat),1<=n->n + f<=N->EX lt p n->(∀m,n<=m->m<=n + f->EX lt p m->(m=n + f\/lt (gp p m) (gp p (m - 1))=true)->Q m s)->(kas_asc p f n).kasWp cmp Q s
 | 0,n,h1,hn,ha,k=>k n (yO _) (yO _) ha (.inl rfl)
 | f + 1,n,h1,hn,ha,k=>by
  unfold kas_asc;refine hc _ _ _ (hp.lt (by omega)) (hp.lt (by omega)) (hp.inj (by omega) (by omega) (by omega)) ?_
  by_cases e:lt (gp p n) (gp p (n - 1))=true
  ·show KasT.kasWp cmp (if lt (gp p n) (gp p (n - 1))=true then _ else _) Q s
   rw [if_pos e];exact k n (yO _) (by omega) ha (.inr e)
  ·show KasT.kasWp cmp (if lt (gp p n) (gp p (n - 1))=true then _ else _) Q s
   rw [if_neg e];exact iN hp f (n + 1) (by omega) (by omega) (ha.more O h1 (O.other hp (by omega) (by omega) (by omega) e)) λm a b c d=>k m (by omega) (by omega) c (d.imp (λz=>by omega) id)
theorem lD {p:Array Nat} (hp:Pm N p) {Q:Array Nat×Nat×Nat->zz8->Prop}:∀(f n:Nat),1<=n->n + f<=N->Jq lt p n->(∀m,n<=m->m<=n + f->Jq lt p m->Q (p,m,0) s)->(kas_desc f p n 0).kasWp cmp Q s
 | 0,n,h1,hn,ha,k=>k n (yO _) (yO _) ha
 | f + 1,n,h1,hn,ha,k=>by
  unfold kas_desc;refine hc _ _ _ (hp.lt (by omega)) (hp.lt (by omega)) (hp.inj (by omega) (by omega) (by omega)) ?_
  by_cases e:lt (gp p n) (gp p (n - 1))=true
  ·show KasT.kasWp cmp (if lt (gp p n) (gp p (n - 1))=true then _ else _) Q s
   rw [if_pos e,if_neg (by omega)];exact lD hp f (n + 1) (by omega) (by omega) (ha.more O h1 e) λm a b c=>k m (by omega) (by omega) c
  ·show KasT.kasWp cmp (if lt (gp p n) (gp p (n - 1))=true then _ else _) Q s
   rw [if_neg e];refine hc _ _ _ (hp.lt (by omega)) (hp.lt (by omega)) (hp.inj (by omega) (by omega) (by omega)) ?_;have e2:=O.other hp (show n < N by omega) (show n - 1 < N by omega) (by omega) e;show KasT.kasWp cmp (if lt (gp p (n - 1)) (gp p n)=true then _ else _) Q s;rw [if_pos e2];exact k n (yO _) (by omega) ha
theorem vJ {p:Array Nat} (hp:Pm N p) {m:Nat} (hm:m<=N) (h:Jq lt p m):Pm N (kas_rev p 0 m)/\EX lt (kas_rev p 0 m) m:=by
 have hz:m<=p.size:=by rw [hp.size];exact hm
 refine⟨(mirror_perm p 0 m _).trans hp,λi j DE hj=>?_⟩
 have g:∀k,k < m->gp (kas_rev p 0 m) k=gp p (0 + m - 1 - k):=λk hk=>f7 (by
  unfold kas_rev
  rw [getElem?_mirror_all hz,if_pos ⟨ze _,hk⟩])
 rw [g i (by omega),g j hj];exact h _ _ (by omega) (by omega)
theorem tG {p:Array Nat} (hp:Pm N p) (h2:2<=N) {Q:Nat×Array Nat->zz8->Prop} (h0:∀m q,1<=m->m<=N->Pm N q->EX lt q m->Q (m,q) s):(kas_count N p).kasWp cmp Q s:=by
 unfold kas_count;rw [BH];refine iN O hc hp (N - 1) 1 (yO _) (by omega) (λi j a b=>by omega) λm a b c d=>?_
 by_cases e:(m == N)=true
 ·rw [if_pos e]
  exact h0 m p a (by omega) hp c
 ·rw [if_neg e]
  have hm:m≠N:=λz=>e (beq_iff_eq.mpr z)
  by_cases e1:m > 1
  ·rw [if_pos e1]
   refine hc _ _ _ (hp.lt (by omega)) (hp.lt (by omega)) (hp.inj (by omega) (by omega) (by omega)) ?_;show KasT.kasWp cmp (if lt (gp p 0) (gp p (m - 1))=true then _ else _) Q s;rw [if_pos (c 0 (m - 1) (by omega) (by omega))];exact h0 m p a (by omega) hp c
  ·rw [if_neg e1]
   have:m=1:=by omega
   subst this;have e2:lt (gp p 1) (gp p (1 - 1))=true:=d.resolve_left (by omega);unfold kas_descPart;rw [BH]
   refine lD O hc hp (N - (1 + 1)) (1 + 1) (by omega) (by omega) (λi j x y=>by
    have:i=0:=by omega
    have:j=1:=by omega
    subst i j
    exact e2) λm' a' b' c'=>?_
   show KasT.kasWp cmp (if (0:Nat) > 0 then _ else _) Q s;rw [if_neg (by omega)];show KasT.kasWp cmp (kas_tail3 m' N p) Q s;unfold kas_tail3;rw [BH];obtain⟨r1,r2⟩:=vJ O hc hp (show m'<=N by omega) c';exact iN O hc r1 (N - m') m' (by omega) (by omega) r2 λSr x y z w=>h0 Sr _ (by omega) (by omega) r1 z
theorem ir {p:Array Nat} (hp:Pm N p) {k:Nat} (hk:k < N) (ha:EX lt p k) {Q:Nat->zz8->Prop}:∀(f l r:Nat),l<=r->r<=k->r - l<=f->(∀i,i < l->lt (gp p i) (gp p k)=true)->(∀i,r<=i->i < k->lt (gp p k) (gp p i)=true) ->
  (∀l,l<=k->(∀i,i < l->lt (gp p i) (gp p k)=true)->(∀i,l<=i->i < k->lt (gp p k) (gp p i)=true)->Q l s)->(kas_place p k f l r).kasWp cmp Q s
 | 0,l,r,h1,h2,h3,hl,hr,q=>by
  have:l=r:=by omega
  subst this;exact q l h2 hl hr
 | f + 1,l,r,h1,h2,h3,hl,hr,q=>by
  unfold kas_place
  by_cases e:l ≥ r
  ·rw [if_pos e]
   have:l=r:=by omega
   subst this;exact q l h2 hl hr
  ·rw [if_neg e]
   refine hc _ _ _ (hp.lt hk) (hp.lt (by omega)) (hp.inj hk (by omega) (by omega)) ?_
   by_cases c:lt (gp p k) (gp p ((l + r) / 2))=true
   ·show KasT.kasWp cmp (if lt (gp p k) (gp p ((l + r) / 2))=true then _ else _) Q s
    rw [if_pos c];refine ir hp hk ha f l ((l + r) / 2) (by omega) (by omega) (by omega) hl (λi a b=>?_) q
    by_cases z:i=(l + r) / 2
    ·rw [z];exact c
    ·exact O.tr _ _ _ c (ha _ _ (by omega) b)
   ·show KasT.kasWp cmp (if lt (gp p k) (gp p ((l + r) / 2))=true then _ else _) Q s
    rw [if_neg c];have c':=O.other hp hk (show (l + r) / 2 < N by omega) (by omega) c;refine ir hp hk ha f ((l + r) / 2 + 1) r (by omega) h2 (by omega) (λi a=>?_) hr q
    by_cases z:i=(l + r) / 2
    ·rw [z];exact c'
    ·exact O.tr _ _ _ (ha i ((l + r) / 2) (by omega) (by omega)) c'
theorem mE {Q:Array Nat->zz8->Prop} (h0:∀q,Pm N q->EX lt q N->Q q s):∀(f:Nat) (p:Array Nat) (k:Nat),k + f=N->Pm N p->EX lt p k->(kas_bin f p k).kasWp cmp Q s
 | 0,p,k,hk,hp,ha=>h0 p hp (by rw [<- hk];exact ha)
 | f + 1,p,k,hk,hp,ha=>by
  unfold kas_bin;rw [BH];refine ir O hc hp (show k < N by omega) ha k 0 k (by omega) (yO _) (by omega) (λi z=>by omega) (λi a b=>by omega) λl hl h1 h2=>?_;refine mE h0 f _ (k + 1) (by omega) ((bubble_perm p k _).trans hp) λi j DE hj=>?_;have hs:k < p.size:=by rw [hp.size];omega
  have g:∀i,gp (bubble p k (k - l)) i=if i=l then gp p k else if l < i/\i<=k then gp p (i - 1) else gp p i:=λi=>by
   have e:=getElem?_bubble hs (k - l) (by omega) i;have e1:k - (k - l)=l:=by omega
   rw [e1] at e
   by_cases z1:i=l
   ·rw [if_pos z1] at e ⊢;exact f7 e
   ·rw [if_neg z1] at e ⊢
    by_cases z2:l < i/\i<=k
    ·rw [if_pos z2] at e ⊢;exact f7 e
    ·rw [if_neg z2] at e ⊢;exact f7 e
  rw [g i,g j]
  by_cases a1:i=l
  ·rw [if_pos a1,if_neg (by omega),if_pos (by omega)]
   exact h2 _ (by omega) (by omega)
  ·rw [if_neg a1]
   by_cases a2:l < i/\i<=k
   ·rw [if_pos a2,if_neg (by omega),if_pos (by omega)]
    exact ha _ _ (by omega) (by omega)
   ·rw [if_neg a2]
    by_cases b1:j=l
    ·rw [if_pos b1];exact h1 i (by omega)
    ·rw [if_neg b1]
     by_cases b2:l < j/\j<=k
     ·rw [if_pos b2]
      exact ha _ _ (by omega) (by omega)
     ·rw [if_neg b2]
      exact ha _ _ DE (by omega)
theorem ux (h2:2<=N) {Q:Array Nat->zz8->Prop} (h0:∀q,Pm N q->EX lt q N->Q q s):(kas_sort N).kasWp cmp Q s:=by
 unfold kas_sort;rw [BH];refine tG O hc (Array.Perm.refl _) h2 λm q a b hp ha=>?_;show KasT.kasWp cmp (if m < N then _ else _) Q s
 by_cases e:m < N
 ·rw [if_pos e]
  have em:max m 1=m:=by omega
  show KasT.kasWp cmp (kas_bin (N - max m 1) q (max m 1)) Q s;rw [em];exact mE O hc h0 (N - m) q m (by omega) hp ha
 ·rw [if_neg e]
  have:m=N:=by omega
  subst this;exact h0 q hp ha
end
end L2
namespace L2
open PySem PySem.Spec PyProof.Rows PySem.W PySem.Calls
section
variable {prog:Program}{w:World}{A:Around}{E:zz9->zz8->Prop}{s:zz8}
def je (prog:Program) (w:World) (A:Around) (vs:List zz9) (lt:Nat->Nat->Bool) (s:zz8):Prop :=
 ∃κ:SortKind,(∀Q:SortKind->zz8->Prop,Q κ s->wpAny (model prog w) A (keyKind' vs.toArray) Q (λ_ _=>False) s) /\
  ∀(i j:Nat) (C:Bool->zz8->Prop),i < vs.length->j < vs.length->i≠j->C (lt i j) s->kas_ask prog w A κ vs i j C s
def dk (vs:List zz9) (p:Array Nat):List zz9:=p.toList.map λi=>vs.getD i Value.none
theorem pU {lt:Nat->Nat->Bool}{a:Addr}{vs:List zz9}{n:Nat}{P:PySem.Fin->zz8->Prop} (ho:s.heap.get? a=some (seqObj "list" vs.toArray n)) (HD:vs.length < 64) (O:Ord vs.length lt)
  (hk:2<=vs.length->∀s':zz8,(∀b o,b≠a->s.heap.get? b=some o->s'.heap.get? b=some o)->je prog w A vs lt s')
  (h:∀p,Pm vs.length p->EX lt p vs.length->P (.done (.ret .none)) { s with heap:=sortedHeap s.heap a vs (dk vs p).toArray }) :
  wpAny (model prog w) A (Builtin.«list.sort» ⟨[.ref a],[]⟩) P E s:=by
 rw [list_sort_plain];have Dh:a < s.heap.objs.size:=yH ho;have Ks:vs.length<=sizeLine:=by rw [zj];omega
 refine yz (listItems_at ho rfl (yz (listUpdate_at ho rfl ?_ (by rw [yS];exact Ks) (ze _))));obtain⟨e1,Ii⟩:∃e1,(s.heap.update a (Obj.mapSeq λ_=>(#[]:Array zz9))).get? a=some (seqObj "list" #[] e1):=⟨_,get?_update_seq ho λ_=>#[]⟩
 refine yz (seqEpoch_at Ii rfl (yz (Cn (yz (B0 (zw ?_) (ze _))) (by show vs.length<=_;exact Ks))));have EA:(((s.heap.update a (Obj.mapSeq λ_=>(#[]:Array zz9))).push (seqObj "tuple" vs.toArray 0)).push (seqObj "list" #[] 0)).get? a=some (seqObj "list" #[] e1):=yB _ (yB _ Ii);show wpAny (model prog w) A _ P E { s with heap:=((s.heap.update a (Obj.mapSeq λ_=>(#[]:Array zz9))).push (seqObj "tuple" vs.toArray 0)).push (seqObj "list" #[] 0) }
 dsimp only
 by_cases h2:vs.toArray.size < 2
 ·rw [if_pos h2,if_pos h2]
  refine yz (yC ?_);rw [StateT.run_pure];refine yz (yC ?_)
  dsimp only
  have hz:((vs.toArray.zip vs.toArray).map (·.2))=(dk vs (List.toArray (List.range vs.length))).toArray:=by
   unfold dk;apply Array.ext
   ·simp
   ·intro i h1 h2
    simp only [Array.size_map,Array.size_zip,yS,Nat.min_self] at h1;simp [h1]
  have es:vs.toArray.size=vs.length:=by simp
  refine yz (seqEpoch_at EA rfl (yz (listUpdate_at EA rfl ?_ (ze _) ?_)))
  ·simp only [bne_self_eq_false,zV,if_false]
   have q:=h (List.toArray (List.range vs.length)) (Array.Perm.refl _) (λi j DE hj=>by omega);unfold sortedHeap at q;rw [<- hz] at q;exact yC q
  ·show ((vs.toArray.zip vs.toArray).map (·.2)).size<=sizeLine + 1
   simp only [Array.size_map,Array.size_zip,yS,Nat.min_self];omega
 ·have NQ:2<=vs.length:=by rw [yS] at h2;omega
  rw [if_neg h2,if_neg h2];obtain⟨κ,kd,ask⟩:=hk NQ { s with heap:=((s.heap.update a (Obj.mapSeq λ_=>(#[]:Array zz9))).push (seqObj "tuple" vs.toArray 0)).push (seqObj "list" #[] 0) } λb o hb e =>
   yB _ (yB _ (by rw [BE _ _ _ _ hb];exact e))
  refine yz (zJ (E:=λ_ _=>False) (Q:=λk s'=>k=κ/\s'={ s with heap:=((s.heap.update a (Obj.mapSeq λ_=>(#[]:Array zz9))).push (seqObj "tuple" vs.toArray 0)).push (seqObj "list" #[] 0) }) (kd _ ⟨rfl,rfl⟩) ?_ λ_ _ f=>f.elim);rintro k s' ⟨rfl,rfl⟩
  refine yz (zJ (kat_run (ks:=vs) (G:=λp s'=>(Pm vs.length p/\EX lt p vs.length)/\s'={ s with heap:=((s.heap.update a (Obj.mapSeq λ_=>(#[]:Array zz9))).push (seqObj "tuple" vs.toArray 0)).push (seqObj "list" #[] 0) })
   (Q:=λDm s'=>∃p:Array Nat,arrOf Dm=p.map (kas_item (vs.toArray.zip vs.toArray))/\failedOf Dm=none/\(Pm vs.length p/\EX lt p vs.length)/\s'={ s with heap:=((s.heap.update a (Obj.mapSeq λ_=>(#[]:Array zz9))).push (seqObj "tuple" vs.toArray 0)).push (seqObj "list" #[] 0) })
   rfl NQ HD (λp Dm s' _ a2 a3 a4=>⟨p,a2,a3,a4⟩) (ux O ask NQ λq hq ha=>⟨⟨hq,ha⟩,rfl⟩)) ?_ λ_ _ e=>e)
  rintro⟨⟨⟩,Dm⟩ s' ⟨p,TL,hf,⟨hp,ha⟩,rfl⟩
  dsimp only
  rw [kat_snds rfl TL];have hsz:(List.toArray (p.toList.map λi=>vs.getD i Value.none)).size<=sizeLine + 1:=by
   rw [yS,yA,zB,hp.size];omega
  refine yz (seqEpoch_at EA rfl (yz (listUpdate_at EA rfl ?_ (ze _) hsz)));rw [hf];simp only [bne_self_eq_false,zV,if_false];exact yC (h p hp ha)
theorem jC {l:Addr}{o:Obj}{vs:List zz9}{n:Nat}{T:String}{Q:List zz9->zz8->Prop} (hT:T="list"\/T="tuple") (ho:s.heap.get? l=some o) (hc:o.cls=.type T) (hd:o.data=.seq vs.toArray n)
  (h:Q vs { s with heap:=(s.heap.push (seqObj "list" #[] 0)).update s.heap.objs.size (Obj.mapSeq (·++vs.toArray)) }) (hsz:vs.length<=sizeLine):wpAny (model prog w) A (collect (.ref l)) Q E s:=by
 rcases hT with rfl | rfl
 ·exact collect_list ⟨o,ho,hc,n,hd⟩ h hsz
 ·unfold collect
  refine yz (wpAny_runValue (zT entry_proto_collect' ?_));show wpAny _ _ (do again (.builtin "list.__iadd__" ⟨[<- newList [],.ref l],[]⟩)) _ _ s;refine yz (B0 (yC ⟨BM _ (by decide +kernel),zT entry_list_iadd' ?_⟩));show wpAny _ _ (Builtin.List.listExtendWith (.ref s.heap.objs.size) (.ref l) (.ref s.heap.objs.size)) _ _ { s with heap:=s.heap.push (seqObj "list" #[] 0) };unfold Builtin.List.listExtendWith;have Ep:(s.heap.push (seqObj "list" #[] 0)).get? l=some o:=yB _ ho;refine yz (CS (T:="tuple") ⟨o,Ep,hc⟩ ?_);rw [if_pos (by rw [show (Value.type "tuple" == Value.type "tuple")=true from rfl];simp)];refine yz (listItems_at Ep hd (yz (listItems_at (xs:=#[]) (n:=0) (yN _ rfl) rfl ?_)));rw [if_neg (by simp)];refine yz (listUpdate_at (xs:=#[]) (n:=0) (yN _ rfl) rfl (yC ?_) (ze _) (by show (#[]++vs.toArray).size<=sizeLine + 1;simp only [Array.size_append,yS,CZ];omega))
  show wpAny (model prog w) A (do
    let o <- load s.heap.objs.size
    match o.data with
    | .seq xs _=>pure xs.toList
    | _=>unsupported "internal:collect") Q E { s with heap:=(s.heap.push (seqObj "list" #[] 0)).update s.heap.objs.size (Obj.mapSeq (·++vs.toArray)) }
  refine yz (wpAny_load (get?_update_seq (yN _ rfl) _) ?_);show wpAny _ _ (pure ((#[]:Array zz9)++vs.toArray).toList) Q E _;rw [show ((#[]:Array zz9)++vs.toArray).toList=vs by simp];exact yC h
theorem lh {lt:Nat->Nat->Bool}{l:Addr}{o:Obj}{vs:List zz9}{n:Nat}{T:String}{Q:zz9->zz8->Prop} (hT:T="list"\/T="tuple") (ho:s.heap.get? l=some o) (hc:o.cls=.type T) (hd:o.data=.seq vs.toArray n) (HD:vs.length < 64) (O:Ord vs.length lt)
  (hk:2<=vs.length->∀s':zz8,(∀b o,s.heap.get? b=some o->s'.heap.get? b=some o)->je prog w A.in1.in1 vs lt s')
  (h:∀p,Pm vs.length p->EX lt p vs.length->Q (.ref (s.heap.objs.size + 1)) { s with heap:=sortedAll s.heap vs (dk vs p).toArray }):wpAny (model prog w) A (call (.builtin "sorted") [.ref l]) Q E s:=by
 refine Calls.call_function_entry kind_sorted plain_sorted entry_sorted (args_sorted1 _) ?_;unfold Builtin.«sorted»;refine yz (m:=checkCount "sorted" 1 1 _) (yC (yz (jC hT ho hc hd (yz (B0 ?_ (by rw [zj];omega))) (by rw [zj];omega))));have hsz:((s.heap.push (seqObj "list" #[] 0)).update s.heap.objs.size (Obj.mapSeq (·++vs.toArray))).objs.size=s.heap.objs.size + 1:=by rw [Heap.size_update,size_push']
 have Ga:(((s.heap.push (seqObj "list" #[] 0)).update s.heap.objs.size (Obj.mapSeq (·++vs.toArray))).push (seqObj "list" vs.toArray 0)).get? (s.heap.objs.size + 1)=some (seqObj "list" vs.toArray 0):=by
  rw [<- hsz];exact yN _ rfl
 show wpAny _ _ _ _ _ { s with heap:=((s.heap.push (seqObj "list" #[] 0)).update s.heap.objs.size (Obj.mapSeq (·++vs.toArray))).push (seqObj "list" vs.toArray 0) };rw [hsz];have kp:∀b o,s.heap.get? b=some o->(((s.heap.push (seqObj "list" #[] 0)).update s.heap.objs.size (Obj.mapSeq (·++vs.toArray))).push (seqObj "list" vs.toArray 0)).get? b=some o:=λb ob e=>by
  have hb:=yH e;refine yB _ ?_;rw [BE _ _ _ _ (y9 hb)];exact yB _ e
 refine yz (zw (zC slot_list_sort ⟨_,Ga,rfl⟩ entry_list_sort (pU Ga HD O (λz s' DS=>hk z s' λb ob e=>DS b ob (by have:=yH e;exact y9 (As this)) (kp b ob e)) λp hp ha=>⟨_,rfl,?_⟩) (args_list_sort _)));exact yC ⟨_,rfl,h p hp ha⟩
end
theorem iW {h:Heap}:∀{vs fs:List zz9},KatTups h vs fs->∀(i:Nat),i < vs.length->∃a o xs n f,vs.getD i Value.none=.ref a/\h.get? a=some o/\o.data=.seq xs n/\xs[0]?=some f/\fs[i]?=some f
 | [],[],_,i,hi=>absurd hi (Cb _)
 | [],_::_,t,_,_=>t.elim
 | _::_,[],t,_,_=>t.elim
 | v::vs,f::fs,t,0,_=>by
  obtain⟨⟨a,o,xs,n,rfl,ho,hc,hd,hf⟩,_⟩:=t;exact⟨a,o,xs,n,f,rfl,ho,hd,hf,rfl⟩
 | v::vs,f::fs,t,i + 1,hi=>by
  obtain⟨_,t⟩:=t;obtain⟨a,o,xs,n,g,e1,e2,e3,e4,e5⟩:=iW t i (by simpa using hi);exact⟨a,o,xs,n,g,by simpa using e1,e2,e3,e4,by simpa using e5⟩
theorem iP:∀{fs:List zz9}{ss:List Str},StrsAre fs ss->∀(i:Nat) (f:zz9),fs[i]?=some f->∃t,f=.str (ss.getD i Str.empty) t/\i < ss.length
 | _,_,.nil,i,f,h=>by simp at h
 | _,_,.cons y t r,0,f,h=>by simp at h;exact⟨t,h.symm,by simp⟩
 | _,_,.cons y t r,i + 1,f,h=>by
  obtain⟨t',e1,e2⟩:=iP r i f (by simpa using h);exact⟨t',by simpa using e1,by simpa using e2⟩
theorem wo {prog:Program}{w:World}{A:Around}{s:zz8}{vs fs:List zz9}{ss:List Str} (t:KatTups s.heap vs fs) (hS:StrsAre fs ss) (Di:0 < fs.length) (Do:ss.Nodup) :
  je prog w A vs (λi j=>decide ((ss.getD i Str.empty).cps.toList < (ss.getD j Str.empty).cps.toList)) s:=by
 refine⟨tuples' (Value.type "str" != Value.type "tuple"),λQ q=>kat_kind (T:=Value.type "str") t Di (λv hv=>?_) (by decide) q,λi j C hi hj DE q=>?_⟩
 ·obtain⟨x,u,rfl⟩:=hS.all v hv
  exact Looks.now
 ·obtain⟨a,o,xs,n,f,e1,e2,e3,e4,e5⟩:=iW t i hi
  obtain⟨b,o',ys,n',g,g1,g2,g3,g4,g5⟩:=iW t j hj;obtain⟨tf,rfl,D1⟩:=iP hS i f e5;obtain⟨tg,rfl,D9⟩:=iP hS j g g5;unfold kas_ask;rw [e1,g1];refine kat_lt e2 e3 g2 g3 ?_;obtain⟨xr,hx⟩:∃xr,xs.toList=.str (ss.getD i Str.empty) tf::xr:=by
   cases hq:xs.toList with
   | nil=>rw [<- zS,hq] at e4;simp at e4
   | cons z zr=>rw [<- zS,hq] at e4;simp at e4;rw [e4];exact⟨zr,rfl⟩
  obtain⟨yr,hy⟩:∃yr,ys.toList=.str (ss.getD j Str.empty) tg::yr:=by
   cases hq:ys.toList with
   | nil=>rw [<- zS,hq] at g4;simp at g4
   | cons z zr=>rw [<- zS,hq] at g4;simp at g4;rw [g4];exact⟨zr,rfl⟩
  rw [hx,hy];have Td:ss.getD i Str.empty≠ss.getD j Str.empty:=by
   rw [zd,zd,yJ D1,yJ D9];intro z;have z':ss[i]=ss[j]:=z
   rcases Bi DE with y | y
   ·exact yZ.mp Do i j D1 D9 y z'
   ·exact yZ.mp Do j i D9 D1 y z'.symm
  show KatLex prog w A _ _ C ((Value.str (ss.getD i Str.empty) tf,Value.str (ss.getD j Str.empty) tg)::xr.zip yr) 0 s;refine kat_cons (wpAny_eqBool_str ?_);rw [decide_eq_false Td];refine kat_no ?_;show wpAny _ A (oneLt' true _ _) C _ s;exact strKind_oneLt prog w A _ s _ _ _ _ rfl rfl q
theorem iG {x y:Str} (h:x≠y):x.cps.toList < y.cps.toList\/y.cps.toList < x.cps.toList:=by
 by_cases c:x.cps.toList < y.cps.toList
 ·exact .inl c
 ·rcases List.le_iff_lt_or_eq.mp (List.not_lt.mp c) with z | z
  ·exact .inr z
  ·refine absurd ?_ h
   obtain⟨a⟩:=x;obtain⟨b⟩:=y;have e:b=a:=Array.toList_inj.mp z;rw [e]
def mM (H:Hp) (rs:List (Addr×Str)):Prop:=∀r∈rs,∃rest,H r.1=some (.tup (.str r.2::rest))
abbrev refs (rs:List (Addr×Str)):List V:=rs.map λr=>V.ref r.1
def Du (x y:Str):Prop:=x.cps.toList < y.cps.toList
theorem jF {P:Program}{w:World}{H:Hp}{h:Heap} (ok:Ds P w H h):∀{rs:List (Addr×Str)}{us:List zz9},mM H rs->aq (refs rs) us->∃fs,KatTups h us fs/\StrsAre fs (rs.map (·.2))
 | [],us,_,r=>by cases r;exact⟨[],trivial,.nil⟩
 | x::rs,us,hr,r=>by
  cases r with
  | @cons _ u _ us' r1 r2 =>
   obtain⟨fs,t,q⟩:=jF ok (rs:=rs) (λy hy=>hr y (yT _ hy)) r2;obtain⟨rest,e⟩:=hr x yG;cases (show u=Value.ref x.1 from r1);obtain⟨_,C1,rv,o,ho,hc,n,hd⟩:=(show aF P w H h x.1 (.tup (.str x.2::rest)) from ok x.1 _ e)
   cases rv with
   | @cons _ f _ its' rf _ =>
    obtain⟨tk,rfl⟩:=rf;exact⟨.str x.2 tk::fs,KatTups.cons ho hc hd (by simp) t,.cons _ _ q⟩
theorem hX {xs:List V}{us:List zz9} (r:aq xs us):∀{ps:List Nat},(∀i∈ps,i < xs.length)->aq (ps.map λi=>xs.getD i .non) (ps.map λi=>us.getD i Value.none)
 | [],_=>.nil
 | i::ps,h=>by
  have hi:=h i yG;obtain⟨u,e,ru⟩:=r.get (yJ hi);refine .cons ?_ (hX r λj hj=>h j (yT _ hj));show RelV (xs.getD i .non) (us.getD i Value.none);rw [zd,zd,yJ hi,e];exact ru
theorem j3 {α:Type} (d:α) (xs:List α) {p:Array Nat} (h:Pm xs.length p):(p.toList.map λi=>xs.getD i d).Perm xs:=by
 have hp:p.toList.Perm (List.range xs.length):=by simpa using Cu.mp h
 have e:(List.range xs.length).map (λi=>xs.getD i d)=xs:=by
  apply List.ext_getElem
  ·simp
  ·intro i h1 h2
   simp [h2]
 exact (hp.map _).trans (by rw [e])
section
variable {X:Cx}
theorem oU:aZ X (.builtin "sorted") (λxs H Q=>∃(p:Addr) (rs:List (Addr×Str)),xs=[.ref p]/\(C3 X.K H p (refs rs)\/C2 X.K H p (refs rs))/\mM H rs/\rs.length < 64/\(rs.map (·.2)).Nodup /\
  ∀(Fs:List (Addr×Str)) (q:Addr),Fs.Perm rs->(Fs.map (·.2)).Pairwise Du->H q=none->Q (.ref q) (upd H q (.lst (refs Fs)))):=by
 intro pins s σ H xs us Q I r h;obtain⟨p,rs,rfl,hq,hR,HD,Do,q⟩:=h;obtain⟨u,rfl,rx⟩:=vals1 r;cases rx;have core:∀(T:String) (o:Obj) (C1:List zz9) (n:Nat),(T="list"\/T="tuple")->s.heap.get? p=some o->o.cls=.type T->o.data=.seq C1.toArray n->aq (refs rs) C1 ->
   wpAny (model X.prog X.w) X.A (call (.builtin "sorted") [.ref p]) (EP X pins σ Q) X.xe s:=λT o C1 n hT ho hc hd r'=>by
  have hl:=r'.length;have Fz:C1.length=rs.length:=by rw [<- hl];simp
  have O:Ord C1.length (λi j=>decide (((rs.map (·.2)).getD i Str.empty).cps.toList < ((rs.map (·.2)).getD j Str.empty).cps.toList)):=by
   refine⟨λi j k h1 h2=>?_,λi=>?_,λi j hi hj DE=>?_⟩
   ·exact decide_eq_true (Cv (of_decide_eq_true h1) (of_decide_eq_true h2))
   ·exact decide_eq_false (BQ _)
   ·have D1:i < (rs.map (·.2)).length:=by simpa [<- Fz] using hi
    have D9:j < (rs.map (·.2)).length:=by simpa [<- Fz] using hj
    rw [zd,zd,yJ D1,yJ D9];have ne:(rs.map (·.2))[i]≠(rs.map (·.2))[j]:=by
     rcases Bi DE with y | y
     ·exact yZ.mp Do i j D1 D9 y
     ·exact λz=>yZ.mp Do j i D9 D1 y z.symm
    exact (iG ne).imp decide_eq_true decide_eq_true
  refine lh hT ho hc hd (by omega) O (λh2 s' DS=>?_) λpm hp ha=>?_
  ·obtain⟨fs,t,hS⟩:=jF (I.hok.kept DS) hR r'
   have FB:0 < fs.length:=by
    have:=hS.length;simp at this;omega
   exact wo t hS FB Do
  ·obtain⟨e,he⟩:=sortedAll_at s.heap C1 (dk C1 pm).toArray
   have DT:Pm rs.length pm:=by rw [<- Fz];exact hp
   have Dh:∀i∈pm.toList,i < rs.length:=λi hi=>by
    have:i∈(List.toArray (List.range rs.length)):=DT.mem_iff.mp (by simpa using hi);simpa using this
   have hv:aq ((pm.toList.map λi=>(refs rs).getD i .non)) (dk C1 pm):=hX r' λi hi=>by simpa using Dh i hi
   have Nw:(pm.toList.map λi=>(refs rs).getD i .non)=refs (pm.toList.map λi=>rs.getD i (0,Str.empty)):=by
    unfold refs;rw [y8];exact Ay λi hi=>by simp [Dh i hi]
   rw [Nw] at hv;have FA:H (s.heap.objs.size + 1)=none:=I.hok.fresh (Az _);have Hr:=j3 (0,Str.empty) rs DT;refine⟨.ref (s.heap.objs.size + 1),_,I.laid (t':=s.toks) (o:=.lst (refs (pm.toList.map λi=>rs.getD i (0,Str.empty)))) (λb o z=>sortedAll_old z) (Az _) ⟨?_,dk C1 pm,e,hv,?_⟩,rfl,q _ _ Hr ?_ FA⟩
   ·unfold refs
    rw [yA,Hr.length_eq,zj];omega
   ·simpa [seqObj] using he
   ·rw [y8,Ae]
    refine yZ.mpr λi j hi hj DE=>?_;have Ew:=hp.size;have Eb:i < pm.size:=by simpa using hi
    have Nq:j < pm.size:=by simpa using hj
    have z:=of_decide_eq_true (ha i j DE (by omega));rw [eK Eb,eK Nq] at z;show ((rs.getD pm.toList[i] (0,Str.empty)).2).cps.toList < ((rs.getD pm.toList[j] (0,Str.empty)).2).cps.toList;have b1:=Dh pm.toList[i] (zx _);have b2:=Dh pm.toList[j] (zx _);simp only [Array.getElem_toList] at b1 b2 ⊢;simpa [b1,b2] using z
 rcases hq with hq | hq
 ·obtain⟨C1,r',pl,hz⟩:=I.list hq
  obtain⟨o,ho,hc,n,hd⟩:=pl.isList;exact core "list" o C1 n (.inl rfl) ho hc hd r'
 ·obtain⟨C1,r',pl,hz⟩:=I.tuple hq
  obtain⟨o,ho,hc,n,hd⟩:=pl;exact core "tuple" o C1 n (.inr rfl) ho hc hd r'
end
end L2
namespace L2
open PySem PySem.Spec PyProof.Rows
def LR (x:Str):It:=⟨λi _=>i < x.length,λi H v H'=>H'=H/\∃c,x.cps[i]?=some c/\v=.str ⟨#[c]⟩,λi _=>x.length<=i⟩
theorem sS {P:Program}{w:World}{K:zz7}{tg:Expr} (x:Str) (t:Tok) (it:Addr):Turn P w K tg (LR x) [it] it (λi h=>h.IsStrIter it "str_ascii_iterator" x t i) where
 mem:=by simp
 obj:=λi h st b hb=>by
  have e:b=it:=by simpa using hb
  subst e;obtain⟨o,e,c,d⟩:=st;exact⟨o,e,λv z=>by rw [d] at z;cases z⟩
 keep:=λi h h' st k=>by
  obtain⟨o,e,r⟩:=st;exact⟨o,k it (by simp) o e,r⟩
 item:=by
  intro X hP hw hK hc i pins s σ H E I hf st hg;subst hP hw hK;have Lz:i < x.cps.size:=hg;obtain⟨f0,f1,f2,f3,f4,f5⟩:=hf it (by simp);refine wpAny_pyNext_ascii_item st (zp Lz) λh' Dm sb=>?_;have I1:Inv X pins σ H { s with heap:=h',toks:=s.toks + 1 }:=I.turned (λb o hb e=>(sb.2 b hb).trans e) f0 f1 f3 f4 f5;obtain⟨o,e,c,d⟩:=id Dm;exact⟨_,rfl,fH (s:={ s with heap:=h',toks:=s.toks + 1 }) e c d (by decide) ⟨.str ⟨#[x.cps[i]]⟩,H,I1,⟨_,rfl⟩,⟨rfl,_,zp Lz,rfl⟩,Dm,λb hb=>(hf b hb).1⟩⟩
 done:=by
  intro X hP hw hK hc i pins s σ H E I hf st hg;subst hP hw hK;have Lz:x.cps.size<=i:=hg;obtain⟨f0,f1,f2,f3,f4,f5⟩:=hf it (by simp);exact wpAny_pyNext_ascii_end (I.ok.hd hc) st (AW Lz) λh' eb=>⟨rfl,I.turned (t':=s.toks) (λb o hb e=>eb b o hb e) f0 f1 f3 f4 f5⟩
 self:=λA i s Q E st h=>wpAny_pyIter_striter_ascii st h
section
variable {X:Cx}{tg:Expr}
def xN (tl:TE):TI:=λσ H R=>tl σ H λv H1=>∃x:Str,v=.str x/\x.cps.all (· < 128)=true/\R (LR x) H1
theorem v3 {l:Expr}{tl:TE} (hl:PE X l tl):PI X tg l (xN tl):=by
 intro pins s σ H R I h;refine C4 (hl pins s σ H _ I h) λv s1 ⟨x,H1,I1,r1,q1⟩=>?_;obtain⟨y,rfl,ha,q⟩:=q1;obtain⟨t,rfl⟩:=r1;refine wpAny_pyIter_ascii ha ?_;refine⟨s1.heap.objs.size,[s1.heap.objs.size],_,_,H1,rfl,I1.kept (t':=s1.toks) λb o e=>yB _ e,sS y t _,⟨_,yN _ rfl,rfl,rfl⟩,λb hb=>?_,q⟩;have e:b=s1.heap.objs.size:=by simpa using hb
 subst e;exact I1.fpOk (yO _) (I1.hok.fresh (yO _))
theorem v8:QD X (λx lo hi H Q=>∃z,x=.str z/\z.length<=sizeLine/\Q (.str (Txt.slice z lo hi)) H):=by
 intro pins s σ H x v vl vu lo hi sl Q I rx hs pl pu h;obtain⟨z,rfl,hz,q⟩:=h;obtain⟨t,rfl⟩:=rx;have fin:∀(t':Tok) (k:Nat),EP X pins σ Q (.str (Txt.slice z lo hi) t') { s with toks:=k }:=λt' k=>⟨.str (Txt.slice z lo hi),H,I.tok k,⟨_,rfl⟩,q⟩
 refine⟨"str",_,F.slot_str_getitem.lookup,typeIs_str _ _ _,?_⟩;obtain⟨o,ho,hc,hd⟩:=hs;cases pl with
 | none =>
  cases pu with
  | none=>exact Bf (l:=none) (u:=none) (st:=none) ⟨o,ho,hc,hd⟩ rfl (Cc ⟨y7 (Cd z _ _) hz,λt' k=>fin t' k⟩)
  | int j uj=>exact Bf (l:=none) (u:=some (j,uj)) (st:=none) ⟨o,ho,hc,hd⟩ rfl (Cc ⟨y7 (Cd z _ _) hz,λt' k=>fin t' k⟩)
 | int i ui =>
  cases pu with
  | none=>exact Bf (l:=some (i,ui)) (u:=none) (st:=none) ⟨o,ho,hc,hd⟩ rfl (Cc ⟨y7 (Cd z _ _) hz,λt' k=>fin t' k⟩)
  | int j uj=>exact Bf (l:=some (i,ui)) (u:=some (j,uj)) (st:=none) ⟨o,ho,hc,hd⟩ rfl (Cc ⟨y7 (Cd z _ _) hz,λt' k=>fin t' k⟩)
def m4 (K:zz7):R2:=λx y H Q=>∃a b xs ys,x=.ref a/\y=.ref b/\C2 K H a xs/\C2 K H b ys/\xs.length + ys.length<=sizeLine /\
 (xs=[]->Q (.ref b) H)/\(ys=[]->Q (.ref a) H)/\∀p,H p=none->Q (.ref p) (upd H p (.tup (xs++ys)))
theorem vf:Dz X (binaryOp .Add) (m4 X.K):=by
 intro pins s σ H x y v u Q I rx ry h;obtain⟨a,b,xs,ys,rfl,rfl,ha,hb,hz,q0,q1,q2⟩:=h
 by_cases hx:xs=[]
 ·subst hx
  cases rx;cases ry;obtain⟨C1,r1,p1,_⟩:=I.tuple ha;obtain⟨DC,r2,p2,_⟩:=I.tuple hb;cases r1;obtain⟨⟨cls,dd,data,sl⟩,ho,hc,n,hd⟩:=id p1;obtain⟨⟨KM,HF,data2,Hg⟩,EA,FF,n2,hd2⟩:=id p2;simp only at hc hd FF hd2;subst hc hd FF hd2;exact concat_meets ⟨_,ho,rfl⟩ ⟨_,EA,rfl⟩ noFill_tuple_add seq_tuple_add BX BR (BL _ _)
   (tuple_addW0 a b _ DC.toArray n n2 dd HF sl Hg (by simp)) ⟨ho,EA,⟨.ref b,H,I,rfl,q0 rfl⟩⟩
 ·exact uH pins s σ H (.ref a) (.ref b) v u Q I rx ry ⟨a,b,xs,ys,rfl,rfl,ha,hb,hx,hz,q1,λ_=>q2⟩
end
section
variable {K:zz7}{g:TG}{tt:TT}{te:TE}{σ':St}{fin:List V->Hp->Prop}{H1:Hp}
theorem gm {J:It}{n:Nat} (hn:n < sizeLine) (Pv:Nat->List V->St->Hp->Prop) (Yd:Nat->V->Prop) (h0:Pv 0 [] σ' H1) (hl:∀i ys σ H,i<=n->Pv i ys σ H->ys.length<=i)
  (Tr:∀i ys σ H,i < n->Pv i ys σ H->J.go i H) (Gp:∀ys σ H,Pv n ys σ H->J.stop n H) (hy:∀i ys σ H x H',i < n->Pv i ys σ H->J.yld i H x H'->H'=H/\Yd i x)
  (hs:∀i x ys σ H,i < n->Yd i x->Pv i ys σ H->g x σ H λσ2 H2=>tt σ2 H2 λb H3=>if b=true then te σ2 H3 (λv H4=>Pv (i + 1) (ys++[v]) σ2 H4) else Pv (i + 1) ys σ2 H3) (hd:∀ys σ H,Pv n ys σ H->fin ys H) :
  EJ J g tt te σ' fin H1:=by
 refine⟨λi m ys σ H=>m=n - i/\i<=n/\Pv i ys σ H,⟨n,by simp,ze _,h0⟩,?_⟩;rintro i m ys σ H ⟨rfl,hi,p⟩;have hly:=hl i ys σ H hi p
 by_cases Dh:i < n
 ·refine .inr ⟨Tr i ys σ H Dh p,by omega,λDF σ2 H2=>Pv (i + 1) DF σ2 H2,λDF σ2 H2 q=>⟨n - (i + 1),by omega,rfl,Dh,q⟩,λx H' y=>?_⟩
  obtain⟨e,yd⟩:=hy i ys σ H x H' Dh p y;subst e;exact hs i x ys σ H' Dh yd p
 ·have e:i=n:=by omega
  subst e;exact .inl ⟨Gp ys σ H p,by omega,hd ys σ H p⟩
theorem lT {a:Addr}{xs:List V} (hn:xs.length < sizeLine) (Pv:Nat->List V->St->Hp->Prop) (h0:Pv 0 [] σ' H1) (hl:∀i ys σ H,i<=xs.length->Pv i ys σ H->ys.length<=i/\C2 K H a xs)
  (hs:∀i x ys σ H,xs[i]?=some x->Pv i ys σ H->g x σ H λσ2 H2=>tt σ2 H2 λb H3=>if b=true then te σ2 H3 (λv H4=>Pv (i + 1) (ys++[v]) σ2 H4) else Pv (i + 1) ys σ2 H3) (hd:∀ys σ H,Pv xs.length ys σ H->fin ys H) :
  EJ (Gz K a) g tt te σ' fin H1 :=
 gm hn Pv (λi x=>xs[i]?=some x) h0 (λi ys σ H hi p=>(hl i ys σ H hi p).1) (λi ys σ H hi p=>⟨xs,xs[i],(hl i ys σ H (Am hi) p).2,by simp [hi]⟩) (λys σ H p=>⟨xs,(hl _ ys σ H (yO _) p).2,yO _⟩)
  (λi ys σ H x H' hi p y=>⟨y.1,y.2 xs (hl i ys σ H (Am hi) p).2⟩) (λi x ys σ H _ yd p=>hs i x ys σ H yd p) hd
theorem ig {a:Addr}{xs:List V} (hn:xs.length < sizeLine) (Pv:Nat->List V->St->Hp->Prop) (h0:Pv 0 [] σ' H1) (hl:∀i ys σ H,i<=xs.length->Pv i ys σ H->ys.length<=i/\C3 K H a xs)
  (hs:∀i x ys σ H,xs[i]?=some x->Pv i ys σ H->g x σ H λσ2 H2=>tt σ2 H2 λb H3=>if b=true then te σ2 H3 (λv H4=>Pv (i + 1) (ys++[v]) σ2 H4) else Pv (i + 1) ys σ2 H3) (hd:∀ys σ H,Pv xs.length ys σ H->fin ys H) :
  EJ (Gk K a) g tt te σ' fin H1 :=
 gm hn Pv (λi x=>xs[i]?=some x) h0 (λi ys σ H hi p=>(hl i ys σ H hi p).1) (λi ys σ H hi p=>⟨xs,xs[i],(hl i ys σ H (Am hi) p).2,by simp [hi]⟩) (λys σ H p=>⟨xs,(hl _ ys σ H (yO _) p).2,yO _⟩)
  (λi ys σ H x H' hi p y=>⟨y.1,y.2 xs (hl i ys σ H (Am hi) p).2⟩) (λi x ys σ H _ yd p=>hs i x ys σ H yd p) hd
theorem rN {lo:Int}{n:Nat} (hn:n < sizeLine) (Pv:Nat->List V->St->Hp->Prop) (h0:Pv 0 [] σ' H1) (hl:∀i ys σ H,i<=n->Pv i ys σ H->ys.length<=i)
  (hs:∀i ys σ H,i < n->Pv i ys σ H->g (.int (lo + i)) σ H λσ2 H2=>tt σ2 H2 λb H3=>if b=true then te σ2 H3 (λv H4=>Pv (i + 1) (ys++[v]) σ2 H4) else Pv (i + 1) ys σ2 H3) (hd:∀ys σ H,Pv n ys σ H->fin ys H) :
  EJ (G8 lo n) g tt te σ' fin H1 :=
 gm hn Pv (λi x=>x=.int (lo + i)) h0 hl (λi ys σ H hi p=>hi) (λys σ H p=>yO _) (λi ys σ H x H' hi p y=>y) (λi x ys σ H hi yd p=>by subst yd;exact hs i ys σ H hi p) hd
theorem vn {x:Str} (hn:x.length < sizeLine) (Pv:Nat->List V->St->Hp->Prop) (h0:Pv 0 [] σ' H1) (hl:∀i ys σ H,i<=x.length->Pv i ys σ H->ys.length<=i)
  (hs:∀i c ys σ H,x.cps[i]?=some c->Pv i ys σ H->g (.str ⟨#[c]⟩) σ H λσ2 H2=>tt σ2 H2 λb H3=>if b=true then te σ2 H3 (λv H4=>Pv (i + 1) (ys++[v]) σ2 H4) else Pv (i + 1) ys σ2 H3) (hd:∀ys σ H,Pv x.length ys σ H->fin ys H) :
  EJ (LR x) g tt te σ' fin H1 :=
 gm hn Pv (λi v=>∃c,x.cps[i]?=some c/\v=.str ⟨#[c]⟩) h0 hl (λi ys σ H hi p=>hi) (λys σ H p=>yO _) (λi ys σ H v H' hi p y=>y) (λi v ys σ H hi yd p=>by obtain⟨c,e,rfl⟩:=yd;exact hs i c ys σ H e p) hd
end
section
variable {K:zz7}{tt:TT}{te:TE}{σ':St}{fin:List V->Hp->Prop}{H1:Hp}{j:Nat}
theorem dC {a:Addr}{xs:List V} (hn:xs.length < sizeLine) (Pv:Nat->List V->St->Hp->Prop) (h0:Pv 0 [] σ' H1) (hl:∀i ys σ H,i<=xs.length->Pv i ys σ H->ys.length<=i/\C2 K H a xs)
  (hs:∀i x ys σ H,xs[i]?=some x->Pv i ys σ H->te (σ.set j (some x)) H λv H4=>Pv (i + 1) (ys++[v]) (σ.set j (some x)) H4) (hd:∀ys σ H,Pv xs.length ys σ H->fin ys H):EJ (Gz K a) (bP j) b6 te σ' fin H1 :=
 lT hn Pv h0 hl (λi x ys σ H hx p=>by unfold bP b6;exact aX (hs i x ys σ H hx p)) hd
theorem dW {a:Addr}{xs:List V} (hn:xs.length < sizeLine) (Pv:Nat->List V->St->Hp->Prop) (h0:Pv 0 [] σ' H1) (hl:∀i ys σ H,i<=xs.length->Pv i ys σ H->ys.length<=i/\C3 K H a xs)
  (hs:∀i x ys σ H,xs[i]?=some x->Pv i ys σ H->te (σ.set j (some x)) H λv H4=>Pv (i + 1) (ys++[v]) (σ.set j (some x)) H4) (hd:∀ys σ H,Pv xs.length ys σ H->fin ys H):EJ (Gk K a) (bP j) b6 te σ' fin H1 :=
 ig hn Pv h0 hl (λi x ys σ H hx p=>by unfold bP b6;exact aX (hs i x ys σ H hx p)) hd
theorem gW {lo:Int}{n:Nat} (hn:n < sizeLine) (Pv:Nat->List V->St->Hp->Prop) (h0:Pv 0 [] σ' H1) (hl:∀i ys σ H,i<=n->Pv i ys σ H->ys.length<=i)
  (hs:∀i ys σ H,i < n->Pv i ys σ H->te (σ.set j (some (.int (lo + i)))) H λv H4=>Pv (i + 1) (ys++[v]) (σ.set j (some (.int (lo + i)))) H4) (hd:∀ys σ H,Pv n ys σ H->fin ys H):EJ (G8 lo n) (bP j) b6 te σ' fin H1 :=
 rN hn Pv h0 hl (λi ys σ H hx p=>by unfold bP b6;exact aX (hs i ys σ H hx p)) hd
theorem tJ {x:Str} (hn:x.length < sizeLine) (Pv:Nat->List V->St->Hp->Prop) (h0:Pv 0 [] σ' H1) (hl:∀i ys σ H,i<=x.length->Pv i ys σ H->ys.length<=i)
  (hs:∀i c ys σ H,x.cps[i]?=some c->Pv i ys σ H->te (σ.set j (some (.str ⟨#[c]⟩))) H λv H4=>Pv (i + 1) (ys++[v]) (σ.set j (some (.str ⟨#[c]⟩))) H4) (hd:∀ys σ H,Pv x.length ys σ H->fin ys H):EJ (LR x) (bP j) b6 te σ' fin H1 :=
 vn hn Pv h0 hl (λi c ys σ H hx p=>by unfold bP b6;exact aX (hs i c ys σ H hx p)) hd
theorem ik {a:Addr}{xs:List V} (hn:xs.length < sizeLine) (Pv:Nat->List V->St->Hp->Prop) (h0:Pv 0 [] σ' H1) (hl:∀i ys σ H,i<=xs.length->Pv i ys σ H->ys.length<=i/\C2 K H a xs)
  (hs:∀i x ys σ H,xs[i]?=some x->Pv i ys σ H->tt (σ.set j (some x)) H λb H3=>if b=true then te (σ.set j (some x)) H3 (λv H4=>Pv (i + 1) (ys++[v]) (σ.set j (some x)) H4) else Pv (i + 1) ys (σ.set j (some x)) H3)
  (hd:∀ys σ H,Pv xs.length ys σ H->fin ys H):EJ (Gz K a) (bP j) tt te σ' fin H1:=lT hn Pv h0 hl hs hd
theorem dU {a:Addr}{xs:List V} (hn:xs.length < sizeLine) (Pv:Nat->List V->St->Hp->Prop) (h0:Pv 0 [] σ' H1) (hl:∀i ys σ H,i<=xs.length->Pv i ys σ H->ys.length<=i/\C3 K H a xs)
  (hs:∀i x ys σ H,xs[i]?=some x->Pv i ys σ H->tt (σ.set j (some x)) H λb H3=>if b=true then te (σ.set j (some x)) H3 (λv H4=>Pv (i + 1) (ys++[v]) (σ.set j (some x)) H4) else Pv (i + 1) ys (σ.set j (some x)) H3)
  (hd:∀ys σ H,Pv xs.length ys σ H->fin ys H):EJ (Gk K a) (bP j) tt te σ' fin H1:=ig hn Pv h0 hl hs hd
end
section
variable {X:Cx}{pins:List (Addr×Obj)}{σ:St}{H:Hp}{s:zz8}{h':Heap}
theorem Inv.turnedS {t':Nat}{ch:List Addr} (I:Inv X pins σ H s) (k:∀b o,b∉ch->s.heap.get? b=some o->h'.get? b=some o) (hf:∀b∈ch,bv X pins H b):Inv X pins σ H { s with heap:=h',toks:=t' }:=by
 have JY:∀b u,H b=some u->b∉ch:=λb u e z=>by rw [(hf b z).1] at e;cases e
 have hL:X.env.locals∉ch:=λz=>(hf _ z).2.1 rfl;refine I.step (g':=s.gens) (d':=s.drawn) (ch:=ch) (λb hb=>⟨(hf b hb).2.2.2.1,(hf b hb).2.1,(hf b hb).2.2.2.2.1,(hf b hb).2.2.2.2.2⟩) (λb o _ _ hc e _=>k b o hc e) (λb o _ _ hc e _=>⟨o.slots,k b o hc e⟩) (λ_ _ _ _ n=>n)
  (λb o hc e=>⟨o,k b o hc e⟩) (λ_ _ e=>e) (λ_ _ _ e=>e) (λb ps e=>⟨#[],by rw [e];simp⟩) (λm hm=>?_) (λb u e=>?_) I.bare
 ·obtain⟨o,es,ep,ho,r⟩:=hm
  exact⟨o,es,ep,k _ o hL ho,r⟩
 ·refine (I.hok b u e).stay (λc v hc q=>k c v ?_ q) (λ_ q=>q) λ_ _ q=>q
  rcases hc with z | z
  ·rw [z];exact JY b u e
  ·exact JY c _ z
end
theorem boot_zip:bootBuiltins "zip"=some (.type "zip"):=by decide +kernel
section
variable {X:Cx}
end
section
variable {prog:Program}{w:World}{A:Around}{E:zz9->zz8->Prop}{s:zz8}
end
section
variable {X:Cx}
end
section
variable {κ:Type} [DecidableEq κ]
def aL (kvs:List (κ×V)) (k:κ):Option V:=(kvs.find? λkv=>decide (kv.1=k)).map (·.2)
def putK (kvs:List (κ×V)) (k:κ) (v:V):List (κ×V) :=
 if (kvs.any λkv=>decide (kv.1=k))=true then kvs.map (λkv=>if kv.1=k then (kv.1,v) else kv) else kvs++[(k,v)]
theorem cq {p:κ×V}{r:List (κ×V)}{k:κ} (e:p.1=k):aL (p::r) k=some p.2:=by simp [aL,Bj,e]
theorem bW {p:κ×V}{r:List (κ×V)}{k:κ} (e:¬ p.1=k):aL (p::r) k=aL r k:=by simp [aL,Bj,e]
theorem eo (k:κ):∀kvs:List (κ×V),(kvs.any λkv=>decide (kv.1=k))=(aL kvs k).isSome
 | []=>rfl
 | p::r=>by
  rw [BZ]
  by_cases e:p.1=k
  ·simp only [cq e,decide_eq_true e,Bool.true_or,Option.isSome_some]
  ·rw [bW e,decide_eq_false e,Bool.false_or];exact eo k r
theorem kZ (k j:κ) (y:V):∀kvs:List (κ×V),aL (kvs.map λkv=>if kv.1=k then (kv.1,y) else kv) j=(aL kvs j).map λx=>if j=k then y else x
 | []=>rfl
 | p::r=>by
  have ih:=kZ k j y r;rw [y0]
  by_cases h:p.1=k
  ·rw [if_pos h]
   by_cases e:p.1=j
   ·rw [cq (p:=(p.1,y)) e,cq e,A2,if_pos (e.symm.trans h)]
   ·rw [bW (p:=(p.1,y)) e,bW e,ih]
  ·rw [if_neg h]
   by_cases e:p.1=j
   ·rw [cq (p:=p) e,cq e,A2,if_neg (λz=>h (e.trans z))]
   ·rw [bW (p:=p) e,bW e,ih]
theorem gY (k j:κ) (y:V):∀kvs:List (κ×V),aL kvs k=none->aL (kvs++[(k,y)]) j=if j=k then some y else aL kvs j
 | [],_=>by
  by_cases e:k=j
  ·rw [if_pos e.symm];exact cq (p:=(k,y)) e
  ·rw [if_neg (λz=>e z.symm)];exact bW (p:=(k,y)) e
 | p::r,hn=>by
  rw [CT];have hk:¬ p.1=k:=λz=>by rw [cq z] at hn;cases hn
  rw [bW hk] at hn;have ih:=gY k j y r hn
  by_cases e:p.1=j
  ·rw [cq e,cq e,if_neg (λz=>hk (e.trans z))]
  ·rw [bW e,bW e,ih]
theorem tN (kvs:List (κ×V)) (k j:κ) (y:V):aL (putK kvs k y) j=if j=k then some y else aL kvs j:=by
 unfold putK
 by_cases a:(kvs.any λkv=>decide (kv.1=k))=true
 ·rw [if_pos a,kZ]
  rw [eo] at a
  by_cases e:j=k
  ·obtain⟨x,hx⟩:=CN.mp a
   rw [if_pos e,e,hx,A2,if_pos rfl]
  ·rw [if_neg e]
   cases aL kvs j with
   | none=>rfl
   | some x=>rw [A2,if_neg e]
 ·rw [if_neg a]
  refine gY k j y kvs ?_;rw [eo] at a;cases q:aL kvs k with
  | none=>rfl
  | some x=>rw [q] at a;exact (a rfl).elim
theorem gQ (kvs:List (κ×V)) (k:κ) (v:V):(putK kvs k v).length<=kvs.length + 1:=by
 unfold putK;split
 ·rw [yA];omega
 ·rw [zc,zk,CZ];omega
theorem gh {kvs:List (κ×V)}{k:κ} (v:V) (h:aL kvs k=none):putK kvs k v=kvs++[(k,v)]:=by
 unfold putK;rw [eo,h];exact if_neg (by decide)
theorem cn.isSome_eq {o:Option V}{u:Option zz9} (r:cn o u):o.isSome=u.isSome:=by
 cases o with
 | none=>cases u with
  | none=>rfl
  | some _=>exact (show False from r).elim
 | some _=>cases u with
  | none=>exact (show False from r).elim
  | some _=>rfl
theorem cn.getD {o:Option V}{u:Option zz9}{d:V}{d':zz9} (r:cn o u) (rd:RelV d d'):RelV (o.getD d) (u.getD d'):=by
 cases o with
 | none=>cases u with
  | none=>exact rd
  | some _=>exact (show False from r).elim
 | some _=>cases u with
  | none=>exact (show False from r).elim
  | some _=>exact r
theorem KV.val {kvs:List (κ×V)}{vs:List (κ×zz9)} (r:KV kvs vs) (k:κ):cn (aL kvs k) (valueAt vs k):=by
 unfold KV at r
 induction r with
 | nil=>exact True.intro
 | @cons p q ps qs h t ih =>
  obtain⟨h1,h2⟩:=h
  by_cases e:p.1=k
  ·have e':q.1=k:=h1.symm.trans e
   have b:valueAt (q::qs) k=some q.2:=by simp [valueAt,Bj,e']
   rw [cq e,b];exact h2
  ·have e':¬ q.1=k:=λz=>e (h1.trans z)
   have b:valueAt (q::qs) k=valueAt qs k:=by simp [valueAt,Bj,e']
   rw [bW e,b];exact ih
theorem KV.any {kvs:List (κ×V)}{vs:List (κ×zz9)} (r:KV kvs vs) (k:κ):(kvs.any λkv=>decide (kv.1=k))=vs.any λkv=>decide (kv.1=k):=by
 unfold KV at r
 induction r with
 | nil=>rfl
 | cons h t ih=>rw [BZ,BZ,ih,h.1]
theorem KV.repl {kvs:List (κ×V)}{vs:List (κ×zz9)} (r:KV kvs vs) (k:κ) {y:V}{u:zz9} (ry:RelV y u) :
  KV (kvs.map λkv=>if kv.1=k then (kv.1,y) else kv) (vs.map λkv=>if kv.1=k then (kv.1,u) else kv):=by
 unfold KV at r ⊢
 induction r with
 | nil=>exact .nil
 | @cons p q ps qs h t ih =>
  rw [y0,y0];refine .cons ?_ ih;obtain⟨h1,h2⟩:=h
  by_cases e:p.1=k
  ·rw [if_pos e,if_pos (h1.symm.trans e)];exact⟨h1,ry⟩
  ·rw [if_neg e,if_neg (λz=>e (h1.trans z))];exact⟨h1,h2⟩
theorem KV.put {kvs:List (κ×V)}{vs:List (κ×zz9)} (r:KV kvs vs) (k:κ) {y:V}{u:zz9} (ry:RelV y u):KV (putK kvs k y) (stored vs k u):=by
 unfold putK stored;rw [r.any k]
 by_cases e:(vs.any λkv=>decide (kv.1=k))=true
 ·rw [if_pos e,if_pos e];exact r.repl k ry
 ·rw [if_neg e,if_neg e];exact Paired.snoc r ⟨rfl,ry⟩
theorem KV.length {kvs:List (κ×V)}{vs:List (κ×zz9)} (r:KV kvs vs):kvs.length=vs.length:=BA r
end
theorem eW {P:Program}{w:World}{k:Key}{u:zz9} (r:RelV (kV k) u):(bX P w).is k u=true:=by
 cases k with
 | inl i=>obtain⟨t,e⟩:=(show ∃t,u=Value.int i t from r);subst e;exact pE P w i t
 | inr x=>obtain⟨t,e⟩:=(show ∃t,u=Value.str x t from r);subst e;exact pF P w x t
theorem km {P:Program}{w:World}:∀{ks:List Key}{us:List zz9},aq (ks.map kV) us->ItemsAre (bX P w) ks us
 | [],_,r=>by rw [CO] at r;cases r;exact .nil
 | k::ks,_,r=>by
  rw [y0] at r;cases r with
  | cons h t=>exact .cons (eW h) (km t)
abbrev KT (H:Hp):List (List Key×V)->List (List Key×Addr×zz9)->Prop:=Paired λp q=>p.1=q.1/\H q.2.1=some (.tup (p.1.map kV))/\RelV p.2 q.2.2
theorem KT.val {H:Hp}{kvs:List (List Key×V)}{xs:List (List Key×Addr×zz9)} (r:KT H kvs xs) (k:List Key):cn (aL kvs k) ((atKey xs k).map (·.2)):=by
 induction r with
 | nil=>exact True.intro
 | @cons p q ps qs h t ih =>
  obtain⟨h1,_,h2⟩:=h
  by_cases e:p.1=k
  ·have e':q.1=k:=h1.symm.trans e
   have b:atKey (q::qs) k=some q.2:=by simp [atKey,Bj,e']
   rw [cq e,b];exact h2
  ·have e':¬ q.1=k:=λz=>e (h1.trans z)
   have b:atKey (q::qs) k=atKey qs k:=by simp [atKey,Bj,e']
   rw [bW e,b];exact ih
theorem KT.repl {H:Hp}{kvs:List (List Key×V)}{xs:List (List Key×Addr×zz9)} (r:KT H kvs xs) (k:List Key) {y:V}{u:zz9} (ry:RelV y u) :
  KT H (kvs.map λkv=>if kv.1=k then (kv.1,y) else kv) (xs.map (putAt k u)):=by
 induction r with
 | nil=>exact .nil
 | @cons p q ps qs h t ih =>
  rw [y0,y0];refine .cons ?_ ih;obtain⟨h1,h2,h3⟩:=h;unfold putAt
  by_cases e:p.1=k
  ·rw [if_pos e,if_pos (h1.symm.trans e)];exact⟨h1,h2,ry⟩
  ·rw [if_neg e,if_neg (λz=>e (h1.trans z))];exact⟨h1,h2,h3⟩
theorem KT.put {H:Hp}{kvs:List (List Key×V)}{xs:List (List Key×Addr×zz9)} (r:KT H kvs xs) (k:List Key) {b:Addr}{y:V}{u:zz9} (hb:H b=some (.tup (k.map kV))) (ry:RelV y u) :
  KT H (putK kvs k y) (storedH xs k b u):=by
 have e:(kvs.any λkv=>decide (kv.1=k))=(atKey xs k).isSome:=by
  rw [eo,(r.val k).isSome_eq,Option.isSome_map]
 unfold putK storedH;rw [e]
 by_cases q:(atKey xs k).isSome=true
 ·rw [if_pos q,if_pos q];exact r.repl k ry
 ·rw [if_neg q,if_neg q];exact Paired.snoc r ⟨rfl,hb,ry⟩
theorem KT.keeps {H H':Hp}{kvs:List (List Key×V)}{xs:List (List Key×Addr×zz9)} (r:KT H kvs xs) (ht:∀b ys,H b=some (.tup ys)->H' b=some (.tup ys)):KT H' kvs xs :=
 Paired.mapP r λ_ _ z=>⟨z.1,ht _ _ z.2.1,z.2.2⟩
section
variable {P:Program}{w:World}{H:Hp}{h:Heap}{a:Addr}
theorem ni {u:HO} (ok:Ds P w H h) (e:Rd H a u):aF P w H h a u:=e.ok ok
theorem eI {kvs:List (Key×V)} (ok:Ds P w H h) (e:Rd H a (.dK kvs)):kvs.length<=sizeLine/\(a == sysModules)=false/\∃vs,KV kvs vs/\h.DictOf (bX P w) a vs :=
 show aF P w H h a (.dK kvs) from ni ok e
theorem nF {kvs:List (Key×V)} (ok:Ds P w H h) (e:H a=some (.dK kvs)):kvs.length<=sizeLine/\(a == sysModules)=false/\∃vs,KV kvs vs/\h.DictOf (bX P w) a vs:=eI ok (.inl e)
theorem eC {ks:List Key} (ok:Ds P w H h) (e:H a=some (.tup (ks.map kV))):(tupleKind (bX P w)).is h ks a:=by
 obtain⟨_,C1,r,o,h1,h2,n,h3⟩:=(show aF P w H h a (.tup (ks.map kV)) from ok a _ e)
 exact⟨o,C1.toArray,n,h1,h2,h3,by simpa using km r⟩
theorem eX {kvs:List (List Key×V)} (ok:Ds P w H h) (e:Rd H a (.dT kvs)):kvs.length<=sizeLine/\(a == sysModules)=false /\
  ∃xs,KT H kvs xs/\h.DictOfH (tupleKind (bX P w)) a xs:=by
 obtain⟨z,y,xs,r,o,es,ep,h1,h2,h3,h4,h5⟩:=(show aF P w H h a (.dT kvs) from ni ok e)
 refine⟨z,y,xs,r,o,es,ep,h1,h2,h3,h4,λx hx=>?_,h5⟩;have all:∀{l:List (List Key×V)}{m:List (List Key×Addr×zz9)},KT H l m->∀x∈m,(tupleKind (bX P w)).is h x.1 x.2.1:=by
  intro l m q
  induction q with
  | nil=>intro x hx;exact nomatch hx
  | @cons p q ps qs hq t ih =>
   intro x hx
   rcases yF.mp hx with e | hx
   ·subst e
    exact eC ok (by rw [<- hq.1];exact hq.2.1)
   ·exact ih x hx
 exact all r x hx
theorem wV {kvs:List (List Key×V)} (ok:Ds P w H h) (e:H a=some (.dT kvs)):kvs.length<=sizeLine/\(a == sysModules)=false /\
  ∃xs,KT H kvs xs/\h.DictOfH (tupleKind (bX P w)) a xs:=eX ok (.inl e)
end
def bp (H:Hp) (a:Addr) (y:V) (r:Option V):Prop :=
 (∃kvs k,Rd H a (.dK kvs)/\y=kV k/\r=aL kvs k)\/∃kvs k b,Rd H a (.dT kvs)/\y=.ref b/\H b=some (.tup (k.map kV))/\r=aL kvs k
def cZ (H:Hp) (a:Addr) (y v:V) (H':Hp):Prop :=
 (∃kvs k,H a=some (.dK kvs)/\y=kV k/\kvs.length < sizeLine/\H'=upd H a (.dK (putK kvs k v))) \/
 ∃kvs k b,H a=some (.dT kvs)/\y=.ref b/\H b=some (.tup (k.map kV))/\kvs.length < sizeLine/\H'=upd H a (.dT (putK kvs k v))
theorem bp.k {H:Hp}{a:Addr}{kvs:List (Key×V)}{k:Key} (e:H a=some (.dK kvs)):bp H a (kV k) (aL kvs k):=.inl ⟨kvs,k,.inl e,rfl,rfl⟩
theorem bp.t {H:Hp}{a b:Addr}{kvs:List (List Key×V)}{k:List Key} (e:H a=some (.dT kvs)) (eb:H b=some (.tup (k.map kV))):bp H a (.ref b) (aL kvs k):=.inr ⟨kvs,k,b,.inl e,rfl,eb,rfl⟩
theorem cZ.k {H:Hp}{a:Addr}{kvs:List (Key×V)}{k:Key}{v:V} (e:H a=some (.dK kvs)) (hl:kvs.length < sizeLine):cZ H a (kV k) v (upd H a (.dK (putK kvs k v))):=.inl ⟨kvs,k,e,rfl,hl,rfl⟩
theorem cZ.t {H:Hp}{a b:Addr}{kvs:List (List Key×V)}{k:List Key}{v:V} (e:H a=some (.dT kvs)) (eb:H b=some (.tup (k.map kV))) (hl:kvs.length < sizeLine) :
  cZ H a (.ref b) v (upd H a (.dT (putK kvs k v))):=.inr ⟨kvs,k,b,e,rfl,eb,hl,rfl⟩
section
variable {X:Cx}{pins:List (Addr×Obj)}{σ:St}{H:Hp}{s:zz8}{a:Addr}{y v:V}{u r:zz9}{o:Option V}{A:Around}{E:zz9->zz8->Prop}
theorem Inv.big (I:Inv X pins σ H s):sysModules < s.heap.objs.size:=by
 have h:mainGlobals < s.heap.objs.size:=(I.mod.glob.keeps I.bk).lt;exact Nat.lt_trans (by decide) h
theorem jR {Q:zz9->zz8->Prop} (hu:A.units + 1 < cLine) (I:Inv X pins σ H s) (g:bp H a y (some v)) (ry:RelV y u) (h:∀w' s',Inv X pins σ H s'->RelV v w'->Q w' s') :
  wpAny (model X.prog X.w) A (getItem (.ref a) u) Q E s:=by
 rcases g with ⟨kvs,k,e,ey,l⟩ | ⟨kvs,k,b,e,ey,eb,l⟩
 ·subst ey
  obtain⟨z,hd,vs,rel,dd⟩:=eI I.hok e;obtain⟨w',hw,DY⟩:=cn.some_of (v:=v) (o:=valueAt vs k) (by rw [l];exact rel.val k);exact wpAny_getItem_of (eW ry) dd.mapOf hw (h w' _ (I.tok _) DY)
 ·subst ey
  cases (show u=Value.ref b from ry);obtain⟨z,hd,xs,rel,dd⟩:=eX I.hok e;obtain⟨w',hw,DY⟩:=cn.some_of (v:=v) (o:=(atKey xs k).map (·.2)) (by rw [l];exact rel.val k);obtain⟨p,hp,Jb⟩:=Option.map_eq_some_iff.mp hw;refine wpAny_getItem_heap (BN hu) (eC I.hok eb) dd hp ?_;rw [Jb];exact h w' _ (I.tok _) DY
theorem x9 {Q:zz9->zz8->Prop} (hu:A.units + 1 < cLine) (I:Inv X pins σ H s) (g:bp H a y o) (ry:RelV y u) (h:∀s',Inv X pins σ H s'->Q (.bool o.isSome) s') :
  wpAny (model X.prog X.w) A (compareOp .In u (.ref a)) Q E s:=by
 rcases g with ⟨kvs,k,e,ey,l⟩ | ⟨kvs,k,b,e,ey,eb,l⟩
 ·subst ey
  obtain⟨z,hd,vs,rel,dd⟩:=eI I.hok e;refine wpAny_in_of (eW ry) hd dd.mapOf ?_;rw [<- (rel.val k).isSome_eq,<- l];exact h _ (I.tok _)
 ·subst ey
  cases (show u=Value.ref b from ry);obtain⟨z,hd,xs,rel,dd⟩:=eX I.hok e;refine wpAny_in_heap (BN hu) (eC I.hok eb) hd dd ?_;have q:=(rel.val k).isSome_eq;rw [Option.isSome_map] at q;rw [<- q,<- l];exact h _ (I.tok _)
theorem iM {h':Heap}{t':Nat}{ob:HO} (I:Inv X pins σ H s) (mu:KS (H a)) (hs:Heap.SameBut a s.heap h') (he:∃q,h'.get? a=some q) (new:aF X.prog X.w (upd H a ob) h' a ob) :
  Inv X pins σ (upd H a ob) { s with heap:=h',toks:=t' } :=
 I.write (x:=a) (e:=a) mu (.inl rfl) (λb q hb z=>(hs.2 b hb).trans z) he new
theorem mD {P:Program}{w:World}{H':Hp}{h':Heap}{kvs:List (Key×V)}{vs:List (Key×zz9)} (z:kvs.length<=sizeLine) (hd:(a == sysModules)=false) (rel:KV kvs vs) (dd:h'.DictOf (bX P w) a vs) :
  aF P w H' h' a (.dK kvs):=⟨z,hd,vs,rel,dd⟩
theorem jT {H':Hp}{Q:Unit->zz8->Prop} (hu:A.units + 1 < cLine) (I:Inv X pins σ H s) (g:cZ H a y v H') (ry:RelV y u) (rv:RelV v r) (h:∀s',Inv X pins σ H' s'->Q () s') :
  wpAny (model X.prog X.w) A (setItem (.ref a) u r) Q E s:=by
 rcases g with ⟨kvs,k,e,ey,l,eH⟩ | ⟨kvs,k,b,e,ey,eb,l,eH⟩
 ·subst ey eH
  obtain⟨z,hd,vs,rel,dd⟩:=nF I.hok e;have hz:vs.length<=sizeLine:=by rw [<- rel.length];exact z
  have hl:(putK kvs k v).length<=sizeLine:=by have:=gQ kvs k v;omega
  refine wpAny_setItem_pairs (hsz:=hz) (eW ry) dd λh' Gx hs=>h _ ?_;have he:∃q,h'.get? a=some q:=let ⟨q,_,_,hq,_⟩:=Gx;⟨q,hq⟩;exact iM I (by rw [e];exact True.intro) hs he (mD hl hd (rel.put k rv) Gx)
 ·subst ey eH
  cases (show u=Value.ref b from ry);obtain⟨z,hd,xs,rel,dd⟩:=wV I.hok e;have hz:xs.length<=sizeLine:=by rw [<- BA rel];exact z
  have hl:(putK kvs k v).length<=sizeLine:=by have:=gQ kvs k v;omega
  refine wpAny_setItem_heap (hsz:=hz) (BN hu) (eC I.hok eb) dd λh' Gx hs=>h _ ?_;obtain⟨q,es,ep,hq,h2,h3,h4,_,h5⟩:=Gx;refine iM I (by rw [e];exact True.intro) hs ⟨q,hq⟩ ⟨hl,hd,_,(rel.put k eb rv).keeps λc ys ec=>?_,q,es,ep,hq,h2,h3,h4,h5⟩;rw [ag (i8 ec e (λz=>nomatch z))];exact ec
end
section
variable {X:Cx}{pins:List (Addr×Obj)}{σ:St}{H:Hp}{s:zz8}{a:Addr}{kvs:List (Key×V)}{k:Key}{u:zz9}{A:Around}{E:zz9->zz8->Prop}
theorem wQ {Q:zz9->zz8->Prop} (I:Inv X pins σ H s) (e:Rd H a (.dK kvs)) (h:∀t s',Inv X pins σ H s'->Q (.int kvs.length t) s'):wpAny (model X.prog X.w) A (call (.builtin "len") [.ref a]) Q E s:=by
 obtain⟨z,hd,vs,rel,dd⟩:=eI I.hok e;refine call_len_dict hd dd (by rw [<- rel.length];rw [zj] at z;omega) ?_;rw [<- rel.length];exact h _ _ (I.tok _)
end
def nV (i:Expr):Prop:=∀ov iv,subscripted i false ov iv=operate [ov,iv] (getItem ov iv)
theorem uW {prog:Program}{w:World}{A:Around}{E:zz9->zz8->Prop}{s:zz8}{env:Env}{value slice:Expr}{pos:Pos}{T id:String}{Q:zz9->zz8->Prop}
  (hl:typeLookup (.type T) "__getitem__"=pure (some (.builtin id))) (hs:nV slice)
  (h:wpAny (model prog w) A (eval value env) (λo s₁=>wpAny (model prog w) A (eval slice env) (λi s₂=>s₂.TypeIs o T/\wpAny (model prog w) A (getItem o i) Q E s₂) E s₁) E s) :
  wpAny (model prog w) A (eval (.Subscript value slice pos) env) Q E s:=by
 refine Subscript_ (zJ h (λo s₁ h₁=>zJ h₁ (λi s₂ h₂=>?_) λ_ _ x=>x) λ_ _ x=>x);obtain⟨hT,h₂⟩:=h₂;unfold subscriptTail;refine yz ?_;rw [getitemInPython_of_ne hT.not_modules];refine yz (wpAny_specialOf hT hl ?_);have fin:wpAny (model prog w) A (subscripted slice false o i) (λr s₃=>wpAny (model prog w) A (letTemporaryGo value o r >>= λ_=>pure r) Q E s₃) E s₂:=by
  rw [hs o i];exact wpAny_operating (zJ h₂ (λr s₃ h₃=>yz (wpAny_letTemporaryGo (yC h₃))) λ_ _ x=>x)
 first
  | exact yC (yz fin)
  | exact yz (yC (yz fin))
  | exact yz fin
theorem pG {X:Cx}{pins:List (Addr×Obj)}{σ:St}{H:Hp}{s:zz8}{a:Addr}{y:V}{o:Option V} (I:Inv X pins σ H s) (g:bp H a y o):s.TypeIs (.ref a) "dict":=by
 rcases g with ⟨kvs,k,e,_,_⟩ | ⟨kvs,k,b,e,_,_,_⟩
 ·obtain⟨_,_,vs,_,dd⟩:=eI I.hok e
  exact dd.typeIs
 ·obtain⟨_,_,xs,_,dd⟩:=eX I.hok e
  exact dd.typeIs
def xb (td ty:TE):TE:=λσ H Q=>td σ H λx H1=>ty σ H1 λy H2=>∃a v,x=.ref a/\bp H2 a y (some v)/\Q v H2
def xG (ty td:TE):TE:=λσ H Q=>ty σ H λy H1=>td σ H1 λx H2=>∃a o,x=.ref a/\bp H2 a y o/\Q (.bl o.isSome) H2
def wG (td ty tv:TE):TS:=λD σ H=>tv σ H λv H1=>td σ H1 λx H2=>ty σ H2 λy H3=>∃a H4,x=.ref a/\cZ H3 a y v H4/\D.nx σ H4
def wH (td ty tv:TE) (rd:V->V->Hp->VK->Prop):TS:=λD σ H=>td σ H λx H1=>ty σ H1 λy H2=>∃a v,x=.ref a/\bp H2 a y (some v) /\
 tv σ H2 λy2 H3=>rd v y2 H3 λz H4=>∃H5,cZ H4 a y z H5/\D.nx σ H5
section
variable {X:Cx}{o i e value:Expr}{pos DH Fj:Pos}{td ty tv:TE}
theorem er (hu:X.A.units + 1 < cLine) (ho:PE X o td) (hi:PE X i ty) (hs:nV i):PE X (.Subscript o i pos) (xb td ty):=by
 intro pins s σ H Q I h;refine uW PySem.F.slot_dict_getitem.lookup hs (C4 (ho pins s σ H _ I h) λu s1 ⟨x,H1,I1,rx,q1⟩=>C4 (hi pins s1 σ H1 _ I1 q1) λiv s2 ⟨y,H2,I2,ry,a,v,ex,g,q2⟩=>?_);subst ex;obtain rfl:u=Value.ref a:=rx;exact⟨pG I2 g,jR hu I2 g ry λw' s3 I3 DY=>⟨v,H2,I3,DY,q2⟩⟩
theorem mR (hu:X.A.units + 1 < cLine) (hi:PE X i ty) (ho:PE X o td):PC X .In i o (xG ty td):=by
 intro pins s σ H Q I h;refine C4 (hi pins s σ H _ I h) λiv s1 ⟨y,H1,I1,ry,q1⟩=>C4 (ho pins s1 σ H1 _ I1 q1) λu s2 ⟨x,H2,I2,rx,a,ov,ex,g,q2⟩=>?_;subst ex;obtain rfl:u=Value.ref a:=rx;exact x9 hu I2 g ry λs3 I3=>⟨.bl ov.isSome,H2,I3,rfl,q2⟩
theorem iD (hu:X.A.units + 1 < cLine) (ho:PE X o td) (hi:PE X i ty) (hv:PE X value tv) (hs:swapsWith value (some (.Subscript o i DH)) pos.line X.env=pure false) :
  PS X (.Assign [.Subscript o i DH] value pos) (wG td ty tv):=by
 intro pins s σ H D I h;refine wpAny_Assign_Subscript (C4 (hv pins s σ H _ I h) λr s1 ⟨v,H1,I1,rv,q1⟩=>C4 (ho pins s1 σ H1 _ I1 q1) λu s2 ⟨x,H2,I2,rx,q2⟩=>C4 (hi pins s2 σ H2 _ I2 q2) λiv s3 ⟨y,H3,I3,ry,a,H4,ex,g,q3⟩=>?_) hs;subst ex;obtain rfl:u=Value.ref a:=rx;exact jT hu I3 g ry rv λs4 I4=>⟨σ,H4,I4,q3⟩
theorem u9 {op:Operator}{rd:V->V->Hp->VK->Prop} (hu:X.A.units + 1 < cLine) (ho:PE X o td) (hi:PE X i ty) (hv:PE X value tv) (Tb:nZ X op rd)
  (ha:∀ov iv new,augStore i ov iv new=(do holding [new,ov,iv] (setItem ov iv new);release [new,ov,iv] [];pure .next)):PS X (.AugAssign (.Subscript o i Fj) op value pos) (wH td ty tv rd):=by
 intro pins s σ H D I h;refine wpAny_AugAssign_SubscriptAny (C4 (ho pins s σ H _ I h) λu s1 ⟨x,H1,I1,rx,q1⟩=>C4 (hi pins s1 σ H1 _ I1 q1) λiv s2 ⟨y,H2,I2,ry,a,v,ex,g,q2⟩=>?_) ha;subst ex;obtain rfl:u=Value.ref a:=rx;refine jR hu I2 g ry λw' s3 I3 DY=>C4 (hv pins s3 σ H2 _ I3 q2) λw2 s4 ⟨y2,H3,I4,Ri,q3⟩=>C4 (Tb pins s4 σ H3 v y2 w' w2 _ I4 DY Ri q3) λw3 s5 ⟨z,H4,I5,rz,H5,g5,q4⟩=>?_;exact jT hu I5 g5 ry rz λs6 I6=>⟨σ,H5,I6,q4⟩
end
theorem kB {P:Program}{w:World}{H:Hp} (h:Heap) (hb:sysModules < h.objs.size):aF P w H (h.push { cls:=.type "dict",data:=.dict #[] }) h.objs.size (.dK []) :=
 ⟨ze _,beq_eq_false_iff_ne.mpr (zP (y9 hb)),[],.nil,Heap.DictOf.new h⟩
theorem sF {P:Program}{w:World}{H:Hp} (h:Heap) (hb:sysModules < h.objs.size):aF P w H (h.push { cls:=.type "dict",data:=.dict #[] }) h.objs.size (.dT []) :=
 ⟨ze _,beq_eq_false_iff_ne.mpr (zP (y9 hb)),[],.nil,_,#[],0,yN _ rfl,⟨rfl,rfl,rfl⟩,rfl,rfl,Br⟩
def vI:TE:=λ_ H Q=>∀p,H p=none->Q (.ref p) (upd H p (.dK []))
def we:TE:=λ_ H Q=>∀p,H p=none->Q (.ref p) (upd H p (.dT []))
section
variable {X:Cx}{pos:Pos}
theorem ky:PE X (.Dict [] [] pos) vI:=λpins s σ H Q I h =>
 wpAny_Dict_empty ⟨.ref s.heap.objs.size,_,I.laid (a:=s.heap.objs.size) (o:=.dK []) (t':=s.toks) (λ_ _ q=>yB _ q) (yO _) (kB s.heap I.big),rfl,h _ (I.hok.fresh (yO _))⟩
theorem tH:PE X (.Dict [] [] pos) we:=λpins s σ H Q I h =>
 wpAny_Dict_empty ⟨.ref s.heap.objs.size,_,I.laid (a:=s.heap.objs.size) (o:=.dT []) (t':=s.toks) (λ_ _ q=>yB _ q) (yO _) (sF s.heap I.big),rfl,h _ (I.hok.fresh (yO _))⟩
end
section
variable {prog:Program}{w:World}{A:Around}{R:Result->zz8->Prop}{s:zz8}
theorem ua {kx vx tg iter:Expr}{ifs:List Expr}{scope:Scope}{pos:Pos}{it:zz9}{D:Addr}{env:Env} (J:Nat->zz8->Prop)
  (turn:∀n s,J n s->wpAny (model prog w) A (pyNext it) (λr s1=>match r with
   | none=>R (.ok .next) s1
   | some v=>wpAny (model prog w) A (letOwnedTupleGo tg it v) (λ_ s2=>wpAny (model prog w) A (assign tg env v) (λ_ s3 =>
     wpAny (model prog w) A (forIn ifs true λc r=>if r=true then do let ok <- isTrue c env (eval c env);pure (ForInStep.yield ok) else pure (ForInStep.yield r)) (λok s4 =>
      if ok=true then wpAny (model prog w) A (eval kx env) (λy s5=>wpAny (model prog w) A (eval vx env) (λx s6=>wpAny (model prog w) A (dictSet D y x) (λ_ s7=>∃m,m < n/\J m s7) (λ_ _=>False) s6) (λ_ _=>False) s5) (λ_ _=>False) s4
      else ∃m,m < n/\J m s4) (λ_ _=>False) s3) (λ_ _=>False) s2) (λ_ _=>False) s1) (λ_ _=>False) s)
  (n:Nat) (h:J n s):codeAny (model prog w) A (.compLoop (.DictComp kx vx [⟨tg,iter,ifs,0⟩] scope pos) 0 it (.ref D) env) R s:=by
 refine CQ rfl J (λk t hJ=>?_) n h;show wpAny _ A ((compTurn (.DictComp kx vx [⟨tg,iter,ifs,0⟩] scope pos) 0 it (.ref D) env).onRaise (λx=>do noteFrame x env;theTreesLotGoes x)) _ _ t;refine wpAny_noted (zJ (E:=λ_ _=>False) ?_ (λ_ _ q=>q) λ_ _ f=>f.elim);rw [compTurn_dict];refine yz (zW (yz (C4 (turn k t hJ) λr s1 h1=>?_)));cases r with
 | none=>exact yC h1
 | some v =>
  refine yz (C4 h1 λ_ s2 h2=>yz (C4 h2 λ_ s3 h3=>yz (C4 h3 λok s4 h4=>?_)));cases ok with
  | false=>exact yC ⟨rfl,h4⟩
  | true=>exact yz (yz (C4 h4 λy s5 h5=>yz (zw (C4 h5 λx s6 h6=>yz (zW (zw (C4 h6 λ_ s7 h7=>yC ⟨rfl,h7⟩)))))))
end
theorem vm {b D C:Nat} (h:b < D) (e:C=D + 1) (z:b=C):False:=by omega
section
variable {X:Cx}{scope:Scope}{N:List Str}{ix:List (Option Nat)}
theorem vK {pins pins':List (Addr×Obj)}{σ σ':St}{H2 H':Hp}{s2 s':zz8}{C:Addr}{fp:List Addr}{h':Heap} (I2:Inv X pins σ H2 s2) (hf:∀b∈fp,bv X pins H2 b)
  (I':Inv (aw X scope N C s2 H2 fp) pins' σ' H' s') (hC:s2.heap.objs.size<=C) (hs:∀b o,b≠C->s'.heap.get? b=some o->h'.get? b=some o):Inv X pins σ H' { s' with heap:=h' }:=by
 have B:Un (Dq X.stack) fp H2 H' s2.heap s'.heap:=I'.base;have Eu:∀b o,s2.heap.get? b=some o->b≠C:=λb o e=>y9 (za (yH e) hC);have NL:H' C=none:=I'.free;have tC:∀b u,H' b=some u->b≠C:=λb u e=>ar e NL;refine I2.call' (s':={ s' with heap:=h' }) (ch:=fp) I'.os ⟨λb o e n hb hx=>?_,λb o e n hb hx=>?_,λb o e n hx=>?_,λb o e hx=>?_,λb xs e=>?_,λb o u e=>?_,λb ps e=>?_⟩ (λb u e=>?_) I'.bare λb hb=>⟨(hf b hb).2.2.2.1,(hf b hb).2.1,(hf b hb).2.2.2.2.1,(hf b hb).2.2.2.2.2⟩
 ·exact hs b o (Eu b o e) (B.keep b o e n hb hx)
 ·obtain⟨sl,q⟩:=B.slot b o e n hb hx
  exact⟨sl,hs b _ (Eu b o e) q⟩
 ·exact B.free b o e n hx
 ·obtain⟨o',q⟩:=B.there b o e hx
  exact⟨o',hs b o' (Eu b o e) q⟩
 ·exact B.tups b xs e
 ·exact B.frzs b o u e
 ·exact B.tbls b ps e
 ·refine (I'.hok b u e).stay (λc v hc q=>hs c v ?_ q) (λc q=>q) λc xs q=>q
  rcases hc with z | z
  ·rw [z];exact tC b u e
  ·exact tC c _ z
variable {tg iter kx vx:Expr}{ifs:List Expr}{pos:Pos}{g:TG}{tt:TT}{tk tv:TE}
end
theorem jW {val:Nat->Int}:∀(ns:List Int) (k:Nat),k<=ns.length->(∀i n,ns[i]?=some n->val i=n)->preSum val k=(ns.take k).sum
 | ns,0,_,_=>by simp [preSum]
 | ns,k + 1,h,hv=>by
  have hk:ns[k]?=some ns[k]:=yJ (by omega);rw [preSum,jW ns k (by omega) hv,hv k _ hk,List.take_succ,hk,Option.toList_some,List.sum_append];simp
section
variable {X:Cx}
theorem ints_get {ns:List Int}{us:List zz9} (r:aq (ns.map V.int) us) {i:Nat}{v:zz9} (h:us[i]?=some v):∃t,v=.int ((ns[i]?).getD 0) t:=by
 have hl:=r.length;rw [yA] at hl;have hi:i < ns.length:=by rw [hl];exact (yV.mp h).1
 obtain⟨u,hu,ru⟩:=r.get (i:=i) (x:=.int ns[i]) (by rw [yR,yJ hi];rfl);rw [h] at hu;cases hu;obtain⟨t,rfl⟩:=ru;exact⟨t,by rw [yJ hi];rfl⟩
theorem jV (hc:X.calm=true):aZ X (.builtin "sum") (λxs H Q=>∃(p:Addr) (ns:List Int),xs=[.ref p]/\(C3 X.K H p (ns.map V.int)\/C2 X.K H p (ns.map V.int))/\Q (.int ns.sum) H):=by
 intro pins s σ H xs us Q I r h;obtain⟨p,ns,rfl,hq,q⟩:=h;obtain⟨u,rfl,ru⟩:=vals1 r;cases ru;have fin:∀(C1:List zz9),aq (ns.map V.int) C1->preSum (λi=>(ns[i]?).getD 0) C1.toArray.size=ns.sum:=λC1 rv=>by
  have hl:=rv.length;rw [yA] at hl;rw [yS,<- hl,jW ns ns.length (yO _) λi n e=>by rw [e];rfl,zU]
 rcases hq with hq | hq
 ·obtain⟨C1,rv,pl,hz⟩:=I.list hq
  have il:=pl.isList;have Dh:p < s.heap.objs.size:=by obtain⟨_,e,_⟩:=il;exact yH e
  refine call_sum_walkG (AL il ⟨s.heap.objs.size,[s.heap.objs.size,p],[s.heap.objs.size],C1.toArray.size,_,_,λi=>(ns[i]?).getD 0,rfl,Walks.list (A:=X.A.in1) (I.ok.hd hc) _ p (y9 Dh) C1.toArray,
   ⟨⟨_,yN _ rfl,rfl,rfl⟩,il.push _⟩,λb hb=>?_,λi v hv=>ints_get rv (by simpa using hv),λh' tk t' hk=>?_⟩)
  ·show b < (s.heap.push _).objs.size
   rw [zo];simp only [yF,zK,or_false] at hb
   rcases hb with rfl | rfl
   ·exact AR _
   ·exact As Dh
  ·rw [fin C1 rv]
   exact⟨.int ns.sum,H,I.kept (t':=tk) λb o e=>hk b o (λz=>absurd (yH e) (by rw [yK.mp z];exact zz _)) (yB _ e),⟨_,rfl⟩,q⟩
 ·obtain⟨C1,rv,pl,hz⟩:=I.tuple hq
  have il:s.heap.IsTuple p C1.toArray:=pl;have Dh:p < s.heap.objs.size:=by obtain⟨_,e,_⟩:=il;exact yH e
  refine call_sum_walkG (AE il ⟨s.heap.objs.size,[s.heap.objs.size,p],[s.heap.objs.size],C1.toArray.size,_,_,λi=>(ns[i]?).getD 0,rfl,Walks.tuple (A:=X.A.in1) (I.ok.hd hc) _ p (y9 Dh) C1.toArray,
   ⟨⟨_,yN _ rfl,rfl,rfl⟩,il.at λo e=>yB _ e⟩,λb hb=>?_,λi v hv=>ints_get rv (by simpa using hv),λh' tk t' hk=>?_⟩)
  ·show b < (s.heap.push _).objs.size
   rw [zo];simp only [yF,zK,or_false] at hb
   rcases hb with rfl | rfl
   ·exact AR _
   ·exact As Dh
  ·rw [fin C1 rv]
   exact⟨.int ns.sum,H,I.kept (t':=tk) λb o e=>hk b o (λz=>absurd (yH e) (by rw [yK.mp z];exact zz _)) (yB _ e),⟨_,rfl⟩,q⟩
theorem ki:aZ X (.builtin "abs") (λxs H Q=>∃i,xs=[.int i]/\Q (.int (if i < 0 then -i else i)) H):=by
 intro pins s σ H xs us Q I r h;obtain⟨i,rfl,q⟩:=h;obtain⟨u,rfl,⟨t,rfl⟩⟩:=vals1 r;exact call_abs_int λu tk=>⟨.int (if i < 0 then -i else i),H,I.tok tk,⟨_,rfl⟩,q⟩
end
section
variable {prog:Program}{w:World}{A:Around}{E:zz9->zz8->Prop}{s:zz8}
theorem iB {c t:Addr}{i:Nat}{C1:Array zz9}{v:zz9}{Q:zz9->zz8->Prop} (hi:s.heap.IsTupleIter c t i) (ht:s.heap.IsTuple t C1) (hv:C1[i]?=some v)
  (k:∀G,G.IsTupleIter c t (i + 1)->Heap.SameBut c s.heap G->Q v { s with heap:=G }):wpAny (model prog w) A (Builtin.SmallTypes.nextOf (.ref c)) Q E s:=by
 obtain⟨o,e,cl,d⟩:=id hi;obtain⟨o2,e2,_,n2,d2⟩:=ht;unfold Builtin.SmallTypes.nextOf;refine yz (zH (name:=Str.ofString "__next__") hi.typeIs A3 (zC A3 hi.typeIs F.entry_tuple_iterator_next ?_ (F.args_tuple_iterator_next_1 _)));refine (show wpAny _ _ (field (.ref c) 0 >>= _) _ _ s from yz (zN e d (x:=.ref t) rfl ?_));refine (show wpAny _ _ (if (Value.ref t == Value.none)=true then _ else _) _ _ s from ?_);rw [if_neg (show ¬ ((Value.ref t == Value.none)=true) from yU)];refine (show wpAny _ _ (field (.ref c) 1 >>= _) _ _ s from yz (zN e d (x:=.int i 0) rfl ?_));refine (show wpAny _ _ (seqItems? (.ref t) >>= _) _ _ s from yz (zE e2 d2 ?_));simp only [AM,hv];refine yz (Ab e d (by simp) (yC ⟨v,rfl,yC (k _ ⟨_,zu _ e (AF (Ah d _)),(BU ..).trans cl,by rw [Ah d];simp [rawInt]⟩ (Ac ..))⟩))
theorem wb {c t:Addr}{i:Nat}{C1:Array zz9}{Q:zz9->zz8->Prop} (hh:A.handled=none) (hi:s.heap.IsTupleIter c t i) (ht:s.heap.IsTuple t C1) (hv:C1[i]?=none)
  (k:∀G x,Heap.ExtBut c s.heap G->(∃o,G.get? x=some o/\o.cls=.type "StopIteration")->E (.ref x) { s with heap:=G }):wpAny (model prog w) A (Builtin.SmallTypes.nextOf (.ref c)) Q E s:=by
 obtain⟨o,e,cl,d⟩:=id hi;obtain⟨o2,e2,_,n2,d2⟩:=ht;unfold Builtin.SmallTypes.nextOf;refine yz (zH (name:=Str.ofString "__next__") hi.typeIs A3 (zC A3 hi.typeIs F.entry_tuple_iterator_next ?_ (F.args_tuple_iterator_next_1 _)));refine (show wpAny _ _ (field (.ref c) 0 >>= _) _ _ s from yz (zN e d (x:=.ref t) rfl ?_));refine (show wpAny _ _ (if (Value.ref t == Value.none)=true then _ else _) _ _ s from ?_);rw [if_neg (show ¬ ((Value.ref t == Value.none)=true) from yU)];refine (show wpAny _ _ (field (.ref c) 1 >>= _) _ _ s from yz (zN e d (x:=.int i 0) rfl ?_));refine (show wpAny _ _ (seqItems? (.ref t) >>= _) _ _ s from yz (zE e2 d2 ?_));simp only [AM,hv];refine yz (AV (yz (Ab e d (by simp) (show wpAny _ _ (newExc (.type "StopIteration") [] >>= _) _ _ _ from yz ?_))));simp only [newExc,newTuple];refine yz (zA (yz (m:=firstArgMember _ _) (AA (a:=Value.none) (by first | rfl | (simp only [firstArgMember];rfl)) (zA ?_ (by size_fits)))) (by size_fits));simp only [raiseNew];refine yz (wpAny_handled ?_);(first | rw [show A.in1.handled=none from hh] | rw [hh]);exact yz (yC (wpAny_throw (k _ _ (((Ac ..).extBut.push _).push _) ⟨_,yN _ rfl,rfl⟩)))
theorem uC {z TI TO i1 i2 l1 l2:Addr}{k:Nat}{xs ys:Array zz9}{x y a b:zz9}{Q:Option zz9->zz8->Prop} (D:ZipApart z TI TO i1 i2 l1 l2) (hz:IsZip s.heap z TI TO .none) (DJ:IsPair s.heap TI (.ref i1) (.ref i2)) (DO:IsPair s.heap TO a b)
  (h1:s.heap.IsTupleIter i1 l1 k) (h2:s.heap.IsTupleIter i2 l2 k) (t1:s.heap.IsTuple l1 xs) (t2:s.heap.IsTuple l2 ys) (hx:xs[k]?=some x) (hy:ys[k]?=some y)
  (q:∀G,IsZip G z TI TO (rawInt s.heap.objs.size)->IsPair G TO x y->G.IsTupleIter i1 l1 (k + 1)->G.IsTupleIter i2 l2 (k + 1)->IsPair G s.heap.objs.size x y->G.objs.size=s.heap.objs.size + 1 ->
   (∀c o,c≠z->c≠TO->c≠i1->c≠i2->s.heap.get? c=some o->G.get? c=some o)->Q (some (.ref s.heap.objs.size)) { s with heap:=G }):wpAny (model prog w) A (pyNext (.ref z)) Q E s:=by
 have ty:s.TypeIs (.ref z) "zip":=⟨_,hz,rfl⟩
 unfold pyNext;refine yz (AN (zH (name:=Str.ofString "__next__") ty Bk (zC Bk ty F.entry_zip_next ?_ (CC _))));refine (show wpAny _ _ (field (.ref z) 2 >>= _) _ _ _ from yz (zN hz rfl (x:=.bool false) rfl ?_));refine (show wpAny _ _ (field (.ref z) 3 >>= _) _ _ _ from yz (zN hz rfl (x:=.ref TI) rfl (yz (zE DJ rfl ?_))));refine (show wpAny _ _ (Builtin.SmallTypes.ownedTupleIsFree (.ref z) >>= _) _ _ _ from yz ?_);unfold Builtin.SmallTypes.ownedTupleIsFree;refine yz (zN hz rfl (x:=.none) rfl (yC ?_));simp only [if_true];refine yz (AV (yz (zN hz rfl (x:=.ref TO) rfl (yz (Ao hz (by simp) λg1 z1 s1=>?_)))));have JF:IsZip g1 z TI TO .ellipsis:=z1;refine yz ?_;simp only [CU,C0,BG,Co];refine yz (yz (B3 (show wpAny _ _ (Builtin.SmallTypes.nextOf (.ref i1) >>= _) _ _ _ from yz (iB (h1.extBut s1.extBut D.i1z) (t1.at λo e=>s1.extBut _ o D.l1z e) hx λg2 j2 s2=>yC ?_))));have o2:IsPair g2 TO a b:=s2.extBut _ _ D.TOi1 (s1.extBut _ _ D.TOz DO);refine yz (zE o2 rfl (yz (Bw o2 λg3 o3 s3=>?_)));have Mo:IsPair g3 TO x b:=o3
 refine yz (AB (yC (yz (yz (B3 (show wpAny _ _ (Builtin.SmallTypes.nextOf (.ref i2) >>= _) _ _ _ from yz (iB (((h2.extBut s1.extBut D.i2z).extBut s2.extBut D.i12.symm).extBut s3.extBut D.TOi2.symm)
  (((t2.at λo e=>s1.extBut _ o D.l2z e).at λo e=>s2.extBut _ o D.l2i1 e).at λo e=>s3.extBut _ o D.l2TO e) hy λg4 j4 s4=>yC ?_)))))))
 have o4:IsPair g4 TO x b:=s4.extBut _ _ D.TOi2 Mo;refine yz (zE o4 rfl (yz (Bw o4 λg5 o5 s5=>?_)));have JT:IsPair g5 TO x y:=o5;refine yz (AB (yC (yC (yz (zE JT rfl (yz (Cn ?_)))))));have sz:g5.objs.size=s.heap.objs.size:=by rw [s5.1,s4.1,s3.1,s2.1,s1.1]
 have z5:IsZip g5 z TI TO .ellipsis:=s5.extBut _ _ D.TOz.symm (s4.extBut _ _ D.i2z.symm (s3.extBut _ _ D.TOz.symm (s2.extBut _ _ D.i1z.symm JF)));have kp:∀c o,c≠z->c≠TO->c≠i1->c≠i2->s.heap.get? c=some o->g5.get? c=some o:=λc o n1 n2 n3 n4 e=>s5.extBut _ _ n2 (s4.extBut _ _ n4 (s3.extBut _ _ n2 (s2.extBut _ _ n3 (s1.extBut _ _ n1 e))));have j1:g5.IsTupleIter i1 l1 (k + 1):=((j2.extBut s3.extBut D.TOi1.symm).extBut s4.extBut D.i12).extBut s5.extBut D.TOi1.symm;have MC:g5.IsTupleIter i2 l2 (k + 1):=j4.extBut s5.extBut D.TOi2.symm;have lz:z < g5.objs.size:=yH z5;refine (show wpAny _ _ (Builtin.SmallTypes.ownedTupleHandOut (.ref z) (.ref g5.objs.size) >>= _) _ _ _ from yz ?_);unfold Builtin.SmallTypes.ownedTupleHandOut;have z6:IsZip (g5.push { cls:=.type "tuple",data:=.seq #[x,y] }) z TI TO .ellipsis:=yB _ z5;refine yz (Ao z6 (by simp) λg7 z7 s7=>?_);have LS:IsZip g7 z TI TO (rawInt g5.objs.size):=z7;refine Ao LS (by simp) λg8 z8 s8=>?_;have JE:IsZip g8 z TI TO (rawInt g5.objs.size):=z8;have up:∀c o,c≠z->g5.get? c=some o->g8.get? c=some o:=λc o n e=>s8.extBut _ _ n (s7.extBut _ _ n (yB _ e));have pr:IsPair g8 g5.objs.size x y:=s8.extBut _ _ (AI lz) (s7.extBut _ _ (AI lz) (yN _ rfl));have JI:g8.objs.size=g5.objs.size + 1:=by rw [s8.1,s7.1,zo]
 rw [sz] at JE pr JI;refine yC ⟨_,rfl,yC (show Q (some (.ref g5.objs.size)) _ from ?_)⟩;rw [sz];exact q g8 JE (up _ _ D.TOz JT) (j1.at λo e=>up _ o D.i1z e) (MC.at λo e=>up _ o D.i2z e) pr JI λc o n1 n2 n3 n4 e=>up c o n1 (kp c o n1 n2 n3 n4 e)
theorem mj {z TI TO i1 i2 l1 l2:Addr}{k:Nat}{xs:Array zz9}{a b:zz9}{Q:Option zz9->zz8->Prop} (hh:A.handled=none) (D:ZipApart z TI TO i1 i2 l1 l2) (hz:IsZip s.heap z TI TO .none) (DJ:IsPair s.heap TI (.ref i1) (.ref i2)) (DO:IsPair s.heap TO a b)
  (h1:s.heap.IsTupleIter i1 l1 k) (t1:s.heap.IsTuple l1 xs) (hx:xs[k]?=none)
  (q:∀G,(∀c o,c≠z->c≠TO->c≠i1->c≠i2->s.heap.get? c=some o->G.get? c=some o)->Q none { s with heap:=G }):wpAny (model prog w) A (pyNext (.ref z)) Q E s:=by
 have ty:s.TypeIs (.ref z) "zip":=⟨_,hz,rfl⟩
 unfold pyNext;refine yz (AN (zH (name:=Str.ofString "__next__") ty Bk (zC Bk ty F.entry_zip_next ?_ (CC _))));refine (show wpAny _ _ (field (.ref z) 2 >>= _) _ _ _ from yz (zN hz rfl (x:=.bool false) rfl ?_));refine (show wpAny _ _ (field (.ref z) 3 >>= _) _ _ _ from yz (zN hz rfl (x:=.ref TI) rfl (yz (zE DJ rfl ?_))));refine (show wpAny _ _ (Builtin.SmallTypes.ownedTupleIsFree (.ref z) >>= _) _ _ _ from yz ?_);unfold Builtin.SmallTypes.ownedTupleIsFree;refine yz (zN hz rfl (x:=.none) rfl (yC ?_));simp only [if_true];refine yz (AV (yz (zN hz rfl (x:=.ref TO) rfl (yz (Ao hz (by simp) λg1 z1 s1=>?_)))));have JF:IsZip g1 z TI TO .ellipsis:=z1;refine yz ?_;simp only [CU,C0,BG,Co];refine yz (yz (B3 (show wpAny _ _ (Builtin.SmallTypes.nextOf (.ref i1) >>= _) _ _ _ from yz (wb hh (h1.extBut s1.extBut D.i1z) (t1.at λo e=>s1.extBut _ o D.l1z e) hx λg2 x s2 he=>?_))));obtain⟨oe,e1,e2⟩:=he;have z2:IsZip g2 z TI TO .ellipsis:=s2 _ _ D.i1z.symm JF;have nz:x≠z:=λw'=>by subst w';rw [z2] at e1;cases e1;simp at e2
 refine Ao z2 (by simp) λg3 _ s3=>?_;refine yz (Bx (T:="StopIteration") (b:=true) ⟨oe,s3.extBut _ _ nz e1,e2⟩ isSubtype_stop (yC (q _ λc o n1 _ n3 _ e=>s3.extBut _ _ n1 (s2 _ _ n3 (s1.extBut _ _ n1 e)))))
theorem su (l1 l2:Addr) (xs ys:Array zz9) :
  Meets (Builtin.«zip.__new__» ⟨[.type "zip",.ref l1,.ref l2],[]⟩) (λ_ R s=>s.heap.IsTuple l1 xs/\s.heap.IsTuple l2 ys /\
   ∃G:Heap,G=(((((s.heap.push { cls:=.type "tuple_iterator",data:=.fields #[.ref l1,.int 0 0] }).push { cls:=.type "tuple_iterator",data:=.fields #[.ref l2,.int 0 0] }).push { cls:=.type "tuple",data:=.seq #[.ref s.heap.objs.size,.ref (s.heap.objs.size + 1)] }).push { cls:=.type "tuple",data:=.seq #[.none,.none] }).push
    { cls:=.type "zip",data:=.fields #[.none,.bool false,.bool false,.ref (s.heap.objs.size + 2),.ref (s.heap.objs.size + 3)] })/\R (.ok (.ret (.ref (s.heap.objs.size + 4)))) { s with heap:=G }) :=
 .of_wp λprog w A R s h=>by
  obtain⟨hp,g,d,tk,os⟩:=s;obtain⟨a1,a2,G,e,h⟩:=h;have El:=sub_zip;have b1:Heap.IsTuple (Shared.heap ⟨hp,g,d,tk,os⟩) l1 xs:=a1;have b2:Heap.IsTuple (Shared.heap ⟨hp.push { cls:=.type "tuple_iterator",data:=.fields #[.ref l1,.int 0 0] },g,d,tk,os⟩) l2 ys:=a2.at λo e=>yB _ e
  wp_walk using AE b1,AE b2
  subst e;refine⟨_,rfl,?_⟩;simp only [zo];exact h
theorem uZ {l1 l2:Addr}{xs ys:Array zz9}{Q:zz9->zz8->Prop} (t1:s.heap.IsTuple l1 xs) (t2:s.heap.IsTuple l2 ys)
  (q:∀G,IsZip G (s.heap.objs.size + 4) (s.heap.objs.size + 2) (s.heap.objs.size + 3) .none->IsPair G (s.heap.objs.size + 2) (.ref s.heap.objs.size) (.ref (s.heap.objs.size + 1))->IsPair G (s.heap.objs.size + 3) .none .none ->
   G.IsTupleIter s.heap.objs.size l1 0->G.IsTupleIter (s.heap.objs.size + 1) l2 0->G.objs.size=s.heap.objs.size + 5->(∀c o,s.heap.get? c=some o->G.get? c=some o)->Q (.ref (s.heap.objs.size + 4)) { s with heap:=G }) :
  wpAny (model prog w) A (call (.type "zip") [.ref l1,.ref l2]) Q E s:=by
 refine callType_new F.called_zip (by decide) (F.typeCall_zip_2 _ _) (F.newCall_zip_2 _ _) (λobj=>F.args_object_init_3 obj _ _) F.entry_zip_new (su l1 l2 xs ys) ⟨t1,t2,_,rfl,?_⟩;have at':∀(h:Heap) (o:Obj) (n:Nat),h.objs.size=n->o.isFreed=false->(h.push o).get? n=some o:=λh o n e f=>by rw [<- e];exact yN _ f
 have kp:∀{h:Heap}{o:Obj}{c:Addr}{v:Obj},h.get? c=some v->(h.push o).get? c=some v:=λe=>yB _ e;have g5:=at' ((((s.heap.push { cls:=.type "tuple_iterator",data:=.fields #[.ref l1,.int 0 0] }).push { cls:=.type "tuple_iterator",data:=.fields #[.ref l2,.int 0 0] }).push { cls:=.type "tuple",data:=.seq #[.ref s.heap.objs.size,.ref (s.heap.objs.size + 1)] }).push { cls:=.type "tuple",data:=.seq #[.none,.none] })
  { cls:=.type "zip",data:=.fields #[.none,.bool false,.bool false,.ref (s.heap.objs.size + 2),.ref (s.heap.objs.size + 3)] } (s.heap.objs.size + 4) (by simp only [zo]) rfl
 have g4:=at' (((s.heap.push { cls:=.type "tuple_iterator",data:=.fields #[.ref l1,.int 0 0] }).push { cls:=.type "tuple_iterator",data:=.fields #[.ref l2,.int 0 0] }).push { cls:=.type "tuple",data:=.seq #[.ref s.heap.objs.size,.ref (s.heap.objs.size + 1)] }) { cls:=.type "tuple",data:=.seq #[.none,.none] } (s.heap.objs.size + 3) (by simp only [zo]) rfl;have g3:=at' ((s.heap.push { cls:=.type "tuple_iterator",data:=.fields #[.ref l1,.int 0 0] }).push { cls:=.type "tuple_iterator",data:=.fields #[.ref l2,.int 0 0] }) { cls:=.type "tuple",data:=.seq #[.ref s.heap.objs.size,.ref (s.heap.objs.size + 1)] } (s.heap.objs.size + 2) (by simp only [zo]) rfl;have g2:=at' (s.heap.push { cls:=.type "tuple_iterator",data:=.fields #[.ref l1,.int 0 0] }) { cls:=.type "tuple_iterator",data:=.fields #[.ref l2,.int 0 0] } (s.heap.objs.size + 1) (by simp only [zo]) rfl;have g1:=at' s.heap { cls:=.type "tuple_iterator",data:=.fields #[.ref l1,.int 0 0] } s.heap.objs.size rfl rfl;exact⟨⟨_,g5,rfl⟩,q _ g5 (kp (kp g3)) (kp g4) ⟨_,kp (kp (kp (kp g1))),rfl,rfl⟩ ⟨_,kp (kp (kp g2)),rfl,rfl⟩ (by simp only [zo]) λc o e=>kp (kp (kp (kp (kp e))))⟩
end
def LQ (K:zz7) (a b:Addr):It :=
 ⟨λi H=>∃xs ys x y,C2 K H a xs/\C2 K H b ys/\xs[i]?=some x/\ys[i]?=some y,
  λi H v H'=>∃T x y,v=.ref T/\H T=none/\H'=upd H T (.tup [x,y])/\(∀xs,C2 K H a xs->xs[i]?=some x)/\∀ys,C2 K H b ys->ys[i]?=some y,
  λi H=>∃xs,C2 K H a xs/\xs.length<=i⟩
def xD (z TI TO i1 i2 l1 l2:Addr) (i:Nat) (h:Heap):Prop:=IsZip h z TI TO .none/\IsPair h TI (.ref i1) (.ref i2)/\(∃a b,IsPair h TO a b)/\h.IsTupleIter i1 l1 i/\h.IsTupleIter i2 l2 i
theorem uA {P:Program}{w:World}{K:zz7}{elts:List Expr}{x1}{pos:Pos} (z TI TO i1 i2 l1 l2:Addr) (D:ZipApart z TI TO i1 i2 l1 l2) :
  Turn P w K (.Tuple elts x1 pos) (LQ K l1 l2) [z,TI,TO,i1,i2] z (xD z TI TO i1 i2 l1 l2) where
 mem:=by simp
 obj:=λi h st b hb=>by
  obtain⟨hz,DJ,⟨a,c,DO⟩,⟨o1,e1,c1,d1⟩,⟨o2,e2,c2,d2⟩⟩:=st;simp only [yF,zK,or_false] at hb
  rcases hb with rfl | rfl | rfl | rfl | rfl
  ·exact⟨_,hz,λv q=>by cases q⟩
  ·exact⟨_,DJ,λv q=>by cases q⟩
  ·exact⟨_,DO,λv q=>by cases q⟩
  ·exact⟨_,e1,λv q=>by rw [d1] at q;cases q⟩
  ·exact⟨_,e2,λv q=>by rw [d2] at q;cases q⟩
 keep:=λi h h' st k=>by
  obtain⟨hz,DJ,⟨a,c,DO⟩,h1,h2⟩:=st;exact⟨k z (by simp) _ hz,k TI (by simp) _ DJ,⟨a,c,k TO (by simp) _ DO⟩,h1.at λo e=>k i1 (by simp) o e,h2.at λo e=>k i2 (by simp) o e⟩
 item:=by
  intro X hP hw hK hc i pins s σ H E I hf st hg;subst hP hw hK;obtain⟨xs,ys,x,y,Fv,EN,hx,hy⟩:=hg;obtain⟨hz,DJ,⟨a,c,DO⟩,h1,h2⟩:=id st;obtain⟨D0,GE,p1,IT⟩:=I.tuple Fv;obtain⟨DC,JP,p2,J9⟩:=I.tuple EN;obtain⟨u1,Ie,Mg⟩:=GE.get hx;obtain⟨u2,GK,Mf⟩:=JP.get hy;refine uC D hz DJ DO h1 h2 (show s.heap.IsTuple l1 D0.toArray from p1) (show s.heap.IsTuple l2 DC.toArray from p2) (x:=u1) (y:=u2) (by simpa using Ie) (by simpa using GK) λh' a1 a2 a3 a4 a5 a6 a7=>?_;refine⟨_,rfl,wpAny_letOwnedTupleGo_zip (s:={ s with heap:=h' }) a1 λGZ z2 sb=>?_⟩;have Fo:=sb.extBut;generalize hT:s.heap.objs.size=T at *;have lt:∀{b:Addr}{o:Obj},s.heap.get? b=some o->b≠T:=λ{b o} e=>by rw [<- hT];exact y9 (yH e)
  have fresh:H T=none:=by rw [<- hT];exact I.hok.fresh (yO _)
  have Di:∀b∈[z,TI,TO,i1,i2],b≠T:=λb hb=>by
   obtain⟨o1,e1,_⟩:=h1;obtain⟨o2,e2,_⟩:=h2;simp only [yF,zK,or_false] at hb
   rcases hb with rfl | rfl | rfl | rfl | rfl
   ·exact lt hz
   ·exact lt DJ
   ·exact lt DO
   ·exact lt e1
   ·exact lt e2
  have I0:Inv X pins σ (upd H T (.tup [x,y])) { s with heap:=s.heap.push { cls:=.type "tuple",data:=.seq #[u1,u2] },toks:=s.toks }:=by
   subst hT;exact I.laid (t':=s.toks) (λb o q=>yB _ q) (yO _) ⟨by show 2<=sizeLine;decide,[u1,u2],.cons Mg (.cons Mf .nil),_,yN _ rfl,rfl,0,rfl⟩
  have up:∀b o,b∉[z,TI,TO,i1,i2]->(s.heap.push { cls:=.type "tuple",data:=.seq #[u1,u2] }).get? b=some o->GZ.get? b=some o:=λb o hb e=>by
   simp only [yF,zK,or_false,not_or] at hb
   rcases Heap.get?_push_cases e with ⟨e1,e2⟩ | e1
   ·subst e2
    rw [e1,hT];exact Fo _ _ (Di z (by simp)).symm a5
   ·exact Fo _ _ hb.1 (a7 b o hb.1 hb.2.2.1 hb.2.2.2.1 hb.2.2.2.2 e1)
  have I2:Inv X pins σ (upd H T (.tup [x,y])) { s with heap:=GZ,toks:=s.toks }:=Inv.turnedS (s:={ s with heap:=s.heap.push { cls:=.type "tuple",data:=.seq #[u1,u2] },toks:=s.toks }) (t':=s.toks) (ch:=[z,TI,TO,i1,i2]) I0 up λb hb=>by
   obtain⟨f0,f1⟩:=hf b hb;exact⟨by rw [ag (Di b hb)];exact f0,f1⟩
  exact⟨.ref T,upd H T (.tup [x,y]),I2,rfl,⟨T,x,y,rfl,fresh,rfl,λws hw=>by rw [I.tuple_inj hw Fv];exact hx,λws hw=>by rw [I.tuple_inj hw EN];exact hy⟩,
   ⟨z2,Fo _ _ D.TIz (a7 _ _ D.TIz D.TITO D.TIi1 D.TIi2 DJ),⟨_,_,Fo _ _ D.TOz a2⟩,a3.at λo e=>Fo _ _ D.i1z e,a4.at λo e=>Fo _ _ D.i2z e⟩,λb hb=>by rw [ag (Di b hb)];exact (hf b hb).1⟩
 done:=by
  intro X hP hw hK hc i pins s σ H E I hf st hg;subst hP hw hK;obtain⟨xs,Fv,hx⟩:=hg;obtain⟨hz,DJ,⟨a,c,DO⟩,h1,h2⟩:=id st;obtain⟨D0,GE,p1,IT⟩:=I.tuple Fv;have Io:=GE.length;refine mj (I.ok.hd hc) D hz DJ DO h1 (show s.heap.IsTuple l1 D0.toArray from p1) (by simp;omega) λh' hk=>⟨rfl,I.turnedS (t':=s.toks) (ch:=[z,TI,TO,i1,i2]) (λb o hb e=>?_) hf⟩
  simp only [yF,zK,or_false,not_or] at hb;exact hk b o hb.1 hb.2.2.1 hb.2.2.2.1 hb.2.2.2.2 e
 self:=λ_ _ _ _ _ st h=>B4 st.1 h
section
variable {X:Cx}
def SH (K:zz7) (ta:TA):TI:=λσ H R=>ta σ H λvs H1=>∃a b xs ys,vs=[.ref a,.ref b]/\C2 K H1 a xs/\C2 K H1 b ys/\R (LQ K a b) H1
theorem nh {a b:Expr}{elts:List Expr}{x1}{Fj:Pos}{ta:TA}{p pos:Pos} (hg:Gl X "zip") (hm:X.mg "zip"=none) (ha:PA X [a,b] ta) (hs:starEach [a,b] X.env=[(false,eval a X.env),(false,eval b X.env)]:=by rfl) (Ea:starEach [b] X.env=[(false,eval b X.env)]:=by rfl) :
  PI X (.Tuple elts x1 Fj) (.Call (.Name "zip" p) [a,b] [] pos) (SH X.K ta):=by
 intro pins s σ H R I h;refine Call_ (dE I hg hm boot_zip (Av (C4 (ha pos pins s σ H _ I h) λus s1 ⟨vs,H1,I1,r1,q1⟩=>?_) (by rw [hs,Ea]) (by rw [Ea];rfl)));obtain⟨a',b',xs,ys,rfl,Fv,EN,q⟩:=q1;obtain⟨u1,u2,rfl,ra,rb⟩:=vals2 r1;cases ra;cases rb;obtain⟨D0,GE,p1,IT⟩:=I1.tuple Fv;obtain⟨DC,JP,p2,J9⟩:=I1.tuple EN;have l1:a' < s1.heap.objs.size:=by obtain⟨o,e,_⟩:=p1;exact yH e
 have l2:b' < s1.heap.objs.size:=by obtain⟨o,e,_⟩:=p2;exact yH e
 refine uZ (show s1.heap.IsTuple a' D0.toArray from p1) (show s1.heap.IsTuple b' DC.toArray from p2) λh' hz DJ DO Kq ET hsz hk=>?_;refine B4 hz ?_;refine⟨_,[s1.heap.objs.size + 4,s1.heap.objs.size + 2,s1.heap.objs.size + 3,s1.heap.objs.size,s1.heap.objs.size + 1],_,_,H1,rfl,I1.kept (t':=s1.toks) hk,uA _ _ _ _ _ _ _ (zipApart_new l1 l2),⟨hz,DJ,⟨_,_,DO⟩,Kq,ET⟩,λb hb=>?_,q⟩;have Im:s1.heap.objs.size<=b:=by
  simp only [yF,zK,or_false] at hb
  rcases hb with rfl | rfl | rfl | rfl | rfl
  ·exact AC _ _
  ·exact AC _ _
  ·exact AC _ _
  ·exact yO _
  ·exact AC _ _
 exact I1.fpOk Im (I1.hok.fresh Im)
end
section
variable {prog:Program}{w:World}{A:Around}{E:zz9->zz8->Prop}{s:zz8}
theorem lj {c d:Addr}{i ep:Nat}{o:Obj}{es:Array DictEntry}{Q:Option zz9->zz8->Prop} (hi:s.heap.IsKeyIter c d i es.size ep) (ho:s.heap.get? d=some o) (hd:o.data=.dict es ep) (lt:i < es.size)
  (q:∀G,G.IsKeyIter c d (i + 1) es.size ep->Heap.SameBut c s.heap G->Q (some es[i].key) { s with heap:=G }):wpAny (model prog w) A (pyNext (.ref c)) Q E s:=by
 obtain⟨oc,e,cl,dc⟩:=id hi;have own:Builtin.Dict_items.ownsTuple "dict_keyiterator"=false:=by decide
 unfold pyNext;refine yz (AN (zH (name:=Str.ofString "__next__") hi.typeIs Ar (zC Ar hi.typeIs F.entry_dict_keyiterator_next ?_ (Ce _))));refine yz (yC (yz (yz ?_)))
 (first | refine yz (AO hi.typeIs (yC (yz (AS e dc ?_)))) | refine yz (Bb hi.typeIs (yC (yz (AS e dc ?_)))));simp only [own,zV,if_false]
 refine (show wpAny _ _ (if (Value.ref d == Value.none)=true then _ else _) _ _ s from ?_);rw [if_neg (show ¬ ((Value.ref d == Value.none)=true) from yU)];refine yz (yC (yz (CD ho hd ?_)));rw [if_neg (by simp)];refine yz (yC (yz (wpAny_dictEpoch ho hd ?_)));rw [if_neg (by simp)];refine yC ?_;simp only [show ¬ ((i:Int) < 0) from by omega,if_false,AM,zp lt];refine yz ?_;(first | refine yz (AO hi.typeIs (yC (yz (B5 hi.typeIs ?_)))) | refine yz (Bb hi.typeIs (yC (yz (B5 hi.typeIs ?_)))));refine (show wpAny _ _ (setField (.ref c) 1 (rawInt ((i:Int) + 1)) >>= _) _ _ s from yz (Ab e dc (by simp) ?_));have ET:(s.heap.update c (Obj.mapFields (·.setIfInBounds 1 (rawInt ((i:Int) + 1))))).IsKeyIter c d (i + 1) es.size ep:=⟨_,zu _ e (AF (Ah dc _)),(BU ..).trans cl,by rw [Ah dc];simp [rawInt]⟩
 refine yz (zw (yz (B5 (s:={ s with heap:=s.heap.update c (Obj.mapFields (·.setIfInBounds 1 (rawInt ((i:Int) + 1)))) }) ET.typeIs ?_)));exact (show wpAny _ _ (pure es[i].key) _ _ _ from yC (yC ⟨_,rfl,yC (q _ ET (Ac ..))⟩))
theorem mw {c d:Addr}{i ep:Nat}{o:Obj}{es:Array DictEntry}{Q:Option zz9->zz8->Prop} (hh:A.handled=none) (hi:s.heap.IsKeyIter c d i es.size ep) (ho:s.heap.get? d=some o) (hd:o.data=.dict es ep) (ge:es.size<=i)
  (q:∀G,Heap.ExtBut c s.heap G->Q none { s with heap:=G }):wpAny (model prog w) A (pyNext (.ref c)) Q E s:=by
 obtain⟨oc,e,cl,dc⟩:=id hi;have own:Builtin.Dict_items.ownsTuple "dict_keyiterator"=false:=by decide
 unfold pyNext;refine yz (AN (zH (name:=Str.ofString "__next__") hi.typeIs Ar (zC Ar hi.typeIs F.entry_dict_keyiterator_next ?_ (Ce _))));refine yz (yC (yz (yz ?_)))
 (first | refine yz (AO hi.typeIs (yC (yz (AS e dc ?_)))) | refine yz (Bb hi.typeIs (yC (yz (AS e dc ?_)))));simp only [own,zV,if_false]
 refine (show wpAny _ _ (if (Value.ref d == Value.none)=true then _ else _) _ _ s from ?_);rw [if_neg (show ¬ ((Value.ref d == Value.none)=true) from yU)];refine yz (yC (yz (CD ho hd ?_)));rw [if_neg (by simp)];refine yz (yC (yz (wpAny_dictEpoch ho hd ?_)));rw [if_neg (by simp)];refine yC ?_;simp only [show ¬ ((i:Int) < 0) from by omega,if_false,AM,AW ge];refine yz ?_;(first | refine yz (AO hi.typeIs (yC ?_)) | refine yz (Bb hi.typeIs (yC ?_)));refine (show wpAny _ _ (setField (.ref c) 0 .none >>= _) _ _ s from yz (Ab e dc (by simp) (show wpAny _ _ (newExc (.type "StopIteration") [] >>= _) _ _ _ from yz ?_)));simp only [newExc,newTuple];refine yz (zA (yz (m:=firstArgMember _ _) (AA (a:=Value.none) (by first | rfl | (simp only [firstArgMember];rfl)) (zA ?_ (by size_fits)))) (by size_fits));simp only [raiseNew];refine yz (wpAny_handled ?_);rw [show A.in1.handled=none from hh];refine yz (yC (wpAny_throw ?_));refine yz (Bx (T:="StopIteration") (b:=true) ⟨_,yN _ rfl,rfl⟩ isSubtype_stop (yC (q _ (((Ac ..).extBut.push _).push _))))
theorem mf {d:Addr}{ep:Nat}{o:Obj}{es:Array DictEntry}{Q:zz9->zz8->Prop} (nd:(d == sysModules)=false) (ho:s.heap.get? d=some o) (ex:o.ExactDict) (hd:o.data=.dict es ep)
  (q:Q (.ref s.heap.objs.size) { s with heap:=s.heap.push { cls:=.type "dict_keyiterator",data:=.fields #[.ref d,.int 0 0,.int es.size 0,.int ep 0] } }):wpAny (model prog w) A (pyIter (.ref d)) Q E s:=by
 have ty:s.TypeIs (.ref d) "dict":=⟨o,ho,ex.1⟩
 refine CF ty F.slot_dict_iter (zC F.slot_dict_iter ty F.entry_dict_iter ?_ (F.args_dict_iter_1 _));unfold Builtin.«dict.__iter__»;refine yz ?_;unfold Builtin.Dict.dictSlotNone;refine yz (wpAny_notOrdered_dict ty (show wpAny _ _ (pure (Value.ref d)) _ _ s from yC (show wpAny _ _ (Builtin.Dict.showsAll d >>= _) _ _ s from ?_)));unfold Builtin.Dict.showsAll;rw [if_neg (by rw [nd];exact yU)];refine yz (yC (yz (CD ho hd (yz (wpAny_dictEpoch ho hd (yz (zA (yC ⟨_,rfl,"dict_keyiterator",_,⟨_,yN _ rfl,rfl⟩,Ar.lookup,?_⟩))))))));simpa [rawInt] using q
end
theorem Inv.freeze {X:Cx}{pins:List (Addr×Obj)}{σ:St}{H:Hp}{s:zz8}{a:Addr}{o:Obj}{kvs:List (List Key×V)} (I:Inv X pins σ H s) (e:H a=some (.dT kvs)) (ho:s.heap.get? a=some o):Inv X pins σ (upd H a (.frz o (.dT kvs))) s:=by
 have ne:∀b u,H b=some u->(∀k,u≠.dT k)->b≠a:=λb u q n z=>by
  rw [z,e] at q;cases q;exact n _ rfl
 have st:∀{b:Addr}{u:HO},aF X.prog X.w H s.heap b u->aF X.prog X.w (upd H a (.frz o (.dT kvs))) s.heap b u:=λx=>x.stay (λ_ _ _ q=>q) (λb q=>by rw [ag (ne b _ q (by intro k z;cases z))];exact q) λb xs q=>by rw [ag (ne b _ q (by intro k z;cases z))];exact q
 refine I.step (h':=s.heap) (g':=s.gens) (t':=s.toks) (d':=s.drawn) (ch:=[]) (λ_ z=>nomatch z) (λb o _ _ _ q _=>q) (λb o _ _ _ q _=>⟨o.slots,q⟩) (λb o' _ q n=>?_) (λb o _ q=>⟨o,q⟩) (λb xs q=>?_) (λb o u q=>?_) (λb ps q=>?_) (λm h=>h) (λb u q=>?_) I.bare
 ·rw [ag (λz=>by rw [z,e] at n;cases n)];exact n
 ·rw [ag (ne b _ q (by intro k z;cases z))];exact q
 ·rw [ag (ne b _ q (by intro k z;cases z))];exact q
 ·exact⟨#[],by rw [ag (ne b _ q (by intro k z;cases z)),q];simp⟩
 ·by_cases hb:b=a
  ·subst hb
   rw [aj] at q;cases q;exact⟨ho,st (I.hok b _ e)⟩
  ·rw [ag hb] at q
   exact st (I.hok b u q)
def Oe (a:Addr) (o:Obj):It :=
 ⟨λi H=>∃kvs,H a=some (.frz o (.dT kvs))/\i < kvs.length,
  λi H v H'=>H'=H/\∀kvs,H a=some (.frz o (.dT kvs))->∃p b,kvs[i]?=some p/\v=.ref b/\H b=some (.tup (p.1.map kV)),
  λi H=>∃kvs,H a=some (.frz o (.dT kvs))/\kvs.length<=i⟩
theorem Paired.at {α β:Type}{F:α->β->Prop}:∀{l:List α}{m:List β},Paired F l m->∀{i:Nat}{x:α},l[i]?=some x->∃y,m[i]?=some y/\F x y
 | _,_,.cons r t,0,x,h=>by simp at h;subst h;exact⟨_,rfl,r⟩
 | _,_,.cons r t,i + 1,x,h=>by simpa using Paired.at t (by simpa using h)
theorem rH {P:Program}{w:World}{K:zz7}{tg:Expr} (a it:Addr) (o:Obj) (es:Array DictEntry) (ep:Nat) (hd:o.data=.dict es ep):Turn P w K tg (Oe a o) [it] it (λi h=>h.IsKeyIter it a i es.size ep) where
 mem:=by simp
 obj:=λi h st b hb=>by
  have e:b=it:=by simpa using hb
  subst e;obtain⟨o,e,c,d⟩:=st;exact⟨o,e,λv z=>by rw [d] at z;cases z⟩
 keep:=λi h h' st k=>st.at λo e=>k it (by simp) o e
 item:=by
  intro X hP hw hK hc i pins s σ H E I hf st hg;subst hP hw hK;obtain⟨kvs,ha,lt⟩:=hg;obtain⟨ho,_,_,xs,rel,o2,NZ,IE,h1,_,h2,h3,_⟩:=(show aF X.prog X.w H s.heap a (.frz o (.dT kvs)) from I.hok a _ ha)
  rw [ho] at h1;cases h1;rw [hd] at h2;cases h2;have hl:=BA rel;have Nt:es.size=xs.length:=size_of_entries h3;have Pa:i < es.size:=by omega
  obtain⟨p,hp⟩:∃p,kvs[i]?=some p:=⟨_,yJ lt⟩
  obtain⟨y,hy,r1,r2,r3⟩:=Paired.at rel hp;have ek:es[i].key=.ref y.2.1:=by
   have q:=entry_at h3 i;rw [hy,zp Pa] at q;simp only [A2,Option.some.injEq] at q;rw [q];rfl
  obtain⟨f0,f1,f2,f3,f4,f5⟩:=hf it (by simp);refine lj st ho hd Pa λh' Dm sb=>?_;rw [ek];have I1:Inv X pins σ H { s with heap:=h' }:=I.turned (t':=s.toks) (λb o hb e=>(sb.2 b hb).trans e) f0 f1 f3 f4 f5;obtain⟨o',e,c,d⟩:=id Dm;exact⟨_,rfl,fH (s:={ s with heap:=h' }) e c d (by decide) ⟨.ref y.2.1,H,I1,rfl,⟨rfl,λSw LD=>by rw [ha] at LD;cases LD;exact⟨p,_,hp,rfl,r2⟩⟩,Dm,λb hb=>(hf b hb).1⟩⟩
 done:=by
  intro X hP hw hK hc i pins s σ H E I hf st hg;subst hP hw hK;obtain⟨kvs,ha,ge⟩:=hg;obtain⟨ho,_,_,xs,rel,o2,NZ,IE,h1,_,h2,h3,_⟩:=(show aF X.prog X.w H s.heap a (.frz o (.dT kvs)) from I.hok a _ ha)
  rw [ho] at h1;cases h1;rw [hd] at h2;cases h2;have hl:=BA rel;have Nt:es.size=xs.length:=size_of_entries h3;obtain⟨f0,f1,f2,f3,f4,f5⟩:=hf it (by simp);exact mw (I.ok.hd hc) st ho hd (by omega) λh' eb=>⟨rfl,I.turned (t':=s.toks) (λb o hb e=>eb b o hb e) f0 f1 f3 f4 f5⟩
 self:=λ_ _ _ _ _ st h=>wpAny_pyIter_keyiter st h
section
variable {X:Cx}{tg:Expr}
def wA (tl:TE):TI:=λσ H R=>tl σ H λx H1=>∃a kvs,x=.ref a/\H1 a=some (.dT kvs)/\∀o,R (Oe a o) (upd H1 a (.frz o (.dT kvs)))
theorem uy {l:Expr}{tl:TE} (hl:PE X l tl):PI X tg l (wA tl):=by
 intro pins s σ H R I h;refine C4 (hl pins s σ H _ I h) λv s1 ⟨x,H1,I1,r1,q1⟩=>?_;obtain⟨a,kvs,rfl,ha,q⟩:=q1;cases r1;obtain⟨_,nd,xs,rel,o,es,ep,ho,ex,hd,h3,_⟩:=(show aF X.prog X.w H1 s1.heap a (.dT kvs) from I1.hok a _ ha)
 refine mf nd ho ex hd ?_;have I2:=I1.freeze ha ho;refine⟨s1.heap.objs.size,[s1.heap.objs.size],_,_,_,rfl,I2.kept (t':=s1.toks) λb o e=>yB _ e,rH a _ o es ep hd,⟨_,yN _ rfl,rfl,rfl⟩,λb hb=>?_,q o⟩;have e:b=s1.heap.objs.size:=by simpa using hb
 subst e;exact I2.fpOk (yO _) (I2.hok.fresh (yO _))
end
def jd (H:Hp) (a:Addr) (y v:V) (H':Hp):Prop:=∃kvs k,H a=some (.dK kvs)/\y=kV k/\kvs.length < sizeLine/\H'=upd H a (.dK (putK kvs k v))
theorem pY {X:Cx}{pins:List (Addr×Obj)}{σ:St}{H H':Hp}{s:zz8}{a:Addr}{y v:V}{u r:zz9}{A:Around}{E:zz9->zz8->Prop}{Q:Unit->zz8->Prop} (I:Inv X pins σ H s) (g:jd H a y v H') (ry:RelV y u) (rv:RelV v r) (h:∀s',Inv X pins σ H' s'->Q () s') :
  wpAny (model X.prog X.w) A (dictSet a u r) Q E s:=by
 obtain⟨kvs,k,e,ey,l,eH⟩:=g;subst ey eH;obtain⟨z,hd,vs,rel,dd⟩:=nF I.hok e;have hl:(putK kvs k v).length<=sizeLine:=by have:=gQ kvs k v;omega
 refine wpAny_dictSet_pairs (hsz:=by rw [<- rel.length];exact z) (eW ry) dd λh' Gx hs=>h _ ?_;have he:∃q,h'.get? a=some q:=let ⟨q,_,_,hq,_⟩:=Gx;⟨q,hq⟩;exact iM I (by rw [e];exact True.intro) hs he (mD hl hd (rel.put k rv) Gx)
def jk (D:Addr) (J:It) (g:TG) (tt:TT) (tk tv:TE) (σ':St) (fin:Hp->Prop) (H1:Hp):Prop :=
 ∃W:Nat->Nat->St->Hp->Prop,(∃m,W 0 m σ' H1)/\∀i m σ H,W i m σ H ->
  (J.stop i H/\fin H)\/(J.go i H/\∃Nx:St->Hp->Prop,(∀σ' H',Nx σ' H'->∃m',m' < m/\W (i + 1) m' σ' H') /\
   ∀x H',J.yld i H x H'->g x σ H' λσ2 H2=>tt σ2 H2 λb H3=>if b=true then tk σ2 H3 (λy H4=>tv σ2 H4 λv H5=>∃H6,jd H5 D y v H6/\Nx σ2 H6) else Nx σ2 H3)
def ub (i:Nat) (wi:TI) (g:TG) (tt:TT) (tk tv:TE) (ix:List (Option Nat)):TS:=λE σ H=>wi σ H λJ H1=>∀D,H1 D=none->jk D J g tt tk tv (Fe ix σ) (λH'=>E.nx (σ.set i (some (.ref D))) H') (upd H1 D (.dK []))
section
variable {X:Cx}{scope:Scope}{N:List Str}{ix:List (Option Nat)}
variable {tg iter kx vx:Expr}{ifs:List Expr}{pos:Pos}{g:TG}{tt:TT}{tk tv:TE}
theorem uh (L:bD X scope N ix) (hc:X.calm=true) (hg:∀C s0 H0 fp,PG (aw X scope N C s0 H0 fp) tg g) (ht:∀C s0 H0 fp,FN (aw X scope N C s0 H0 fp) ifs tt) (hk:∀C s0 H0 fp,PE (aw X scope N C s0 H0 fp) kx tk) (hv:∀C s0 H0 fp,PE (aw X scope N C s0 H0 fp) vx tv)
  {pins:List (Addr×Obj)}{σ:St}{H1:Hp}{s1:zz8}{it:Addr}{fp:List Addr}{tn:Nat->Heap->Prop}{J:It}{fin:Addr->Hp->Prop}{E:zz9->zz8->Prop}{RR:zz9->Addr->Result->zz8->Prop}
  (I1:Inv X pins σ H1 s1) (T:Turn X.prog X.w X.K tg J fp it tn) (st:tn 0 s1.heap) (f1:∀b∈fp,bv X pins H1 b) (hW:∀D,H1 D=none->jk D J g tt tk tv (Fe ix σ) (fin D) (upd H1 D (.dK [])))
  (KD:∀D C s' m H',s'.heap.Ns C m->s'.os=s1.os->bv X pins H' C->(∀h',Heap.SameBut C s'.heap h'->Inv X pins σ H' { s' with heap:=h' })->fin D H'->RR (.ref D) C (.ok .next) s') :
  wpAny (model X.prog X.w) X.A newDict (λC5 s3=>wpAny (model X.prog X.w) X.A (newFunctionEnv scope X.env.globals (bK X.env scope.names []) [] X.env.qual none .none (some X.env)) (λEF s4 =>
   codeAny (model X.prog X.w) X.A (.compStart (.DictComp kx vx [⟨tg,iter,ifs,0⟩] scope pos) 0 (.ref it) C5 { EF with scope:=relabel scope X.env }) (RR C5 EF.locals) s4) E s3) E s1:=by
 have HB:∀b∈fp,b < s1.heap.objs.size:=λb hb=>by
  obtain⟨o,e,_⟩:=T.obj _ _ st b hb;exact yH e
 have T6:H1 s1.heap.objs.size=none:=I1.hok.fresh (yO _);obtain⟨W,⟨m0,w0⟩,turn⟩:=hW s1.heap.objs.size T6;refine zA (Ca L.nocell (by intro y hy;simp at hy) (λh1 ES E2=>?_) L.kind)
 dsimp only at ES E2 ⊢
 have I2:Inv X pins σ (upd H1 s1.heap.objs.size (.dK [])) { s1 with heap:=s1.heap.push { cls:=.type "dict",data:=.dict #[] },toks:=s1.toks } :=
  I1.laid (t':=s1.toks) (a:=s1.heap.objs.size) (o:=.dK []) (λ_ _ q=>yB _ q) (yO _) (kB s1.heap I1.big)
 have f2:∀b∈fp,bv X pins (upd H1 s1.heap.objs.size (.dK [])) b:=λb hb=>by
  obtain⟨q0,q1⟩:=f1 b hb;exact⟨by rw [ag (y9 (HB b hb))];exact q0,q1⟩
 have DW:tn 0 (s1.heap.push { cls:=.type "dict",data:=.dict #[] }):=T.keep _ _ _ st λb _ o e=>yB _ e;generalize hD:s1.heap.objs.size=D at *;generalize hH2:upd H1 D (.dK [])=H2 at *;generalize hG:s1.heap.push { cls:=.type "dict",data:=.dict #[] }=G at *;have HC:G.objs.size=D + 1:=by rw [<- hG,zo,hD]
 generalize IB:G.objs.size=C at *;have kp:∀b o,G.get? b=some o->h1.get? b=some o:=λb o e=>E2.extBut b o (λz=>by have:=yH e;rw [IB] at this;exact absurd (z ▸ this) (zz _)) (yB _ e);have I4:=i6 L (tk:=s1.toks + ([]:List (Str×zz9)).length) I2 (C:=C) (by show G.objs.size<=C;rw [IB];exact yO _) f2 (λb hb=>by show b < G.objs.size;rw [IB,HC];exact As (HB b hb)) kp ES;have Hf:tn 0 h1:=T.keep _ _ _ DW λb _ o e=>kp b o e;generalize Ea:({ s1 with heap:=G,toks:=s1.toks }:zz8)=s2 at I2 I4;have Kd:s2.heap=G:=by rw [<- Ea]
 have MY:s2.os=s1.os:=by rw [<- Ea]
 have stat:∀{H':Hp},(∀b∈fp,H' b=none)->∀b∈fp,bv (aw X scope N C s2 H2 fp) [] H' b:=λ{H'} hn b hb=>by
  have Dh:=HB b hb;refine⟨hn b hb,λz=>?_,λz=>?_,.inl hb,λx c e=>(f2 b hb).2.2.2.2.1 x c (cR e),λp hq z=>?_⟩
  ·exact vm Dh HC z
  ·exact (yF.mp (I2.stkSub b z)).elim (f2 b hb).2.1 (f2 b hb).2.2.1
  ·have Em:p∈([]:List (Addr×Obj)):=by simpa [aw] using hq
   cases Em
 have loop:∀s4:zz8,Inv (aw X scope N C s2 H2 fp) [] (Fe ix σ) H2 s4->tn 0 s4.heap->codeAny (model X.prog X.w) X.A (.compLoop (.DictComp kx vx [⟨tg,iter,ifs,0⟩] scope pos) 0 (.ref it) (.ref D) (aw X scope N C s2 H2 fp).env) (RR (.ref D) C) s4:=by
  intro s4 UG L5;refine ua (λn s'=>∃i σ' H',Inv (aw X scope N C s2 H2 fp) [] σ' H' s'/\tn i s'.heap/\(∀b∈fp,H' b=none)/\W i n σ' H') ?_ m0 ⟨0,Fe ix σ,H2,UG,L5,λb hb=>(f2 b hb).1,w0⟩;rintro n s' ⟨i,σ',H',I',Dm,Gh,w'⟩
  rcases turn i n σ' H' w' with ⟨stop,qf⟩ | ⟨go,Nx,hN,step⟩
  ·refine C4 (T.done (aw X scope N C s2 H2 fp) rfl rfl rfl hc i _ s' σ' H' _ I' (stat Gh) Dm stop) λr s5 ⟨hr,I5⟩=>?_
   subst hr;obtain⟨m5,Ki,_⟩:=I5.loc;refine KD D C s5 m5 H' Ki (I5.os.trans MY) (I2.fpOk (by rw [Kd,IB];exact yO _) I5.free) (λh' DS=>?_) qf;exact vK I2 f2 I5 (by rw [Kd,IB];exact yO _) λb o hb e=>DS.extBut b o hb e
  ·refine C4 (T.item (aw X scope N C s2 H2 fp) rfl rfl rfl hc i _ s' σ' H' _ I' (stat Gh) Dm go) λr s5 ⟨u,hr,h5⟩=>?_
   subst hr;refine C4 h5 λ_ s6 ⟨x,H6,I6,r6,y6,Es,ID⟩=>?_;have IH:=I6.pinned (stat ID) (T.obj _ _ Es);refine C4 (hg C s2 H2 fp _ s6 σ' H6 x u _ IH r6 (step x H6 y6)) λ_ s7 ⟨σ7,H7,I7,q7⟩=>?_;refine C4 (ht C s2 H2 fp _ s7 σ7 H7 _ I7 q7) λok s8 ⟨H8,I8,q8⟩=>?_;have back:∀{H9:Hp}{s9:zz8},Inv (aw X scope N C s2 H2 fp) ([]++cH fp s6.heap) σ7 H9 s9->tn (i + 1) s9.heap/\∀b∈fp,H9 b=none:=λ{H9 s9} I9=>by
    refine⟨T.keep _ _ _ Es λb hb o e=>(I9.pin (b,o) (yM _ (yM _ (cy hb e)))).1,λb hb=>?_⟩;obtain⟨o,e,d⟩:=T.obj _ _ Es b hb;exact (I9.pin (b,o) (yM _ (yM _ (cy hb e)))).2.1
   cases ok with
   | false =>
    rw [if_neg yU] at q8 ⊢;obtain⟨m',hm,w8⟩:=hN _ _ q8;obtain⟨HR,IC⟩:=back I8;exact⟨m',hm,i + 1,σ7,H8,I8.unpinned,HR,IC,w8⟩
   | true =>
    rw [if_pos rfl] at q8 ⊢;refine C4 (hk C s2 H2 fp _ s8 σ7 H8 _ I8 q8) λyv s9 ⟨y,H9,I9,r9,q9⟩=>?_;refine C4 (hv C s2 H2 fp _ s9 σ7 H9 _ I9 q9) λxv Fq ⟨v,DD,HJ,IM,EW,T9,Lk⟩=>?_;refine pY (X:=aw X scope N C s2 H2 fp) HJ T9 r9 IM λHi QK=>?_;obtain⟨m',hm,QR⟩:=hN _ _ Lk;obtain⟨L6,NW⟩:=back QK;exact⟨m',hm,i + 1,σ7,EW,QK.unpinned,L6,NW,QR⟩
 have q:=loop _ I4 Hf;subst Ea;exact codeAny_compStart_dict q (T.self _ 0 _ _ _ Hf q)
theorem rm {i:Nat}{y:Str}{py FR:Pos}{wi:TI} (hN:X.N.Nodup) (Eb:X.N[i]?=some y) (hx:Loc X.env.scope y) (L:bD X scope N ix) (hc:X.calm=true) (hi:PI X tg iter wi) (hg:∀C s0 H0 fp,PG (aw X scope N C s0 H0 fp) tg g)
  (ht:∀C s0 H0 fp,FN (aw X scope N C s0 H0 fp) ifs tt) (hk:∀C s0 H0 fp,PE (aw X scope N C s0 H0 fp) kx tk) (hv:∀C s0 H0 fp,PE (aw X scope N C s0 H0 fp) vx tv)
  (MU:swapsWith (.DictComp kx vx [⟨tg,iter,ifs,0⟩] scope pos) (some (.Name y py)) FR.line X.env=pure true:=by rfl) (hs:∀x,foldedSetIterable iter X.env x=pure x:=by intro _;rfl)
  (hf:X.fn y=true\/X.env.scope.names.lookup y=some .local:=by first | exact .inl rfl | exact .inr rfl | assumption) :
  PS X (.Assign [.Name y py] (.DictComp kx vx [⟨tg,iter,ifs,0⟩] scope pos) FR) (ub i wi g tt tk tv ix):=by
 intro pins s σ H D I h;rw [exec_Assign_Name_used _ _ _ _ MU];refine yz (zW (yz ?_));show wpAny _ X.A (do let _ <- comprehension (.DictComp kx vx [⟨tg,iter,ifs,0⟩] scope pos) scope X.env _ newDict false (eval iter X.env) (some (assign (.Name y py) X.env))) _ _ s
 refine yz (C4 (Ba (use:=some (assign (.Name y py) X.env)) (Q:=λ_ s'=>SP X pins D .next s') rfl hs (L.clos I.ok) L.kind L.locals
  (C4 (hi pins s σ H _ I h) λv s1 h1=>C4 h1 λIS s2 h2=>?_)) λ_ s' hq=>yC (yC hq))
 obtain⟨it,fp,tn,J,H2,rfl,I2,T,DW,f2,hW⟩:=h2;refine uh (RR:=λC5 C=>compPost (model X.prog X.w) X.A X.xe (some (assign (.Name y py) X.env)) (λ_ s'=>SP X pins D .next s') C5 C) L hc hg ht hk hv I2 T DW f2 hW ?_;intro Da C s' m H' hn ho hC hI fin;have I':=hI s'.heap (CB _ _);show wpAny _ X.A (assign (.Name y py) X.env (.ref Da)) _ _ s';refine Cy (gZ (v:=.ref Da) I' hN Eb hx rfl (λHS II ch=>?_) hf);obtain⟨a,IV,MM⟩:=ch;obtain⟨c1,c2,c3,c4,c5,c6⟩:=hC;have NM:C≠a:=by
  rcases MM with z | z
  ·rw [z];exact c2
  ·exact λw=>c5 y a z w.symm
 refine⟨m,hn.sameBut IV NM,λh' DS=>⟨_,_,II.turned (t':=HS.toks) (it:=C) (λb o hb e=>DS.extBut b o hb e) c1 c2 c4 c5 c6,fin⟩⟩
end
theorem vZ {K:zz7}{D:Addr}{g:TG}{tk tv:TE}{σ':St}{fin:Hp->Prop}{H1:Hp}{a b:Addr}{xs ys:List V} (he:xs.length=ys.length) (Pv:Nat->St->Hp->Prop) (h0:Pv 0 σ' H1) (hl:∀i σ H,i<=xs.length->Pv i σ H->C2 K H a xs/\C2 K H b ys)
  (hs:∀i x y σ H T,xs[i]?=some x->ys[i]?=some y->Pv i σ H->H T=none->g (.ref T) σ (upd H T (.tup [x,y])) λσ2 H2=>if true=true then tk σ2 H2 (λy H4=>tv σ2 H4 λv H5=>∃H6,jd H5 D y v H6/\Pv (i + 1) σ2 H6) else Pv (i + 1) σ2 H2)
  (hd:∀σ H,Pv xs.length σ H->fin H):jk D (LQ K a b) g b6 tk tv σ' fin H1:=by
 refine⟨λi m σ H=>m=xs.length - i/\i<=xs.length/\Pv i σ H,⟨xs.length,by simp,ze _,h0⟩,?_⟩;rintro i m σ H ⟨rfl,hi,p⟩;obtain⟨q1,q2⟩:=hl i σ H hi p
 by_cases h:i < xs.length
 ·refine .inr ⟨⟨xs,ys,xs[i],ys[i],q1,q2,yJ h,yJ (by omega)⟩,λσ' H'=>Pv (i + 1) σ' H',λσ' H' z=>⟨xs.length - (i + 1),by omega,rfl,h,z⟩,?_⟩
  rintro v H' ⟨T,x,y,rfl,hT,rfl,hx,hy⟩;unfold b6;exact hs i x y σ H T (hx xs q1) (hy ys q2) p hT
 ·have e:i=xs.length:=by omega
  subst e;exact .inl ⟨⟨xs,q1,yO _⟩,hd σ H p⟩
structure M1 (X:Cx) (o:Expr) (m:Str) (apos:Pos) (e:Expr) (Df:Pos):Prop where
 base:attributeBase o m X.env (eval o X.env)=eval o X.env
 few:((backTo Df (starEach [e] X.env)).all (λx=>!x.1) && (backToKw Df (keywordEach [] X.env)).all (λx=>x.1.isSome)
  && decide (([e]:List Expr).length + ([]:List Keyword).length + (if ([]:List Keyword).isEmpty then 0 else 1) < 30))=true
 line:(apos.endLine == Df.line)=true
 trees:backTo Df (starEach [e] X.env)=[(false,eval e X.env)]
structure M2 (X:Cx) (o:Expr) (m:Str) (apos:Pos) (e f:Expr) (Df:Pos):Prop where
 base:attributeBase o m X.env (eval o X.env)=eval o X.env
 few:((backTo Df (starEach [e,f] X.env)).all (λx=>!x.1) && (backToKw Df (keywordEach [] X.env)).all (λx=>x.1.isSome)
  && decide (([e,f]:List Expr).length + ([]:List Keyword).length + (if ([]:List Keyword).isEmpty then 0 else 1) < 30))=true
 line:(apos.endLine == Df.line)=true
 trees:backTo Df (starEach [e,f] X.env)=[(false,eval e X.env),(false,eval f X.env)]
def QJ (H:Hp) (a:Addr):Prop:=(∃kvs,Rd H a (.dK kvs))\/∃kvs,Rd H a (.dT kvs)
theorem wa {X:Cx}{pins:List (Addr×Obj)}{σ:St}{H:Hp}{s:zz8}{a:Addr} (I:Inv X pins σ H s) (d:QJ H a) :
  s.TypeIs (.ref a) "dict"/\(∀b,Value.ref a=.ref b->∃ob,s.heap.get? b=some ob/\ob.dict=none)/\(a == sysModules)=false:=by
 rcases d with ⟨kvs,e⟩ | ⟨kvs,e⟩
 ·obtain⟨_,hd,vs,_,dd⟩:=eI I.hok e
  refine⟨dd.typeIs,λb q=>?_,hd⟩;cases q;obtain⟨ob,_,_,h1,h2,_⟩:=dd;exact⟨ob,h1,h2.2.1⟩
 ·obtain⟨_,hd,xs,_,dd⟩:=eX I.hok e
  refine⟨dd.typeIs,λb q=>?_,hd⟩;cases q;obtain⟨ob,_,_,h1,h2,_⟩:=dd;exact⟨ob,h1,h2.2.1⟩
section
variable {X:Cx}{pins:List (Addr×Obj)}{σ:St}{H:Hp}{s:zz8}{a:Addr}{y d:V}{u r:zz9}{o:Option V}{A:Around}{E:zz9->zz8->Prop}
theorem vC {Q:zz9->zz8->Prop} (hu:A.units + 1 < cLine) (I:Inv X pins σ H s) (g:bp H a y o) (ry:RelV y u) (rd:RelV d r) (h:∀w' s',Inv X pins σ H s'->RelV (o.getD d) w'->Q w' s') :
  wpAny (model X.prog X.w) A (call (.builtin "dict.get") [.ref a,u,r]) Q E s:=by
 rcases g with ⟨kvs,k,e,ey,l⟩ | ⟨kvs,k,b,e,ey,eb,l⟩
 ·subst ey
  obtain⟨z,hd,vs,rel,dd⟩:=eI I.hok e;refine call_meetsIn B6 dd.typeIs PySem.F.entry_dict_get (PySem.F.args_dict_get_3 _ _ _) (meets_dict_get_default (bX X.prog X.w) a (eW ry) hd r) ⟨_,dd.mapOf,h _ _ (I.tok _) ?_⟩;rw [l];exact (rel.val k).getD rd
 ·subst ey
  cases (show u=Value.ref b from ry);obtain⟨z,hd,xs,rel,dd⟩:=eX I.hok e;refine call_meetsIn B6 dd.typeIs PySem.F.entry_dict_get (PySem.F.args_dict_get_3 _ _ _) (meetsH_dict_get_default (tupleKind (bX X.prog X.w)) a b hd r) ⟨BN hu,k,xs,eC I.hok eb,dd,h _ _ (I.tok _) ?_⟩;rw [l];exact (rel.val k).getD rd
end
def wg (td ty tx:TE):TE:=λσ H Q=>td σ H λx H1=>∃a,x=.ref a/\QJ H1 a/\ty σ H1 λy H2=>tx σ H2 λz H3=>∃o,bp H3 a y o/\Q (o.getD z) H3
section
variable {X:Cx}{o e f:Expr}{apos Df:Pos}{td ty tx:TE}
theorem sD (hu:X.A.units + 1 < cLine) (ho:PE X o td) (he:PE X e ty) (hf:PE X f tx) (m:M2 X o "get" apos e f Df):PE X (.Call (.Attribute o "get" apos) [e,f] [] Df) (wg td ty tx):=by
 intro pins s σ H Q I h;refine wpAny_Call_method m.base m.few m.line PySem.F.plainAttrs_dict B6 PySem.F.type_dict_get (C4 (ho pins s σ H _ I h) λu s1 ⟨x,H1,I1,rx,a,ex,d,q1⟩=>?_);subst ex;obtain rfl:u=Value.ref a:=rx;obtain⟨t1,t2,_⟩:=wa I1 d;refine⟨t1,t2,?_⟩;rw [m.trees]
 refine Calls.callWith_builtin rfl (B9 (BK (C4 (he pins s1 σ H1 _ I1 q1) λiv s2 ⟨y,H2,I2,ry,q2⟩ =>
  BK (C4 (hf pins s2 σ H2 _ I2 q2) λfv s3 ⟨z,H3,I3,rz,ov,g,q3⟩=>Cz ?_))))
 exact vC hu I3 g ry rz λw' s4 I4 DY=>⟨_,H3,I4,DY,q3⟩
end
section
variable {X:Cx}{pins:List (Addr×Obj)}{σ:St}{H:Hp}{s:zz8}{a:Addr}{kvs:List (Key×V)}{A:Around}{E:zz9->zz8->Prop}
end
section
variable {X:Cx}{pins:List (Addr×Obj)}{σ:St}{H:Hp}{s:zz8}{a:Addr}{y:V}{u:zz9}{A:Around}{E:zz9->zz8->Prop}
end
section
variable {X:Cx}
theorem qN:aZ X (.builtin "len") (λxs H Q=>∃a kvs,xs=[V.ref a]/\H a=some (.dK kvs)/\Q (.int kvs.length) H):=by
 intro pins s σ H xs us Q I r h;obtain⟨a,kvs,rfl,ha,q⟩:=h;obtain⟨u,rfl,ru⟩:=vals1 r;cases ru;exact wQ I (.inl ha) λt s' I'=>⟨.int kvs.length,H,I',⟨t,rfl⟩,q⟩
end
section
variable {κ:Type} [DecidableEq κ]
end
end L2
namespace L2
open PySem PySem.Spec PyProof.Rows PySem.W PySem.Calls
theorem aF.get {P:Program}{w:World}{H:Hp}{h:Heap}{a:Addr}{o:HO} (x:aF P w H h a o):∃ob,h.get? a=some ob:=by
 cases o with
 | lst xs=>obtain⟨_,_,_,_,e⟩:=x;exact⟨_,e⟩
 | tup xs=>obtain⟨_,_,_,ob,e,_⟩:=x;exact⟨_,e⟩
 | dK kvs=>obtain⟨_,_,_,_,o,_,_,e,_⟩:=x;exact⟨_,e⟩
 | dT kvs=>obtain⟨_,_,_,_,o,_,_,e,_⟩:=x;exact⟨_,e⟩
 | set S n=>obtain⟨o,_,_,_,e,_⟩:=x;exact⟨_,e⟩
 | ins C dx fs=>obtain⟨_,_,_,e,_⟩:=x;exact⟨_,e⟩
 | own y=>obtain⟨_,e⟩:=x;exact⟨_,e⟩
 | xd fs=>obtain⟨_,⟨_,_,_,e,_⟩,_⟩:=x;exact⟨_,e⟩
 | rng lo hi=>obtain⟨_,_,_,e⟩:=x;exact⟨_,e⟩
 | frz ob u=>obtain⟨e,_⟩:=x;exact⟨_,e⟩
 | tbl ps=>exact⟨_,(show h.get? a=some _ from x)⟩
 | met f y=>exact⟨_,(show h.get? a=some _ from x)⟩
 | ext φ=>obtain⟨_,⟨_,e⟩,_⟩:=x;exact⟨_,e⟩
theorem Ds.freeN {P:Program}{w:World}{H:Hp}{h:Heap}{a:Addr} (x:Ds P w H h) (e:h.get? a=none):H a=none:=by
 cases q:H a with
 | none=>rfl
 | some u=>obtain⟨ob,e'⟩:=(x a u q).get;rw [e] at e';cases e'
theorem Inv.laidN {X:Cx}{pins:List (Addr×Obj)}{σ:St}{H:Hp}{s:zz8}{h':Heap}{a:Addr}{o:HO}{t':Nat} (I:Inv X pins σ H s) (k:∀b u,s.heap.get? b=some u->h'.get? b=some u) (hp:s.heap.get? a=none) (new:aF X.prog X.w (upd H a o) h' a o) :
  Inv X pins σ (upd H a o) { s with heap:=h',toks:=t' }:=by
 have hn:=I.hok.freeN hp;refine I.un ⟨λb ob e _ _ _=>k b ob e,λb ob e _ _ _=>⟨ob.slots,k b ob e⟩,λb ob e n _=>?_,λb ob e _=>⟨ob,k b ob e⟩,λb xs e=>?_,λb ob u e=>?_,λb ps e=>⟨#[],?_⟩⟩ λb u e=>?_
 ·rw [ag (λz=>by rw [z,hp] at e;cases e)];exact n
 ·rw [ag (ar e hn)];exact e
 ·rw [ag (ar e hn)];exact e
 ·rw [ag (ar e hn)];simpa using e
 ·by_cases hb:b=a
  ·subst hb;rw [aj] at e;cases e;exact new
  ·rw [ag hb] at e
   exact (I.hok b u e).stay (λc v _ q=>k c v q) (λc q=>by rw [ag (ar q hn)];exact q) λc xs q=>by rw [ag (ar q hn)];exact q
section
variable {X:Cx}
end
section
variable {prog:Program}{w:World}{A:Around}{E:zz9->zz8->Prop}{s:zz8}
end
section
variable {prog:Program}{w:World}{A:Around}{R:Result->zz8->Prop}{K:Type} [DecidableEq K] {knd:PySem.KeyKind prog w K}
end
section
variable {X:Cx}
end
end L2
namespace L2
open PySem PySem.Spec PyProof.Rows
section
variable {X:Cx}
end
end L2
namespace L2
open PySem PySem.Spec PyProof.Rows PySem.W PySem.Calls
section
variable {X:Cx}
theorem oV:aZ X (.builtin "sorted") (λxs H Q=>∃(p:Addr) (ss:List Str),xs=[.ref p]/\C2 X.K H p (ss.map V.str)/\ss.length < 64/\∀(Dg:List Str) (q:Addr),Dg.Perm ss->sortedS Dg=true->H q=none->Q (.ref q) (upd H q (.lst (Dg.map V.str)))):=by
 intro pins s σ H xs us Q I r h;obtain⟨p,ss,rfl,hq,HD,q⟩:=h;obtain⟨u,rfl,rx⟩:=vals1 r;cases rx;obtain⟨C1,r',⟨o,ho,hc,n,hd⟩,hz⟩:=I.tuple hq;have C6:=r'.length;rw [yA] at C6;have hS:=fg r';refine Calls.call_function_entry kind_sorted plain_sorted entry_sorted (args_sorted1 _) ?_;unfold Builtin.«sorted»;refine yz (m:=checkCount "sorted" 1 1 _) (yC ?_);refine yz (jC (.inr rfl) ho hc hd ?_ (by rw [zj];omega));refine yz (B0 ?_ (by rw [zj];omega));have hsz:((s.heap.push (seqObj "list" #[] 0)).update s.heap.objs.size (Obj.mapSeq (·++C1.toArray))).objs.size=s.heap.objs.size + 1:=by
  rw [Heap.size_update,size_push']
 have Ga:(((s.heap.push (seqObj "list" #[] 0)).update s.heap.objs.size (Obj.mapSeq (·++C1.toArray))).push (seqObj "list" C1.toArray 0)).get? (s.heap.objs.size + 1)=some (seqObj "list" C1.toArray 0):=by
  rw [<- hsz];exact yN _ rfl
 show wpAny _ _ _ _ _ { s with heap:=((s.heap.push (seqObj "list" #[] 0)).update s.heap.objs.size (Obj.mapSeq (·++C1.toArray))).push (seqObj "list" C1.toArray 0) };rw [hsz];refine yz (zw (zC slot_list_sort ⟨_,Ga,rfl⟩ entry_list_sort (list_sort_treeK strKind_oneLt Ga hS.keysOf (λv₁ v₂ rest e=>keyKind_strs (by rw [<- e];exact hS)) (by omega) λDm a1 a2=>⟨_,rfl,?_⟩) (args_list_sort _)));obtain⟨Dg,h1,h2,h3⟩:=sorted_out_str hS a1 a2;refine yC ⟨_,rfl,?_⟩;obtain⟨e,he⟩:=sortedAll_at s.heap C1 ((arrOf Dm).map (·.2));have hv:aq (Dg.map V.str) ((arrOf Dm).map (·.2)).toList:=fU h1;have FA:H (s.heap.objs.size + 1)=none:=I.hok.fresh (Az _);refine⟨.ref (s.heap.objs.size + 1),_,I.laid (h':=sortedAll s.heap C1 ((arrOf Dm).map (·.2))) (t':=s.toks) (o:=.lst (Dg.map V.str)) (λb o z=>sortedAll_old z) (Az _) ⟨?_,((arrOf Dm).map (·.2)).toList,e,hv,?_⟩,rfl,q Dg _ h2 h3 FA⟩
 ·rw [yA,h2.length_eq,zj];omega
 ·rw [Cf];exact he
end
def b9:zz9->Str
 | .str x _=>x
 | _=>default
structure bB (w:World) (o:Obj) (ss:List Str) (es:Array (Int×zz9)) (ep:Nat) (t:SetTable):Prop where
 cls:o.cls=.type "set"
 dic:o.dict=none
 slo:o.slots=#[]
 dat:o.data=.set es ep t
 els:∀e∈es.toList,∃tk,e.2=.str (b9 e.2) tk/\e.1=hashStr w (b9 e.2)
 all:(es.toList.map λe=>b9 e.2).Perm ss
 one:ss.Nodup
 few:ss.length < 4000
 fit:t.fits es.size=true
 led:t.led=!w.params.followText "set-order"
 pla:es.size=0\/t.plain=false
theorem bB.size {w:World}{o:Obj}{ss:List Str}{es:Array (Int×zz9)}{ep:Nat}{t:SetTable} (x:bB w o ss es ep t):es.size=ss.length:=by
 have:=x.all.length_eq;rw [yA,zB] at this;exact this
theorem bB.elems {P:Program}{w:World}{o:Obj}{ss:List Str}{es:Array (Int×zz9)}{ep:Nat}{t:SetTable} (x:bB w o ss es ep t):ElemsOf (PySem.strKind P w) es.toList:=by
 intro e he;obtain⟨tk,h1,h2⟩:=x.els e he;refine⟨⟨b9 e.2,?_,h2⟩,?_⟩
 ·have z:=CV P w (b9 e.2) tk
  rw [<- h1] at z;exact z
 ·rw [h1];rfl
theorem oN (t:SetTable) (n:Nat):(t.orStandIn n).led=t.led:=by
 unfold SetTable.orStandIn;split <;> rfl
theorem pO (t:SetTable) (es:Array (Int×zz9)) (h:Int) (x:zz9):(layNew t es h x).2.1.led=t.led:=by
 unfold layNew;split
 ·exact oN _ _
 ·rfl
theorem oW (t:SetTable) (es:Array (Int×zz9)) (n:Nat):(relayAll t es n).2.1.led=t.led/\(t.plain=false->(relayAll t es n).2.1.plain=false):=by
 unfold relayAll;split
 ·rename_i t' order he
  have hz:t'.led=t.led/\t'.plain=t.plain:=by
   unfold SetTable.relaid SetTable.laid at he
   revert he
   cases SetTable.layClean (SetTable.sizeAbove n - 1) (es.map (·.1)) with
   | none=>intro he;cases he
   | some ow=>intro he;cases he;exact⟨rfl,rfl⟩
  dsimp only
  split
  ·exact⟨hz.1,λe=>hz.2.trans e⟩
  ·exact⟨rfl,λ_=>rfl⟩
 ·exact⟨rfl,λ_=>rfl⟩
theorem jQ {h:Heap}{a:Addr}{o:Obj}{es es':Array (Int×zz9)}{ep:Nat}{t t':SetTable} (ho:h.get? a=some o) (hd:o.data=.set es ep t) :
  (h.update a (Obj.putSet es' t')).get? a=some { o with data:=.set es' (ep + 1) t' }:=by
 have q:=zu (Obj.putSet es' t') ho (by rw [putSet_of es' t' hd];rfl);rw [putSet_of es' t' hd] at q;exact q
section
variable {prog:Program}{w:World}{A:Around}{E:zz9->zz8->Prop}{s:zz8}
theorem tF {a:Addr}{o:Obj}{ss:List Str}{k:Str}{tk:Tok}{es:Array (Int×zz9)}{ep:Nat}{t:SetTable}{R:Option Bool->zz8->Prop}
  (ho:s.heap.get? a=some o) (x:bB w o ss es ep t) (hk:k∉ss) (few:ss.length + 1 < 4000)
  {L:Array (Int×zz9)×SetTable×Bool×Bool} (hL:layNew t es (hashStr w k) (.str k tk)=L)
  (h:∀(h':Heap) (o':Obj) es' DP t',Heap.SameBut a s.heap h'->h'.get? a=some o'->bB w o' (k::ss) es' DP t'->R (some true) { s with heap:=h' }) (g:Bool->Sem Unit) (hg:∀(b:Bool) (s₁:zz8) (Q':Unit->zz8->Prop),Q' () s₁->wpAny (model prog w) A (g b) Q' E s₁) :
  wpAny (model prog w) A (do
   storeSet a L.1 { L.2.1 with plain:=false }
   if (!L.2.2.1 && ({ L.2.1 with plain:=false }:SetTable).tooFull)=true then do
    g (relayAll { L.2.1 with plain:=false } L.1 (SetTable.grown L.1.size)).2.2
    storeSet a (relayAll { L.2.1 with plain:=false } L.1 (SetTable.grown L.1.size)).1 (relayAll { L.2.1 with plain:=false } L.1 (SetTable.grown L.1.size)).2.1
    pure (some true)
   else pure (some true)) R E s:=by
 have pm:=layNew_perm t es (hashStr w k) (.str k tk);have pf:=layNew_fits t es (hashStr w k) (.str k tk);have pl:=pO t es (hashStr w k) (.str k tk);rw [hL] at pm pf pl;obtain⟨e1,t1,b1,b2⟩:=L
 dsimp only at pm pf pl ⊢
 rw [Array.toList_push] at pm;have hsz:=x.size;have z1:e1.size=ss.length + 1:=by
  have:=pm.length_eq;rw [zc,zB,zB] at this;rw [this,hsz];rfl
 have mk:∀{e2:Array (Int×zz9)}{t2:SetTable}{o2:Obj}{IE:Nat},e2.toList.Perm e1.toList->o2.cls=.type "set"->o2.dict=none->o2.slots=#[]->o2.data=.set e2 IE t2->t2.fits e2.size=true->t2.led=t.led->t2.plain=false->bB w o2 (k::ss) e2 IE t2:=by
  intro e2 t2 o2 IE p1 c1 c2 c3 c4 c5 c6 c7;have p2:=p1.trans pm;refine⟨c1,c2,c3,c4,λe he=>?_,?_,?_,?_,c5,c6.trans x.led,.inr c7⟩
  ·rcases yQ.mp (p2.mem_iff.mp he) with q | q
   ·exact x.els e q
   ·rw [yK.mp q];exact⟨tk,rfl,rfl⟩
  ·refine (p2.map _).trans ?_
   rw [yL];exact (List.perm_append_comm).trans (List.Perm.cons k x.all)
  ·exact zb.mpr ⟨hk,x.one⟩
  ·rw [zk];exact few
 have fz:({ t1 with plain:=false }:SetTable).fits e1.size=true:=SetTable.fits_plain_off pf;refine yz (wpAny_storeSet_of ho x.dat ?_ (by rw [z1,zj];omega));have g1:=jQ (es':=e1) (t':={ t1 with plain:=false }) ho x.dat;have sb:=Ac s.heap a (Obj.putSet e1 { t1 with plain:=false });split
 ·have rp:=relayAll_perm { t1 with plain:=false } e1 (SetTable.grown e1.size)
  have rf:=relayAll_fits { t1 with plain:=false } e1 (SetTable.grown e1.size);have rl:=oW { t1 with plain:=false } e1 (SetTable.grown e1.size);generalize relayAll { t1 with plain:=false } e1 (SetTable.grown e1.size)=R2 at rp rf rl ⊢;have z2:R2.1.size=ss.length + 1:=by
   have:=rp.length_eq;rw [zB,zB] at this;rw [this,z1]
  refine yz (hg _ _ _ ?_);refine yz (wpAny_storeSet_of g1 rfl ?_ (by rw [z2,zj];omega));have g2:=jQ (es':=R2.1) (t':=R2.2.1) g1 rfl;exact yC (h _ _ R2.1 _ R2.2.1 (sb.trans (Ac _ a _)) g2 (mk rp x.cls x.dic x.slo rfl rf (rl.1.trans pl) (rl.2 rfl)))
 ·exact yC (h _ _ e1 _ _ sb g1 (mk (Cp _) x.cls x.dic x.slo rfl fz pl rfl))
end
def aU:List Str->List Str
 | []=>[]
 | k::r=>if k∈aU r then aU r else k::aU r
theorem tj (l:List Str) (k:Str):k∈aU l ↔ k∈l:=by
 induction l with
 | nil=>exact Iff.rfl
 | cons a r ih =>
  unfold aU;split
  ·rename_i q
   rw [ih,yF];exact⟨Or.inr,λz=>z.elim (λe=>by rw [e];exact SF ih q e) id⟩
  ·rw [yF,yF,ih]
where SF {r:List Str}{a k:Str} (ih:k∈aU r ↔ k∈r) (q:a∈aU r) (e:k=a):a∈r:=by subst e;exact ih.mp q
theorem rY (l:List Str):(aU l).length<=l.length:=by
 induction l with
 | nil=>exact yO _
 | cons a r ih =>
  unfold aU;split
  ·rw [zk];omega
  ·rw [zk,zk];omega
theorem qv (l:List Str):(aU l).Nodup:=by
 induction l with
 | nil=>exact Br
 | cons a r ih =>
  unfold aU;split
  ·exact ih
  ·rename_i q;exact zb.mpr ⟨q,ih⟩
section
variable {prog:Program}{w:World}{A:Around}{E:zz9->zz8->Prop}{s:zz8}
theorem tM {a:Addr}{o:Obj}{l:List Str}{k:Str}{tk:Tok}{es:Array (Int×zz9)}{ep:Nat}{t:SetTable}{Q:Bool->zz8->Prop}
  (ho:s.heap.get? a=some o) (x:bB w o (aU l) es ep t) (few:l.length + 1 < 4000)
  (h:∀(b:Bool) (h':Heap) (o':Obj) es' DP t',Heap.SameBut a s.heap h'->h'.get? a=some o'->bB w o' (aU (k::l)) es' DP t'->Q b { s with heap:=h' }) :
  wpAny (model prog w) A (setAddHashed a (.str k tk) (hashStr w k)) Q E s:=by
 have hl:=rY l;have hsz:=x.size;have Qb:=x.elems (P:=prog);have Ip:=CV prog w k tk;unfold setAddHashed setAddHashedIn;refine zw (yz (A6 ho x.dat x.fit ?_))
 dsimp only
 rw [byScan_of (knd:=PySem.strKind prog w) rfl (by rw [hsz];have:scanBound=4096:=rfl;omega) Qb];rw [if_pos rfl];unfold setAddByScan;refine yz (yz (AV ?_));refine yz (wpAny_setScan_of (knd:=PySem.strKind prog w) (k:=k) Ip ho x.dat x.fit Qb ?_);have mem:∀e∈es.toList,(PySem.strKind prog w).is k e.2=true ↔ b9 e.2=k:=by
  intro e he;obtain⟨t',h1,_⟩:=x.els e he;rw [h1];show Value.isStrOf k (.str (b9 e.2) t')=true ↔ b9 (.str (b9 e.2) t')=k;simp [Value.isStrOf,b9]
 cases hf:List.findIdx? (λe=>(PySem.strKind prog w).is k e.2) es.toList with
 | some j =>
  dsimp only
  obtain⟨hj,hp,_⟩:=List.findIdx?_eq_some_iff_getElem.mp hf;have DU:k∈aU l:=x.all.mem_iff.mp (yD.mpr ⟨_,zx hj,(mem _ (zx hj)).mp hp⟩);refine yC (yC ?_);have e2:aU (k::l)=aU l:=by show (if k∈aU l then _ else _)=_;rw [if_pos DU]
  exact h false s.heap o es ep t (CB a s.heap) ho (by rw [e2];exact x)
 | none =>
  dsimp only
  have DU:k∉aU l:=by
   intro hk;obtain⟨e,he,ee⟩:=yD.mp (x.all.mem_iff.mpr hk);have:=List.findIdx?_eq_none_iff.mp hf e he;rw [(mem e he).mpr ee] at this;cases this
  have e2:aU (k::l)=k::aU l:=by show (if k∈aU l then _ else _)=_;rw [if_neg DU]
  have fin:∀(h':Heap) (o':Obj) es' DP t',Heap.SameBut a s.heap h'->h'.get? a=some o'->bB w o' (k::aU l) es' DP t'->Q true { s with heap:=h' }:=λh' o' es' DP t' c1 c2 c3=>h true h' o' es' DP t' c1 c2 (by rw [e2];exact c3);have Nr:∀(b:Bool) (s₁:zz8) (Q':Unit->zz8->Prop),Q' () s₁->wpAny (model prog w) A (match b with | true=>rule "set.scan.the-table-gave-way" | false=>pure ()) Q' E s₁:=λb s₁ Q' q=>by
   cases b
   ·exact yC q
   ·exact AV q
  generalize hL:layNew t es (hashStr w k) (.str k tk)=L;obtain⟨e1,t1,b1,b2⟩:=L
  dsimp only
  refine yz (Nr _ _ _ ?_);have tail:=λ(g:Bool->Sem Unit) hg=>tF (A:=A) (E:=E) (prog:=prog) (R:=λr s'=>wpAny (model prog w) A (match r with | some added=>pure added | none=>setAddHashedIn a (.str k tk) (hashStr w k) 99999) Q E s') ho x DU (by omega) hL (λh' o' es' DP t' c1 c2 c3=>yC (fin h' o' es' DP t' c1 c2 c3)) g hg
  dsimp only at tail
  split
  ·refine yz ?_
   rw [hashByValue_scannable 8 rfl];refine yC ?_;exact tail _ Nr
  ·rename_i DK
   refine yz (yC ?_);have hp:t1.plain=false:=by cases q:t1.plain with | false=>rfl | true=>exact absurd q DK
   have et:t1={ t1 with plain:=false }:=by cases t1;cases hp;rfl
   rw [if_pos rfl];rw [et];exact tail _ Nr
theorem qa {I S:Addr}{fp:List Addr}{C1:List zz9}{ss:List Str}{St:Nat->Heap->Prop}{R:Result->zz8->Prop}{m:Nat} (hm:m=C1.length)
  (W:Walks prog w A.in1 I fp [I] m (λi v=>C1[i]?=some v) St) (hS:S∉fp) (hv:aq (ss.map V.str) C1) (few:ss.length + 1 < 4000) :
  ∀(k i:Nat) (s:zz8) (o:Obj) (es:Array (Int×zz9)) (ep:Nat) (t:SetTable),C1.length - i=k->i<=C1.length->St i s.heap->s.heap.get? S=some o->bB w o (aU (ss.take i).reverse) es ep t ->
   (∀(h':Heap) (tk:Nat) (o':Obj) es' DP t',(∀b ob,b≠S->b≠I->s.heap.get? b=some ob->h'.get? b=some ob)->h'.get? S=some o'->bB w o' (aU ss.reverse) es' DP t'->R (.ok (.ret .none)) { s with heap:=h',toks:=tk }) ->
   codeAny (model prog w) A (.builtin "set.update.loop" ⟨[.ref S,.ref I],[]⟩) R s:=by
 have C6:ss.length=C1.length:=by have:=hv.length;rwa [yA] at this
 subst hm;have Qo:S≠I:=λe=>hS (by rw [e];exact W.sub I (yK.mpr rfl));intro k
 induction k with
 | zero =>
  intro i s o es ep t hk hi st ho x q;have e:i=C1.length:=by omega
  subst e;refine zT F.entry_set_update_loop ?_;rw [zO BS _];show wpAny _ A.in1 (pyNext (.ref I) >>= _) _ _ s;refine yz (W.done s _ _ st λh' tk kp=>?_);show wpAny _ A.in1 (ret Value.none) _ _ _;rw [<- C6,zU] at x;exact yC (q h' tk o es ep t (λb ob _ hb e=>kp b ob (by simpa using hb) e) (kp S o (by simpa using Qo) ho) x)
 | succ k ih =>
  intro i s o es ep t hk hi st ho x q;have Dh:i < C1.length:=by omega
  have FM:i < ss.length:=by omega
  refine zT F.entry_set_update_loop ?_;rw [zO BS _];show wpAny _ A.in1 (pyNext (.ref I) >>= _) _ _ s;refine yz (W.item i s _ _ Dh st λv h1 QZ hP Q7 kp=>?_);obtain⟨u,hu,ru⟩:=hv.get (i:=i) (x:=.str ss[i]) (by rw [yR,yJ FM];rfl);have ev:v=u:=by rw [hP] at hu;cases hu;rfl
  subst ev;obtain⟨tv,rfl⟩:=ru;have Ii:h1.get? S=some o:=kp S o (by simpa using Qo) ho;show wpAny _ A.in1 (holding [Value.str ss[i] tv] (setAdd S (.str ss[i] tv)) >>= _) _ _ _;refine yz (zw ?_);unfold setAdd;refine zw ?_;refine yz ((PySem.strKind prog w).pyHash (k:=ss[i]) (CV prog w _ _) ?_);have Kb:(ss.take i).reverse.length + 1 < 4000:=by rw [List.length_reverse,zF];omega
  refine tM (s:={ s with heap:=h1,toks:=QZ + 1 }) Ii x Kb λb h2 o2 NZ IE t2 sb EA x2=>?_;have e3:ss[i]::(ss.take i).reverse=(ss.take (i + 1)).reverse:=by
   rw [zi,yJ FM,List.reverse_append];rfl
  rw [e3] at x2;refine yC ⟨Af BS _,ih (i + 1) _ o2 NZ IE t2 (by omega) Dh (W.frame _ h1 _ Q7 λb hb ob e=>?_) EA x2 λh' tk o' es' DP t' Sy c1 c2=>?_⟩
  ·rw [sb.2 b (λz=>hS (by rw [<- z];exact hb))];exact e
  ·refine q h' tk o' es' DP t' (λb ob b1 b2 e=>Sy b ob b1 b2 ?_) c1 c2
   show h2.get? b=some ob;rw [sb.2 b b1];exact kp b ob (by simpa using b2) e
theorem rZ (a:zz9) {Q₁:zz9->zz8->Prop}
  (h:Q₁ (.ref s.heap.objs.size) { s with heap:=s.heap.push { cls:=.type "set",dict:=none,data:=.set #[] 0 (.fresh 0 0 (!w.params.followText "set-order")) } }) :
  codeAny (model prog w) A (.call (.builtin "set.__new__") ⟨[.type "set",a],[]⟩) (wants Q₁ E) s:=by
 refine Cg ?_;show wpAny _ A.in1 (checkBuiltinCall "set.__new__" ⟨[.type "set",a],[]⟩ >>= λ_=>again (.builtin "set.__new__" ⟨[.type "set",a],[]⟩)) _ _ s;refine yz (AA (PySem.F.newCall_set_1 a) (yC ⟨Af PySem.F.plain_set_new _,zT PySem.F.entry_set_new ?_⟩));rw [zO PySem.F.plain_set_new _];unfold Builtin.«set.__new__» Builtin.Frozenset.newClass;have known:=sub_set_self;obtain⟨h0,g0,d0,tk0,os0⟩:=s
 dsimp only
 wp_walk
 refine AU (yC ?_)
 dsimp only
 simp only [newObj];exact yz (wpAny_alloc (yC (yC h)))
theorem pq (w:World):bB w { cls:=.type "set",dict:=none,data:=.set #[] 0 (.fresh 0 0 (!w.params.followText "set-order")) } [] #[] 0 (.fresh 0 0 (!w.params.followText "set-order")) :=
 ⟨rfl,rfl,rfl,rfl,λe he=>(by cases he),List.Perm.nil,Br,(by decide),rfl,rfl,.inl rfl⟩
end
end L2
set_option maxHeartbeats 8000000
namespace L2
open PySem PySem.Spec PyProof.Rows PySem.W PySem.Calls
section
variable {prog:Program}{w:World}{A:Around}{E:zz9->zz8->Prop}{s:zz8}
theorem sub_tuple_set:isSubtype (.type "tuple") (.type "set")=pure false:=by rw [Bs];kernel_rfl
theorem oG:isSubtype (.type "tuple") (.type "frozenset")=pure false:=by rw [Bs];kernel_rfl
theorem oz {l:Addr}{C1:List zz9}{ss:List Str}{Q:zz9->zz8->Prop}
  (hh:A.handled=none) (hl:s.heap.IsTuple l C1.toArray) (hv:aq (ss.map V.str) C1) (few:ss.length + 1 < 4000)
  (h:∀(h':Heap) (tk:Nat) (o':Obj) es' DP t',(∀b ob,s.heap.get? b=some ob->h'.get? b=some ob)->h'.get? s.heap.objs.size=some o'->bB w o' (aU ss.reverse) es' DP t'->Q (.ref s.heap.objs.size) { s with heap:=h',toks:=tk }) :
  wpAny (model prog w) A (call (.type "set") [.ref l]) Q E s:=by
 obtain⟨Sl,Sk,Th⟩:=Ap.mro;have made:=Ap.made;have subs:=Ap.sub;have nt:=Ap.notType;have cc:=Ap.canCreate;have ct:=PySem.F.typeCall_set_1 (.ref l);refine CL (Cg ?_);show wpAny _ _ (callAny (.type "set") _) _ _ _;refine yC ⟨BM _ (by decide +kernel),zT PySem.F.entry_type_call ?_⟩;rw [Around.under_plain (weight_type_call_type "set" [.ref l] []) rfl]
 repeat (any_goals (first | assumption | wp_step))
 refine AX (rZ (.ref l) (E:=E) (Q₁:=λobj s₁=>obj=.ref s.heap.objs.size/\s₁={ s with heap:=s.heap.push { cls:=.type "set",dict:=none,data:=.set #[] 0 (.fresh 0 0 (!w.params.followText "set-order")) } }) ⟨rfl,rfl⟩) λr s₁ hr=>?_;generalize NC:(!w.params.followText "set-order")=bt at hr;cases r with
 | error e=>exact hr
 | ok fl =>
  cases fl with
  | ret obj =>
   obtain⟨rfl,rfl⟩:=hr;have g0:(s.heap.push { cls:=.type "set",dict:=none,data:=.set #[] 0 (.fresh 0 0 bt) }).get? s.heap.objs.size=some { cls:=.type "set",dict:=none,data:=.set #[] 0 (.fresh 0 0 bt) }:=yN _ rfl;have ty:Shared.TypeIs { s with heap:=s.heap.push { cls:=.type "set",dict:=none,data:=.set #[] 0 (.fresh 0 0 bt) } } (.ref s.heap.objs.size) "set":=⟨_,g0,rfl⟩
   have ini:=Ap.init.lookup;have inb:=Ap.init.bind (.ref s.heap.objs.size)
   repeat (any_goals (first | assumption | wp_step))
   refine AX (codeAny_call_builtin (R:=wants (λr s₂=>r=.none/\∃h' tk o' es' DP t',s₂={ s with heap:=h',toks:=tk }/\(∀b ob,s.heap.get? b=some ob->h'.get? b=some ob)/\h'.get? s.heap.objs.size=some o'/\bB w o' (aU ss.reverse) es' DP t') E)
    Ap.init.plain PySem.F.entry_set_init (check_set_init_1 ty ?_)) λr₂ s₂ M0=>?_
   ·obtain⟨ol,PF,cl,nl,dl⟩:=hl
    obtain⟨c1,c2,c3,c4⟩:=ol;simp only at cl dl;subst cl;subst dl;have M9:(s.heap.push { cls:=.type "set",dict:=none,data:=.set #[] 0 (.fresh 0 0 bt) }).get? l=some { cls:=.type "tuple",dict:=c2,data:=.seq C1.toArray nl,slots:=c4 }:=yB _ PF;have n1:=sub_tuple_set;have n2:=oG;have n3:(Value.type "tuple" == Value.type "dict")=false:=by decide
    have Io:(s.heap.push { cls:=.type "set",dict:=none,data:=.set #[] 0 (.fresh 0 0 bt) }).IsTuple l C1.toArray:=⟨_,M9,rfl,nl,rfl⟩
    unfold Builtin.«set.__init__» noKeywords Builtin.Frozenset.updateFrom;generalize Ta:pyIter=pit
    wp_walk
    subst Ta;refine AE Io ?_;refine yz (wpAny_runValue ?_);have Pc:l < s.heap.objs.size:=yH PF;have h3:A.in1.in1.in1.handled=none:=by simp [hh]
    have ne1:l≠(s.heap.push { cls:=.type "set",dict:=none,data:=.set #[] 0 (.fresh 0 0 bt) }).objs.size:=by
     rw [zo];exact y9 (As Pc)
    have out:s.heap.objs.size∉[(s.heap.push { cls:=.type "set",dict:=none,data:=.set #[] 0 (.fresh 0 0 bt) }).objs.size,l]:=by
     rw [zo];intro z
     rcases yF.mp z with z | z
     ·exact absurd z (y9 (AR _))
     ·exact absurd (yK.mp z) (AI Pc)
    have W:=Walks.tuple (prog:=prog) (w:=w) h3 (s.heap.push { cls:=.type "set",dict:=none,data:=.set #[] 0 (.fresh 0 0 bt) }).objs.size l ne1 C1.toArray;have hW:(λ(i:Nat) (v:zz9)=>C1.toArray[i]?=some v)=λi v=>C1[i]?=some v:=by funext i v;rw [List.getElem?_toArray]
    rw [hW] at W;have g1:((s.heap.push { cls:=.type "set",dict:=none,data:=.set #[] 0 (.fresh 0 0 bt) }).push { cls:=.type "tuple_iterator",data:=.fields #[.ref l,.int 0 0] }).get? s.heap.objs.size=some { cls:=.type "set",dict:=none,data:=.set #[] 0 (.fresh 0 0 bt) }:=yB _ g0;refine qa (yS) W out hv few (C1.length - 0) 0 _ _ #[] 0 (.fresh 0 0 bt) rfl (ze _)
     ⟨⟨_,yN _ rfl,rfl,rfl⟩,Io.push _⟩ g1 (by subst NC;exact pq w) λh' tk o' es' DP t' kp c1 c2=>?_
    show wpAny _ _ _ _ _ _;refine yC ?_;show wpAny _ _ (ret Value.none) _ _ _;refine yC ⟨rfl,h',tk,o',es',DP,t',rfl,λb ob e=>kp b ob (y9 (yH e)) ?_ (yB _ (yB _ e)),c1,c2⟩;rw [zo];exact y9 (As (yH e))
   ·cases r₂ with
    | error e=>exact M0
    | ok Uc =>
     cases Uc with
     | ret r =>
      obtain⟨rfl,h',tk,o',es',DP,t',rfl,kp,c1,c2⟩:=M0
      repeat (any_goals (first | assumption | wp_step))
      exact h h' tk o' es' DP t' kp c1 c2
     | _=>exact M0.elim
  | _=>exact hr.elim
end
theorem cO:Slot "set_iterator" "__next__" "set_iterator.__next__" :=
 .of (owner:="set_iterator") (n:="__next__") (by rw [Ci,Bt];kernel_rfl) (by decide +kernel) (by decide +kernel) (by decide +kernel) (by first | exact .inl (by decide +kernel) | exact .inr (by decide +kernel)) (by rw [Bs];kernel_rfl)
theorem fP:entryFor table "set_iterator.__next__"=some Builtin.«set_iterator.__next__»:=entryFor_of_tree (by kernel_rfl)
theorem ko:Manifest.owners.lookup (String.ofList ['r','o','t','a','r','e','t','i','_','t','e','s'].reverse)=some Manifest.sig_set_iterator:=by kernel_rfl
theorem fR (a:zz9):argsOk "set_iterator.__next__" ⟨[a],[]⟩:=by
 unfold argsOk;rw [signature?_of (id:="set_iterator.__next__") (n:=['_','_','t','x','e','n','_','_']) (o:=['r','o','t','a','r','e','t','i','_','t','e','s']) (by kernel_rfl) ko]
 kernel_rfl
theorem jz:Slot "set_iterator" "__iter__" "set_iterator.__iter__" :=
 .of (owner:="set_iterator") (n:="__iter__") (by rw [Ci,Bt];kernel_rfl) (by decide +kernel) (by decide +kernel) (by decide +kernel) (by first | exact .inl (by decide +kernel) | exact .inr (by decide +kernel)) (by rw [Bs];kernel_rfl)
theorem oF (a:zz9):argsOk "set_iterator.__iter__" ⟨[a],[]⟩:=by
 unfold argsOk;rw [signature?_of (id:="set_iterator.__iter__") (n:=['_','_','r','e','t','i','_','_']) (o:=['r','o','t','a','r','e','t','i','_','t','e','s']) (by kernel_rfl) ko]
 kernel_rfl
theorem oA:entryFor table "set_iterator.__iter__"=some Builtin.«dict_keyiterator.__iter__» :=
 entryFor_alias (id':="dict_keyiterator.__iter__") (by kernel_rfl) (by first | rfl | decide +kernel | (unfold String.splitOn;simp +decide [String.splitOnAux])) (by decide +kernel) (by kernel_rfl)
theorem oy:entryFor table "set.__iter__"=some Builtin.«frozenset.__iter__» :=
 entryFor_alias (id':="frozenset.__iter__") (by kernel_rfl) (by first | rfl | decide +kernel | (unfold String.splitOn;simp +decide [String.splitOnAux])) (by decide +kernel) (by kernel_rfl)
def b4 (first:zz9) (i:Nat) (a:Addr) (n ep:Nat):Array zz9:=#[first,rawInt (i:Int),.ref a,rawInt (n:Int),rawInt (ep:Int)]
def bZ (h:Heap) (I:Addr) (first:zz9) (i:Nat) (a:Addr) (n ep:Nat):Prop:=∃o,h.get? I=some o/\o.cls=.type "set_iterator"/\o.data=.fields (b4 first i a n ep)
theorem bZ.typ {s:zz8}{I:Addr}{first:zz9}{i:Nat}{a:Addr}{n ep:Nat} (x:bZ s.heap I first i a n ep):s.TypeIs (.ref I) "set_iterator":=let ⟨o,h1,h2,_⟩:=x;⟨o,h1,h2⟩
theorem bZ.stay {h h':Heap}{I:Addr}{first:zz9}{i:Nat}{a:Addr}{n ep:Nat} (x:bZ h I first i a n ep) (e:∀o,h.get? I=some o->h'.get? I=some o):bZ h' I first i a n ep:=let ⟨o,h1,h2⟩:=x;⟨o,e o h1,h2⟩
theorem fQ {α:Type}:∀(l:List α) (i:Nat) (h:i < l.length),(l[i]::l.eraseIdx i).Perm l
 | [],_,h=>absurd h (Cb _)
 | a::r,0,_=>Cp _
 | a::r,i + 1,h=>by
  show (r[i]'(Nat.lt_of_succ_lt_succ h)::a::r.eraseIdx i).Perm (a::r);exact (List.Perm.swap _ _ _).trans (List.Perm.cons a (fQ r i (Nat.lt_of_succ_lt_succ h)))
section
variable {prog:Program}{w:World}{A:Around}{E:zz9->zz8->Prop}{s:zz8}
theorem pV {src:Source}{n:Nat}{Q:Nat->zz8->Prop} (hn:n≠0) (h:∀i d,i < n->Q i { s with drawn:=d }):wpAny (model prog w) A (choose src n) Q E s:=by
 intro Γ p hΓ;show Sem.wp _ _ (.choose src n .pure) _ _ _ _;rw [Sem.wp_choose];refine⟨hn,?_⟩;rw [Sem.wp_pure];exact h _ _ (Nat.mod_lt _ (Nat.pos_of_ne_zero hn))
theorem pT {α:Type}:∀(n:Nat) (xs:List α) (s:zz8) (Q:List α->zz8->Prop),n=xs.length->(∀ys d,ys.Perm xs->Q ys { s with drawn:=d })->wpAny (model prog w) A (drawOrder n xs) Q E s:=by
 intro n
 induction n with
 | zero =>
  intro xs s Q hn h;have:xs=[]:=AQ.mp hn.symm;subst this;unfold drawOrder;exact yC (h [] s.drawn (Cp _))
 | succ n ih =>
  intro xs s Q hn h;cases xs with
  | nil=>cases hn
  | cons x r =>
   unfold drawOrder;refine yz (pV (by rw [zk];exact Nat.succ_ne_zero _) λi d hi=>?_);rw [yJ hi]
   dsimp only
   have C6:n=((x::r).eraseIdx i).length:=by
    have:=Cj (l:=x::r) (i:=i);rw [if_pos hi] at this;rw [this];omega
   refine yz (ih _ _ _ C6 λys d' pm=>yC ?_);refine h _ d' ?_;exact (List.Perm.cons _ pm).trans (fQ (x::r) i hi)
theorem ij {I:Addr}{first:zz9}{i:Nat}{a:Addr}{n ep:Nat}{Q:zz9->zz8->Prop} (x:bZ s.heap I first i a n ep) (h:Q (.ref I) s):wpAny (model prog w) A (pyIter (.ref I)) Q E s:=by
 refine CF x.typ jz (zC jz x.typ oA ?_ (oF _));show wpAny _ _ (ret (.ref I)) _ _ s;exact yC ⟨_,rfl,"set_iterator",_,x.typ,cO.lookup,h⟩
theorem j7 {Q:Option zz9->zz8->Prop}{R:Fin->zz8->Prop} (hh:A.handled=none)
  (hQ:∀h',(∀b o,s.heap.get? b=some o->h'.get? b=some o)->Q none { s with heap:=h' }) :
  wpAny (model prog w) A.in1 (newExc (.type "StopIteration") [] >>= raiseNew) R (λe s'=>wpAny (model prog w) A (do if <- isInstance e (.type "StopIteration") then pure none else throw e) Q E s') s:=by
 refine yz ?_;simp only [newExc,newTuple];refine yz (zA ?_ (by size_fits));refine yz (m:=firstArgMember _ _) (AA (a:=Value.none) (by first | rfl | (simp only [firstArgMember];rfl)) ?_);refine zA ?_ (by size_fits);simp only [raiseNew];refine yz (wpAny_handled ?_);rw [show A.in1.handled=none from hh];refine yz (yC (wpAny_throw ?_));refine yz (Bx (T:="StopIteration") (b:=true) ⟨_,yN _ rfl,rfl⟩ isSubtype_stop ?_);exact yC (hQ _ λb o e=>yB _ (yB _ e))
end
theorem sj {α β:Type} (f:α->β) {l1:List β}{l2:List α} (h:l1.Perm (l2.map f)):∃l:List α,l.Perm l2/\l1=l.map f:=by
 generalize e:l2.map f=m at h
 induction h generalizing l2 with
 | nil =>
  cases l2 with
  | nil=>exact⟨[],.nil,rfl⟩
  | cons a b=>cases e
 | cons y _ ih =>
  cases l2 with
  | nil=>cases e
  | cons a b =>
   rw [y0] at e;obtain⟨e1,e2⟩:=Cw e;obtain⟨l,p1,p2⟩:=ih e2;exact⟨a::l,p1.cons a,by rw [y0,e1,p2]⟩
 | swap y z l =>
  cases l2 with
  | nil=>cases e
  | cons a b =>
   cases b with
   | nil=>cases e
   | cons c d =>
    rw [y0,y0] at e;obtain⟨e1,e2⟩:=Cw e;obtain⟨e3,e4⟩:=Cw e2;exact⟨c::a::d,.swap a c d,by rw [y0,y0,e1,e3,e4]⟩
 | trans _ _ SE SD =>
  obtain⟨l,p1,p2⟩:=SD e;obtain⟨l',p3,p4⟩:=SE p2.symm;exact⟨l',p3.trans p1,p4⟩
structure cw (w:World) (o:Obj) (n:Nat) (es:Array (Int×zz9)) (ep:Nat) (t:SetTable):Prop where
 cls:o.cls=.type "set"
 dat:o.data=.set es ep t
 size:es.size=n
 few:n < 4000
 fit:t.fits es.size=true
 led:t.led=!w.params.followText "set-order"
 pla:es.size=0\/t.plain=false
theorem bB.any {w:World}{o:Obj}{ss:List Str}{es:Array (Int×zz9)}{ep:Nat}{t:SetTable} (x:bB w o ss es ep t):cw w o ss.length es ep t:=⟨x.cls,x.dat,x.size,x.few,x.fit,x.led,x.pla⟩
theorem kK (first:zz9) (i:Nat) (a:Addr) (n ep:Nat) (x:zz9):(b4 first i a n ep).setIfInBounds 0 x=b4 x i a n ep:=by simp [b4]
theorem kU (first:zz9) (i:Nat) (a:Addr) (n ep:Nat):(b4 first i a n ep).setIfInBounds 1 (rawInt ((i:Int) + 1))=b4 first (i + 1) a n ep:=by simp [b4]
section
variable {prog:Program}{w:World}{A:Around}{E:zz9->zz8->Prop}{s:zz8}
theorem gk {h:Heap}{I:Addr}{first:zz9}{i:Nat}{a:Addr}{n ep:Nat}{o:Obj} (ho:h.get? I=some o) (hc:o.cls=.type "set_iterator") (hd:o.data=.fields (b4 first i a n ep)) (j:Nat) (y:zz9) :
  ∃o',(h.update I (Obj.mapFields (·.setIfInBounds j y))).get? I=some o'/\o'.cls=.type "set_iterator"/\o'.data=.fields ((b4 first i a n ep).setIfInBounds j y) :=
 ⟨_,zu _ ho (AF (Ah hd _)),(BU ..).trans hc,Ah hd _⟩
theorem kn {I a:Addr}{o:Obj}{n:Nat}{es:Array (Int×zz9)}{ep:Nat}{t:SetTable}{slot next i:Nat}{v:zz9}{Q:Option zz9->zz8->Prop}
  (hit:bZ s.heap I (rawInt (slot:Int)) i a es.size ep) (Di:a≠I) (ho:s.heap.get? a=some o) (x:cw w o n es ep t)
  (nx:∀(A:Around) (E:zz9->zz8->Prop) (Q:Option (zz9×Nat)->zz8->Prop),Q (some (v,next)) s->wpAny (model prog w) A (setNext a slot i ep) Q E s)
  (hQ:∀h',bZ h' I (rawInt (next:Int)) (i + 1) a es.size ep->Heap.SameBut I s.heap h'->Q (some v) { s with heap:=h' }):wpAny (model prog w) A (pyNext (.ref I)) Q E s:=by
 obtain⟨oi,E5,Ji,E9⟩:=id hit;unfold pyNext;refine yz (AN (zH (name:=Str.ofString "__next__") hit.typ cO (zC cO hit.typ fP ?_ (fR _))));unfold Builtin.«set_iterator.__next__»;refine yz (AA (a:=(Value.ref I,[])) rfl ?_)
 dsimp only
 refine yz (AS E5 E9 ?_);show wpAny _ _ (setEntries a >>= _) _ _ s;refine yz (Bd ho x.dat x.fit ?_);show wpAny _ _ (if ((es.size:Int) != (es.size:Int))=true then _ else _) _ _ s;rw [if_neg (by simp)];show wpAny _ _ (setNext a slot i ep >>= _) _ _ s;refine yz (nx _ _ _ ?_);show wpAny _ _ (setField (.ref I) 0 (rawInt (next:Int)) >>= _) _ _ s;refine yz (Ab E5 E9 (by simp [b4]) ?_);obtain⟨o1,g1,c1,d1⟩:=gk E5 Ji E9 0 (rawInt (next:Int));rw [kK] at d1;show wpAny _ _ (setField (.ref I) 1 (rawInt ((i:Int) + 1)) >>= _) _ _ _;refine yz (Ab g1 d1 (by simp [b4]) ?_);obtain⟨o2,g2,c2,d2⟩:=gk g1 c1 d1 1 (rawInt ((i:Int) + 1));rw [kU] at d2;exact yC ⟨v,rfl,yC (hQ _ ⟨o2,g2,c2,d2⟩ ((Ac ..).trans (Ac ..)))⟩
theorem iq {I a:Addr}{o:Obj}{n:Nat}{es:Array (Int×zz9)}{ep:Nat}{t:SetTable}{slot i:Nat}{Q:Option zz9->zz8->Prop} (hh:A.handled=none)
  (hit:bZ s.heap I (rawInt (slot:Int)) i a es.size ep) (Di:a≠I) (ho:s.heap.get? a=some o) (x:cw w o n es ep t)
  (nx:∀(A:Around) (E:zz9->zz8->Prop) (Q:Option (zz9×Nat)->zz8->Prop),Q none s->wpAny (model prog w) A (setNext a slot i ep) Q E s)
  (hQ:∀h',(∀b o,b≠I->s.heap.get? b=some o->h'.get? b=some o)->Q none { s with heap:=h' }):wpAny (model prog w) A (pyNext (.ref I)) Q E s:=by
 obtain⟨oi,E5,Ji,E9⟩:=id hit;unfold pyNext;refine yz (AN (zH (name:=Str.ofString "__next__") hit.typ cO (zC cO hit.typ fP ?_ (fR _))));unfold Builtin.«set_iterator.__next__»;refine yz (AA (a:=(Value.ref I,[])) rfl ?_)
 dsimp only
 refine yz (AS E5 E9 ?_);show wpAny _ _ (setEntries a >>= _) _ _ s;refine yz (Bd ho x.dat x.fit ?_);show wpAny _ _ (if ((es.size:Int) != (es.size:Int))=true then _ else _) _ _ s;rw [if_neg (by simp)];show wpAny _ _ (setNext a slot i ep >>= _) _ _ s;refine yz (nx _ _ _ ?_);show wpAny _ _ (setField (.ref I) 2 .none >>= _) _ _ s;refine yz (Ab E5 E9 (by simp [b4]) ?_);refine j7 hh λh' kp=>hQ h' λb ob hb e=>kp b ob ?_;exact (yX _ _ (zP hb)).trans e
theorem pX {I a tp:Addr}{o:Obj}{n:Nat}{es:Array (Int×zz9)}{ep:Nat}{t:SetTable}{i p:Nat}{v:zz9}{ps:Array zz9}{Q:Option zz9->zz8->Prop}
  (hit:bZ s.heap I (.ref tp) i a es.size ep) (ho:s.heap.get? a=some o) (x:cw w o n es ep t) (MQ:s.heap.IsTuple tp ps) (hp:ps[i]?=some (rawInt (p:Int))) (hv:(es[p]?).map (·.2)=some v)
  (hQ:∀h',bZ h' I (.ref tp) (i + 1) a es.size ep->Heap.SameBut I s.heap h'->Q (some v) { s with heap:=h' }):wpAny (model prog w) A (pyNext (.ref I)) Q E s:=by
 obtain⟨oi,E5,Ji,E9⟩:=id hit;obtain⟨ot,Jc,_,nt,Ny⟩:=MQ;unfold pyNext;refine yz (AN (zH (name:=Str.ofString "__next__") hit.typ cO (zC cO hit.typ fP ?_ (fR _))));unfold Builtin.«set_iterator.__next__»;refine yz (AA (a:=(Value.ref I,[])) rfl ?_)
 dsimp only
 refine yz (AS E5 E9 ?_);show wpAny _ _ (setEntries a >>= _) _ _ s;refine yz (Bd ho x.dat x.fit ?_);show wpAny _ _ (if ((es.size:Int) != (es.size:Int))=true then _ else _) _ _ s;rw [if_neg (by simp)];show wpAny _ _ (seqItems? (.ref tp) >>= _) _ _ s;refine yz (zE Jc Ny ?_)
 dsimp only [AM]
 rw [hp]
 dsimp only [rawInt]
 refine yz ?_;unfold setNextDrawn;refine yz (A6 ho x.dat x.fit ?_)
 dsimp only
 rw [if_neg (by simp)]
 try rw [AM]
 cases he:es[p]? with
 | none=>rw [he] at hv;cases hv
 | some ev =>
  rw [he] at hv;cases hv;refine yC ?_;show wpAny _ _ (setField (.ref I) 1 (rawInt ((i:Int) + 1)) >>= _) _ _ _;refine yz (Ab E5 E9 (by simp [b4]) ?_);obtain⟨o2,g2,c2,d2⟩:=gk E5 Ji E9 1 (rawInt ((i:Int) + 1));rw [kU] at d2;exact yC ⟨_,rfl,yC (hQ _ ⟨o2,g2,c2,d2⟩ (Ac ..))⟩
theorem rG {I a tp:Addr}{o:Obj}{n:Nat}{es:Array (Int×zz9)}{ep:Nat}{t:SetTable}{i:Nat}{ps:Array zz9}{Q:Option zz9->zz8->Prop} (hh:A.handled=none)
  (hit:bZ s.heap I (.ref tp) i a es.size ep) (ho:s.heap.get? a=some o) (x:cw w o n es ep t) (MQ:s.heap.IsTuple tp ps) (hp:ps[i]?=none)
  (hQ:∀h',(∀b o,b≠I->s.heap.get? b=some o->h'.get? b=some o)->Q none { s with heap:=h' }):wpAny (model prog w) A (pyNext (.ref I)) Q E s:=by
 obtain⟨oi,E5,Ji,E9⟩:=id hit;obtain⟨ot,Jc,_,nt,Ny⟩:=MQ;unfold pyNext;refine yz (AN (zH (name:=Str.ofString "__next__") hit.typ cO (zC cO hit.typ fP ?_ (fR _))));unfold Builtin.«set_iterator.__next__»;refine yz (AA (a:=(Value.ref I,[])) rfl ?_)
 dsimp only
 refine yz (AS E5 E9 ?_);show wpAny _ _ (setEntries a >>= _) _ _ s;refine yz (Bd ho x.dat x.fit ?_);show wpAny _ _ (if ((es.size:Int) != (es.size:Int))=true then _ else _) _ _ s;rw [if_neg (by simp)];show wpAny _ _ (seqItems? (.ref tp) >>= _) _ _ s;refine yz (zE Jc Ny ?_)
 dsimp only [AM]
 rw [hp]
 dsimp only
 refine yz (Ab E5 E9 (by simp [b4]) ?_);obtain⟨o1,g1,c1,d1⟩:=gk E5 Ji E9 0 (rawInt 0);rw [kK] at d1;refine yz (Ab g1 d1 (by simp [b4]) ?_);refine j7 hh λh' kp=>hQ h' λb ob hb e=>kp b ob ?_;exact (yX _ _ (zP hb)).trans ((yX _ _ (zP hb)).trans e)
end
theorem vo {α:Type} (next:Nat->Nat):∀(n k:Nat) (left:List α) (out:Array α),n=left.length->(pickOrder.go next n k left out).toList.Perm (out.toList++left):=by
 intro n
 induction n with
 | zero =>
  intro k left out hn;have:left=[]:=AQ.mp hn.symm;subst this;unfold pickOrder.go;rw [zt]
 | succ n ih =>
  intro k left out hn;unfold pickOrder.go;have hi:next k % left.length < left.length:=Nat.mod_lt _ (by omega);rw [yJ hi]
  dsimp only
  have hl:n=(left.eraseIdx (next k % left.length)).length:=by
   have:=Cj (l:=left) (i:=next k % left.length);rw [if_pos hi] at this;rw [this];omega
  refine (ih _ _ _ hl).trans ?_;rw [Array.toList_push,Aj];exact List.Perm.append_left _ (fQ left _ hi)
theorem gN {α:Type} (next:Nat->Nat) (xs:Array α):(pickOrder next xs).toList.Perm xs.toList:=by
 unfold pickOrder;have:=vo next xs.size 0 xs.toList #[] (zB).symm;simpa using this
section
variable {prog:Program}{w:World}{A:Around}{E:zz9->zz8->Prop}{s:zz8}
theorem kW {a:Addr}{o:Obj}{n:Nat}{es:Array (Int×zz9)}{ep slot i:Nat}{t:SetTable} (hb:w.params.followText "set-order"=true) (ho:s.heap.get? a=some o) (x:cw w o n es ep t) {Q:Option (zz9×Nat)->zz8->Prop}
  (h:Q (((pickOrder (w.params.setOrder a ep) es)[i]?).map λe=>(e.2,slot)) s):wpAny (model prog w) A (setNext a slot i ep) Q E s:=by
 unfold setNext;refine yz (A6 ho x.dat x.fit ?_)
 dsimp only
 unfold setsByText;refine yz (yz (AU (yC ?_)));show wpAny _ _ (if w.params.followText "set-order"=true then _ else _) _ _ s;rw [if_pos hb,if_neg (by simp)];unfold setWalk;refine yz ?_;refine yz (A6 ho x.dat x.fit ?_)
 dsimp only
 unfold setsByText;refine yz (yz (AU (yC ?_)));show wpAny _ _ (if w.params.followText "set-order"=true then _ else _) _ _ s;rw [if_pos hb];exact yz (AU (yC (yC h)))
theorem iL {a:Addr}{o:Obj}{n:Nat}{es:Array (Int×zz9)}{ep slot i:Nat}{t:SetTable} (hb:w.params.followText "set-order"=false) (ho:s.heap.get? a=some o) (x:cw w o n es ep t) (h1:es.size<=1) {Q:Option (zz9×Nat)->zz8->Prop}
  (h:Q (match es[SetTable.below t.place slot]?,t.place[SetTable.below t.place slot]? with | some (_,x),some j=>some (x,j + 1) | _,_=>none) s):wpAny (model prog w) A (setNext a slot i ep) Q E s:=by
 have hl:t.led=true:=by rw [x.led,hb];rfl
 unfold setNext;refine yz (A6 ho x.dat x.fit ?_)
 dsimp only
 unfold setsByText;refine yz (yz (AU (yC ?_)));show wpAny _ _ (if w.params.followText "set-order"=true then _ else if (!t.plain && decide (es.size > 1))=true then _ else _) _ _ s;rw [if_neg (by rw [hb];exact yU),if_neg (by rw [decide_eq_false (Nat.not_lt.mpr h1),Bool.and_false];exact yU)];refine yz (show wpAny _ _ (if (!t.led && !es.isEmpty)=true then unsupported "set:maker-not-led" else pure ()) _ _ s from ?_);rw [if_neg (by rw [hl];exact yU)];exact yC (yC h)
structure rT (prog:Program) (w:World) (A:Around) (s s₁:zz8) (a I:Addr) (n:Nat) (es:Array (Int×zz9)) (fp:List Addr) (ws:List zz9) (St:Nat->Heap->Prop):Prop where
 os:s₁.os=s.os
 gens:s₁.gens=s.gens
 toks:s₁.toks=s.toks
 keep:∀b o,s.heap.get? b=some o->s₁.heap.get? b=some o
 new:∀b∈fp,b=a\/s.heap.objs.size<=b
 newI:s.heap.objs.size<=I
 wk:Walks prog w A I fp [I] n (λi v=>ws[i]?=some v) St
 st:St 0 s₁.heap
 txt:ws.Perm (es.toList.map (·.2))
theorem qk {a I:Addr}{o:Obj}{n:Nat}{es:Array (Int×zz9)}{ep:Nat}{t:SetTable} (hh:A.handled=none) (hb:w.params.followText "set-order"=true) (x:cw w o n es ep t) (Di:a≠I) :
  Walks prog w A I [I,a] [I] n (λi v=>((pickOrder (w.params.setOrder a ep) es).toList.map (·.2))[i]?=some v) (λi h=>bZ h I (rawInt 0) i a es.size ep/\h.get? a=some o) where
 sub:=λb hb=>by rw [yK.mp hb];exact .head _
 frame:=λi h h' st kp=>⟨st.1.stay λo e=>kp I (.head _) o e,kp a (.tail _ (.head _)) o st.2⟩
 item:=λi s Q E hi st hQ=>by
  have hl:(pickOrder (w.params.setOrder a ep) es).size=n:=by
   have:=(gN (w.params.setOrder a ep) es).length_eq;rw [zB,zB,x.size] at this;exact this
  have Eb:i < (pickOrder (w.params.setOrder a ep) es).size:=by omega
  have e1:(pickOrder (w.params.setOrder a ep) es)[i]?=some (pickOrder (w.params.setOrder a ep) es)[i]:=zp Eb;refine kn (slot:=0) (next:=0) (v:=((pickOrder (w.params.setOrder a ep) es)[i]).2) st.1 Di st.2 x (λA E Q q=>kW hb st.2 x (by rw [e1];exact q)) λh' Gc sb=>?_;refine hQ _ h' s.toks (by rw [yR,zS,e1];rfl) ⟨Gc,(sb.2 a Di).trans st.2⟩ λb ob hb e=>(sb.2 b (by simpa using hb)).trans e
 done:=λs Q E st hQ=>by
  have hl:(pickOrder (w.params.setOrder a ep) es).size=n:=by
   have:=(gN (w.params.setOrder a ep) es).length_eq;rw [zB,zB,x.size] at this;exact this
  have e1:(pickOrder (w.params.setOrder a ep) es)[n]?=none:=by rw [<- hl];simp
  exact iq (slot:=0) hh st.1 Di st.2 x (λA E Q q=>kW hb st.2 x (by rw [e1];exact q)) λh' kp=>hQ h' s.toks λb ob hb e=>kp b ob (by simpa using hb) e
 self:=λi s Q E st hQ=>ij st.1 hQ
theorem ph {a I tp:Addr}{o:Obj}{n:Nat}{es:Array (Int×zz9)}{ep:Nat}{t:SetTable}{ps:List Nat} (hh:A.handled=none) (x:cw w o n es ep t) (Di:a≠I) (Ij:tp≠I) (Ew:ps.Perm (List.range es.size)) :
  Walks prog w A I [I,a,tp] [I] n (λi v=>(ps.map λp=>(es.getD p (0,.none)).2)[i]?=some v) (λi h=>bZ h I (.ref tp) i a es.size ep/\h.get? a=some o/\h.IsTuple tp (ps.map λ(p:Nat)=>rawInt (p:Int)).toArray) where
 sub:=λb hb=>by rw [yK.mp hb];exact .head _
 frame:=λi h h' st kp=>⟨st.1.stay λo e=>kp I (.head _) o e,kp a (.tail _ (.head _)) o st.2.1,st.2.2.at λo e=>kp tp (.tail _ (.tail _ (.head _))) o e⟩
 item:=λi s Q E hi st hQ=>by
  have hl:ps.length=n:=by have:=Ew.length_eq;rw [BV,x.size] at this;exact this
  have Eb:i < ps.length:=by omega
  have hp:ps[i] < es.size:=AD.mp (Ew.mem_iff.mp (zx Eb));have e1:(ps.map λ(p:Nat)=>rawInt (p:Int)).toArray[i]?=some (rawInt (ps[i]:Int)):=by rw [List.getElem?_toArray,yR,yJ Eb];rfl
  have e2:es[ps[i]]?=some es[ps[i]]:=zp hp;refine pX (p:=ps[i]) (v:=(es[ps[i]]).2) st.1 st.2.1 x st.2.2 e1 (by rw [e2];rfl) λh' Gc sb=>?_;refine hQ _ h' s.toks ?_ ⟨Gc,(sb.2 a Di).trans st.2.1,st.2.2.at λo e=>(sb.2 tp Ij).trans e⟩ λb ob hb e=>(sb.2 b (by simpa using hb)).trans e;rw [yR,yJ Eb];show some (es.getD ps[i] (0,.none)).2=_;rw [Aw,e2];rfl
 done:=λs Q E st hQ=>by
  have hl:ps.length=n:=by have:=Ew.length_eq;rw [BV,x.size] at this;exact this
  have e1:(ps.map λ(p:Nat)=>rawInt (p:Int)).toArray[n]?=none:=by rw [<- hl];simp
  exact rG hh st.1 st.2.1 x st.2.2 e1 λh' kp=>hQ h' s.toks λb ob hb e=>kp b ob (by simpa using hb) e
 self:=λi s Q E st hQ=>ij st.1 hQ
theorem qm {p:Array Nat} (h:p.size=1):SetTable.below p 0=0:=by
 unfold SetTable.below;rw [h];show (if 0 < 1 then if p.getD 0 0 < 0 then _ else _ else _)=0;rw [if_pos (by decide),if_neg (Cb _)];rfl
theorem pR {p:Array Nat}{j:Nat} (h:p.size=1) (hj:p[0]?=some j):SetTable.below p (j + 1)=1:=by
 unfold SetTable.below;rw [h];show (if 0 < 1 then if p.getD 0 (j + 1) < j + 1 then _ else _ else _)=1;rw [if_pos (by decide),if_pos (by rw [Aw,hj];exact AR j)];rfl
theorem qL {p:Array Nat} (j:Nat) (h:p.size=0):SetTable.below p j=0:=by
 unfold SetTable.below;rw [h];rfl
theorem qO {a I:Addr}{o:Obj}{n:Nat}{es:Array (Int×zz9)}{ep:Nat}{t:SetTable} (hh:A.handled=none) (hb:w.params.followText "set-order"=false) (x:cw w o n es ep t) (h1:es.size<=1) (Di:a≠I) :
  Walks prog w A I [I,a] [I] n (λi v=>(es.toList.map (·.2))[i]?=some v) (λi h=>bZ h I (rawInt ((if i=0 then 0 else t.place.getD 0 0 + 1:Nat):Int)) i a es.size ep/\h.get? a=some o) where
 sub:=λb hb=>by rw [yK.mp hb];exact .head _
 frame:=λi h h' st kp=>⟨st.1.stay λo e=>kp I (.head _) o e,kp a (.tail _ (.head _)) o st.2⟩
 item:=λi s Q E hi st hQ=>by
  have hs:=x.size;have Tq:i=0:=by omega
  subst Tq;have hz:es.size=1:=by omega
  have IZ:t.place.size=1:=by
   have:=x.fit;unfold SetTable.fits at this;rw [hz] at this;simp at this;exact this.1
  have Hs:t.place[0]?=some t.place[0]:=zp (by omega);have Qd:es[0]?=some es[0]:=zp (by omega);have Kx:t.place.getD 0 0=t.place[0]:=by rw [Aw,Hs];rfl
  refine kn (slot:=0) (next:=t.place[0] + 1) (v:=(es[0]).2) st.1 Di st.2 x (λA E Q q=>iL hb st.2 x h1 (by rw [qm IZ,Hs,Qd];exact q)) λh' Gc sb=>?_;refine hQ _ h' s.toks (by rw [yR,zS,Qd];rfl) ⟨?_,(sb.2 a Di).trans st.2⟩ λb ob hb e=>(sb.2 b (by simpa using hb)).trans e;rw [if_neg (Nat.succ_ne_zero _),Kx];exact Gc
 done:=λs Q E st hQ=>by
  have hs:=x.size;have IZ:t.place.size=es.size:=by
   have:=x.fit;unfold SetTable.fits at this;simp at this;exact this.1
  by_cases hz:es.size=0
  ·have e0:n=0:=by omega
   rw [e0,if_pos rfl] at st;have:es[0]?=none:=AW (by omega);exact iq (slot:=0) hh st.1 Di st.2 x (λA E Q q=>iL hb st.2 x h1 (by rw [qL 0 (by omega),this];exact q)) λh' kp=>hQ h' s.toks λb ob hb e=>kp b ob (by simpa using hb) e
  ·have IT:es.size=1:=by omega
   have e0:n=1:=by omega
   rw [e0,if_neg (by decide)] at st;have Hs:t.place[0]?=some t.place[0]:=zp (by omega);have Kx:t.place.getD 0 0=t.place[0]:=by rw [Aw,Hs];rfl
   rw [Kx] at st;have:es[1]?=none:=AW (by omega);exact iq (slot:=t.place[0] + 1) hh st.1 Di st.2 x (λA E Q q=>iL hb st.2 x h1 (by rw [pR (by omega) Hs,this];exact q)) λh' kp=>hQ h' s.toks λb ob hb e=>kp b ob (by simpa using hb) e
 self:=λi s Q E st hQ=>ij st.1 hQ
end
theorem qh (es:Array (Int×zz9)):(List.range es.size).map (λp=>es.getD p (0,.none))=es.toList:=by
 apply List.ext_getElem
 ·simp
 ·intro i h1 h2
  simp at h1;simp [h1]
section
variable {prog:Program}{w:World}{A:Around}{E:zz9->zz8->Prop}{s:zz8}
theorem pj {a:Addr}{o:Obj}{n:Nat}{es:Array (Int×zz9)}{ep:Nat}{t:SetTable}{Q:zz9->zz8->Prop} (hh:A.handled=none) (ho:s.heap.get? a=some o) (x:cw w o n es ep t)
  (h:∀(s₁:zz8) (I:Addr) (fp:List Addr) (ws:List zz9) (St:Nat->Heap->Prop),rT prog w A s s₁ a I n es fp ws St->Q (.ref I) s₁):wpAny (model prog w) A (pyIter (.ref a)) Q E s:=by
 have hT:s.TypeIs (.ref a) "set":=⟨o,ho,x.cls⟩
 have E7:a < s.heap.objs.size:=yH ho;refine CF hT PySem.F.slot_set_iter (zC PySem.F.slot_set_iter hT oy ?_ (PySem.F.args_set_iter_1 _));unfold Builtin.«frozenset.__iter__» Builtin.Frozenset.slot0;refine yz (yz (AA (a:=(Value.ref a,[])) rfl (yC ?_)));unfold Builtin.Frozenset.sizeOf;refine yz (yz (Bd ho x.dat x.fit (yC ?_)));unfold setDrawn;refine yz ?_;refine yz (A6 ho x.dat x.fit ?_)
 dsimp only
 unfold setsByText;refine yz (yz (AU (yC (yC ?_))));show wpAny _ _ (if (!w.params.followText "set-order" && (!t.plain && decide (es.size > 1)))=true then _ else _) _ _ s
 by_cases hc:(!w.params.followText "set-order" && (!t.plain && decide (es.size > 1)))=true
 ·rw [if_pos hc]
  refine yz (pT es.size (List.range es.size) s _ (BV).symm λps d Ew=>?_);have DK:ps.length=n:=by have:=Ew.length_eq;rw [BV,x.size] at this;exact this
  have Gd:=x.few;refine yz (Cn (items:=ps.map λ(i:Nat)=>rawInt (i:Int)) ?_ (by rw [yA,zj];omega));have Ii:(s.heap.push { cls:=.type "tuple",data:=.seq (ps.map λ(i:Nat)=>rawInt (i:Int)).toArray }).get? a=some o:=yB _ ho;refine yz (wpAny_setEpoch_of (s:={ s with heap:=s.heap.push { cls:=.type "tuple",data:=.seq (ps.map λ(i:Nat)=>rawInt (i:Int)).toArray },drawn:=d }) Ii x.dat x.fit ?_);refine yz (zA (yC ⟨_,rfl,"set_iterator",_,⟨_,yN _ rfl,rfl⟩,cO.lookup,?_⟩));have hsz:(s.heap.push { cls:=.type "tuple",data:=.seq (ps.map λ(i:Nat)=>rawInt (i:Int)).toArray }).objs.size=s.heap.objs.size + 1:=size_push' ..;have hI:a≠(s.heap.push { cls:=.type "tuple",data:=.seq (ps.map λ(i:Nat)=>rawInt (i:Int)).toArray }).objs.size:=by rw [hsz];exact y9 (As E7)
  have T4:s.heap.objs.size≠(s.heap.push { cls:=.type "tuple",data:=.seq (ps.map λ(i:Nat)=>rawInt (i:Int)).toArray }).objs.size:=by rw [hsz];exact y9 (AR _)
  have W:=ph (prog:=prog) (A:=A) hh x hI T4 Ew;refine h _ _ _ _ _ ⟨rfl,rfl,rfl,λb ob e=>yB _ (yB _ e),λb hb=>?_,?_,W,?_,?_⟩
  ·rcases yF.mp hb with e | hb
   ·rw [e,hsz];exact .inr (Az _)
   ·rcases yF.mp hb with e | hb
    ·exact .inl e
    ·rw [yK.mp hb];exact .inr (yO _)
  ·rw [hsz];exact Az _
  ·exact⟨⟨_,yN _ rfl,rfl,rfl⟩,yB _ Ii,⟨_,yB _ (yN _ rfl),rfl,_,rfl⟩⟩
  ·have e1:(ps.map λp=>(es.getD p (0,.none)).2)=(ps.map λp=>es.getD p (0,.none)).map (·.2):=by rw [y8];rfl
   rw [e1];refine List.Perm.map _ ?_;have:=Ew.map λp=>es.getD p ((0:Int),Value.none);rw [qh] at this;exact this
 ·rw [if_neg hc]
  refine yz (yC ?_);refine yz (wpAny_setEpoch_of ho x.dat x.fit ?_);refine yz (zA (yC ⟨_,rfl,"set_iterator",_,⟨_,yN _ rfl,rfl⟩,cO.lookup,?_⟩));have hI:a≠s.heap.objs.size:=y9 E7;have nw:∀b∈[s.heap.objs.size,a],b=a\/s.heap.objs.size<=b:=λb hb=>by
   rcases yF.mp hb with e | hb
   ·rw [e];exact .inr (yO _)
   ·exact .inl (yK.mp hb)
  cases hb:w.params.followText "set-order" with
  | true=>exact h _ _ _ _ _ ⟨rfl,rfl,rfl,λb ob e=>yB _ e,nw,yO _,qk hh hb x hI,⟨⟨_,yN _ rfl,rfl,rfl⟩,yB _ ho⟩,(gN _ es).map _⟩
  | false =>
   have h1:es.size<=1:=by
    rcases x.pla with z | z
    ·omega
    ·rw [hb,z] at hc
     simp at hc;omega
   exact h _ _ _ _ _ ⟨rfl,rfl,rfl,λb ob e=>yB _ e,nw,yO _,qO hh hb x h1 hI,⟨⟨_,yN _ rfl,rfl,rfl⟩,yB _ ho⟩,Cp _⟩
theorem oZ:typeLookup (.type "set") "__len__"=pure (some (.builtin "set.__len__")):=by rw [Ci,Bt];kernel_rfl
theorem tS {r:Addr}{Q:Bool->zz8->Prop} (hT:s.TypeIs (.ref r) "set") (h:∀b,Q b s):wpAny (model prog w) A (Builtin.List.listLengthHint (.ref r)) Q E s:=by
 unfold Builtin.List.listLengthHint;refine yz (wpAny_specialOf hT oZ ?_);generalize PY:("set.__len__":String)=SG
 wp_delta
 rw [show splitId SG=some ("set","__len__") from by subst PY;decide +kernel];subst PY;refine yz (Bx (T:="set") (b:=true) hT (by rw [Bs];kernel_rfl) ?_);refine wpAny_ite_split (λz=>absurd z (by decide)) (λ_=>?_);refine wpAny_ite_split (λ_=>?_) (λz=>absurd (by decide +kernel) z);refine yz (CS hT ?_);exact yC (h _)
theorem tm {ws:List zz9}{n:Nat}{C5:Array zz9} (hw:ws.length=n) (h:ItemsOf (λi v=>ws[i]?=some v) C5 n):C5.toList=ws:=by
 apply List.ext_getElem?;intro i
 by_cases hi:i < C5.size
 ·have e:C5.toList[i]?=some C5[i]:=by rw [zS];exact zp hi
  rw [e];exact (h.2 i C5[i] (zp hi)).symm
 ·have h1:=h.1
  rw [B7 (by rw [zB];omega),B7 (by omega)]
theorem oJ {R:Result->zz8->Prop}{a S:Addr}{o:Obj}{n:Nat}{es:Array (Int×zz9)}{ep:Nat}{t:SetTable} (hh:A.handled=none) (ho:s.heap.get? a=some o) (x:cw w o n es ep t) (res:zz9) (c₀:Nat)
  (Qk:S≠a) (hS:s.heap.get? S=some { cls:=.type "list",data:=.seq #[] c₀ })
  (hR:∀(s':zz8) (C5:Array zz9) c',s'.os=s.os->s'.gens=s.gens->(∀b o,b≠S->s.heap.get? b=some o->s'.heap.get? b=some o)->s'.heap.get? S=some { cls:=.type "list",dict:=none,data:=.seq C5 c',slots:=#[] }->C5.toList.Perm (es.toList.map (·.2))->R (.ok (.ret res)) s') :
  wpAny (model prog w) A.in1 (Builtin.List.listExtendWith (.ref S) (.ref a) res)
   (λfin s'=>match fin with | .done f=>R (.ok f) s' | .again c'=>c'.quiet=true/\codeAny (model prog w) A c' R s') (λe s'=>R (.error e) s') s:=by
 have hT:s.TypeIs (.ref a) "set":=⟨o,ho,x.cls⟩
 have KC:S < s.heap.objs.size:=yH hS;have Gd:=x.few;unfold Builtin.List.listExtendWith;refine yz (CS (T:="set") hT ?_);have n1:Builtin.List.listSameRef (.ref S) (.ref a)=false:=by simp [Builtin.List.listSameRef,Qk]
 have n2:(Value.type "set" == Value.type "list")=false:=by decide
 have n3:(Value.type "set" == Value.type "tuple")=false:=by decide
 simp only [n1,n2,n3,Bool.or_false,zV,if_false];refine yz (pj (A:=A.in1) hh ho x λs₁ I fp ws St K=>?_);have MN:=K.txt;have SQ:ws.length=n:=by rw [MN.length_eq,yA,zB];exact x.size
 have Qj:S∉fp:=λz=>(K.new S z).elim Qk λq=>zz _ (za KC q);have hSI:S≠I:=λe=>zz _ (za KC (e ▸ K.newI));have hn:n<=sizeLine:=by rw [zj];omega
 have key:∀(h:Heap) (c₁:Nat),St 0 h->(∀b o,b≠S->s₁.heap.get? b=some o->h.get? b=some o)->h.get? S=some { cls:=.type "list",data:=.seq #[] c₁ } ->
   codeAny (model prog w) A (.builtin "list.extend.loop" ⟨[.ref S,.ref I,res],[]⟩) R { s₁ with heap:=h }:=by
  intro h c₁ st hk Iw;refine codeAny_extend_loopS K.wk.toS hn S Qj res n 0 _ #[] c₁ rfl (ze _) st Iw (ItemsOf.nil _) λs' C5 c' hm NG GY=>?_;rw [<- tm SQ GY] at MN;refine hR s' C5 c' (hm.os.trans K.os) ((show s'.gens=s₁.gens from hm.gens).trans K.gens) (λb ob hb e=>hm.heap b ob (λz=>?_) (hk b ob hb (K.keep b ob e))) NG MN
  rcases yF.mp z with z | z
  ·exact hb z
  ·exact absurd (yH e) (by rw [yK.mp z];exact Nat.not_lt.mpr K.newI)
 have Iw:=K.keep _ _ hS;have TV:s₁.TypeIs (.ref a) "set":=⟨o,K.keep _ _ ho,x.cls⟩
 refine yz (zw (tS TV λhb=>?_));refine wpAny_ite_split (λ_=>?_) (λ_=>yC ⟨Af CM _,key _ c₀ K.st (λb ob _ e=>e) Iw⟩);refine yz (AV ?_);refine yz ?_;show wpAny _ _ (updateSeq S (·.push .none) >>= λ_=>updateSeq S (·.pop)) _ _ _;refine yz (AJ Iw rfl ?_);have D5:=zu (Obj.mapSeq (·.push Value.none)) Iw rfl;refine AJ (hz:=by seq_fits) D5 rfl ?_;have TX:=zu (Obj.mapSeq (·.pop)) D5 rfl;refine yC ⟨Af CM _,key _ _ (K.wk.frame 0 _ _ K.st λb hb ob e=>?_) (λb ob hb e=>?_) TX⟩
 ·have Qh:b≠S:=λz=>Qj (z ▸ hb)
  exact (yX _ _ (zP Qh)).trans ((yX _ _ (zP Qh)).trans e)
 ·exact (yX _ _ (zP hb)).trans ((yX _ _ (zP hb)).trans e)
theorem oB {R:List zz9->zz8->Prop}{a:Addr}{o:Obj}{n:Nat}{es:Array (Int×zz9)}{ep:Nat}{t:SetTable} (hh:A.handled=none) (ho:s.heap.get? a=some o) (x:cw w o n es ep t)
  (h:∀(s':zz8) (C5:List zz9),s'.os=s.os->s'.gens=s.gens->(∀b o,s.heap.get? b=some o->s'.heap.get? b=some o)->C5.Perm (es.toList.map (·.2))->R C5 s') :
  wpAny (model prog w) A (collect (.ref a)) R E s:=by
 unfold collect;refine yz (wpAny_runValue (zT entry_proto_collect' ?_));rw [zO PySem.F.plain_proto_collect _];show wpAny _ A.in1 (newList [] >>= λl=>again (.builtin "list.__iadd__" ⟨[l,.ref a],[]⟩)) _ _ s;refine yz (zA ?_);refine yC ⟨Af PySem.F.plain_list_iadd _,zT entry_list_iadd' ?_⟩;rw [zO PySem.F.plain_list_iadd _];have Iw:(s.heap.push { cls:=.type "list",data:=.seq ([]:List zz9).toArray }).get? s.heap.objs.size=some { cls:=.type "list",data:=.seq #[] }:=yN _ rfl;have E7:s.heap.objs.size≠a:=AI (yH ho);show wpAny _ A.in1 (Builtin.List.listExtendWith (.ref s.heap.objs.size) (.ref a) (.ref s.heap.objs.size)) _ _ _;have key:=oJ (prog:=prog) (A:=A) (s:={ s with heap:=s.heap.push { cls:=.type "list",data:=.seq ([]:List zz9).toArray } })
  (R:=λ(q:Result) (s':zz8)=>∃(C5:Array zz9) (c':Nat),q=.ok (.ret (.ref s.heap.objs.size))/\s'.os=s.os/\s'.gens=s.gens /\
   (∀b o,s.heap.get? b=some o->s'.heap.get? b=some o)/\s'.heap.get? s.heap.objs.size=some { cls:=.type "list",dict:=none,data:=.seq C5 c',slots:=#[] }/\C5.toList.Perm (es.toList.map (·.2)))
  hh (yB _ ho) x (.ref s.heap.objs.size) 0 E7 Iw
  (λs' C5 c' z1 z2 z3 z4 z5=>⟨C5,c',rfl,z1,z2,λb ob e=>z3 b ob (y9 (yH e)) (yB _ e),z4,z5⟩)
 refine zJ key (λfin s' y=>?_) λe s' y=>?_
 ·cases fin with
  | done f =>
   obtain⟨C5,c',e,z1,z2,z3,z4,z5⟩:=y;cases e;show wpAny _ A (load s.heap.objs.size >>= _) _ _ _;exact yz (wpAny_load z4 (yC (h s' C5.toList z1 z2 z3 z5)))
  | again c₁ =>
   refine⟨y.1,AX y.2 λq s₂ y=>?_⟩;obtain⟨C5,c',rfl,z1,z2,z3,z4,z5⟩:=y;show wpAny _ A (load s.heap.objs.size >>= _) _ _ _;exact yz (wpAny_load z4 (yC (h s₂ C5.toList z1 z2 z3 z5)))
 ·obtain⟨_,_,e',_⟩:=y
  cases e'
theorem pK {o:Obj}{ss:List Str}{es:Array (Int×zz9)}{ep:Nat}{t:SetTable} (x:bB w o ss es ep t) {L:List (Int×zz9)} (p:L.Perm es.toList):∃Dg,StrsAre (L.map (·.2)) Dg/\Dg.Perm ss:=by
 refine⟨L.map λe=>b9 e.2,?_,(p.map _).trans x.all⟩;have:∀e∈L,∃tk,e.2=.str (b9 e.2) tk:=λe he=>let ⟨tk,h,_⟩:=x.els e (p.mem_iff.mp he);⟨tk,h⟩;clear p
 induction L with
 | nil=>exact .nil
 | cons e r ih =>
  obtain⟨tk,h⟩:=this e (.head _);have q:=ih λe he=>this e (.tail _ he);show StrsAre (e.2::r.map (·.2)) (b9 e.2::r.map λe=>b9 e.2);rw [h];exact .cons _ tk q
theorem oQ {R:List zz9->zz8->Prop}{a:Addr}{o:Obj}{ss:List Str}{es:Array (Int×zz9)}{ep:Nat}{t:SetTable} (hh:A.handled=none) (ho:s.heap.get? a=some o) (x:bB w o ss es ep t)
  (h:∀(s':zz8) (C5:List zz9) Dg,s'.os=s.os->s'.gens=s.gens->(∀b o,s.heap.get? b=some o->s'.heap.get? b=some o)->StrsAre C5 Dg->Dg.Perm ss->R C5 s') :
  wpAny (model prog w) A (collect (.ref a)) R E s :=
 oB hh ho x.any λs' C5 z1 z2 z3 z4=>by
  obtain⟨L,p,rfl⟩:=sj (λe:Int×zz9=>e.2) z4;obtain⟨Dg,h1,h2⟩:=pK x p;exact h s' _ Dg z1 z2 z3 h1 h2
end
def cY (w:World) (a:Addr) (ss:List Str):HO:=.ext λh=>∃o es ep t,h.get? a=some o/\bB w o ss es ep t
section
variable {X:Cx}
theorem uk {P:Program}{w:World}{H:Hp}{h:Heap}{a:Addr}{ss:List Str}{o:Obj}{es:Array (Int×zz9)}{ep:Nat}{t:SetTable} (ho:h.get? a=some o) (x:bB w o ss es ep t):aF P w H h a (cY w a ss) :=
 ⟨⟨o,es,ep,t,ho,x⟩,⟨o,ho⟩,λh1 h2 ⟨o,es,ep,t,q,y⟩ k=>⟨o,es,ep,t,k o q,y⟩⟩
theorem Inv.draw {pins:List (Addr×Obj)}{σ:List (Option V)}{H:Hp}{s s':zz8} (I:Inv X pins σ H s) (h1:s'.os=s.os) (h2:s'.gens=s.gens) (h3:s'.heap=s.heap):Inv X pins σ H s':=by
 obtain⟨a1,a2,a3,a4,a5,a6,a7,a8,a9,HG,Uo⟩:=I;exact⟨a1,h1.trans a2,by rw [h2];exact a3,by rw [h3];exact a4,by rw [h3];exact a5,by rw [h3];exact a6,a7,a8,by rw [h3];exact a9,by rw [h3];exact HG,Uo⟩
theorem pW (hc:X.calm=true):aZ X (.type "set") (λxs H Q=>∃(p:Addr) (ss:List Str),xs=[.ref p]/\C2 X.K H p (ss.map V.str)/\ss.length < 3000 /\
  ∀(a:Addr),H a=none->Q (.ref a) (upd H a (cY X.w a (aU ss.reverse)))):=by
 intro pins s σ H xs us Q I r h;obtain⟨p,ss,rfl,hq,h3,q⟩:=h;obtain⟨u,rfl,rx⟩:=vals1 r;cases rx;obtain⟨C1,r',hp,hz⟩:=I.tuple hq;refine oz (I.ok.hd hc) hp r' (by omega) λh' tk o' es' DP t' kp ho x=>?_;exact⟨.ref s.heap.objs.size,_,I.laid (h':=h') (t':=tk) (o:=cY X.w s.heap.objs.size (aU ss.reverse)) kp (yO _) (uk ho x),rfl,q _ (I.hok.fresh (yO _))⟩
theorem oC (hc:X.calm=true):aZ X (.builtin "sorted") (λxs H Q=>∃(a:Addr) (ss:List Str),xs=[.ref a]/\H a=some (cY X.w a ss)/\ss.length < 64 /\
  ∀(Dg:List Str) (q:Addr),Dg.Perm ss->sortedS Dg=true->H q=none->Q (.ref q) (upd H q (.lst (Dg.map V.str)))):=by
 intro pins s σ H xs us Q I r h;obtain⟨a,ss,rfl,ha,HD,q⟩:=h;obtain⟨u,rfl,rx⟩:=vals1 r;cases rx;obtain⟨⟨o,es,ep,t,ho,x⟩,_,_⟩:=I.hok a _ ha;refine call_function_entry kind_sorted plain_sorted entry_sorted (args_sorted1 _) ?_;unfold Builtin.«sorted»;refine yz (m:=checkCount "sorted" 1 1 _) (yC ?_);refine yz (oQ (A:=X.A.in1) (I.ok.hd hc) ho x λs1 C5 ss1 z1 z2 kp hS DT=>?_);have Io:C5.length=ss.length:=by rw [StrsAre.length hS];exact DT.length_eq
 refine yz (B0 ?_ (by rw [Io,zj];omega));have Ga:(s1.heap.push (seqObj "list" C5.toArray 0)).get? s1.heap.objs.size=some (seqObj "list" C5.toArray 0):=yN _ rfl;show wpAny _ _ _ _ _ { s1 with heap:=s1.heap.push (seqObj "list" C5.toArray 0) };refine yz (zw (zC slot_list_sort ⟨_,Ga,rfl⟩ entry_list_sort (list_sort_treeK (s:={ s1 with heap:=s1.heap.push (seqObj "list" C5.toArray 0) }) strKind_oneLt Ga hS.keysOf (λv₁ v₂ rest e=>keyKind_strs (by rw [<- e];exact hS)) (by rw [Io];omega) λDm a1 a2=>⟨_,rfl,?_⟩) (args_list_sort _)));obtain⟨Dg,h1,h2,h3⟩:=sorted_out_str hS a1 a2;refine yC ⟨_,rfl,?_⟩;obtain⟨e,he⟩:=sortedHeap_at (h:=s1.heap.push (seqObj "list" C5.toArray 0)) (out:=(arrOf Dm).map (·.2)) Ga;have Ht:s.heap.get? s1.heap.objs.size=none:=by
  cases e0:s.heap.get? s1.heap.objs.size with
  | none=>rfl
  | some o=>exact absurd (yH (kp _ _ e0)) (zz _)
 have hold:∀b o,s.heap.get? b=some o->(sortedHeap (s1.heap.push (seqObj "list" C5.toArray 0)) s1.heap.objs.size C5 ((arrOf Dm).map (·.2))).get? b=some o:=λb o eb=>by
  have l1:=yH (kp b o eb);rw [sortedHeap_old (y9 l1) (by rw [size_push'];exact As l1)];exact yB _ (kp b o eb)
 have FA:H s1.heap.objs.size=none:=I.hok.freeN Ht;have Ic:aq (Dg.map V.str) ((arrOf Dm).map (·.2)).toList:=fU h1;have I2:=I.laidN (h':=sortedHeap (s1.heap.push (seqObj "list" C5.toArray 0)) s1.heap.objs.size C5 ((arrOf Dm).map (·.2))) (t':=s1.toks) (o:=.lst (Dg.map V.str)) hold Ht ⟨(by rw [yA,(h2.trans DT).length_eq,zj];omega),((arrOf Dm).map (·.2)).toList,e,Ic,(by rw [Cf];exact he)⟩;exact⟨.ref s1.heap.objs.size,_,I2.draw z1 z2 rfl,rfl,q Dg _ (h2.trans DT) h3 FA⟩
end
section
variable {X:Cx}{tg:Expr}
end
def Jp (vs:Array zz9) (a0:zz9):Prop:=vs[0]?=some a0/\vs[2]?=some Value.none
def fK (fl:zz9) (h:Heap) (e T:Addr) (cls a0:zz9) (dx:Option Addr):Prop:=∃oe vs oT ts,h.get? e=some oe/\oe.cls=cls/\Jp vs a0/\oe.data=Data.fields vs/\vs[1]?=some (Value.ref T)/\T≠e/\h.get? T=some oT/\oT.data=Data.fields ts/\ts[3]?=some fl/\oe.dict=dx
abbrev EH:Heap->Addr->Addr->zz9->zz9->Option Addr->Prop:=fK .none
def Hb (P:Program) (w:World):FG:=λouter H s E e s'=>∃(ea T:Addr) (cls a0:zz9) (dx:Option Addr) (H':Hp),e=.ref ea/\s'.os=s.os/\AllBare s'.gens/\Un (Dq outer) [] H H' s.heap s'.heap/\Ds P w H' s'.heap/\s.heap.get? ea=none/\s.heap.get? T=none/\H' ea=none/\H' T=none/\EH s'.heap ea T cls a0 dx/\E cls dx H'
theorem eV {h base:Heap}:∀{l:List Env},h.FunFrames base l->∀b∈Dq l,∃o,h.get? b=some o/\∀vs:Array zz9,o.data≠Data.fields vs
 | [],_,b,hb=>by simp [Dq] at hb
 | e::l,k,b,hb=>by
  simp only [Heap.FunFrames] at k;obtain⟨k1,⟨L,o,k2,k3,k4,k5⟩,k6⟩:=k;unfold Dq at hb;rw [BD,k2] at hb
  rcases yF.mp hb with z | z
  ·rw [z];exact⟨o,k4,k5⟩
  ·exact eV k6 b z
theorem rK (o:Obj) (f:Array zz9->Array zz9):(o.mapFields f).dict=o.dict:=by
 obtain⟨c,d,dt,sl⟩:=o;cases dt <;> rfl
structure Moved (fr:List Addr) (g:List Addr) (h h':Heap):Prop where
 keep:∀b o,h.get? b=some o->b∉fr->b∉g->h'.get? b=some o
 slot:∀b o,h.get? b=some o->b∈fr->∃sl,h'.get? b=some { o with slots:=sl }
section
variable {M:Model}{A:Around}{E:zz9->zz8->Prop}{s:zz8}{env:Env}{outer:List Env}{L e T:Addr}{base:Heap}{cls a0:zz9}{dx:Option Addr}{Q:Unit->zz8->Prop}
theorem ma {oe:Obj}{vs:Array zz9}{head:zz9}{TM:Bool}
  (hf:A.frames=some (env::outer)) (ff:s.heap.FunFrames base (env::outer)) (hL:env.frame=some L) (he:s.heap.get? e=some oe) (hd:oe.data=Data.fields vs) (hz:1 < vs.size) (h0:Jp vs a0)
  (k:∀(h':Heap) (T':Addr),Moved (Dq (env::outer)) [e] s.heap h'->s.heap.get? T'=none->fK (rawInt L) h' e T' oe.cls a0 oe.dict->Q () { s with heap:=h' }) :
  wpAny M A (do let a <- frameOf env;let pl <- entryPlaceOf L TM;let b <- EntryCells.newEntry head a .none (rawInt L) .none pl;setField (.ref e) 1 b) Q E s:=by
 have Qz:e∉Dq (env::outer):=λhm=>by
  obtain⟨o,q,nf⟩:=eV ff e hm;rw [he] at q;cases q;exact nf _ hd
 refine yz (wpAny_frameOf_fun hf ff hL λg1 so=>yz (wpAny_entryPlaceOf λpl DK=>?_));unfold EntryCells.newEntry newFields;refine yz (zA ?_ (DK.sizeOk5 _ _ _ _ _));generalize Jd:({ cls:=.type "traceback",dict:=none,data:=.fields ([head,.ref L,.none,rawInt L,.none]++(if pl.isEmpty then List.replicate 6 Value.none else pl)).toArray }:Obj)=ob;have Rx:ob.isFreed=false:=by rw [<- Jd];rfl
 have e1:g1.get? e=some oe:=(so.2.1 e Qz).trans he;have nz:g1.objs.size≠e:=AI (yH e1);have e2:=yB (h:=g1) ob e1;refine Ab e2 hd hz ?_;have Qe:=Ah hd (λz=>z.setIfInBounds 1 (Value.ref g1.objs.size));have e3:=zu (Obj.mapFields λz=>z.setIfInBounds 1 (Value.ref g1.objs.size)) e2 (AF Qe);have fresh:s.heap.get? g1.objs.size=none:=by
  cases hc:s.heap.get? g1.objs.size with
  | none=>rfl
  | some o =>
   obtain⟨sl,q⟩:=so.2.2 _ o hc;exact absurd (yH q) (zz _)
 have up:∀b o,b≠e->g1.get? b=some o->((g1.push ob).update e (Obj.mapFields λz=>z.setIfInBounds 1 (Value.ref g1.objs.size))).get? b=some o:=λb o n q=>by
  rw [yX _ _ (zP n)];exact yB _ q
 refine k _ g1.objs.size ⟨λb o q hb hg=>up b o (λz=>hg (by simp [z])) ((so.2.1 b hb).trans q),λb o q hb=>?_⟩ fresh ⟨_,_,ob,_,e3,BU _ _,?_,Qe,?_,nz,?_,by rw [<- Jd],?_,rK _ _⟩
 ·obtain⟨sl,q1⟩:=so.2.2 b o q
  exact⟨sl,up b _ (λz=>Qz (z ▸ hb)) q1⟩
 ·exact⟨by rw [B8 (by decide)];exact h0.1,by rw [B8 (by decide)];exact h0.2⟩
 ·simp [hz]
 ·rw [yX _ _ (zP nz)]
  exact yN g1 Rx
 ·first | (simp;done) | (rcases DK with rfl | ⟨_,_,_,_,_,_,_,rfl⟩ <;> simp)
theorem ground {fl:zz9} (ht:fK fl s.heap e T cls a0 dx)
  (k:∀h':Heap,(∀b,b≠T->h'.get? b=s.heap.get? b)->EH h' e T cls a0 dx->Q () { s with heap:=h' }) :
  wpAny M A (setFlight (.ref e) none) Q E s:=by
 obtain⟨oe,vs,oT,ts,h1,h2,h3,h4,h5,h6,h7,h8,h9,NR⟩:=ht;have z3:3 < ts.size:=(A4.mp h9).1;unfold setFlight;refine yz (zN h1 h4 h5 ?_);rw [if_pos (show (Value.ref T != Value.none)=true from by simp)];refine Ab h7 h8 z3 (k _ (λb n=>yX _ _ (zP n)) ?_);have d8:=Ah h8 (λz=>z.setIfInBounds 3 ((none:Option Addr).elim Value.none λf=>rawInt f));exact⟨oe,vs,_,_,(yX _ _ h6).trans h1,h2,h3,h4,h5,h6,zu _ h7 (AF d8),d8,by simp [z3],NR⟩
theorem tQ {oe:Obj}{vs:Array zz9} (hf:A.frames=some (env::outer)) (hL:env.frame=some L) (ff:s.heap.FunFrames base (env::outer)) (h1:s.heap.get? e=some oe) (h2:oe.data=Data.fields vs) (h3:vs[1]?=some Value.none) (h4:Jp vs a0)
  (k:∀(h':Heap) (T':Addr),Moved (Dq (env::outer)) [e] s.heap h'->s.heap.get? T'=none->fK (rawInt L) h' e T' oe.cls a0 oe.dict->Q () { s with heap:=h' }) :
  wpAny M A (noteFrame (.ref e) env) Q E s:=by
 unfold noteFrame;simp only [hL];refine yz (zN h1 h2 h3 ?_);rw [if_neg (by decide)];exact ma hf ff hL h1 h2 (A4.mp h3).1 h4 k
theorem qZ (hf:A.frames=some (env::outer)) (hL:env.frame=some L) (ff:s.heap.FunFrames base (env::outer)) (ht:EH s.heap e T cls a0 dx)
  (k:∀(h':Heap) (T':Addr),Moved (Dq (env::outer)) [e,T] s.heap h'->s.heap.get? T'=none->fK (rawInt L) h' e T' cls a0 dx->Q () { s with heap:=h' }) :
  wpAny M A (noteFrame (.ref e) env) Q E s:=by
 obtain⟨oe,vs,oT,ts,h1,rfl,h3,h4,h5,h6,h7,h8,h9,rfl⟩:=ht;unfold noteFrame;simp only [hL];refine yz (zN h1 h4 h5 ?_);rw [if_pos (show (Value.ref T != Value.none)=true from by simp)];refine yz (zN h7 h8 h9 ?_);rw [if_neg (show ¬ ((Value.none == rawInt L)=true) from by simp [rawInt])];refine yz (Ab h7 h8 (A4.mp h9).1 ?_);have JR:∀b,b≠T->(s.heap.update T (Obj.mapFields λz=>z.setIfInBounds 3 Value.none)).get? b=s.heap.get? b:=λb n=>yX _ _ (zP n);have nT:∀b,b∈Dq (env::outer)->b≠T:=λb hb z=>by
  obtain⟨o,q,nf⟩:=eV ff b hb;rw [z,h7] at q;cases q;exact nf _ h8
 refine ma (s:={ s with heap:=s.heap.update T (Obj.mapFields λz=>z.setIfInBounds 3 Value.none) }) hf (ff.of_keeps λb o q nf=>⟨o,(JR b λz=>?_).trans q,rfl⟩) hL ((JR e (zP h6)).trans h1) h4 (A4.mp h5).1 h3 λh' T' mv nw tr=>k h' T' ⟨λb o q hb hg=>?_,λb o q hb=>?_⟩ ?_ tr
 ·rw [z,h7] at q;cases q
  exact nf _ h8
 ·exact mv.keep b o ((JR b λz=>hg (by simp [z])).trans q) hb λz=>hg (by simp at z;simp [z])
 ·exact mv.slot b o ((JR b (nT b hb)).trans q) hb
 ·have z:T'≠T:=λz=>by
   have d8:=Ah h8 (λz=>z.setIfInBounds 3 Value.none);have g7:=zu (Obj.mapFields λz=>z.setIfInBounds 3 Value.none) h7 (AF d8);have IR:(s.heap.update T (Obj.mapFields λz=>z.setIfInBounds 3 Value.none)).get? T'=none:=nw;rw [z,g7] at IR;cases IR
  exact (JR T' z).symm.trans nw
theorem Moved.ground {fr g:List Addr}{h h' GZ:Heap} (m:Moved fr g h h') (nT:h.get? T=none) (nf:∀b∈fr,∃o,h.get? b=some o) (k:∀b,b≠T->GZ.get? b=h'.get? b):Moved fr g h GZ :=
 ⟨λb o q hb hg=>(k b λz=>by rw [z,nT] at q;cases q).trans (m.keep b o q hb hg),λb o q hb=>by
  obtain⟨sl,e⟩:=m.slot b o q hb
  exact⟨sl,(k b λz=>by rw [z,nT] at q;cases q).trans e⟩⟩
theorem leave_new {oe:Obj}{vs:Array zz9} (hf:A.frames=some (env::outer)) (hL:env.frame=some L) (ff:s.heap.FunFrames base (env::outer)) (h1:s.heap.get? e=some oe) (h2:oe.data=Data.fields vs) (h3:vs[1]?=some Value.none) (h4:Jp vs a0)
  (k:∀(h':Heap) (T':Addr),Moved (Dq (env::outer)) [e] s.heap h'->s.heap.get? T'=none->EH h' e T' oe.cls a0 oe.dict->Q () { s with heap:=h' }) :
  wpAny M A (leaving env (.ref e)) Q E s:=by
 unfold leaving;refine yz (tQ hf hL ff h1 h2 h3 h4 λg1 T1 mv nw tr=>ground tr λg2 same LY=>k g2 T1 (mv.ground nw (λb hb=>let ⟨o,q,_⟩:=eV ff b hb;⟨o,q⟩) same) nw LY)
theorem pw (hf:A.frames=some (env::outer)) (hL:env.frame=some L) (ff:s.heap.FunFrames base (env::outer)) (ht:EH s.heap e T cls a0 dx)
  (k:∀(h':Heap) (T':Addr),Moved (Dq (env::outer)) [e,T] s.heap h'->s.heap.get? T'=none->EH h' e T' cls a0 dx->Q () { s with heap:=h' }) :
  wpAny M A (noteFrame (.ref e) env) (λ_ s2=>wpAny M A (setFlight (.ref e) none) (λ_ s3=>Q () s3) E s2) E s :=
 qZ hf hL ff ht λh1 T1 mv nw tr=>ground tr λh2 same LY=>k h2 T1 (mv.ground nw (λb hb=>let ⟨o,q,_⟩:=eV ff b hb;⟨o,q⟩) same) nw LY
end
theorem aF.got {P:Program}{w:World}{H:Hp}{h:Heap}{a:Addr}{o:HO} (x:aF P w H h a o):∃ob,h.get? a=some ob:=by
 cases o with
 | lst xs=>obtain⟨_,_,_,_,e⟩:=x;exact⟨_,e⟩
 | tup xs=>obtain⟨_,_,_,o,e,_⟩:=x;exact⟨_,e⟩
 | dK kvs=>obtain⟨_,_,_,_,o,_,_,e,_⟩:=x;exact⟨_,e⟩
 | dT kvs=>obtain⟨_,_,_,_,o,_,_,e,_⟩:=x;exact⟨_,e⟩
 | set S n=>obtain⟨o,_,_,_,e,_⟩:=x;exact⟨_,e⟩
 | ins C dx fs=>obtain⟨_,_,_,e,_⟩:=x;exact⟨_,e⟩
 | own y=>exact x
 | xd fs=>obtain⟨_,⟨_,_,_,e,_⟩,_⟩:=x;exact⟨_,e⟩
 | rng lo hi=>obtain⟨_,_,_,e⟩:=x;exact⟨_,e⟩
 | frz ob u=>obtain⟨e,_⟩:=x;exact⟨_,e⟩
 | tbl ps=>exact⟨_,(show h.get? a=some _ from x)⟩
 | met f y=>exact⟨_,(show h.get? a=some _ from x)⟩
 | ext φ=>obtain⟨_,e,_⟩:=x;exact e
theorem v4 {CX:FG}{P:Program}{w:World}{K:zz7}{mg:Str->Option zz9}{base:Heap}{N:List Str}{qual:Str}{scope:Scope}{f:Addr}{cd:zz9}{A:Around}{outer:List Env}{s0:zz8}{H0:Hp}{UL:XK}
  {pins:List (Addr×Obj)}{σ:St}{H':Hp}{s':zz8}{E:XK}{ea T':Addr}{cls a0:zz9}{dx:Option Addr}{h':Heap}{G:List Addr}
  (I:Inv (du CX P w K mg base N qual scope f cd A outer s0 H0 UL) pins σ H' s')
  (mv:Moved (Dq (envOfC qual scope s0.heap.objs.size f cd::outer)) G s'.heap h')
  (hG:∀b∈G,s0.heap.get? b=none/\H' b=none) (tr:EH h' ea T' cls a0 dx) (e1:s0.heap.get? ea=none) (e2:H' ea=none) (e3:T'∈G\/s'.heap.get? T'=none) (hE:E cls dx H') :
  Hb P w outer H0 s0 E (.ref ea) { s' with heap:=h' }:=by
 have kp:=mv.keep;have sl:=mv.slot;have DR:=I.base;have hok:=I.hok;have nL:∀b o,s0.heap.get? b=some o->b∉Dq outer->b∉Dq (envOfC qual scope s0.heap.objs.size f cd::outer):=λb o q hb hm=>by
  have PP:b∈s0.heap.objs.size::Dq outer:=hm
  rcases yF.mp PP with z | z
  ·exact absurd (yH q) (by rw [z];exact zz _)
  ·exact hb z
 have nG:∀b o,s0.heap.get? b=some o->b∉G:=λb o q hb=>by rw [(hG b hb).1] at q;cases q
 have mO:∀b,b∈Dq outer->b∈Dq (envOfC qual scope s0.heap.objs.size f cd::outer):=λb hb=>yT _ hb;have T0:s0.heap.get? T'=none:=by
  rcases e3 with z | z
  ·exact (hG _ z).1
  ·cases hc:s0.heap.get? T' with
   | none=>rfl
   | some o =>
    obtain⟨o',q⟩:=DR.there T' o hc (by show T'∉[];simp);rw [z] at q;cases q
 have TH:H' T'=none:=by
  rcases e3 with z | z
  ·exact (hG _ z).2
  ·cases hc:H' T' with
   | none=>rfl
   | some o =>
    obtain⟨ob,q⟩:=aF.got (hok T' o hc);rw [z] at q;cases q
 refine⟨ea,T',cls,a0,dx,H',rfl,I.os,I.bare,?_,?_,e1,T0,e2,TH,tr,hE⟩
 ·refine⟨λb o q n hb hx=>?_,λb o q n hb hx=>?_,λb o q n hx=>DR.free b o q n hx,λb o q hx=>?_,DR.tups,DR.frzs,DR.tbls⟩
  ·exact kp b o (DR.keep b o q n hb hx) (nL b o q hb) (nG b o q)
  ·obtain⟨s1,q1⟩:=DR.slot b o q n hb hx
   obtain⟨s2,q2⟩:=sl b _ q1 (mO b hb);exact⟨s2,q2⟩
  ·obtain⟨o',q'⟩:=DR.there b o q hx
   by_cases hb:b∈Dq (envOfC qual scope s0.heap.objs.size f cd::outer)
   ·obtain⟨s2,q2⟩:=sl b _ q' hb
    exact⟨_,q2⟩
   ·exact⟨o',kp b o' q' hb (nG b o q)⟩
 ·intro a o hH
  have nf:∀b u,H' b=some u->b∉Dq (envOfC qual scope s0.heap.objs.size f cd::outer)/\b∉G:=λb u q=>⟨λhm=>(by
   have:=I.stkFree b hm
   rw [q] at this;cases this),λhm=>(by rw [(hG b hm).2] at q;cases q)⟩
  refine (hok a o hH).stay (λb u hb q=>?_) (λ_ q=>q) λ_ _ q=>q
  rcases hb with z | z
  ·rw [z] at q ⊢;exact kp a u q (nf a o hH).1 (nf a o hH).2
  ·exact kp b u q (nf b _ z).1 (nf b _ z).2
theorem vO {P:Program}{w:World}{K:zz7}{mg:Str->Option zz9}{base:Heap}{N:List Str}{qual:Str}{scope:Scope}{f:Addr}{cd:zz9}{A:Around}{outer:List Env}{s0:zz8}{H0:Hp}{E:XK}
  {pins:List (Addr×Obj)}{σ:St}{H:Hp}{s:zz8}{ea:Addr}{oe:Obj}{vs:Array zz9}{a0:zz9}
  (I:Inv (du (Hb P w) P w K mg base N qual scope f cd A outer s0 H0 E) pins σ H s) (h1:s.heap.get? ea=some oe) (h2:oe.data=Data.fields vs) (h3:vs[1]?=some Value.none) (h4:Jp vs a0) (back:s0.heap.get? ea=none) (he:H ea=none) (hE:E oe.cls oe.dict H) :
  (du (Hb P w) P w K mg base N qual scope f cd A outer s0 H0 E).xe (.ref ea) s:=by
 show wpAny (model P w) (A.deeper (envOfC qual scope s0.heap.objs.size f cd)) (leaving (envOfC qual scope s0.heap.objs.size f cd) (.ref ea)) _ _ s;refine leave_new (outer:=outer) (L:=s0.heap.objs.size) I.ok.frames rfl I.stack h1 h2 h3 h4 λGZ T' mv nT tr=>?_
 exact v4 (G:=[ea]) I mv (λb hb=>by
  have z:b=ea:=by simpa using hb
  rw [z];exact⟨back,he⟩) tr back he (.inr nT) hE
def yx (h:Heap) (C:Addr):Prop:=∃(nm q:Str) (N:Addr) (bs bm Dc:List zz9) (hdct:Bool) (sn:List Str) (sub:List zz9) (ab:Bool) (col:Option Bool) (dd:Option Addr) (k0 k1 k2 k3 k5:Option zz9) (mN:Str->Option zz9) (B Bn newId RJ C7 SB:String) (Uk:List zz9),
 h.get? C=some (excClassObj nm q C N bs bm hdct sn sub ab col dd k0 k1 k2 k3 k5 newId)/\h.Ns N mN/\mN (Str.ofString "__init__")=none/\OwnTail h Dc bm/\bm.contains (Value.type "BaseException")=true/\ExcBaseFacts Bn newId SB Uk/\Dc.contains (Value.type Bn)=true/\ExcBaseFacts B RJ C7 Dc
section
variable {X:Cx}{x:Str}{C:Addr}{e:Expr}{es:List Expr}{t:TA}{np Df pos:Pos}{W:Hp->Prop}
end
variable {P:Program}{w:World}{K:zz7}{mg:Str->Option zz9}{base:Heap}{f:Addr}{fd:FuncData}
theorem Dk.okX {x qual:Str}{st:Stmt}{f:Addr}{fd:FuncData}{N ps:List Str}{k:Nat}{sp:Sp} (F:Dk K x qual st f fd) (S:aM N ps (aC st)) (len:∀vs H Q E,sp vs H Q E->vs.length=ps.length)
  (EC:∀(DB:zz9) (A:Around) (outer:List Env) (s:zz8) (H:Hp) (vs:List V) (Q:VK) (E:XK),aN k (A.deeper (envOfC qual (aC st) s.heap.objs.size f DB))->sp vs H Q E ->
   ∃t,EO (du (Hb P w) P w K mg base N qual (aC st) f DB A outer s H E) (cu st) t/\t { nx:=λ_ H'=>Q .non H',rt:=Q } (start N vs) H):aG P w K mg base (Hb P w) (k + 1) f fd ps sp:=by
 obtain⟨oc,od,kV,doc,pm,an,DB,ct,GG,rfl,lk,FE⟩:=F.ex;exact m6 lk FE S len λA outer s H vs Q E hr EM=>EC DB A outer s H vs Q E hr EM
def Ol (P:Program) (w:World) (K:zz7) (mg:Str->Option zz9) (base:Heap) (k:Nat) (x:Str) (ps:List Str) (sp:Sp):Prop :=
 ∃f fd,mg x=some (.ref f)/\PySem.W.keepIn K (.ref f)=true/\Binds K fd ps []/\aG P w K mg base (Hb P w) k f fd ps sp
def XP (X:Cx) (pins:List (Addr×Obj)) (Ex:St->zz9->Option Addr->Hp->Prop) (e:zz9) (s1:zz8):Prop :=
 ∃(σ:St) (H:Hp) (s:zz8),Inv X pins σ H s/\Hb X.prog X.w X.stack H s (λcls dx H'=>Ex σ cls dx H') e s1
abbrev KO:=(St->zz9->Option Addr->Hp->Prop)->St->Hp->VK->Prop
abbrev IG:=(St->zz9->Option Addr->Hp->Prop)->Ends->St->Hp->Prop
def LO (X:Cx) (e:Expr) (t:KO):Prop:=∀(pins:List (Addr×Obj)) (s:zz8) (σ:St) (H:Hp) (Q:VK) (Ex:St->zz9->Option Addr->Hp->Prop),Inv X pins σ H s->t Ex σ H Q->wpAny (model X.prog X.w) X.A (eval e X.env) (EP X pins σ Q) (XP X pins Ex) s
def QF (X:Cx) (st:Stmt) (t:IG):Prop:=∀(pins:List (Addr×Obj)) (s:zz8) (σ:St) (H:Hp) (D:Ends) (Ex:St->zz9->Option Addr->Hp->Prop),Inv X pins σ H s->t Ex D σ H->wpAny (model X.prog X.w) X.A (exec st X.env) (SP X pins D) (XP X pins Ex) s
section
variable {X:Cx}{k:Nat}{x:Str}{ps:List Str}{sp:Sp}{e:Expr}{es:List Expr}{t:TA}{p pos:Pos}
def vY (sp:Sp) (t:TA):KO:=λEx σ H Q=>t σ H λvs H1=>sp vs H1 Q (λcls dx H'=>Ex σ cls dx H')
theorem u0 (F:Ol X.prog X.w X.K X.mg X.base k x ps sp) (hr:aN k X.A) (ha:PA X.nox (e::es) t) (hg:Gl X x:=by rfl)
  (FC:(x == ("__debug__":Str))=false:=by decide) (he:starEach (e::es) X.env=(false,eval e X.env)::starEach es X.env:=by rfl) (DK:(backTo pos (starEach es X.env)).any (·.1)=false:=by rfl) :
  LO X (.Call (.Name x p) (e::es) [] pos) (vY sp t):=by
 obtain⟨f,fd,hm,hk,hb,F⟩:=F;intro pins s σ H Q Ex I h;refine Bh (fu I hg hm ?_ FC);have I0:Inv X.nox pins σ H s:=⟨⟨I.ok.mod,I.ok.kind,I.ok.glob,I.ok.blt,I.ok.above,I.ok.inj,I.ok.has,I.ok.cab,I.ok.hd,I.ok.frames,I.ok.stk,I.ok.exf,I.ok.bs,I.ok.bsz,I.ok.noex,I.ok.exfs,I.ok.funs,I.ok.frf⟩,I.os,I.bare,I.base,I.loc,I.cell,I.free,I.freeC,I.pin,I.hok,I.len⟩
 refine PySem.W.callWith_K (h₀:=X.base) I.ok.mod.kin hk (zJ (ha pos pins s σ H _ I0 h) (λus s1 hq=>?_) λ_ _ z=>False.elim z) he DK;obtain⟨vs,H1,I1,r,q⟩:=hq;have I2:Inv X pins σ H1 s1:=⟨⟨I1.ok.mod,I1.ok.kind,I1.ok.glob,I1.ok.blt,I1.ok.above,I1.ok.inj,I1.ok.has,I1.ok.cab,I1.ok.hd,I1.ok.frames,I1.ok.stk,I1.ok.exf,I1.ok.bs,I1.ok.bsz,I1.ok.noex,I1.ok.exfs,I1.ok.funs,I1.ok.frf⟩,I1.os,I1.bare,I1.base,I1.loc,I1.cell,I1.free,I1.freeC,I1.pin,I1.hok,I1.len⟩
 refine⟨I2.kIn,?_⟩;have hl:us.length=ps.length:=by rw [<- r.length];exact F.len _ _ _ _ q
 have Iv:=hb s1 us I2.kIn (by simpa using hl);simp only [zt] at Iv;refine CL (AX (F.run X.A X.stack s1 H1 ⟨us,[]⟩ us vs Q (λcls dx H'=>Ex σ cls dx H') hr I2.env0 Iv r q) λr s' hq=>?_);cases r with
 | error e=>exact⟨σ,H1,s1,I2,hq⟩
 | ok fl =>
  cases fl with
  | ret u=>exact I2.after hq
  | next=>exact False.elim hq
  | brk=>exact False.elim hq
  | cont=>exact False.elim hq
def wR (i:Nat) (te:KO):IG:=λEx D σ H=>te Ex σ H λy H1=>D.nx (σ.set i (some y)) H1
theorem vL {te:KO}{i:Nat}{y:Str}{DH:Pos} (hN:X.N.Nodup) (hi:X.N[i]?=some y) (hx:Loc X.env.scope y) (he:LO X e te) (hs:swapsWith e (some (.Name y DH)) pos.line X.env=pure false:=by rfl) (hf:X.fn y=true\/X.env.scope.names.lookup y=some .local:=by first | exact .inl rfl | exact .inr rfl | assumption) :
  QF X (.Assign [.Name y DH] e pos) (wR i te):=by
 intro pins s σ H D Ex I h;refine wpAny_Assign_Name (C4 (he pins s σ H _ Ex I h) λv s1 ⟨z,H1,I1,r1,q1⟩=>?_) hs;exact eP I1 hN hi hx r1 (λs2 I2=>⟨_,H1,I2,q1⟩) hf
end
theorem ox:isSubtype (.type "type") (.type "tuple")=pure false:=by rw [Bs];kernel_rfl
theorem qw {M:Model}{A:Around}{E:zz9->zz8->Prop}{nm q OV q':Str}{C N R N':Addr}{bs bm QA N7:List zz9}{hdct HA:Bool}{sn OG:List Str}{sub JJ:List zz9}{ab QB:Bool}{col KL:Option Bool}{dd Gx:Option Addr}{k0 k1 k2 k3 k5 l0 l1 l2 l3 l5:Option zz9}{newId FU:String}
  {s:zz8}{e:Addr}{oe:Obj}{Q:Bool->zz8->Prop} (hC:s.heap.get? C=some (excClassObj nm q C N bs bm hdct sn sub ab col dd k0 k1 k2 k3 k5 newId)) (hR:s.heap.get? R=some (excClassObj OV q' R N' QA N7 HA OG JJ QB KL Gx l0 l1 l2 l3 l5 FU))
  (he:s.heap.get? e=some oe) (hc:oe.cls=.ref C) (hb:N7.contains (.type "BaseException")=true) (k:Q ((Value.ref C::bm).contains (.ref R)) s):wpAny M A (excMatches (.ref e) (.ref R)) Q E s:=by
 unfold excMatches;refine yz (Bx (T:="type") ⟨_,hR,rfl⟩ ox ?_);simp only [zV,if_false,pure_bind,BG,Co];obtain⟨h,g,d,tk,os⟩:=s;have hex:∀{Q':Bool->zz8->Prop},Q' true ⟨h,g,d,tk,os⟩->wpAny M A (isExcClass (.ref R)) Q' E ⟨h,g,d,tk,os⟩:=λ{Q'} qq=>by
  unfold isExcClass isType;simp only [bind_assoc,pure_bind];refine yz (wpAny_loadPart hR ?_);simp only [if_true];refine Be hR ?_;rw [Bm,hb,CW];exact qq
 refine yz (yz (yz (hex ?_)));simp only [Bool.not_true,zV,if_false];refine yC (yC (yz (wpAny_typeOf_ref he ?_)));rw [hc];refine yz (yz (yz (Be hC ?_)));cases c:(Value.ref C::bm).contains (Value.ref R) with
 | true =>
  rw [c] at k;exact yC (yC (yC k))
 | false =>
  rw [c] at k;exact yC (yC (yC k))
section
variable {X:Cx}{pins:List (Addr×Obj)}{σ:List (Option V)}{H H':Hp}{s:zz8}{h':Heap}
theorem Inv.stepN {g':Array GenState}{t':Nat}{d':Drawn}{ch:List Addr} (I:Inv X pins σ H s)
  (En:∀b∈ch,X.s₀.heap.get? b=none/\b≠X.env.locals/\(∀x c,X.env.cells.lookup x=some c->c≠b)/\∀p∈X.pn++pins,p.1≠b)
  (keep:∀b o,b≠X.env.locals->b∉X.fs->b∉ch->s.heap.get? b=some o->H b=none->h'.get? b=some o)
  (slot:∀b o,b≠X.env.locals->b∈X.fs->b∉ch->s.heap.get? b=some o->H b=none->∃sl,h'.get? b=some { o with slots:=sl }) (free:∀b o,b∉ch->s.heap.get? b=some o->H b=none->H' b=none)
  (there:∀b o,b∉ch->s.heap.get? b=some o->∃o',h'.get? b=some o')
  (tups:∀b xs,H b=some (.tup xs)->H' b=some (.tup xs)) (frzs:∀b o u,H b=some (.frz o u)->H' b=some (.frz o u)) (tbls:∀b ps,H b=some (.tbl ps)->∃more,H' b=some (.tbl (ps++more)))
  (ns:∀m,s.heap.Ns X.env.locals m->h'.Ns X.env.locals m) (hok:Ds X.prog X.w H' h') (hg:AllBare g') :
  Inv X pins σ H' { s with heap:=h',gens:=g',drawn:=d',toks:=t' }:=by
 have JZ:∀b o,X.s₀.heap.get? b=some o->b≠X.env.locals:=λb o e=>y9 (za (yH e) I.ok.above);have Eu:∀b o,X.s₀.heap.get? b=some o->b∉X.ex->b∉ch:=λb o e hx hb=>by
  rw [(En b hb).1] at e;cases e
 have cellK:∀x c,X.env.cells.lookup x=some c->∀v,s.heap.IsCell c v->h'.IsCell c v:=λx c e v ⟨o,ho,hd⟩=>by
  have FV:c∉ch:=λz=>(En c z).2.2.1 x c e rfl
  by_cases hc:c∈X.fs
  ·obtain⟨sl,q⟩:=slot c o (I.cne x c e) hc FV ho (I.freeC x c e)
   exact⟨_,q,hd⟩
  ·exact⟨o,keep c o (I.cne x c e) hc FV ho (I.freeC x c e),hd⟩
 refine⟨I.ok,I.os,hg,⟨λb o e n hb hx=>?_,λb o e n hb hx=>?_,λb o e n hx=>?_,λb o e hx=>?_,λb xs e=>tups b xs (I.base.tups b xs e),λb o xs e=>frzs b o xs (I.base.frzs b o xs e),λb ps e=>?_⟩,?_,λx c e=>?_,?_,λx c e=>?_,λp hp=>?_,hok,I.len⟩
 ·exact keep b o (JZ b o e) hb (Eu b o e hx) (I.base.keep b o e n hb hx) (I.base.free b o e n hx)
 ·obtain⟨sl,e1⟩:=I.base.slot b o e n hb hx
  obtain⟨L8,e2⟩:=slot b _ (JZ b o e) hb (Eu b o e hx) e1 (I.base.free b o e n hx);exact⟨L8,e2⟩
 ·obtain⟨o',e1⟩:=I.base.there b o e hx
  exact free b o' (Eu b o e hx) e1 (I.base.free b o e n hx)
 ·obtain⟨o',e1⟩:=I.base.there b o e hx
  exact there b o' (Eu b o e hx) e1
 ·obtain⟨m1,e1⟩:=I.base.tbls b ps e
  obtain⟨m2,e2⟩:=tbls b _ e1;exact⟨m1++m2,by rw [e2,Array.append_assoc]⟩
 ·obtain⟨m,hn,hl⟩:=I.loc
  refine⟨m,ns m hn,λi x v e1 e2 e3=>?_⟩;obtain⟨u,r,l⟩:=hl i x v e1 e2 e3;refine⟨u,r,?_⟩
  rcases l with l | ⟨k,c,e,z⟩
  ·exact .inl l
  ·exact .inr ⟨k,c,e,cellK x c e _ z⟩
 ·obtain⟨v,z⟩:=I.cell x c e
  exact⟨v,cellK x c e v z⟩
 ·obtain⟨m,⟨o,_,_,ho,_⟩,_⟩:=I.loc
  exact free _ o (λz=>(En _ z).2.1 rfl) ho I.free
 ·obtain⟨v,o,ho,hd⟩:=I.cell x c e
  exact free c o (λz=>(En c z).2.2.1 x c e rfl) ho (I.freeC x c e)
 ·obtain⟨e,n,ne,nf,d⟩:=I.pin p hp
  have FV:p.1∉ch:=λz=>(En p.1 z).2.2.2 p hp rfl;exact⟨keep p.1 p.2 ne nf FV e n,free p.1 p.2 FV e n,ne,nf,d⟩
theorem Inv.moved {G:List Addr} (I:Inv X pins σ H s) (hG:∀b∈G,X.s₀.heap.get? b=none/\H b=none/\b≠X.env.locals/\(∀x c,X.env.cells.lookup x=some c->c≠b)/\∀p∈X.pn++pins,p.1≠b)
  (kp:∀b o,s.heap.get? b=some o->b∉Dq X.stack->b∉G->h'.get? b=some o) (sl:∀b o,s.heap.get? b=some o->b∈Dq X.stack->∃sl,h'.get? b=some { o with slots:=sl }) :
  Inv X pins σ H { s with heap:=h' }:=by
 refine I.stepN (g':=s.gens) (d':=s.drawn) (t':=s.toks) (ch:=G) (λb hb=>⟨(hG b hb).1,(hG b hb).2.2⟩) (λb o hL hb hc e _=>kp b o e (λz=>(yF.mp (I.stkSub b z)).elim hL hb) hc) (λb o hL hb hc e _=>?_) (λ_ _ _ _ n=>n) (λb o hc e=>?_) (λ_ _ e=>e) (λ_ _ _ e=>e) (λb ps e=>⟨#[],by rw [e];simp⟩) (λm hm=>?_) (λb u e=>?_) I.bare
 ·by_cases z:b∈Dq X.stack
  ·exact sl b o e z
  ·exact⟨o.slots,kp b o e z hc⟩
 ·by_cases z:b∈Dq X.stack
  ·obtain⟨q,q'⟩:=sl b o e z
   exact⟨_,q'⟩
  ·exact⟨o,kp b o e z hc⟩
 ·obtain⟨o,es,ep,ho,r⟩:=hm
  by_cases z:X.env.locals∈Dq X.stack
  ·obtain⟨q,q'⟩:=sl _ o ho z
   exact⟨_,es,ep,q',r⟩
  ·exact⟨o,es,ep,kp _ o ho z (λy=>(hG _ y).2.2.1 rfl),r⟩
 ·have nf:∀c v,H c=some v->c∉Dq X.stack/\c∉G:=λc v q=>⟨λhm=>(by
   have:=I.stkFree c hm
   rw [q] at this;cases this),λhm=>(by rw [(hG c hm).2.1] at q;cases q)⟩
  refine (I.hok b u e).stay (λc v hc q=>?_) (λ_ q=>q) λ_ _ q=>q
  rcases hc with z | z
  ·rw [z] at q ⊢;exact kp b v q (nf b u e).1 (nf b u e).2
  ·exact kp c v q (nf c _ z).1 (nf c _ z).2
end
section
variable {X:Cx}{pins:List (Addr×Obj)}{σ:List (Option V)}{H:Hp}{s:zz8}
end
section
variable {X:Cx}{pins:List (Addr×Obj)}{σ:St}{H:Hp}{s:zz8}{ea C:Addr}{o:HO}
theorem Inv.track (I:Inv X pins σ H s) (hn:H ea=none) (h0:X.s₀.heap.get? ea=none) (hl:ea≠X.env.locals) (hc:∀x c,X.env.cells.lookup x=some c->c≠ea) (hp:∀p∈X.pn++pins,p.1≠ea)
  (new:aF X.prog X.w (upd H ea o) s.heap ea o):Inv X pins σ (upd H ea o) s:=by
 have J:=I.stepN (h':=s.heap) (H':=upd H ea o) (g':=s.gens) (d':=s.drawn) (t':=s.toks) (ch:=[ea]) (λb hb=>by
   have z:b=ea:=by simpa using hb
   rw [z];exact⟨h0,hl,hc,hp⟩) (λb o _ _ _ e _=>e) (λb o _ _ _ e _=>⟨o.slots,e⟩) (λb o hb e n=>by rw [ag (λz=>hb (by simp [z]))];exact n) (λb o _ e=>⟨o,e⟩)
  (λb xs e=>by rw [ag (ar e hn)];exact e) (λb o u e=>by rw [ag (ar e hn)];exact e) (λb ps e=>⟨#[],by rw [ag (ar e hn),e];simp⟩) (λm hm=>hm) (λb u e=>?_) I.bare
 ·exact J
 ·by_cases z:b=ea
  ·rw [z,aj] at e
   cases e;rw [z];exact new
  ·rw [ag z] at e
   exact (I.hok b u e).stay (λ_ _ _ q=>q) (λb q=>by rw [ag (ar q hn)];exact q) (λb xs q=>by rw [ag (ar q hn)];exact q)
end
def Cx.held (X:Cx) (ea:Addr):Cx:={ X with A:=X.A.mark (some (.ref ea)),calm:=false,xe:=λ_ _=>False }
section
variable {X:Cx}{pins:List (Addr×Obj)}{σ:St}{H:Hp}{s:zz8}{ea:Addr}
theorem Inv.held (I:Inv X pins σ H s) (ea:Addr):Inv (X.held ea) pins σ H s :=
 ⟨⟨I.ok.mod,I.ok.kind,I.ok.glob,I.ok.blt,I.ok.above,I.ok.inj,I.ok.has,I.ok.cab,(λz=>by cases z),I.ok.frames,I.ok.stk,I.ok.exf,I.ok.bs,I.ok.bsz,I.ok.noex,I.ok.exfs,I.ok.funs,I.ok.frf⟩,I.os,I.bare,I.base,I.loc,I.cell,I.free,I.freeC,I.pin,I.hok,I.len⟩
theorem Inv.unheld (ok:X.Ok) (I:Inv (X.held ea) pins σ H s):Inv X pins σ H s :=
 ⟨ok,I.os,I.bare,I.base,I.loc,I.cell,I.free,I.freeC,I.pin,I.hok,I.len⟩
def Under (h:Heap) (C R:Addr):Prop:=∃(nm q:Str) (N:Addr) (bs bm:List zz9) (hdct:Bool) (sn:List Str) (sub:List zz9) (ab:Bool) (col:Option Bool) (dd:Option Addr) (k0 k1 k2 k3 k5:Option zz9) (newId:String),
 h.get? C=some (excClassObj nm q C N bs bm hdct sn sub ab col dd k0 k1 k2 k3 k5 newId)/\(Value.ref C::bm).contains (.ref R)=true
end
section
variable {X:Cx}{st b0:Stmt}{Ee:List Stmt}{tx:IG}{th:TS}{x n:Str}{R:Addr}{j:Nat}{np Ey pos:Pos}
end
section
variable {X:Cx}{pins:List (Addr×Obj)}{σ:St}{H:Hp}{s:zz8}
theorem Inv.toNox (I:Inv X pins σ H s):Inv X.nox pins σ H s:=⟨⟨I.ok.mod,I.ok.kind,I.ok.glob,I.ok.blt,I.ok.above,I.ok.inj,I.ok.has,I.ok.cab,I.ok.hd,I.ok.frames,I.ok.stk,I.ok.exf,I.ok.bs,I.ok.bsz,I.ok.noex,I.ok.exfs,I.ok.funs,I.ok.frf⟩,I.os,I.bare,I.base,I.loc,I.cell,I.free,I.freeC,I.pin,I.hok,I.len⟩
theorem Inv.ofNox (I:Inv X.nox pins σ H s):Inv X pins σ H s:=⟨⟨I.ok.mod,I.ok.kind,I.ok.glob,I.ok.blt,I.ok.above,I.ok.inj,I.ok.has,I.ok.cab,I.ok.hd,I.ok.frames,I.ok.stk,I.ok.exf,I.ok.bs,I.ok.bsz,I.ok.noex,I.ok.exfs,I.ok.funs,I.ok.frf⟩,I.os,I.bare,I.base,I.loc,I.cell,I.free,I.freeC,I.pin,I.hok,I.len⟩
end
section
variable {X:Cx}{st:Stmt}{rest:List Stmt}{t u:IG}{pos:Pos}
end
open Builtin Builtin.ObjectAttr
inductive bN (h:Heap) (S:List Str) (Dc:List zz9):List zz9->Prop
 | base:bN h S Dc Dc
 | own {B:Addr}{c0:zz9}{dd:Option Addr}{cd:ClassData}{sl:Array (Option zz9)}{m:Str->Option zz9}{tl:List zz9} (e:h.get? B=some ⟨c0,dd,.cls cd,sl⟩) (n:h.Ns cd.ns m) (i:∀x∈S,m x=none) (r:bN h S Dc tl):bN h S Dc (.ref B::tl)
section
variable {h h':Heap}{S:List Str}{Dc tl:List zz9}
theorem bN.stays (k:∀b o,h.get? b=some o->h'.get? b=some o) (x:bN h S Dc tl):bN h' S Dc tl:=by
 induction x with
 | base=>exact .base
 | own e n i _ ih=>exact .own (k _ _ e) (n.keeps k) i ih
theorem bN.plain (hS:Str.ofString "__init__"∈S) (x:bN h S Dc tl):OwnTail h Dc tl:=by
 induction x with
 | base=>exact .base
 | own e n i _ ih=>exact .own e n (i _ hS) ih
theorem bN.has (x:bN h S Dc tl) {T:String}{b:Bool} (hb:Dc.contains (.type T)=b):tl.contains (.type T)=b:=by
 induction x with
 | base=>exact hb
 | own _ _ _ _ ih=>rw [Bm,ih];rfl
theorem bN.passes {self:zz9}{JG:Str} (x:bN h S Dc tl) (hb:refuseLoop self JG Dc=pure ()):refuseLoop self JG tl=pure ():=by
 induction x with
 | base=>exact hb
 | own _ _ _ _ ih=>rw [refuseLoop_ref];exact ih
end
section
variable {M:Model}{A:Around}{E:zz9->zz8->Prop}{h:Heap}{g:Array GenState}{d:Drawn}{t:Nat}{os:OsState}{S:List Str}{Dc tl:List zz9}{x:Str}{y:Option zz9}{Q:Option zz9->zz8->Prop}
theorem vj (hx:x∈S) (T:bN h S Dc tl) (hr:lookupAlong Dc x=pure y) (hq:Q y ⟨h,g,d,t,os⟩):wpAny M A (lookupAlong tl x) Q E ⟨h,g,d,t,os⟩:=by
 induction T with
 | base=>rw [hr];exact yC hq
 | own e n i _ ih =>
  rw [lookupAlong_cons];refine yz (wpAny_classOwn_cls e n ?_);rw [i x hx];exact ih
variable {nm q:Str}{C N:Addr}{bs bm:List zz9}{hdct:Bool}{sn:List Str}{sub:List zz9}{ab:Bool}{col:Option Bool}{dd:Option Addr}{k0 k1 k2 k3 k5:Option zz9}{B newId:String}{mN:Str->Option zz9}
theorem kM (c1:h.get? C=some (excClassObj nm q C N bs bm hdct sn sub ab col dd k0 k1 k2 k3 k5 newId)) (c2:h.Ns N mN) (c3:mN x=none) (hx:x∈S) (T:bN h S Dc bm) (mr:mroOf (.type B)=pure Dc) (hB:typeLookup (.type B) x=pure y) (hq:Q y ⟨h,g,d,t,os⟩) :
  wpAny M A (typeLookup (.ref C) x) Q E ⟨h,g,d,t,os⟩:=by
 have hr:lookupAlong Dc x=pure y:=by rw [typeLookup_eq,mr] at hB;exact hB
 rw [typeLookup_eq];refine yz (wpAny_mroOf_exc c1 ?_);rw [lookupAlong_cons];refine yz (wpAny_classOwn_exc c1 c2 ?_);rw [c3];exact vj hx T hr hq
end
structure dO (S:List Str) (h:Heap) (C f:Addr) (nm q:Str) (N:Addr) (bs bm Dc:List zz9) (sn:List Str) (sub:List zz9) (ab:Bool) (col:Option Bool) (dd:Option Addr) (k0 k1 k2 k3 k5:Option zz9) (mN:Str->Option zz9) (B newId C7 sa ow:String):Prop where
 at_:h.get? C=some (excClassObj nm q C N bs bm true sn sub ab col dd k0 k1 k2 k3 k5 newId)
 ns:h.Ns N mN
 init:mN (Str.ofString "__init__")=some (.ref f)
 no:∀x∈S,mN x=none
 tail:bN h (Str.ofString "__init__"::S) Dc bm
 bf:ExcBaseFacts B newId C7 Dc
 sf:StoreFacts B Dc sa ow
 af:ExcAttrBase B Dc
theorem dO.stays {S:List Str}{h h':Heap}{C f:Addr}{nm q:Str}{N:Addr}{bs bm Dc:List zz9}{sn:List Str}{sub:List zz9}{ab:Bool}{col:Option Bool}{dd:Option Addr}{k0 k1 k2 k3 k5:Option zz9}{mN:Str->Option zz9}{B newId C7 sa ow:String}
  (x:dO S h C f nm q N bs bm Dc sn sub ab col dd k0 k1 k2 k3 k5 mN B newId C7 sa ow) (k:∀b o,h.get? b=some o->h'.get? b=some o):dO S h' C f nm q N bs bm Dc sn sub ab col dd k0 k1 k2 k3 k5 mN B newId C7 sa ow :=
 ⟨k _ _ x.at_,x.ns.keeps k,x.init,x.no,x.tail.stays k,x.bf,x.sf,x.af⟩
section
variable {prog:Program}{w:World}{A:Around}{E:zz9->zz8->Prop}{h:Heap}{g:Array GenState}{d:Drawn}{t:Nat}{os:OsState}
 {S:List Str}{C f:Addr}{nm q:Str}{N:Addr}{bs bm Dc:List zz9}{sn:List Str}{sub:List zz9}{ab:Bool}{col:Option Bool}{dd:Option Addr}{k0 k1 k2 k3 k5:Option zz9}{mN:Str->Option zz9}{B newId C7 sa ow:String}
theorem qt (x:dO S h C f nm q N bs bm Dc sn sub ab col dd k0 k1 k2 k3 k5 mN B newId C7 sa ow) {us:List zz9}{oI:Obj}{Q:Fin->zz8->Prop} (f1:h.get? f=some oI) (f2:oI.cls=.type "function")
  (k:∀h' e,h.MadeExcOf h' e (.ref C) us->wpAny (model prog w) A (call (.ref f) (.ref e::us)) (λr s'=>r=.none/\Q (.done (.ret (.ref e))) s') E ⟨h',g,d,t,os⟩) (hl:us.length<=sizeLine) :
  wpAny (model prog w) A (Builtin.«type.__call__» ⟨.ref C::us,[]⟩) Q E ⟨h,g,d,t,os⟩:=by
 have c1:=x.at_;have T:=x.tail.plain (yG ..)
 repeat (first | with_reducible refine Au c1 ?_ | with_reducible refine wpAny_madeBy_exc c1 ?_ | wp_step)
 refine codeAny_call_builtin_code (BM _ x.bf.quiet) (wpAny_check_new_subT x.bf T c1 (codeAny_exc_new_subT x.bf T c1 ?_ hl));show wpAny _ _ _ _ _ _;generalize Jd:({ cls:=.ref C,data:=.fields #[.ref h.objs.size,.none,.none,.none,.bool false,.none] }:Obj)=ob;generalize Jc:({ cls:=.type "tuple",data:=.seq us.toArray }:Obj)=ot;have kp:∀b o,h.get? b=some o->((h.push ot).push ob).get? b=some o:=λb o z=>yB _ (yB _ z);have g1:((h.push ot).push ob).get? (h.objs.size + 1)=some ob:=by
  have:=yN (h.push ot) (o:=ob) (by rw [<- Jd];rfl)
  rwa [zo] at this
 have oc:ob.cls=.ref C:=by rw [<- Jd]
 have c2:=kp _ _ c1;have cC:(Value.ref C::bm).contains (.ref C)=true:=by simp
 unfold isInstance
 repeat (first | (with_reducible refine Au g1 ?_;rw [oc]) | (with_reducible refine Be c2 ?_;rw [cC]) | wp_step)
 show wpAny _ _ (typeLookup (.ref C) _) _ _ _;refine wpAny_typeLookup_tail c2 (x.ns.keeps kp) (T.keeps kp) x.bf.mroIs x.bf.init.lookup ?_;rw [show mN "__init__"=some (.ref f) from x.init];refine zw (yz ?_);unfold bindSpecial;refine yz (CS (T:="function") ⟨_,kp _ _ f1,f2⟩ ?_);rw [if_pos (by decide)];refine yC (yz (zJ (k _ (h.objs.size + 1) ⟨kp,Bv (Az _),h.objs.size,by rw [Jd];exact g1,Bv (yO _),?_⟩) (λr s' hr=>?_) λ_ _ z=>z))
 ·rw [Jc]
  exact yB _ (yN h (by rw [<- Jc];rfl))
 ·obtain⟨rfl,hQ⟩:=hr
  wp_walk
  exact hQ
theorem vN (x:dO S h C f nm q N bs bm Dc sn sub ab col dd k0 k1 k2 k3 k5 mN B newId C7 sa ow) {us:List zz9}{oI:Obj}{Q:zz9->zz8->Prop} (f1:h.get? f=some oI) (f2:oI.cls=.type "function")
  (k:∀h' e,h.MadeExcOf h' e (.ref C) us->wpAny (model prog w) (A.under (.builtin "type.__call__" ⟨.ref C::us,[]⟩)) (call (.ref f) (.ref e::us)) (λr s'=>r=.none/\Q (.ref e) s') E ⟨h',g,d,t,os⟩) (hl:us.length<=sizeLine) :
  wpAny (model prog w) A (call (.ref C) us) Q E ⟨h,g,d,t,os⟩:=by
 have l1:=tc_lookup;have l2:=tc_bind (.ref C);have c1:=x.at_;have hT:(⟨h,g,d,t,os⟩:zz8).TypeIs (.ref C) "type":=⟨_,c1,rfl⟩
 refine CL (Cg ?_);show wpAny _ _ (callAny (.ref C) _) _ _ _
 repeat (any_goals (first | assumption | with_reducible refine Au c1 ?_ | wp_step))
 refine⟨rfl,codeAny_call_builtin_at (BM _ (by decide +kernel)) entry_typeCall (wpAny_check_type_call_sub c1 (qt x f1 f2 (λh' e m=>?_) hl))⟩;exact k h' e m
end
def fB (C:Addr) (dx:Option Addr) (t:Addr):Obj:={ cls:=.ref C,dict:=dx,data:=.fields #[.ref t,.none,.none,.none,.bool false,.none] }
def dv (e C:Addr) (dx:Option Addr):HO:=.ext λh=>∃t,h.get? e=some (fB C dx t)
theorem lq {P:Program}{w:World}{H:Hp}{h:Heap}{e C t:Addr}{dx:Option Addr} (q:h.get? e=some (fB C dx t)):aF P w H h e (dv e C dx) :=
 ⟨⟨t,q⟩,⟨_,q⟩,λh1 h2 ⟨t',z⟩ k=>⟨t',k _ z⟩⟩
theorem lr {P:Program}{w:World}{H:Hp}{h:Heap}{e C:Addr}{dx:Option Addr} (x:aF P w H h e (dv e C dx)):∃t,h.get? e=some (fB C dx t):=x.1
def del (H:Hp) (a:Addr):Hp:=λb=>if b=a then none else H b
theorem iA {H:Hp}{a:Addr}:del H a a=none:=by unfold del;rw [if_pos rfl]
theorem dh {H:Hp}{a b:Addr} (h:b≠a):del H a b=H b:=by unfold del;rw [if_neg h]
section
variable {X:Cx}{pins:List (Addr×Obj)}{σ:St}{H:Hp}{s:zz8}{ea:Addr}{φ:Heap->Prop}
theorem Inv.untrack (I:Inv X pins σ H s) (he:H ea=some (.ext φ)):Inv X pins σ (del H ea) s:=by
 have ne:∀b u,H b=some u->(∀ψ,u≠.ext ψ)->b≠ea:=λb u q n z=>by
  rw [z,he] at q;cases q;exact n _ rfl
 have J:=I.step (h':=s.heap) (H':=del H ea) (g':=s.gens) (d':=s.drawn) (t':=s.toks) (ch:=[]) (λb hb=>absurd hb (by simp)) (λb o _ _ _ e _=>e) (λb o _ _ _ e _=>⟨o.slots,e⟩) (λb o _ _ n=>by
   by_cases z:b=ea
   ·rw [z];exact iA
   ·rw [dh z];exact n) (λb o _ e=>⟨o,e⟩)
  (λb xs e=>by rw [dh (ne b _ e λ_ z=>by cases z)];exact e) (λb o u e=>by rw [dh (ne b _ e λ_ z=>by cases z)];exact e) (λb ps e=>⟨#[],by rw [dh (ne b _ e λ_ z=>by cases z),e];simp⟩) (λm hm=>hm) (λb u e=>?_) I.bare
 ·exact J
 ·by_cases z:b=ea
  ·rw [z,iA] at e;cases e
  ·rw [dh z] at e
   exact (I.hok b u e).stay (λ_ _ _ q=>q) (λb q=>by rw [dh (ne b _ q λ_ z=>by cases z)];exact q) (λb xs q=>by rw [dh (ne b _ q λ_ z=>by cases z)];exact q)
end
section
variable {M:Model}{A:Around}{E:zz9->zz8->Prop}{s:zz8}{env:Env}{x:Sem zz9}{Q:Flow->zz8->Prop}
 {nm q:Str}{C N:Addr}{bs bm:List zz9}{hdct:Bool}{sn:List Str}{sub:List zz9}{ab:Bool}{col:Option Bool}{dd:Option Addr}{k0 k1 k2 k3 k5:Option zz9}{newId:String}
theorem qc (hb:bm.contains (.type "BaseException")=true) (hh:A.handled=none)
  (h:wpAny M A x (λv s1=>∃e t dx,v=.ref e/\s1.heap.get? C=some (excClassObj nm q C N bs bm hdct sn sub ab col dd k0 k1 k2 k3 k5 newId)/\s1.heap.get? e=some (fB C dx t)/\E (.ref e) s1) E s) :
  wpAny M A (raiseStmt env (some x) none) Q E s:=by
 have cB:(Value.ref C::bm).contains (.type "BaseException")=true:=by rw [Bm,hb,CW]
 unfold raiseStmt;refine yz (zJ h (λv s1 h1=>?_) λ_ _ z=>z);obtain⟨e,t,dx,rfl,c1,e1,hE⟩:=h1;unfold fB at e1;obtain⟨hp,g,d,tk,os⟩:=s1
 repeat (first | with_reducible refine Au e1 ?_ | with_reducible refine Au c1 ?_ | (with_reducible refine Be c1 ?_;rw [cB]) | wp_step)
 exact wpAny_raiseNew_none hh hE
end
def c8 (S:List Str) (h:Heap) (C f:Addr):Prop:=∃nm q N bs bm Dc sn sub ab col dd k0 k1 k2 k3 k5 mN B newId C7 sa ow,dO S h C f nm q N bs bm Dc sn sub ab col dd k0 k1 k2 k3 k5 mN B newId C7 sa ow/\(∀x∈S,x≠Str.ofString "__setattr__"->x≠Str.ofString "__getattribute__"->x≠Str.ofString "__getattr__"->typeLookup (.type B) x=pure none)/\∃oI,h.get? f=some oI/\oI.cls=.type "function"
def uJ (C:Addr) (t:TA) (sp:Sp) (W:zz9->Option Addr->Hp->Prop):TS:=λ_ σ H=>t σ H λvs H1=>vs.length<=sizeLine/\∀e,H1 e=none ->
 sp (.ref e::vs) (upd H1 e (dv e C none)) (λv H2=>v=.non/\∃dx,H2 e=some (dv e C dx)/\W (.ref C) dx (del H2 e)) E0
section
variable {X:Cx}{x:Str}{C f:Addr}{fd:FuncData}{ps:List Str}{sp:Sp}{k:Nat}{e:Expr}{es:List Expr}{t:TA}{np Df pos:Pos}{W:zz9->Option Addr->Hp->Prop}{S:List Str}
theorem qG (hx:X.mg x=some (.ref C)) (hC:c8 S X.base C f) (F:aG X.prog X.w X.K X.mg X.base Dl k f fd ps sp) (hr:aN (k + 1) X.A) (TF:Binds X.K fd ps []) (hd:X.A.handled=none) (ha:PA X (e::es) t)
  (xe:∀(pins:List (Addr×Obj)) (σ:St) (H:Hp) (s:zz8) (ea:Addr) (oe:Obj) (vs:Array zz9) (a0:zz9),Inv X pins σ H s->s.heap.get? ea=some oe->oe.data=Data.fields vs->vs[1]?=some Value.none->Jp vs a0->X.s₀.heap.get? ea=none->H ea=none->W oe.cls oe.dict H->X.xe (.ref ea) s)
  (hex:X.ex=[]) (hg:Gl X x:=by rfl) (FC:(x == ("__debug__":Str))=false:=by decide) (he:starEach (e::es) X.env=(false,eval e X.env)::starEach es X.env:=by rfl) (DK:(backTo Df (starEach (e::es) X.env)).any (·.1)=false:=by rfl) :
  PS X (.Raise (some (.Call (.Name x np) (e::es) [] Df)) none pos) (uJ C t sp W):=by
 intro pins s σ H D I h;obtain⟨nm,q,N,bs,bm,Dc,sn,sub,ab,col,dd,k0,k1,k2,k3,k5,mN,B,newId,C7,sa,ow,EI,_,oI,f1,f2⟩:=hC;rw [arm_exec_Raise];have hb:bm.contains (.type "BaseException")=true:=EI.tail.has EI.bf.hasBase;refine yz (zW (qc (C:=C) (nm:=nm) (q:=q) (N:=N) (bs:=bs) (bm:=bm) (hdct:=true) (sn:=sn) (sub:=sub) (ab:=ab) (col:=col) (dd:=dd) (k0:=k0) (k1:=k1) (k2:=k2) (k3:=k3) (k5:=k5) (newId:=newId) hb hd (yz (zJ (wpAny_Call_ofName (fu I hg hx ?_ FC)) (λv s3 h3=>yz (zW (yC h3))) λ_ _ z=>z))));unfold callWith;have Ez:=ha Df pins s σ H _ I h;have eb:backTo Df (starEach (e::es) X.env)=(false,eval e X.env)::backTo Df (starEach es X.env):=by rw [he];rfl
 rw [eb] at Ez DK ⊢;refine yz (zw (B9 (C4 Ez λus s2 hq=>yz (zW ?_))));obtain⟨vs,H1,I1,r1,hl,hw⟩:=hq;simp only [DK];have kb:=I1.bk;have QN:=EI.stays kb;obtain⟨hp,g,d,tk,os⟩:=s2;refine yz (wpAny_keeperOf_exc QN.at_ (yz (vN QN (kb _ _ f1) f2 (λh' ea m=>?_) (by show us.length<=sizeLine;rw [<- r1.length];exact hl))));obtain⟨keeps,new,t0,there,tn,tt⟩:=m;have I2:Inv X pins σ H1 ⟨h',g,d,tk,os⟩:=I1.kept (s:=⟨hp,g,d,tk,os⟩) (t':=tk) keeps;have Qc:H1 ea=none:=by
  cases hc:H1 ea with
  | none=>rfl
  | some o =>
   obtain⟨ob,q⟩:=aF.got (I1.hok ea o hc);rw [new] at q;cases q
 have back:X.s₀.heap.get? ea=none:=by
  cases hc:X.s₀.heap.get? ea with
  | none=>rfl
  | some o =>
   obtain⟨o',q'⟩:=I1.base.there ea o hc (by rw [hex];simp);rw [new] at q';cases q'
 have nl:ea≠X.env.locals:=λz=>by
  obtain⟨m,⟨o,_,_,ho,_⟩,_⟩:=I1.loc;rw [<- z,new] at ho;cases ho
 have nc:∀x c,X.env.cells.lookup x=some c->c≠ea:=λy c e z=>by
  obtain⟨v,o,ho,_⟩:=I1.cell y c e;rw [z,new] at ho;cases ho
 have RC:∀p∈X.pn++pins,p.1≠ea:=λp hp z=>by
  have:=(I1.pin p hp).1;rw [z,new] at this;cases this
 have I3:Inv X pins σ (upd H1 ea (dv ea C none)) ⟨h',g,d,tk,os⟩:=I2.track Qc back nl nc RC (lq (t:=t0) there);have hs:=hw ea Qc;have r2:aq (V.ref ea::vs) (Value.ref ea::us):=.cons rfl r1;have PR:(Value.ref ea::us).length=ps.length:=by
  rw [<- r2.length];exact F.len _ _ _ _ hs
 have Iv:=TF ⟨h',g,d,tk,os⟩ (.ref ea::us) I3.kIn (by simpa using PR);simp only [zt] at Iv;refine CL (AX (F.run _ X.stack _ _ ⟨Value.ref ea::us,[]⟩ (Value.ref ea::us) _ _ E0 (hr.make C us []) (I3.env0.make C us []) Iv r2 hs) λr s' Em=>?_);cases r with
 | error e=>exact False.elim Em
 | ok fl =>
  cases fl with
  | ret u =>
   obtain⟨v,H',J,rv,ev,dx,hd2,hW⟩:=I3.after Em;subst ev;cases (show u=Value.none from rv);obtain⟨t1,q1⟩:=lr (J.hok ea _ hd2);refine⟨rfl,yz (zw (wpAny_point (yC ⟨ea,t1,dx,rfl,(J.bk _ _ EI.at_),q1,?_⟩)))⟩;exact xe pins σ (del H' ea) s' ea _ _ _ (J.untrack hd2) q1 rfl rfl ⟨rfl,rfl⟩ back iA hW
  | next=>exact False.elim Em
  | brk=>exact False.elim Em
  | cont=>exact False.elim Em
end
open Builtin Builtin.ObjectAttr
section
variable {prog:Program}{w:World}{A:Around}{E:zz9->zz8->Prop}{h:Heap}{g:Array GenState}{d:Drawn}{t:Nat}{os:OsState}
 {S:List Str}{C f x:Addr}{nm q:Str}{N:Addr}{bs bm Dc:List zz9}{sn:List Str}{sub:List zz9}{ab:Bool}{col:Option Bool}{dd:Option Addr}{k0 k1 k2 k3 k5:Option zz9}{mN:Str->Option zz9}{B newId C7 sa ow:String}
 {o:Obj}{vs:Array zz9}{name:Str}{v:zz9}
theorem qR {M:Model}{nv:zz9}{Q:Unit->zz8->Prop} (K:dO S h C f nm q N bs bm Dc sn sub ab col dd k0 k1 k2 k3 k5 mN B newId C7 sa ow) (x1:h.get? x=some o) (x2:o.cls=.ref C) (hq:Q () ⟨h,g,d,t,os⟩) :
  wpAny M A (checkBuiltinCall sa ⟨[.ref x,nv,v],[]⟩) Q E ⟨h,g,d,t,os⟩:=by
 have c1:=K.at_;have cB:(Value.ref C::bm).contains (.type ow)=true:=by rw [Bm,K.tail.has K.sf.hasOwner,CW]
 have ha:=K.sf.args (.ref x) nv v;simp only [checkBuiltinCall,K.sf.kind,K.sf.split];refine yz ?_;unfold isInstance
 repeat (first | (with_reducible refine Au x1 ?_;rw [x2]) | (with_reducible refine Be c1 ?_;rw [cB]) | wp_step)
 cases hs:Manifest.signature? sa with
 | none=>exact yC hq
 | some sig =>
  simp only [argsOk,hs] at ha;show wpAny M A (Bind.checkArgs sa sig ⟨[.ref x,nv,v],[]⟩) Q E _;rw [show Bind.checkArgs sa sig ⟨[.ref x,nv,v],[]⟩=pure () from ha];exact yC hq
theorem rQ {tk:Tok}{Q:Fin->zz8->Prop} (K:dO S h C f nm q N bs bm Dc sn sub ab col dd k0 k1 k2 k3 k5 mN B newId C7 sa ow) (hS:name∈S) (hB:typeLookup (.type B) name=pure none)
  (x1:h.get? x=some o) (x2:o.cls=.ref C) (x3:o.dict=none) (x4:o.data=.fields vs)
  (hq:∀h' FH,h'.get? x=some { o with dict:=some h.objs.size }->h'.Ns1 h.objs.size (λy=>if y=name then some v else none)->(∀b u,b≠x->h.get? b=some u->h'.get? b=some u)->Q (.done (.ret .none)) ⟨h',g,d,FH,os⟩) :
  wpAny (model prog w) A (Builtin.«object.__setattr__» ⟨[.ref x,.str name tk,v],[]⟩) Q E ⟨h,g,d,t,os⟩:=by
 have c1:=K.at_;have hp:refuseLoop (.ref x) "__setattr__" bm=pure ():=K.tail.passes (K.sf.passes (.ref x));have hn:=K.no name hS;unfold Builtin.«object.__setattr__»
 repeat (first | rw [refuse_eq] | (rw [refuseLoop_ref,hp]) | (with_reducible refine Au x1 ?_;rw [x2]) | with_reducible refine wpAny_mroOf_exc c1 ?_ | with_reducible refine kM c1 K.ns hn (yT _ hS) K.tail K.sf.mro hB ?_ | wp_step)
 rw [x3,if_neg (by simp [typeHasDict])];split
 ·rename_i z
  cases z
 split
 ·rename_i c z
  rw [x4] at z;cases z
 ·generalize PH:({ cls:=.type "dict",data:=.dict #[] }:Obj)=od
  have e1:(h.push od).get? x=some o:=yB _ x1;have nx:x≠h.objs.size:=y9 (yH x1);refine yz (wpAny_alloc' (yz (wpAny_update' e1 (yC ?_))));generalize hU:(λo:Obj=>({ cls:=o.cls,dict:=some h.objs.size,data:=o.data,slots:=o.slots }:Obj))=U;have nf:(U o).isFreed=false:=by
   rw [<- hU];have z:=(Heap.get?_some_iff.mp x1).2;obtain⟨_,_,dt,_⟩:=o;cases dt <;> first | rfl | exact z
  have gd:((h.push od).update x U).get? h.objs.size=some od:=(BE _ _ _ _ nx.symm).trans (Heap.get?_push_at rfl (by rw [<- PH];rfl));have nd:((h.push od).update x U).Ns h.objs.size (λ_=>none):=⟨_,#[],_,gd,by rw [<- PH],λe he=>absurd he (by simp),λ_=>rfl⟩
  show wpAny _ _ (storeInDict h.objs.size (.str name tk) name v) _ _ _;unfold storeInDict newKeyGuard;refine yz (yC (yz (wpAny_nsSet1 (Heap.Ns1.of_empty nd) λh' n' hs=>?_)));obtain⟨oD,esD,epD,Tc,Tz,TB⟩:=n'.count (Within.cons name v Within.nil);refine yz (wpAny_lookBehind Tc (by rw [Tz];exact pastItsLine_dict (y7 TB (by rw [zk,CZ,zj];omega))) ?_)
  wp_walk
  refine hq h' _ ?_ n' λb u n q=>(hs.2 b (y9 (yH q))).trans ((BE _ _ _ _ n).trans (yB _ q));have e2:=(hs.2 x nx).trans (zu U e1 nf);rw [e2,<- hU]
theorem sU {Q:Unit->zz8->Prop} (K:dO S h C f nm q N bs bm Dc sn sub ab col dd k0 k1 k2 k3 k5 mN B newId C7 sa ow) (IV:Str.ofString "__setattr__"∈S) (hS:name∈S) (hB:typeLookup (.type B) name=pure none)
  (x1:h.get? x=some o) (x2:o.cls=.ref C) (x3:o.dict=none) (x4:o.data=.fields vs)
  (hq:∀h' FH,h'.get? x=some { o with dict:=some h.objs.size }->h'.Ns1 h.objs.size (λy=>if y=name then some v else none)->(∀b u,b≠x->h.get? b=some u->h'.get? b=some u)->Q () ⟨h',g,d,FH,os⟩) :
  wpAny (model prog w) A (setAttr (.ref x) name v) Q E ⟨h,g,d,t,os⟩:=by
 have c1:=K.at_;have b3:=K.sf.slot.bind (.ref x);have hn:=K.no _ IV;unfold setAttr callSpecial? specialOf
 repeat (any_goals (first | assumption | (with_reducible refine Au x1 ?_;rw [x2]) | with_reducible refine kM c1 K.ns hn (yT _ IV) K.tail K.sf.mro K.sf.slot.lookup ?_ | wp_step))
 refine codeAny_call_builtin K.sf.slot.plain K.sf.entry (qR K x1 x2 (rQ K hS hB x1 x2 x3 x4 λh' FH a b c=>?_))
 repeat (any_goals (first | assumption | wp_step))
 exact hq h' FH a b c
end
open Builtin Builtin.ObjectAttr
section
variable {prog:Program}{w:World}{A:Around}{E:zz9->zz8->Prop}{h:Heap}{g:Array GenState}{d:Drawn}{t:Nat}{os:OsState}
 {S:List Str}{C f x dx:Addr}{nm q:Str}{N:Addr}{bs bm Dc:List zz9}{sn:List Str}{sub:List zz9}{ab:Bool}{col:Option Bool}{dd:Option Addr}{k0 k1 k2 k3 k5:Option zz9}{mN mA:Str->Option zz9}{B newId C7 sa ow:String}
 {o:Obj}{vs:Array zz9}{name:Str}{v:zz9}
end
section
variable {X:Cx}{S:List Str}{o e value:Expr}{n:Str}{pos DH:Pos}{ta tv:TE}{C f:Addr}
def wU (C:Addr) (ta tv:TE) (n:Str):TS:=λD σ H=>tv σ H λy H1=>ta σ H1 λx H2=>∃a,x=.ref a/\H2 a=some (dv a C none)/\∀dx,H2 dx=none->dx≠a->D.nx σ (upd (upd H2 a (dv a C (some dx))) dx (.xd [(n,y)]))
theorem tZ (hC:c8 S X.base C f) (h1:Str.ofString "__setattr__"∈S) (h3:n∈S) (h4:n≠Str.ofString "__setattr__"/\n≠Str.ofString "__getattribute__"/\n≠Str.ofString "__getattr__") (ha:PE X o ta) (hv:PE X value tv) (hs:swapsWith value (some (.Attribute o n DH)) pos.line X.env=pure false:=by rfl) :
  PS X (.Assign [.Attribute o n DH] value pos) (wU C ta tv n):=by
 intro pins s σ H D I h;obtain⟨nm,q,N,bs,bm,Dc,sn,sub,ab,col,dd,k0,k1,k2,k3,k5,mN,B,newId,C7,sa,ow,EI,RE,_⟩:=hC;refine plainObj_wpAny_Assign_Attribute (C4 (hv pins s σ H _ I h) λu s1 ⟨y,H1,I1,ry,q⟩=>C4 (ha pins s1 σ H1 _ I1 q) λov s2 ⟨x,H2,I2,rx,a,ex,ea,q2⟩=>?_) hs;subst ex;obtain rfl:ov=Value.ref a:=rx;obtain⟨t0,o1⟩:=lr (I2.hok a _ ea);obtain⟨hp,g,d,tk,os⟩:=s2;refine sU (EI.stays I2.bk) h1 h3 (RE n h3 h4.1 h4.2.1 h4.2.2) o1 rfl rfl rfl λh' FH a1 a2 a3=>?_;have hn:H2 hp.objs.size=none:=I2.hok.fresh (yO _);have ne:hp.objs.size≠a:=AI (yH o1);refine⟨σ,_,?_,q2 hp.objs.size hn ne⟩;obtain⟨oD,es,ep,b1,b2⟩:=id a2;have J:=I2.write (x:=a) (e:=a) (o:=dv a C (some hp.objs.size)) (h':=h') (t':=FH) (by rw [ea];exact True.intro) (.inl rfl) (λb u n q=>a3 b u n q) ⟨_,a1⟩ (lq (t:=t0) a1);refine Inv.track (s:=⟨h',g,d,FH,os⟩) J (by rw [ag ne];exact hn) ?_ ?_ ?_ ?_ ⟨_,a2,λz=>?_⟩
 ·exact Bv I2.sz
 ·exact AI I2.lt
 ·intro y c e z
  obtain⟨v,o,ho,_⟩:=I2.cell y c e;exact absurd (yH ho) (by rw [z];exact zz _)
 ·intro p F9 z
  have:=(I2.pin p F9).1;exact absurd (yH this) (by rw [z];exact zz _)
 ·show cn (List.lookup z [(n,y)]) (if z=n then some u else none)
  by_cases c:z=n
  ·rw [c,if_pos rfl]
   have:List.lookup n [(n,y)]=some y:=by simp [List.lookup]
   rw [this];exact ry
  ·rw [if_neg c]
   have:List.lookup z [(n,y)]=none:=by
    unfold List.lookup;rw [show (z == n)=false from beq_eq_false_iff_ne.mpr c];rfl
   rw [this];exact True.intro
end
theorem qo {K:Frag}{h:Heap}{N:Addr}{m:Str->Option zz9}{x:Str}{v:zz9} (X:K.In h) (G:h.Ns N m) (e:nsIn K N x=some (some v)):m x=some v:=by
 obtain⟨o,es,ep,ho,hd,_,hf⟩:=G;unfold nsIn at e;split at e
 ·rename_i c d es' n' sl q
  have q2:=X _ _ q;rw [ho] at q2;cases q2;cases hd;split at e
  ·rename_i z hz
   rw [<- hf];unfold nsFind findBy;rw [<- Array.find?_toList,hz];simpa using e
  ·split at e <;> simp at e
 ·cases e
def gB (K:Frag) (S:List Str) (Dc:List zz9):List zz9->Bool
 | []=>Dc == []
 | v::r=>(v::r) == Dc || (match v with
  | .ref A=>(match K.lookup A with
   | some ⟨_,_,.cls cd,_⟩=>nsOkIn K cd.ns && S.all (λx=>nsIn K cd.ns x == some none) && gB K S Dc r
   | _=>false)
  | _=>false)
theorem kL {K:Frag}{h:Heap}{S:List Str}{Dc:List zz9} (X:K.In h):∀{l:List zz9},gB K S Dc l=true->bN h S Dc l
 | [],e=>by
  have z:Dc=[]:=beq_iff_eq.mp e;rw [z];exact .base
 | v::r,e=>by
  unfold gB at e
  rcases Bool.or_eq_true_iff.mp e with q | q
  ·rw [beq_iff_eq.mp q];exact .base
  ·split at q
   ·split at q
    ·rename_i ho
     simp only [An,zL,beq_iff_eq] at q;exact .own (X _ _ ho) (.of_isNs (isNs_of_in X q.1.1)) (λx hx=>nsMap_none_of_in X q.1.1 (q.1.2 x hx)) (kL X q.2)
    ·cases q
   ·cases q
def fC (K:Frag) (S:List Str) (C f:Addr) (Dc:List zz9) (newId:String):Bool:=match K.lookup C with
 | some ⟨.type "type",_,.cls cd,sl⟩=>(match cd.mro,sl.toList with
  | .ref C'::bm,[_,_,_,_,some (.builtin n),_]=>C' == C && n == newId && !cd.hasDel && cd.hasDict && gB K (Str.ofString "__init__"::S) Dc bm && nsOkIn K cd.ns && nsIn K cd.ns (Str.ofString "__init__") == some (some (.ref f)) && S.all (λx=>nsIn K cd.ns x == some none) && (match K.lookup f with | some o=>o.cls == .type "function" | none=>false)
  | _,_=>false)
 | _=>false
theorem vp {K:Frag}{h:Heap}{S:List Str}{C f:Addr}{Dc:List zz9}{newId C7 B sa ow:String} (X:K.In h) (hx:fC K S C f Dc newId=true) (b:ExcBaseFacts B newId C7 Dc) (sf:StoreFacts B Dc sa ow) (af:ExcAttrBase B Dc)
  (no:∀x∈S,x≠Str.ofString "__setattr__"->x≠Str.ofString "__getattribute__"->x≠Str.ofString "__getattr__"->typeLookup (.type B) x=pure none):c8 S h C f:=by
 unfold fC at hx;split at hx
 ·rename_i Ui cd sl heq
  split at hx
  ·rename_i C' bm k0 k1 k2 k3 n k5 hm hs
   simp only [An,Bool.not_eq_true',beq_iff_eq,zL] at hx;obtain⟨⟨⟨⟨⟨⟨⟨⟨h1,h2⟩,h3⟩,Qq⟩,h4⟩,h5⟩,h6⟩,h7⟩,h8⟩:=hx;subst h1;subst h2;have ho:=X _ _ heq;have F0:sl=#[k0,k1,k2,k3,some (.builtin n),k5]:=by
    rw [<- Array.toList_inj];exact hs
   obtain⟨nm,bs,mro,ns,qn,hdct,sn,sub,ab,col,Tw⟩:=cd;simp only at hm h3 Qq h4 h5 h6 h7;subst hm;subst h3;subst Qq;subst F0;have G:h.Ns ns (h.nsMap ns):=Heap.Ns.of_isNs (isNs_of_in X h5);refine⟨nm,qn,ns,bs,bm,Dc,sn,sub,ab,col,Ui,k0,k1,k2,k3,k5,h.nsMap ns,B,n,C7,sa,ow,⟨ho,G,qo X G h6,λx hx=>nsMap_none_of_in X h5 (h7 x hx),kL X h4,b,sf,af⟩,no,?_⟩;split at h8
   ·rename_i o hf
    exact⟨o,X _ _ hf,beq_iff_eq.mp h8⟩
   ·cases h8
  ·cases hx
 ·cases hx
def dP:List Str:=[Str.ofString "lot",Str.ofString "__setattr__",Str.ofString "__getattribute__",Str.ofString "__getattr__"]
theorem wj:∀x∈dP,x≠Str.ofString "__setattr__"->x≠Str.ofString "__getattribute__"->x≠Str.ofString "__getattr__"->typeLookup (.type "ValueError") x=pure none:=by
 intro x hx a b c;have z:x=Str.ofString "lot":=by
  unfold dP at hx;simp only [yF,zK,or_false] at hx
  rcases hx with z | z | z | z
  ·exact z
  ·exact absurd z a
  ·exact absurd z b
  ·exact absurd z c
 rw [z,Ci,Bt];kernel_rfl
abbrev LV:List zz9:=[.type "ValueError",.type "Exception",.type "BaseException",.type "object"]
theorem tK {K:Frag}{h:Heap}{C f:Addr} (X:K.In h) (hx:fC K dP C f LV "ValueError.__new__"=true):c8 dP h C f :=
 vp X hx F.excBase_ValueError F.store_ValueError F.attrBase_ValueError wj
end L2
namespace L2
open PySem PySem.Spec PyProof.Rows
inductive eB (A:Around) (s:zz8):List (zz9×zz9)->List (Bool×Bool)->Prop
 | nil:eB A s [] []
 | cons {v u:zz9}{e b:Bool}{r:List (zz9×zz9)}{cs:List (Bool×Bool)}:SeqAt.EqAt A s v u e ->
   (e=false->∀(prog:Program) (w:World) (E:zz9->zz8->Prop) (Q:zz9->zz8->Prop),Q (.bool b) s->wpAny (model prog w) A (richCompare .Lt v u) Q E s)->eB A s r cs->eB A s ((v,u)::r) ((e,b)::cs)
def ce (d:Bool):List (Bool×Bool)->Bool
 | []=>d
 | (true,_)::r=>ce d r
 | (false,b)::_=>b
section
open PySem.SeqAt
open PySem.AutoSeq1 (wpAny_loadPart')
open PySem.MeetsSeq PySem.MeetsSeq2 PySem.MeetsSeq3
theorem oR (l b:Addr) (xs ys:Array zz9) (n n2:Nat) (dd HF:Option Addr) (sl Hg:Array (Option zz9)) :
  Meets (Builtin.«tuple.__lt__» ⟨[.ref l,.ref b],[]⟩)
   (λA R s=>s.heap.get? l=some { cls:=.type "tuple",dict:=dd,data:=.seq xs n,slots:=sl }/\s.heap.get? b=some { cls:=.type "tuple",dict:=HF,data:=.seq ys n2,slots:=Hg } /\
    ∃cs,eB A.in1 s (xs.toList.zip ys.toList) cs/\R (.ok (.ret (.bool (ce (decide (xs.size < ys.size)) cs)))) s) :=
 .of_wp λprog w A R s h=>by
  obtain⟨hp,g,d,tk,os⟩:=s;obtain⟨hl,hb,cs,GV,h⟩:=h;have f2:=AutoSeq1.sub_tuple_tuple
  wp_walk using wpAny_loadPart' hl,wpAny_loadPart' hb,wpAny_forIn_list _ (λrest b s'=>b.1=none/\s'=⟨hp,g,d,tk,os⟩/\∃Jn,eB A.in1 ⟨hp,g,d,tk,os⟩ rest Jn/\R (.ok (.ret (.bool (ce (decide (xs.size < ys.size)) Jn)))) ⟨hp,g,d,tk,os⟩) _
  case turn =>
   rintro⟨y,x⟩ rest b s' ⟨Gr,rfl,Jn,hc,hR⟩;cases hc with
   | @cons _ _ e bb _ Uj he Dh hr =>
    refine yz (he prog w _ _ ?_);cases e with
    | true =>
     wp_walk
     exact⟨rfl,rfl,_,hr,hR⟩
    | false =>
     have Dw:=Dh rfl prog w
     wp_walk using Dw
     exact⟨_,rfl,by simpa [ce] using hR⟩
  case fin =>
   rintro⟨b1,b2⟩ s' ⟨Gr,rfl,Jn,hc,hR⟩;simp only at Gr;subst Gr;cases hc
   wp_walk
   exact⟨_,rfl,by simpa [Builtin.Tuple.tupleCompareSizes,ce] using hR⟩
  case h =>
   exact⟨rfl,rfl,cs,GV,h⟩
end
section
variable {prog:Program}{w:World}{A:Around}{E:zz9->zz8->Prop}{s:zz8}
theorem qU {l b:Addr}{xs ys:Array zz9}{cs:List (Bool×Bool)}{Q:zz9->zz8->Prop} (hl:IsTup s.heap l xs) (hb:IsTup s.heap b ys) (hu:A.units < cLine) (hc:eB A.in1 s (xs.toList.zip ys.toList) cs)
  (h:Q (.bool (ce (decide (xs.size < ys.size)) cs)) s):wpAny (model prog w) A (richCompare .Lt (.ref l) (.ref b)) Q E s:=by
 obtain⟨⟨cls,dd,data,sl⟩,ho,Iu,n,hd⟩:=id hl;obtain⟨⟨KM,HF,data2,Hg⟩,EA,FF,n2,hd2⟩:=id hb;simp only at Iu hd FF hd2;subst Iu hd FF hd2;exact richCompare_meets_room (op:=.Lt) ⟨_,ho,rfl⟩ ⟨_,EA,rfl⟩ PySem.F.slot_tuple_lt PySem.F.entry_tuple_lt (PySem.F.args_tuple_lt_2 _ _) (oR l b xs ys n n2 dd HF sl Hg)
  ⟨ho,EA,cs,hc,show Value.bool (ce (decide (xs.size < ys.size)) cs)≠Value.notImplemented/\Q (.bool (ce (decide (xs.size < ys.size)) cs)) s from ⟨(λx=>nomatch x),h⟩⟩ hu
end
theorem nN {l I:Nat} (h:l < I) (q:I + 1=l):False:=by omega
section
variable {prog:Program}{w:World}{A:Around}{R:Result->zz8->Prop}{I:Addr}{fp wr:List Addr}{n:Nat}{P:Nat->zz9->Prop}{St:Nat->Heap->Prop}
def nC (prog:Program) (w:World) (A:Around) (s0:zz8) (P:Nat->zz9->Prop) (St:Nat->Heap->Prop) (bt:Nat->Nat->Bool):Prop :=
 ∀i j k x y (G:Heap) (tk:Nat) (Q:zz9->zz8->Prop) (E:zz9->zz8->Prop),St k G->P i x->P j y->Q (.bool (bt i j)) { s0 with heap:=G,toks:=tk }->wpAny (model prog w) A (richCompare .Lt x y) Q E { s0 with heap:=G,toks:=tk }
theorem qz (W:Walks prog w A.in1 I fp wr n P St) (bt:Nat->Nat->Bool) {s0:zz8} (cmp:nC prog w A.in1 s0 P St bt) (S:Addr) (nS:S∉fp) :
  ∀(k j:Nat) (G0:Heap) (k0:Nat) (y:zz9) (c:Nat),n - (j + 1)=k->j + 1<=n->St (j + 1) G0->P (argBest bt j) y ->
  G0.get? S=some { cls:=.type "list",dict:=none,data:=.seq #[y,y] c,slots:=#[] } ->
  (∀v G tk,P (argBest bt (n - 1)) v->(∀b o,b∉wr->b≠S->G0.get? b=some o->G.get? b=some o)->R (.ok (.ret v)) { s0 with heap:=G,toks:=tk }) ->
  codeAny (model prog w) A (.builtin "min.loop" ⟨[.ref I,.none,.ref S],[]⟩) R { s0 with heap:=G0,toks:=k0 }:=by
 have nw:S∉wr:=λq=>nS (W.sub _ q);have nm:(toString "min"++toString ".loop":String)="min.loop":=by decide
 intro k
 induction k with
 | zero =>
  intro j G0 k0 y c hk hj st py hS hR;have ej:j + 1=n:=by omega
  refine zT Bc ?_;rw [zO zM _];refine (show wpAny _ A.in1 (seqItems? (.ref S) >>= _) _ _ { s0 with heap:=G0,toks:=k0 } from yz (zE hS rfl ?_));refine (show wpAny _ A.in1 (tryCatch (pyNext (.ref I)) _ >>= _) _ _ { s0 with heap:=G0,toks:=k0 } from yz (Ai (W.done { s0 with heap:=G0,toks:=k0 } _ _ (ej ▸ st) λG tk kp=>?_)));have D5:=kp S _ nw hS;refine (show wpAny _ A.in1 (updateSeq S (λ_=>#[]) >>= _) _ _ _ from yz (AJ D5 rfl (yz (AB (yC ?_)))));exact hR y _ tk (by rw [<- ej];exact py) λb o h1 h2 e=>(yX _ _ (zP h2)).trans (kp b o h1 e)
 | succ k ih =>
  intro j G0 k0 y c hk hj st py hS hR;have lt:j + 1 < n:=by omega
  refine zT Bc ?_;rw [zO zM _];refine (show wpAny _ A.in1 (seqItems? (.ref S) >>= _) _ _ { s0 with heap:=G0,toks:=k0 } from yz (zE hS rfl ?_));refine (show wpAny _ A.in1 (tryCatch (pyNext (.ref I)) _ >>= _) _ _ { s0 with heap:=G0,toks:=k0 } from yz (Ai (W.item (j + 1) { s0 with heap:=G0,toks:=k0 } _ _ lt st λx G tk px DW kp=>?_)));have D5:=kp S _ nw hS;refine (show wpAny _ A.in1 (tryCatch (holding [x,x] (richCompare .Lt x y >>= _)) _ >>= _) _ _ _ from yz (Ai (zw (yz (cmp (j + 1) (argBest bt j) _ x y G tk _ _ DW px py ?_)))));refine yz (zw (zZ (yz (AB (yC ?_)))));cases hb:bt (j + 1) (argBest bt j) with
  | true =>
   simp only [if_true];refine yz (AJ D5 rfl (yz (AB ?_)));rw [nm];refine yC ⟨Af zM _,ih (j + 1) _ _ x _ (by omega) lt (W.frame _ _ _ DW λb hf o e=>(yX _ _ (λq:S=b=>nS (by rw [q];exact hf))).trans e) (by simp only [argBest,hb,if_true];exact px) (zu _ D5 rfl) λv G2 Fk pv FY=>?_⟩;exact hR v G2 Fk pv λb o h1 h2 e=>FY b o h1 h2 ((yX _ _ (zP h2)).trans (kp b o h1 e))
  | false =>
   simp only [zV,if_false];refine yz (AB ?_);rw [nm];exact yC ⟨Af zM _,ih (j + 1) _ _ y c (by omega) lt DW (by simp only [argBest,hb,zV,if_false];exact py) D5 λv G2 Fk pv FY=>hR v G2 Fk pv λb o h1 h2 e=>FY b o h1 h2 (kp b o h1 e)⟩
theorem rD (W:Walks prog w A.in1 I fp wr n P St) (bt:Nat->Nat->Bool) {s0:zz8} (cmp:nC prog w A.in1 s0 P St bt) (S:Addr) (nS:S∉fp) (hn:0 < n) {G0:Heap}{k0:Nat}{c:Nat} (st:St 0 G0)
  (hS:G0.get? S=some { cls:=.type "list",dict:=none,data:=.seq #[] c,slots:=#[] })
  (hR:∀v G tk,P (argBest bt (n - 1)) v->(∀b o,b∉wr->b≠S->G0.get? b=some o->G.get? b=some o)->R (.ok (.ret v)) { s0 with heap:=G,toks:=tk }) :
  codeAny (model prog w) A (.builtin "min.loop" ⟨[.ref I,.none,.ref S],[]⟩) R { s0 with heap:=G0,toks:=k0 }:=by
 have nw:S∉wr:=λq=>nS (W.sub _ q);have nm:(toString "min"++toString ".loop":String)="min.loop":=by decide
 refine zT Bc ?_;rw [zO zM _];refine (show wpAny _ A.in1 (seqItems? (.ref S) >>= _) _ _ { s0 with heap:=G0,toks:=k0 } from yz (zE hS rfl ?_));refine (show wpAny _ A.in1 (tryCatch (pyNext (.ref I)) _ >>= _) _ _ { s0 with heap:=G0,toks:=k0 } from yz (Ai (W.item 0 { s0 with heap:=G0,toks:=k0 } _ _ hn st λx G tk px DW kp=>?_)));have D5:=kp S _ nw hS;refine (show wpAny _ A.in1 (updateSeq S (λ_=>#[x,x]) >>= _) _ _ _ from yz (AJ D5 rfl ?_));rw [nm];refine yC ⟨Af zM _,qz W bt cmp S nS _ 0 _ _ x _ rfl hn (W.frame _ _ _ DW λb hf o e=>(yX _ _ (λq:S=b=>nS (by rw [q];exact hf))).trans e) px (zu _ D5 rfl) λv G2 Fk pv FY=>?_⟩;exact hR v G2 Fk pv λb o h1 h2 e=>FY b o h1 h2 ((yX _ _ (zP h2)).trans (kp b o h1 e))
end
section
variable {prog:Program}{w:World}{A:Around}{E:zz9->zz8->Prop}{s:zz8}
theorem pA {l:Addr}{C1:Array zz9}{Q:zz9->zz8->Prop} (bt:Nat->Nat->Bool) (hh:A.handled=none) (hl:s.heap.IsList l C1) (hn:0 < C1.size)
  (cmp:∀i j x y (G:Heap) (tk:Nat) (Q:zz9->zz8->Prop) (E:zz9->zz8->Prop),(∀b o,s.heap.get? b=some o->G.get? b=some o)->C1[i]?=some x->C1[j]?=some y->Q (.bool (bt i j)) { s with heap:=G,toks:=tk }->wpAny (model prog w) A.in1 (richCompare .Lt x y) Q E { s with heap:=G,toks:=tk })
  (h:∀v G tk,C1[argBest bt (C1.size - 1)]?=some v->(∀b o,s.heap.get? b=some o->G.get? b=some o)->Q v { s with heap:=G,toks:=tk }):wpAny (model prog w) A (call (.builtin "min") [.ref l]) Q E s:=by
 have nm:(toString "min"++toString ".loop":String)="min.loop":=by decide
 have Il:l < s.heap.objs.size:=by obtain⟨_,e,_⟩:=hl;exact yH e
 refine call_function_tree F.kind_min F.plain_min F.entry_min (F.args_min1 _) ?_;refine (show wpAny _ A.in1 (Builtin.Builtins.bindParams "min" ["key","default"] 0 ⟨[],[]⟩ >>= _) _ _ s from yz (AA (show Builtin.Builtins.bindParams "min" ["key","default"] 0 ⟨[],[]⟩=pure [none,none] from rfl) (yz (yC (yz (AL hl (yz (zA ?_))))))));generalize hG:s.heap.push { cls:=.type "list_iterator",data:=.fields #[.ref l,.int 0 0] }=G;generalize hI:s.heap.objs.size=I at *;have nl:l≠I:=y9 Il;have gs:G.objs.size=I + 1:=by rw [<- hG,zo,hI]
 have W0:=Walks.list (prog:=prog) (w:=w) (A:=A.in1) hh I l nl C1
 have W:Walks prog w A.in1 I ([I,l]++List.range I) [I] C1.size (λi v=>C1[i]?=some v) (λi h=>(h.IsListIter I l i/\h.IsList l C1)/\∀b o,s.heap.get? b=some o->h.get? b=some o):={
  sub:=λb hb=>yW _ (W0.sub b hb)
  frame:=λi h h' st k=>⟨W0.frame i h h' st.1 λb hb o e=>k b (yW _ hb) o e,λb o e=>k b (yM _ (AD.mpr (by have:=yH e;rw [hI] at this;exact this))) o (st.2 b o e)⟩
  item:=λi t Q E hi st hQ=>W0.item i t Q E hi st.1 λv G' tk pv Dm k=>hQ v G' tk pv ⟨Dm,λb o e=>k b o (λz=>by
   have z':b=I:=by simpa using z
   have:=yH e;rw [hI,z'] at this
   exact absurd this (zz _)) (st.2 b o e)⟩ k
  done:=λt Q E st hQ=>W0.done t Q E st.1 hQ
  self:=λi t Q E st hQ=>W0.self i t Q E st.1 hQ }
 have nS:G.objs.size∉[I,l]++List.range I:=λz=>by
  rw [gs] at z
  rcases yQ.mp z with q | q
  ·simp only [yF,zK,or_false] at q
   rcases q with q | q
   ·exact absurd q (Nat.succ_ne_self I)
   ·exact (nN Il q).elim
  ·exact absurd (AD.mp q) (Nat.not_lt_of_lt (AR I))
 have kp:∀b o,s.heap.get? b=some o->G.get? b=some o:=λb o e=>by rw [<- hG];exact yB _ e
 have L7:G.IsListIter I l 0/\G.IsList l C1:=⟨⟨_,by rw [<- hG,<- hI];exact yN _ rfl,rfl,rfl⟩,by rw [<- hG];exact hl.push _⟩
 rw [nm];refine yC ⟨Af zM _,rD (s0:=s) W bt (λi j k x y G' tk Q E st px py hq=>cmp i j x y G' tk Q E st.2 px py hq) G.objs.size nS hn (W.frame 0 G _ ⟨L7,kp⟩ λb _ o e=>yB _ e) (yN _ rfl) λv G' tk pv k=>?_⟩
 exact h v G' tk pv λb o e=>k b o (λz=>by
  have z':b=I:=by simpa using z
  have:=yH e;rw [hI,z'] at this
  exact absurd this (zz _)) (λz=>by
  have:=yH (kp b o e);rw [z] at this
  exact absurd this (zz _)) (yB _ (kp b o e))
end
section
variable {prog:Program}{w:World}{A:Around}{R:Result->zz8->Prop}{I:Addr}{fp wr:List Addr}{n:Nat}{P:Nat->zz9->Prop}{St:Nat->Heap->Prop}{EZ:String}{d:zz9}
def nj (prog:Program) (w:World) (A:Around) (s0:zz8) (P:Nat->zz9->Prop) (St:Nat->Heap->Prop) (EZ:String) (kf:Nat->Int):Prop :=
 ∀i k x (G:Heap) (tk:Nat) (Q:zz9->zz8->Prop) (E:zz9->zz8->Prop),St k G->P i x->(∀t FH,Q (.int (kf i) t) { s0 with heap:=G,toks:=FH })->wpAny (model prog w) A (call (.builtin EZ) [x]) Q E { s0 with heap:=G,toks:=tk }
def DQ (kf:Nat->Int) (i j:Nat):Bool:=decide (kf i < kf j)
abbrev nP (d:zz9):List (Str×zz9):=[(Str.ofString "default",d)]
theorem pL (W:Walks prog w A.in1 I fp wr n P St) (kf:Nat->Int) {s0:zz8} (key:nj prog w A.in1 s0 P St EZ kf) (S:Addr) (nS:S∉fp) :
  ∀(k j:Nat) (G0:Heap) (k0:Nat) (y:zz9) (t:Tok) (c:Nat),n - (j + 1)=k->j + 1<=n->St (j + 1) G0->P (argBest (DQ kf) j) y ->
  G0.get? S=some { cls:=.type "list",dict:=none,data:=.seq #[y,.int (kf (argBest (DQ kf) j)) t] c,slots:=#[] } ->
  (∀v G tk,P (argBest (DQ kf) (n - 1)) v->(∀b o,b∉wr->b≠S->G0.get? b=some o->G.get? b=some o)->R (.ok (.ret v)) { s0 with heap:=G,toks:=tk }) ->
  codeAny (model prog w) A (.builtin "min.loop" ⟨[.ref I,.builtin EZ,.ref S],nP d⟩) R { s0 with heap:=G0,toks:=k0 }:=by
 have nw:S∉wr:=λq=>nS (W.sub _ q);have nm:(toString "min"++toString ".loop":String)="min.loop":=by decide
 intro k
 induction k with
 | zero =>
  intro j G0 k0 y t c hk hj st py hS hR;have ej:j + 1=n:=by omega
  refine zT Bc ?_;rw [zO zM _];refine (show wpAny _ A.in1 (seqItems? (.ref S) >>= _) _ _ { s0 with heap:=G0,toks:=k0 } from yz (zE hS rfl ?_));refine (show wpAny _ A.in1 (tryCatch (pyNext (.ref I)) _ >>= _) _ _ { s0 with heap:=G0,toks:=k0 } from yz (Ai (W.done { s0 with heap:=G0,toks:=k0 } _ _ (ej ▸ st) λG tk kp=>?_)));have D5:=kp S _ nw hS;refine (show wpAny _ A.in1 (updateSeq S (λ_=>#[]) >>= _) _ _ _ from yz (AJ D5 rfl (yz (AB (yC ?_)))));exact hR y _ tk (by rw [<- ej];exact py) λb o h1 h2 e=>(yX _ _ (zP h2)).trans (kp b o h1 e)
 | succ k ih =>
  intro j G0 k0 y t c hk hj st py hS hR;have lt:j + 1 < n:=by omega
  refine zT Bc ?_;rw [zO zM _];refine (show wpAny _ A.in1 (seqItems? (.ref S) >>= _) _ _ { s0 with heap:=G0,toks:=k0 } from yz (zE hS rfl ?_));refine (show wpAny _ A.in1 (tryCatch (pyNext (.ref I)) _ >>= _) _ _ { s0 with heap:=G0,toks:=k0 } from yz (Ai (W.item (j + 1) { s0 with heap:=G0,toks:=k0 } _ _ lt st λx G tk px DW kp=>?_)));have D5:=kp S _ nw hS;refine (show wpAny _ A.in1 (tryCatch (holding [x] (call (.builtin EZ) [x])) _ >>= _) _ _ _ from yz (Ai (zw (key (j + 1) _ x G tk _ _ DW px λu Fk=>?_))));refine (show wpAny _ A.in1 (tryCatch (holding [x,.int (kf (j + 1)) u] (richCompare .Lt (.int (kf (j + 1)) u) (.int (kf (argBest (DQ kf) j)) t) >>= _)) _ >>= _) _ _ _ from yz (Ai (zw (yz (HT.yj _ _ _ _ _ _ _ _ _ _ ?_)))));refine yz (zw (zZ (yz (AB (yC ?_)))))
  by_cases hb:kf (j + 1) < kf (argBest (DQ kf) j)
  ·have Gr:DQ kf (j + 1) (argBest (DQ kf) j)=true:=decide_eq_true hb
   have ea:argBest (DQ kf) (j + 1)=j + 1:=by simp only [argBest,Gr,if_true]
   simp only [hb,decide_true,if_true];refine yz (AJ D5 rfl (yz (AB ?_)));rw [nm];refine yC ⟨Af zM _,ih (j + 1) _ _ x u _ (by omega) lt (W.frame _ _ _ DW λb hf o e=>(yX _ _ (λq:S=b=>nS (by rw [q];exact hf))).trans e) (by rw [ea];exact px) (by rw [ea];exact zu _ D5 rfl) λv G2 Fk pv FY=>?_⟩;exact hR v G2 Fk pv λb o h1 h2 e=>FY b o h1 h2 ((yX _ _ (zP h2)).trans (kp b o h1 e))
  ·have Gr:DQ kf (j + 1) (argBest (DQ kf) j)=false:=decide_eq_false hb
   have ea:argBest (DQ kf) (j + 1)=argBest (DQ kf) j:=by simp only [argBest,Gr,zV,if_false]
   simp only [hb,decide_false,zV,if_false];refine yz (AB ?_);rw [nm];exact yC ⟨Af zM _,ih (j + 1) _ _ y t c (by omega) lt DW (by rw [ea];exact py) (by rw [ea];exact D5) λv G2 Fk pv FY=>hR v G2 Fk pv λb o h1 h2 e=>FY b o h1 h2 (kp b o h1 e)⟩
theorem qi (W:Walks prog w A.in1 I fp wr n P St) (kf:Nat->Int) {s0:zz8} (key:nj prog w A.in1 s0 P St EZ kf) (S:Addr) (nS:S∉fp) {G0:Heap}{k0:Nat}{c:Nat} (st:St 0 G0)
  (hS:G0.get? S=some { cls:=.type "list",dict:=none,data:=.seq #[] c,slots:=#[] })
  (hR:0 < n->∀v G tk,P (argBest (DQ kf) (n - 1)) v->(∀b o,b∉wr->b≠S->G0.get? b=some o->G.get? b=some o)->R (.ok (.ret v)) { s0 with heap:=G,toks:=tk })
  (hD:n=0->∀G tk,(∀b o,b∉wr->b≠S->G0.get? b=some o->G.get? b=some o)->R (.ok (.ret d)) { s0 with heap:=G,toks:=tk }) :
  codeAny (model prog w) A (.builtin "min.loop" ⟨[.ref I,.builtin EZ,.ref S],nP d⟩) R { s0 with heap:=G0,toks:=k0 }:=by
 have nw:S∉wr:=λq=>nS (W.sub _ q);have nm:(toString "min"++toString ".loop":String)="min.loop":=by decide
 refine zT Bc ?_;rw [zO zM _];refine (show wpAny _ A.in1 (seqItems? (.ref S) >>= _) _ _ { s0 with heap:=G0,toks:=k0 } from yz (zE hS rfl ?_))
 rcases Nat.eq_zero_or_pos n with e0 | hn
 ·refine (show wpAny _ A.in1 (tryCatch (pyNext (.ref I)) _ >>= _) _ _ { s0 with heap:=G0,toks:=k0 } from yz (Ai (W.done { s0 with heap:=G0,toks:=k0 } _ _ (e0 ▸ st) λG tk kp=>?_)))
  refine (show wpAny _ A.in1 (rule _ >>= _) _ _ _ from yz (AV (yC ?_)));exact hD e0 G tk λb o h1 _ e=>kp b o h1 e
 refine (show wpAny _ A.in1 (tryCatch (pyNext (.ref I)) _ >>= _) _ _ { s0 with heap:=G0,toks:=k0 } from yz (Ai (W.item 0 { s0 with heap:=G0,toks:=k0 } _ _ hn st λx G tk px DW kp=>?_)));have D5:=kp S _ nw hS;refine (show wpAny _ A.in1 (tryCatch (holding [x] (call (.builtin EZ) [x])) _ >>= _) _ _ _ from yz (Ai (zw (key 0 _ x G tk _ _ DW px λu Fk=>?_))));refine (show wpAny _ A.in1 (updateSeq S (λ_=>#[x,.int (kf 0) u]) >>= _) _ _ _ from yz (AJ D5 rfl ?_));rw [nm];refine yC ⟨Af zM _,pL W kf key S nS _ 0 _ _ x u _ rfl hn (W.frame _ _ _ DW λb hf o e=>(yX _ _ (λq:S=b=>nS (by rw [q];exact hf))).trans e) px (zu _ D5 rfl) λv G2 Fk pv FY=>?_⟩;exact hR hn v G2 Fk pv λb o h1 h2 e=>FY b o h1 h2 ((yX _ _ (zP h2)).trans (kp b o h1 e))
end
theorem qK (a k v:zz9):argsOk "min" ⟨[a],[(Str.ofString "key",k),(Str.ofString "default",v)]⟩:=by unfold argsOk;kernel_rfl
section
variable {prog:Program}{w:World}{A:Around}{E:zz9->zz8->Prop}{s:zz8}
theorem oX {l:Addr}{C1:Array zz9}{Q:zz9->zz8->Prop}{EZ:String}{d:zz9} (kf:Nat->Int) (hh:A.handled=none) (hl:s.heap.IsList l C1)
  (key:∀i x (G:Heap) (tk:Nat) (Q:zz9->zz8->Prop) (E:zz9->zz8->Prop),(∀b o,s.heap.get? b=some o->G.get? b=some o)->C1[i]?=some x->(∀t FH,Q (.int (kf i) t) { s with heap:=G,toks:=FH })->wpAny (model prog w) A.in1 (call (.builtin EZ) [x]) Q E { s with heap:=G,toks:=tk })
  (h:0 < C1.size->∀v G tk,C1[argBest (DQ kf) (C1.size - 1)]?=some v->(∀b o,s.heap.get? b=some o->G.get? b=some o)->Q v { s with heap:=G,toks:=tk })
  (hd:C1.size=0->∀G tk,(∀b o,s.heap.get? b=some o->G.get? b=some o)->Q d { s with heap:=G,toks:=tk }):wpAny (model prog w) A (call (.builtin "min") [.ref l] [(Str.ofString "key",.builtin EZ),(Str.ofString "default",d)]) Q E s:=by
 have nm:(toString "min"++toString ".loop":String)="min.loop":=by decide
 have Il:l < s.heap.objs.size:=by obtain⟨_,e,_⟩:=hl;exact yH e
 refine kmb_tree F.kind_min F.plain_min F.entry_min (qK _ _ _) ?_;refine (show wpAny _ A.in1 (Builtin.Builtins.bindParams "min" ["key","default"] 0 ⟨[],[(Str.ofString "key",.builtin EZ),(Str.ofString "default",d)]⟩ >>= _) _ _ s from yz (AA (show Builtin.Builtins.bindParams "min" ["key","default"] 0 ⟨[],[(Str.ofString "key",.builtin EZ),(Str.ofString "default",d)]⟩=pure [some (.builtin EZ),some d] from rfl) (yz (yC (yz (AL hl (yz (zA ?_))))))));generalize hG:s.heap.push { cls:=.type "list_iterator",data:=.fields #[.ref l,.int 0 0] }=G;generalize hI:s.heap.objs.size=I at *;have nl:l≠I:=y9 Il;have gs:G.objs.size=I + 1:=by rw [<- hG,zo,hI]
 have W0:=Walks.list (prog:=prog) (w:=w) (A:=A.in1) hh I l nl C1
 have W:Walks prog w A.in1 I ([I,l]++List.range I) [I] C1.size (λi v=>C1[i]?=some v) (λi h=>(h.IsListIter I l i/\h.IsList l C1)/\∀b o,s.heap.get? b=some o->h.get? b=some o):={
  sub:=λb hb=>yW _ (W0.sub b hb)
  frame:=λi h h' st k=>⟨W0.frame i h h' st.1 λb hb o e=>k b (yW _ hb) o e,λb o e=>k b (yM _ (AD.mpr (by have:=yH e;rw [hI] at this;exact this))) o (st.2 b o e)⟩
  item:=λi t Q E hi st hQ=>W0.item i t Q E hi st.1 λv G' tk pv Dm k=>hQ v G' tk pv ⟨Dm,λb o e=>k b o (λz=>by
   have z':b=I:=by simpa using z
   have:=yH e;rw [hI,z'] at this
   exact absurd this (zz _)) (st.2 b o e)⟩ k
  done:=λt Q E st hQ=>W0.done t Q E st.1 hQ
  self:=λi t Q E st hQ=>W0.self i t Q E st.1 hQ }
 have nS:G.objs.size∉[I,l]++List.range I:=λz=>by
  rw [gs] at z
  rcases yQ.mp z with q | q
  ·simp only [yF,zK,or_false] at q
   rcases q with q | q
   ·exact absurd q (Nat.succ_ne_self I)
   ·exact (nN Il q).elim
  ·exact absurd (AD.mp q) (Nat.not_lt_of_lt (AR I))
 have kp:∀b o,s.heap.get? b=some o->G.get? b=some o:=λb o e=>by rw [<- hG];exact yB _ e
 have L7:G.IsListIter I l 0/\G.IsList l C1:=⟨⟨_,by rw [<- hG,<- hI];exact yN _ rfl,rfl,rfl⟩,by rw [<- hG];exact hl.push _⟩
 have back:∀{G':Heap}{H:Heap},(∀b o,G.get? b=some o->H.get? b=some o)->(∀b o,b∉[I]->b≠G.objs.size->H.get? b=some o->G'.get? b=some o)->∀b o,s.heap.get? b=some o->G'.get? b=some o:=λ{G' H} k1 k b o e=>k b o (λz=>by
  have z':b=I:=by simpa using z
  have:=yH e;rw [hI,z'] at this
  exact absurd this (zz _)) (λz=>by
  have:=yH (kp b o e);rw [z] at this
  exact absurd this (zz _)) (k1 b o (kp b o e))
 rw [nm]
 exact yC ⟨Af zM _,qi (s0:=s) W kf (λi k x G' tk Q E st px hq=>key i x G' tk Q E st.2 px hq) G.objs.size nS (W.frame 0 G _ ⟨L7,kp⟩ λb _ o e=>yB _ e) (yN _ rfl)
  (λhn v G' tk pv k=>h hn v G' tk pv (back (λb o e=>yB _ e) k)) λhn G' tk k=>hd hn G' tk (back (λb o e=>yB _ e) k)⟩
end
abbrev gH (ts:List (Addr×List V)):List V:=ts.map λx=>V.ref x.1
def ck (ts:List (Addr×List V)) (i:Nat):Int:=((ts[i]?).map λx=>(x.2.length:Int)).getD 0
def shortest (ts:List (Addr×List V)):Nat:=argBest (DQ (ck ts)) (ts.length - 1)
theorem jH (bt:Nat->Nat->Bool):∀n,argBest bt n<=n
 | 0=>yO _
 | n + 1=>by
  have:=jH bt n;simp only [argBest];split <;> omega
theorem gS (kf:Nat->Int):∀n j,j<=n->kf (argBest (DQ kf) n)<=kf j
 | 0,j,h=>by
  have:j=0:=by omega
  subst this;exact Int.le_refl _
 | n + 1,j,h=>by
  have ih:=gS kf n;simp only [argBest]
  by_cases c:kf (n + 1) < kf (argBest (DQ kf) n)
  ·have c':DQ kf (n + 1) (argBest (DQ kf) n)=true:=decide_eq_true c
   rw [if_pos c']
   by_cases e:j=n + 1
   ·subst e;exact Int.le_refl _
   ·have:=ih j (by omega);omega
  ·have c':DQ kf (n + 1) (argBest (DQ kf) n)=false:=decide_eq_false c
   rw [if_neg (by rw [c'];exact yU)]
   by_cases e:j=n + 1
   ·subst e;omega
   ·exact ih j (by omega)
theorem oY {ts:List (Addr×List V)}{x:Addr×List V} (h:ts[shortest ts]?=some x):∀y∈ts,x.2.length<=y.2.length:=λy hy=>by
 obtain⟨j,hj,e⟩:=Ad hy;have hm:=gS (ck ts) (ts.length - 1) j (by omega);have e1:ck ts (argBest (DQ (ck ts)) (ts.length - 1))=x.2.length:=by
  have h':ts[argBest (DQ (ck ts)) (ts.length - 1)]?=some x:=h;unfold ck at h' ⊢;rw [h'];rfl
 have e2:ck ts j=y.2.length:=by
  unfold ck;rw [yJ hj,e];rfl
 rw [e1,e2] at hm;omega
section
variable {X:Cx}{p p2 p3 p4 p5 pos:Pos}{e:Expr}{t:TE}{j:Nat}
def wX (K:zz7) (t:TE):TE:=λσ H Q=>t σ H λx H1=>∃(q:Addr) (ts:List (Addr×List V)),x=.ref q/\C3 K H1 q (gH ts)/\(∀x∈ts,H1 x.1=some (.tup x.2)) /\
 (∀x,ts[shortest ts]?=some x->Q (.ref x.1) H1)/\(ts=[]->Q .non H1)
theorem rj (hc:X.calm=true) {pins:List (Addr×Obj)}{s:zz8}{σ:St}{H:Hp}{Q:VK}{q:Addr}{ts:List (Addr×List V)} (I:Inv X pins σ H s) (hq:C3 X.K H q (gH ts)) (ht:∀x∈ts,H x.1=some (.tup x.2))
  (h:∀x,ts[shortest ts]?=some x->Q (.ref x.1) H) (h0:ts=[]->Q .non H) :
  wpAny (model X.prog X.w) X.A (call (.builtin "min") [.ref q] [(Str.ofString "key",.builtin "len"),(Str.ofString "default",.none)]) (EP X pins σ Q) X.xe s:=by
 obtain⟨C1,r',pl,hz⟩:=I.list hq;have C6:=r'.length;rw [yA] at C6;have hn:=eD;have hs:sizeLine=16777216:=zj;have Eh:∀(i:Nat) (v:zz9),C1.toArray[i]?=some v->∃x,ts[i]?=some x/\v=Value.ref x.1:=λi v hv=>by
  have Ic:C1[i]?=some v:=by simpa using hv
  have hi:i < ts.length:=by rw [C6];exact (yV.mp Ic).1
  have e1:(gH ts)[i]?=some (V.ref ts[i].1):=by rw [yR,yJ hi];rfl
  obtain⟨w',e2,DY⟩:=r'.get e1;rw [Ic] at e2;cases e2;exact⟨ts[i],yJ hi,DY⟩
 refine oX (ck ts) (I.ok.hd hc) pl.isList (λi x G tk Q' E' hk hx hQ=>?_) (λ_ v G tk hv hk=>?_) λh' G tk hk=>?_
 ·obtain⟨a,ha,rfl⟩:=Eh i x hx
  have I':Inv X pins σ H { s with heap:=G,toks:=tk }:=I.kept hk;obtain⟨ia,ra,ta,Lv⟩:=I'.tuple (C2.of (ht a (yP ha)));have E7:=ra.length;have e1:ck ts i=(ia.toArray.size:Int):=by
   unfold ck;rw [ha,yS,<- E7];rfl
  refine len_tuple ta (by simp only [yS] <;> omega) ?_;rw [<- e1];exact hQ _ _
 ·rw [yS,<- C6] at hv
  obtain⟨x,hx,rfl⟩:=Eh _ v hv;exact⟨.ref x.1,H,I.kept hk,rfl,h x hx⟩
 ·rw [yS,<- C6] at h'
  exact⟨.non,H,I.kept hk,rfl,h0 (AQ.mp h')⟩
theorem uu (hc:X.calm=true) (hg:Gl X "min") (hm:X.mg "min"=none) (Kr:Gl X "len") (Ti:X.mg "len"=none) (ha:PE X e t)
  (hs:starEach [e] X.env=(false,eval e X.env)::starEach [] X.env:=by rfl) :
  PE X (.Call (.Name "min" p) [e] [⟨some "key",.Name "len" p2,p3⟩,⟨some "default",.Constant .none j p4,p5⟩] pos) (wX X.K t):=by
 intro pins s σ H Q I h;refine Bh (dE I hg hm (u:=.builtin "min") rfl ?_);refine callWith_kw ?_ (by rw [hs];rfl) (by rw [hs];rfl);rw [hs];show wpAny _ _ (spliced ((false,eval e X.env)::[])) _ _ s;refine BK (C4 (ha pins s σ H _ I h) λu s1 ⟨x,H1,I1,r1,q1⟩=>Cz ?_);obtain⟨q,ts,rfl,hq,ht,h1,h0⟩:=q1;cases r1;refine kws_cons (dE I1 Kr Ti (u:=.builtin "len") rfl (kws_cons (Constant_none (kws_nil ?_))));exact rj hc I1 hq ht h1 h0
end
end L2
namespace L2
open PySem PySem.Spec PyProof.Rows PySem.W PySem.Calls
section
variable {prog:Program}{w:World}
theorem uE {d:Addr}{o:Obj}{es:Array DictEntry}{ep:Nat} (lo:(d == sysModules)=false) (ex:o.ExactDict) (hd:o.data=.dict es ep):KdlSrc prog w "dict" d d es.size (λi v=>(es[i]?).map (·.key)=some v) (λh=>h.get? d=some o) where
 type:=λ_ e=>⟨o,e,ex.1⟩
 there:=λ_ e=>⟨yH e,yH e⟩
 keep:=λ_ _ e k=>k d (.inl rfl) o e
 notList:=by decide
 notTuple:=by decide
 hint:=λ_ _ _ _ e q=>kdl_hint_dict ⟨o,e,ex.1⟩ q
 iter:=λA s hh e=>by
  have nd:d≠s.heap.objs.size:=y9 (yH e);refine⟨_,λi h=>h.IsKeyIter s.heap.objs.size d i es.size ep/\h.get? d=some o,λE Q q=>mf lo e ex hd q,?_,⟨_,yN _ rfl,rfl,rfl⟩,yB _ e⟩
  exact {
   sub:=λb hb=>by rw [yK.mp hb];simp
   frame:=λi h h' st k=>⟨st.1.at λo e=>k _ (by simp) o e,k d (by simp) o st.2⟩
   item:=λi s' Q E hi st hQ=>lj st.1 st.2 hd hi λG hG sb=>hQ _ G s'.toks (by rw [zp hi];rfl) ⟨hG,(sb.2 d nd).trans st.2⟩ λb o' hb e'=>(sb.2 b (by simpa using hb)).trans e'
   done:=λs' Q E st hQ=>mw hh st.1 st.2 hd (yO _) λG eb=>hQ G s'.toks λb o' hb e'=>eb b o' (by simpa using hb) e'
   self:=λi s' Q E st hQ=>wpAny_pyIter_keyiter st.1 hQ }
end
section
variable {X:Cx}
theorem qg (hc:X.calm=true):aZ X (.type "list") (λxs H Q=>∃(a:Addr) (kvs:List (List Key×V)),xs=[.ref a]/\H a=some (.dT kvs) /\
  ∀(ts:List Addr) (l:Addr),ts.length=kvs.length->(∀(i:Nat) (p:List Key×V) (b:Addr),kvs[i]?=some p->ts[i]?=some b->H b=some (.tup (p.1.map kV)))->H l=none->Q (.ref l) (upd H l (.lst (ts.map V.ref)))):=by
 intro pins s σ H xs us Q I r h;obtain⟨a,kvs,rfl,ha,q⟩:=h;obtain⟨u,rfl,rx⟩:=vals1 r;cases rx;obtain⟨hz,nd,ys,rel,o,es,ep,ho,ex,hd,h3,_⟩:=(show aF X.prog X.w H s.heap a (.dT kvs) from I.hok a _ ha)
 have hl:=BA rel;have Nt:es.size=ys.length:=size_of_entries h3;refine kdl_call (uE nd ex hd) (I.ok.hd hc) ho (by omega) λh' tk C5 c kp hn GY=>?_;have hit:∀(j:Nat) (v:zz9),C5[j]?=some v->∃y,ys[j]?=some y/\v=.ref y.2.1:=λj v hv=>by
  have hj:(es[j]?).map (·.key)=some v:=GY.2 j v hv;have e3:=entry_at h3 j;rw [e3] at hj;cases c:ys[j]? with
  | none=>rw [c] at hj;cases hj
  | some y =>
   rw [c] at hj;simp only [A2,Option.some.injEq] at hj;exact⟨y,rfl,by rw [<- hj];rfl⟩
 have KA:C5.toList=(ys.map λy=>y.2.1).map Value.ref:=by
  refine List.ext_getElem? λj=>?_
  by_cases hj:j < C5.size
  ·obtain⟨y,h1,h2⟩:=hit j C5[j] (zp hj)
   rw [zS,zp hj,yR,yR,h1,h2];rfl
  ·rw [zS,AW (by omega),B7]
   rw [yA,yA,<- Nt,<- GY.1];omega
 have hv:∀l:List Addr,aq (l.map V.ref) (l.map Value.ref):=λl=>by
  induction l with
  | nil=>exact .nil
  | cons x l ih=>exact .cons rfl ih
 refine⟨.ref s.heap.objs.size,_,I.laid (t':=tk) kp (yO _) (show aF X.prog X.w _ h' _ (.lst ((ys.map λy=>y.2.1).map V.ref)) from ⟨by rw [yA,yA];omega,C5.toList,c,by rw [KA];exact hv _,by rw [Cf];exact hn⟩),rfl,q _ _ (by rw [yA];omega) (λi p b hp hb=>?_) (I.hok.fresh (yO _))⟩;obtain⟨y,hy,r1,r2,r3⟩:=Paired.at rel hp;rw [yR,hy] at hb;cases hb;exact r2
end
end L2
namespace CP
open PySem L2 PySem.Spec PyProof.Rows PySem.W PySem.Calls
def br:List Str->List Str->Bool
 | x::xs,y::ys=>if x=y then br xs ys else decide (x.cps.toList < y.cps.toList)
 | [],_::_=>true
 | _,[]=>false
def dr (fin:Bool):List Str->List Str->Bool
 | x::xs,y::ys=>if x=y then dr fin xs ys else decide (x.cps.toList < y.cps.toList)
 | _,_=>fin
theorem lO:∀ss ts:List Str,dr (decide (ss.length < ts.length)) ss ts=br ss ts
 | [],[]=>rfl
 | [],_::_=>by simp [dr,br]
 | _::_,[]=>by simp [dr,br]
 | x::xs,y::ys=>by
  have ih:=lO xs ys;simp only [dr,br,zk];have e:decide (xs.length + 1 < ys.length + 1)=decide (xs.length < ys.length):=by simp
  rw [e,ih]
theorem lQ:∀a:List Str,br a a=false
 | []=>rfl
 | x::xs=>by simp [br,lQ xs]
theorem mh:∀a b:List Str,a≠b->br a b=true\/br b a=true
 | [],[],h=>absurd rfl h
 | [],_::_,_=>.inl rfl
 | _::_,[],_=>.inr rfl
 | x::xs,y::ys,h=>by
  by_cases e:x=y
  ·subst e
   have:=mh xs ys (λz=>h (by rw [z]));simpa [br] using this
  ·have e':y≠x:=λz=>e z.symm
   simp only [br,if_neg e,if_neg e'];exact (iG e).imp decide_eq_true decide_eq_true
theorem iE (b:List Str):br b []=false:=by cases b <;> rfl
theorem vG:∀a b c:List Str,br a b=true->br b c=true->br a c=true:=by
 intro a
 induction a with
 | nil =>
  intro b c _ h2;cases c with
  | nil=>rw [iE] at h2;cases h2
  | cons z zs=>rfl
 | cons x xs ih =>
  intro b c h1 h2;cases b with
  | nil=>rw [iE] at h1;cases h1
  | cons y ys =>
   cases c with
   | nil=>rw [iE] at h2;cases h2
   | cons z zs =>
    by_cases e:x=y
    ·subst e
     by_cases e2:x=z
     ·subst e2
      simp only [br,if_pos] at h1 h2 ⊢;exact ih ys zs h1 h2
     ·simp only [br,if_neg e2] at h2 ⊢
      exact h2
    ·simp only [br,if_neg e] at h1
     by_cases e2:y=z
     ·subst e2
      simp only [br,if_neg e];exact h1
     ·simp only [br,if_neg e2] at h2
      have l:=Cv (of_decide_eq_true h1) (of_decide_eq_true h2);have e3:x≠z:=λq=>by subst q;exact absurd l (BQ _)
      simp only [br,if_neg e3];exact decide_eq_true l
def dM (ss ts:List Str):List (Bool×Bool):=(ss.zip ts).map λp=>(p.1 == p.2,decide (p.1.cps.toList < p.2.cps.toList))
theorem lV {A:Around}{s:zz8}:∀{vs ws:List zz9}{ss ts:List Str},StrsAre vs ss->StrsAre ws ts->eB A s (vs.zip ws) (dM ss ts)
 | _,_,_,_,.nil,_=>by
  rw [List.zip_nil_left];unfold dM;rw [List.zip_nil_left];exact .nil
 | _,_,_,_,.cons x t h,.nil=>by
  rw [List.zip_nil_right];unfold dM;rw [List.zip_nil_right];exact .nil
 | _,_,_,_,.cons x t h,.cons y u g=>by
  rw [List.zip_cons_cons];exact .cons (SeqAt.EqAt.str_str x t y u) (λ_ prog w E Q q=>(PySem.P.lt_str (by simpa using q):wpAny (model prog w) A (compareOp .Lt (.str x t) (.str y u)) Q E s)) (lV h g)
theorem kT (fin:Bool):∀ss ts:List Str,ce fin (dM ss ts)=dr fin ss ts
 | [],_=>by simp [dM,ce,dr]
 | _::_,[]=>by simp [dM,ce,dr]
 | x::xs,y::ys=>by
  have ih:=kT fin xs ys;unfold dM at ih ⊢;rw [List.zip_cons_cons,y0]
  by_cases e:x=y
  ·subst e
   simp only [beq_self_eq_true,ce,dr,if_true];exact ih
  ·have eb:(x == y)=false:=by simpa using e
   simp only [eb,ce,dr,if_neg e]
abbrev Pr:=Addr×Addr×List Str×Int
abbrev dn (prs:List Pr):List V:=prs.map λx=>V.ref x.1
def jt (H:Hp) (prs:List Pr):Prop:=∀x∈prs,H x.1=some (.tup [.ref x.2.1,.int x.2.2.2])/\H x.2.1=some (.tup (x.2.2.1.map V.str))
theorem lp {P:Program}{w:World}{H:Hp}{h:Heap} (ok:Ds P w H h) {prs:List Pr} (hL:jt H prs) {us:List zz9} (r:aq (dn prs) us) (i:Nat) (hi:i < us.length) :
  ∃x∈prs,x.2.2.1=(prs.map (·.2.2.1)).getD i []/\us.getD i Value.none=.ref x.1/\∃o n t,h.get? x.1=some o/\o.cls=.type "tuple"/\o.data=.seq #[.ref x.2.1,.int x.2.2.2 t] n:=by
 have hl:=r.length;rw [yA] at hl;have Eb:i < prs.length:=by omega
 have e1:(dn prs)[i]?=some (V.ref prs[i].1):=by rw [yR,yJ Eb];rfl
 obtain⟨u,e2,ru⟩:=r.get e1;cases ru;have em:(prs.map (·.2.2.1)).getD i []=prs[i].2.2.1:=by rw [zd,yR,yJ Eb];rfl
 obtain⟨_,C1,rv,o,ho,hc,n,hd⟩:=(show aF P w H h prs[i].1 (.tup [.ref prs[i].2.1,.int prs[i].2.2.2]) from ok _ _ (hL prs[i] (zx Eb)).1)
 obtain⟨u1,u2,rfl,r1,t,r2⟩:=vals2 rv;cases r1;subst r2;exact⟨prs[i],zx Eb,em.symm,by rw [zd,e2];rfl,o,n,t,ho,hc,hd⟩
theorem nH {P:Program}{w:World}{H:Hp}{h:Heap} (ok:Ds P w H h):∀{prs:List Pr}{us:List zz9},jt H prs->aq (dn prs) us->KatTups h us (prs.map λx=>Value.ref x.2.1)
 | [],_,_,.nil=>.nil
 | x::t,_,hL,.cons rx rt=>by
  have k:=nH ok (prs:=t) (λy hy=>hL y (yT _ hy)) rt;cases rx;obtain⟨_,C1,rv,o,ho,hc,n,hd⟩:=(show aF P w H h x.1 (.tup [.ref x.2.1,.int x.2.2.2]) from ok _ _ (hL x yG).1)
  obtain⟨u1,u2,rfl,r1,r2⟩:=vals2 rv;cases r1;exact KatTups.cons ho hc hd (by simp) k
theorem ye {X:Cx} (hu:X.A.units + 8 < cLine):aZ X (.builtin "sorted") (λxs H Q=>∃(p:Addr) (prs:List Pr),xs=[.ref p]/\C3 X.K H p (dn prs)/\jt H prs/\prs.length < 64/\(prs.map (·.2.2.1)).Nodup /\
  ∀(Dx:List Pr) (q:Addr),Dx.Perm prs->(Dx.map (·.2.2.1)).Pairwise (λa b=>br a b=true)->H q=none->Q (.ref q) (upd H q (.lst (dn Dx)))):=by
 intro pins s σ H xs us Q I r h;obtain⟨p,prs,rfl,hq,hL,HD,Do,q⟩:=h;obtain⟨u,rfl,rx⟩:=vals1 r;cases rx;obtain⟨C1,r',pl,hz⟩:=I.list hq;obtain⟨o,ho,hc,n,hd⟩:=pl.isList;have hl:=r'.length;have Fz:C1.length=prs.length:=by rw [<- hl];simp
 have Os:∀i j,i < C1.length->j < C1.length->i≠j->(prs.map (·.2.2.1)).getD i []≠(prs.map (·.2.2.1)).getD j []:=λi j hi hj DE=>by
  have D1:i < (prs.map (·.2.2.1)).length:=by simpa [<- Fz] using hi
  have D9:j < (prs.map (·.2.2.1)).length:=by simpa [<- Fz] using hj
  rw [zd,zd,yJ D1,yJ D9];show (prs.map (·.2.2.1))[i]≠(prs.map (·.2.2.1))[j]
  rcases Bi DE with y | y
  ·exact yZ.mp Do i j D1 D9 y
  ·exact λz=>yZ.mp Do j i D9 D1 y z.symm
 have O:Ord C1.length (λi j=>br ((prs.map (·.2.2.1)).getD i []) ((prs.map (·.2.2.1)).getD j [])) :=
  ⟨λi j k h1 h2=>vG _ _ _ h1 h2,λi=>lQ _,λi j hi hj DE=>mh _ _ (Os i j hi hj DE)⟩
 refine lh (.inl rfl) ho hc hd (by omega) O (λh2 s' DS=>?_) λpm hp ha=>?_
 ·have ok:=I.hok.kept DS
  refine⟨tuples' (Value.type "tuple" != Value.type "tuple"),λQ q=>kat_kind (T:=Value.type "tuple") (nH ok hL r') (by rw [yA];omega) (λv hv=>?_) (by decide) q,λi j C hi hj DE q=>?_⟩
  ·obtain⟨x,hx,rfl⟩:=yD.mp hv
   obtain⟨_,_,_,o,ho,hc,_⟩:=(show aF X.prog X.w H s'.heap x.2.1 (.tup (x.2.2.1.map V.str)) from ok _ _ (hL x hx).2)
   rw [<- hc];exact (Looks.ld ho).andThen .now
  ·obtain⟨x,hx,x1,x2,o1,n1,t1,x3,x4,x5⟩:=lp ok hL r' i hi
   obtain⟨y,hy,y1,y2,o2,n2,t2,y3,y4,y5⟩:=lp ok hL r' j hj;have Di:=Os i j hi hj DE;have q':C (br ((prs.map (·.2.2.1)).getD i []) ((prs.map (·.2.2.1)).getD j [])) s':=q;rw [<- x1,<- y1] at Di q';unfold kas_ask;rw [x2,y2];refine kat_lt x3 x5 y3 y5 ?_;show KatLex _ _ _ false _ C ((Value.ref x.2.1,Value.ref y.2.1)::_) 0 s';have key:∀(ss:List Str),ss.map V.str=(ss.map (Sum.inr:Str->Key)).map kV:=λss=>by rw [y8];rfl
   have MJ:=(hL x hx).2;have IU:=(hL y hy).2;obtain⟨_,ia,ra,ta⟩:=(show aF X.prog X.w H s'.heap x.2.1 (.tup (x.2.2.1.map V.str)) from ok _ _ MJ)
   obtain⟨_,ib,rb,tb⟩:=(show aF X.prog X.w H s'.heap y.2.1 (.tup (y.2.2.1.map V.str)) from ok _ _ IU)
   have sa:=fg ra;have sb:=fg rb;rw [key] at MJ IU;refine kat_cons (wpAny_eqBool_tuple (by show X.A.units + 1 + 1 < cLine;omega) (eC ok MJ) (eC ok IU) ?_);rw [decide_eq_false (λz=>Di ((List.map_inj_right (λa b h=>BW h)).mp z))];refine kat_no ?_;show wpAny _ _ (oneLt' false _ _) C _ s';refine kat_one _ _ (show wpAny _ _ (richCompare .Lt (.ref x.2.1) (.ref y.2.1)) _ _ s' from qU ta tb (by show X.A.units + 1 + 1 < cLine;omega) (cs:=dM x.2.2.1 y.2.2.1) (by simpa using lV sa sb) ?_);show C (ce (decide (ia.toArray.size < ib.toArray.size)) (dM x.2.2.1 y.2.2.1)) s';rw [kT,yS,yS,sa.length,sb.length,lO];exact q'
 ·obtain⟨e,he⟩:=sortedAll_at s.heap C1 (dk C1 pm).toArray
  have DT:Pm prs.length pm:=by rw [<- Fz];exact hp
  have Dh:∀i∈pm.toList,i < prs.length:=λi hi=>by
   have:i∈(List.toArray (List.range prs.length)):=DT.mem_iff.mp (by simpa using hi);simpa using this
  have hv:aq ((pm.toList.map λi=>(dn prs).getD i .non)) (dk C1 pm):=hX r' λi hi=>by simpa using Dh i hi
  have Nw:(pm.toList.map λi=>(dn prs).getD i .non)=dn (pm.toList.map λi=>prs.getD i (0,0,[],0)):=by
   unfold dn;rw [y8];exact Ay λi hi=>by simp [Dh i hi]
  rw [Nw] at hv;have FA:H (s.heap.objs.size + 1)=none:=I.hok.fresh (Az _);have Hr:=j3 ((0,0,[],0):Pr) prs DT;refine⟨.ref (s.heap.objs.size + 1),_,I.laid (t':=s.toks) (o:=.lst (dn (pm.toList.map λi=>prs.getD i (0,0,[],0)))) (λb o z=>sortedAll_old z) (Az _) ⟨?_,dk C1 pm,e,hv,?_⟩,rfl,q _ _ Hr ?_ FA⟩
  ·rw [yA,Hr.length_eq,zj];omega
  ·simpa [seqObj] using he
  ·rw [y8,Ae]
   refine yZ.mpr λi j hi hj DE=>?_;have Ew:=hp.size;have Eb:i < pm.size:=by simpa using hi
   have Nq:j < pm.size:=by simpa using hj
   have z:=ha i j DE (by omega);rw [eK Eb,eK Nq] at z;have b1:=Dh pm.toList[i] (zx _);have b2:=Dh pm.toList[j] (zx _);simp only [Array.getElem_toList] at b1 b2 ⊢;simpa [b1,b2] using z
end CP
namespace CP
section
variable {α ν:Type} [DecidableEq α]
abbrev Rw (ν α:Type):=ν×α×α
def ent (l:List α) (r:Rw ν α):Bool:=decide (r.2.2∈l) && !decide (r.2.1∈l)
theorem de {l:List α}{r:Rw ν α}:ent l r=true ↔ r.2.2∈l/\r.2.1∉l:=by simp [ent]
inductive Pth (M:List (Rw ν α)) (a:α):α->Prop
 | nil:Pth M a a
 | snoc {r:Rw ν α}:Pth M a r.2.1->r∈M->Pth M a r.2.2
inductive cL (M:List (Rw ν α)) (S:List α) (a:α):α->Prop
 | nil:cL M S a a
 | snoc {r:Rw ν α}:cL M S a r.2.1->r∈M->r.2.1∈S->r.2.2∈S->cL M S a r.2.2
variable {M:List (Rw ν α)}
theorem Pth.trans {a b c:α} (h:Pth M a b) (g:Pth M b c):Pth M a c:=by
 induction g with
 | nil=>exact h
 | snoc _ hr ih=>exact .snoc ih hr
theorem cL.mono {M':List (Rw ν α)} (hs:∀r∈M,r∈M') {S:List α}{a b:α} (h:cL M S a b):cL M' S a b:=by
 induction h with
 | nil=>exact .nil
 | snoc _ hr h1 h2 ih=>exact .snoc ih (hs _ hr) h1 h2
theorem Pth.leave {W:List α}{a b:α} (h:Pth M a b) (ha:a∈W) (hb:b∉W):∃r∈M,r.2.1∈W/\r.2.2∉W:=by
 induction h with
 | nil=>exact absurd ha hb
 | @snoc r _ hr ih =>
  by_cases c:r.2.1∈W
  ·exact⟨r,hr,c,hb⟩
  ·exact ih c
theorem cL.leave {W S:List α}{a b:α} (h:cL M S a b) (ha:a∈W) (hb:b∉W):∃r∈M,r.2.1∈S/\r.2.2∈S/\r.2.1∈W/\r.2.2∉W:=by
 induction h with
 | nil=>exact absurd ha hb
 | @snoc r _ hr h1 h2 ih =>
  by_cases c:r.2.1∈W
  ·exact⟨r,hr,h1,h2,c,hb⟩
  ·exact ih c
theorem cL.enter {S L:List α}{a b:α} (h:cL M L a b) (ha:a∉S) (hb:b∈S):∃r∈M,ent S r=true:=by
 induction h with
 | nil=>exact absurd hb ha
 | @snoc r _ hr h1 h2 ih =>
  by_cases c:r.2.1∈S
  ·exact ih c
  ·exact⟨r,hr,de.mpr ⟨hb,c⟩⟩
theorem Pth.enter {S:List α}{a b:α} (h:Pth M a b) (ha:a∉S) (hb:b∈S):∃r∈M,ent S r=true:=by
 induction h with
 | nil=>exact absurd hb ha
 | @snoc r _ hr ih =>
  by_cases c:r.2.1∈S
  ·exact ih c
  ·exact⟨r,hr,de.mpr ⟨hb,c⟩⟩
def SC (M:List (Rw ν α)) (S:List α):Prop:=∀a∈S,∀b∈S,cL M S a b
theorem SC.mono {M':List (Rw ν α)} (hs:∀r∈M,r∈M') {S:List α} (h:SC M S):SC M' S:=λa ha b hb=>(h a ha b hb).mono hs
theorem SC.one (x:α):SC M [x]:=λa ha b hb=>by
 rw [yK.mp ha,yK.mp hb];exact .nil
theorem Pth.within {S:List α} (Dp:∀r∈M,ent S r=false) {a b:α} (h:Pth M a b) (hb:b∈S):cL M S a b:=by
 induction h with
 | nil=>exact .nil
 | @snoc r p hr ih =>
  have h1:r.2.1∈S:=by
   have:=Dp r hr;cases Aq (r.2.1∈S) with
   | inl z=>exact z
   | inr z=>rw [de.mpr ⟨hb,z⟩] at this;cases this
  exact .snoc (ih h1) hr h1 hb
theorem iZ {a b:List α} (h:a.Nodup) (hs:∀x∈a,x∈b):a.length<=b.length:=by
 induction a generalizing b with
 | nil=>simp
 | cons x t ih =>
  obtain⟨h1,h2⟩:=zb.mp h;have hx:=hs x yG;have:=ih h2 (b:=b.erase x) λy hy=>(List.mem_erase_of_ne (λ(z:y=x)=>h1 (by rw [<- z];exact hy))).mpr (hs y (yT _ hy));rw [List.length_erase_of_mem hx] at this;have hp:=List.length_pos_of_mem hx;simp only [zk];omega
theorem wy {a b:List α} (ha:a.Nodup) (hb:b.Nodup) (hs:∀x∈a,x∈b) (hl:b.length<=a.length):∀x∈b,x∈a:=λx hx=>by
 cases Aq (x∈a) with
 | inl z=>exact z
 | inr z =>
  have:=iZ (a:=x::a) (b:=b) (zb.mpr ⟨z,ha⟩) λy hy=>(yF.mp hy).elim (λe=>e ▸ hx) (hs y);simp only [zk] at this;omega
theorem yf {ps:List α}{root x0:α}{lots:α->List α} (hm:∀x∈ps,∀y,y∈lots x ↔ y∈ps/\Pth M y x) (hn:∀x∈ps,(lots x).Nodup) (hM:∀r∈M,r.2.1∈ps) (h0:x0∈ps) (hr:root∉lots x0) (DL:∀y∈ps,root∉lots y->(lots x0).length<=(lots y).length) :
  SC M (lots x0)/\∀r∈M,ent (lots x0) r=false:=by
 have Dp:∀r∈M,ent (lots x0) r=false:=λr C9=>by
  cases c:ent (lots x0) r with
  | false=>rfl
  | true =>
   obtain⟨c1,c2⟩:=de.mp c;have:=(hm x0 h0 _).mp c1;exact absurd ((hm x0 h0 _).mpr ⟨hM r C9,(Pth.snoc Pth.nil C9:Pth M r.2.1 r.2.2).trans this.2⟩) c2
 refine⟨λa ha b hb=>?_,Dp⟩;obtain⟨a1,a2⟩:=(hm x0 h0 a).mp ha;obtain⟨b1,b2⟩:=(hm x0 h0 b).mp hb;have El:∀y∈lots b,y∈lots x0:=λy hy=>by
  obtain⟨y1,y2⟩:=(hm b b1 y).mp hy;exact (hm x0 h0 y).mpr ⟨y1,y2.trans b2⟩
 have hx:=wy (hn b b1) (hn x0 h0) El (DL b b1 λz=>hr (El root z));have h2:=(hm b b1 x0).mp (hx x0 ((hm x0 h0 x0).mpr ⟨h0,.nil⟩));exact Pth.within Dp (a2.trans h2.2) hb
def Lam (F:List (List α)):Prop:=∀A∈F,∀B∈F,(∀x∈A,x∈B)\/(∀x∈B,x∈A)\/∀x∈A,x∉B
theorem Lam.add {F:List (List α)}{S:List α} (h:Lam F) (GQ:∀L∈F,SC M L) (Dp:∀r∈M,ent S r=false):Lam (F++[S]):=by
 have key:∀L∈F,(∀x∈L,x∈S)\/∀x∈L,x∉S:=λL hL=>by
  cases Aq (∃x∈L,x∈S) with
  | inr z=>exact .inr λx hx hs=>z ⟨x,hx,hs⟩
  | inl z =>
   obtain⟨a,ha,has⟩:=z;refine .inl λb hb=>?_;cases Aq (b∈S) with
   | inl q=>exact q
   | inr q =>
    obtain⟨r,hr,he⟩:=(GQ L hL b hb a ha).enter q has;rw [Dp r hr] at he;cases he
 intro A hA B hB
 rcases yQ.mp hA with hA | hA <;> rcases yQ.mp hB with hB | hB
 ·exact h A hA B hB
 ·rw [yK.mp hB]
  rcases key A hA with z | z
  ·exact .inl z
  ·exact .inr (.inr z)
 ·rw [yK.mp hA]
  rcases key B hB with z | z
  ·exact .inr (.inl z)
  ·exact .inr (.inr λx hx hb=>z x hb hx)
 ·rw [yK.mp hA,yK.mp hB]
  exact .inl λx hx=>hx
theorem yk {F:List (List α)}{W:List α}{root x:α} (hl:Lam F) (hn:∀L∈F,L.Nodup) (GQ:∀L∈F,SC M L) (De:root∈W) (hx:x∉W) (hp:Pth M root x):∃r∈M,r.2.1∈W/\r.2.2∉W/\∀L∈F,ent L r=true->∀y∈L,y∉W:=by
 have main:∀n,∀L∈F,L.length<=n->(∃a∈L,a∈W)->(∃b∈L,b∉W)->∃r∈M,r.2.1∈W/\r.2.2∉W/\∀L∈F,ent L r=true->∀y∈L,y∉W:=by
  intro n
  induction n with
  | zero =>
   intro L hL PV ⟨a,ha,_⟩ _;have:=List.length_pos_of_mem ha;omega
  | succ n ih =>
   intro L hL PR ⟨a,ha,TK⟩ ⟨b,hb,TC⟩;obtain⟨r,hr,r1,r2,r3,r4⟩:=(GQ L hL a ha b hb).leave TK TC;cases Aq (∃L'∈F,ent L' r=true/\∃y∈L',y∈W) with
   | inr z=>exact⟨r,hr,r3,r4,λL' KF he y hy hw=>z ⟨L',KF,he,y,hy,hw⟩⟩
   | inl z =>
    obtain⟨L',KF,he,y,hy,hw⟩:=z;obtain⟨e1,e2⟩:=de.mp he;have El:∀x∈L',x∈L:=by
     rcases hl L' KF L hL with q | q | q
     ·exact q
     ·exact absurd (q _ r1) e2
     ·exact absurd r2 (q _ e1)
    have Dh:L'.length < L.length:=by
     have:=iZ (a:=r.2.1::L') (b:=L) (zb.mpr ⟨e2,hn L' KF⟩) λx hx=>(yF.mp hx).elim (λe=>e ▸ r1) (El x);simp only [zk] at this;omega
    exact ih L' KF (by omega) ⟨y,hy,hw⟩ ⟨r.2.2,e1,r4⟩
 cases Aq (∃L∈F,(∃a∈L,a∈W)/\∃b∈L,b∉W) with
 | inl z =>
  obtain⟨L,hL,h1,h2⟩:=z;exact main _ L hL (yO _) h1 h2
 | inr z =>
  obtain⟨r,hr,r1,r2⟩:=hp.leave De hx;exact⟨r,hr,r1,r2,λL hL he y hy hw=>z ⟨L,hL,⟨y,hy,hw⟩,r.2.2,(de.mp he).1,r2⟩⟩
def ents (l:List α) (T:List (Rw ν α)):Nat:=T.countP (ent l)
def fO (F:List (List α)) (W:List α) (T:List (Rw ν α)):Prop:=∀l∈F,((∃y∈l,y∈W)->ents l T=1)/\((∀y∈l,y∉W)->ents l T=0)
theorem fO.start {F:List (List α)}{root:α} (h:∀l∈F,root∉l):fO (ν:=ν) F [root] []:=λl hl=>⟨λ⟨y,hy,hw⟩=>absurd (yK.mp hw ▸ hy) (h l hl),λ_=>rfl⟩
theorem fO.add {F:List (List α)}{W:List α}{T:List (Rw ν α)}{r:Rw ν α} (h:fO F W T) (h1:r.2.1∈W) (h2:∀L∈F,ent L r=true->∀y∈L,y∉W):fO F (W++[r.2.2]) (T++[r]):=λl hl=>by
 obtain⟨a,b⟩:=h l hl;have hc:ents l (T++[r])=ents l T + if ent l r=true then 1 else 0:=by
  unfold ents;rw [List.countP_append];cases c:ent l r <;> simp [List.countP_cons,c]
 cases c:ent l r with
 | true =>
  have hz:=b (h2 l hl c);obtain⟨c1,c2⟩:=de.mp c;rw [hc,c,if_pos rfl];exact⟨λ_=>by omega,λz=>absurd (yM _ (yK.mpr rfl)) (z _ c1)⟩
 | false =>
  rw [hc,c,if_neg yU,Nat.add_zero];refine⟨λ⟨y,hy,hw⟩=>?_,λz=>b λy hy hw=>z y hy (yW _ hw)⟩
  rcases yQ.mp hw with q | q
  ·exact a ⟨y,hy,q⟩
  ·have e:y=r.2.2:=yK.mp q
   subst e;cases Aq (r.2.1∈l) with
   | inl z=>exact a ⟨_,z,h1⟩
   | inr z=>rw [de.mpr ⟨hy,z⟩] at c;cases c
def cN (P:List (List α×Int)) (r:Rw ν α):Int:=((P.filter λx=>ent x.1 r).map (·.2)).sum
theorem fX (x:List α×Int) (P:List (List α×Int)) (r:Rw ν α):cN (x::P) r=(if ent x.1 r=true then x.2 else 0) + cN P r:=by
 unfold cN;cases c:ent x.1 r <;> simp [zD,c]
theorem ic (r:Rw ν α):cN ([]:List (List α×Int)) r=0:=rfl
theorem ie (T:List (Rw ν α)):∀P:List (List α×Int),(T.map (cN P)).sum=(P.map λx=>(ents x.1 T:Int) * x.2).sum
 | []=>by
  induction T with
  | nil=>rfl
  | cons a t ih=>rw [y0,zX,ih,ic];rfl
 | x::P=>by
  have ih:=ie T P;have e:(T.map (cN (x::P))).sum=(ents x.1 T:Int) * x.2 + (T.map (cN P)).sum:=by
   clear ih
   induction T with
   | nil=>simp [ents]
   | cons a t it =>
    simp only [y0,zX,it,fX];unfold ents;rw [List.countP_cons];cases c:ent x.1 a
    ·simp;omega
    ·simp only [if_true]
     have:(((List.countP (ent x.1) t + 1:Nat):Int)) * x.2=(List.countP (ent x.1) t:Int) * x.2 + x.2:=by
      push_cast;rw [Int.add_mul];omega
     rw [this];omega
  rw [e,ih,y0,zX]
theorem yi {T:List (Rw ν α)}{P:List (List α×Int)} (h:∀x∈P,ents x.1 T=1):(T.map (cN P)).sum=(P.map (·.2)).sum:=by
 rw [ie]
 congr 1
 exact Ay λx hx=>by rw [h x hx];simp
theorem yh {T:List (Rw ν α)}{P:List (List α×Int)} (h:∀x∈P,ents x.1 T=1\/(1<=ents x.1 T/\0<=x.2)):(P.map (·.2)).sum<=(T.map (cN P)).sum:=by
 rw [ie]
 induction P with
 | nil=>simp
 | cons x P ih =>
  have:=ih λy hy=>h y (yT _ hy);simp only [y0,zX];have hx:x.2<=(ents x.1 T:Int) * x.2:=by
   rcases h x yG with e | ⟨e1,e2⟩
   ·rw [e];simp
   ·have h1:(1:Int)<=(ents x.1 T:Int):=by omega
    have:=Ck h1 e2;omega
  omega
end
section
variable {α ν:Type} [DecidableEq α] [DecidableEq ν]
def met (R:List (Rw ν α)) (left:ν->Int):List (Rw ν α):=R.filter λr=>decide (left r.1=0)
theorem eu {R:List (Rw ν α)}{left:ν->Int}{r:Rw ν α}:r∈met R left ↔ r∈R/\left r.1=0:=by
 unfold met;rw [yI];simp
def enter (R:List (Rw ν α)) (S:List α):List (Rw ν α):=R.filter (ent S)
theorem ka {R:List (Rw ν α)}{S:List α}{r:Rw ν α}:r∈enter R S ↔ r∈R/\ent S r=true:=by
 unfold enter;rw [yI]
def less (R:List (Rw ν α)) (S:List α) (m:Int) (left:ν->Int):ν->Int:=λn=>if n∈(enter R S).map (·.1) then left n - m else left n
def Uni (R:List (Rw ν α)):Prop:=∀r∈R,∀q∈R,r.1=q.1->r=q
theorem d4 {R:List (Rw ν α)} (hu:Uni R) {S:List α}{m:Int}{left:ν->Int}{r:Rw ν α} (hr:r∈R):less R S m left r.1=if ent S r=true then left r.1 - m else left r.1:=by
 unfold less;cases c:ent S r with
 | true=>rw [if_pos (yE (ka.mpr ⟨hr,c⟩)),if_pos rfl]
 | false =>
  rw [if_neg,if_neg yU];intro z;obtain⟨q,hq,e⟩:=yD.mp z;obtain⟨q1,q2⟩:=ka.mp hq;have:=hu q q1 r hr e;rw [this,c] at q2;cases q2
structure Mn (R:List (Rw ν α)) (S:List α) (left:ν->Int) (m:Int):Prop where
 le:∀r∈R,ent S r=true->m<=left r.1
 at':∃r∈R,ent S r=true/\left r.1=m
theorem jS (P:List (List α×Int)) (x:List α×Int) (r:Rw ν α):cN (P++[x]) r=cN P r + if ent x.1 r=true then x.2 else 0:=by
 induction P with
 | nil=>rw [List.nil_append,fX,ic];omega
 | cons y P ih=>rw [CT,fX,fX,ih];omega
structure Rs (ps:List α) (root:α) (R:List (Rw ν α)) (cost:ν->Int) (P:List (List α×Int)) (left:ν->Int):Prop where
 eq:∀r∈R,left r.1=cost r.1 - cN P r
 nd:(P.map (·.1)).Nodup
 sub:∀x∈P,x.1.Sublist ps
 ne:∀x∈P,x.1≠[]
 nr:∀x∈P,root∉x.1
 lam:Lam (P.map (·.1))
 sc:∀x∈P,SC (met R left) x.1
 en:∀x∈P,∃r∈met R left,ent x.1 r=true
 pos:∀x∈P,1 < x.1.length->0 < x.2
structure Rf (ps:List α) (root:α) (R:List (Rw ν α)) (cost:ν->Int) (P:List (List α×Int)) (left:ν->Int):Prop extends Rs ps root R cost P left where
 one:∀y∈ps,y≠root->[y]∈P.map (·.1)
 nn:∀r∈R,0<=left r.1
theorem Rs.start (ps:List α) (root:α) (R:List (Rw ν α)) (cost:ν->Int):Rs ps root R cost [] cost:=⟨λr _=>by rw [ic];omega,.nil,by simp,by simp,by simp,λA hA=>by simp at hA,by simp,by simp,by simp⟩
theorem sX {R:List (Rw ν α)} (hu:Uni R) {S:List α}{m:Int}{left:ν->Int} (Dp:∀r∈met R left,ent S r=false):∀r∈met R left,r∈met R (less R S m left):=λr hr=>by
 obtain⟨h1,h2⟩:=eu.mp hr;refine eu.mpr ⟨h1,?_⟩;rw [d4 hu h1,Dp r hr,if_neg yU];exact h2
theorem Rs.raise {ps:List α}{root:α}{R:List (Rw ν α)}{cost:ν->Int}{P:List (List α×Int)}{left:ν->Int} (hu:Uni R) (h:Rs ps root R cost P left) {S:List α}{m:Int} (hS:S.Sublist ps) (h0:S≠[]) (hr:root∉S) (hm:Mn R S left m)
  (Dp:∀r∈met R left,ent S r=false) (GQ:SC (met R left) S) (Ey:1 < S.length->0 < m):Rs ps root R cost (P++[(S,m)]) (less R S m left):=by
 have Kj:=sX hu (m:=m) Dp;have new:∃r∈met R (less R S m left),ent S r=true:=by
  obtain⟨r,h1,h2,h3⟩:=hm.at';exact⟨r,eu.mpr ⟨h1,by rw [d4 hu h1,if_pos h2,h3];omega⟩,h2⟩
 have NG:S∉P.map (·.1):=λz=>by
  obtain⟨x,hx,e⟩:=yD.mp z;obtain⟨r,h1,h2⟩:=h.en x hx;rw [show x.1=S from e,Dp r h1] at h2;cases h2
 have Fl:∀{Q:List α×Int->Prop},(∀x∈P,Q x)->Q (S,m)->∀x∈P++[(S,m)],Q x:=λ{Q} a b x hx=>(yQ.mp hx).elim (a x) λz=>by rw [yK.mp z];exact b
 refine⟨λr C9=>?_,?_,Fl h.sub hS,Fl h.ne h0,Fl h.nr hr,?_,Fl (λx hx=>(h.sc x hx).mono Kj) (GQ.mono Kj),Fl (λx hx=>?_) new,Fl h.pos Ey⟩
 ·rw [d4 hu C9,jS,h.eq r C9]
  cases c:ent S r <;> simp <;> omega
 ·rw [yL]
  exact Aa.mpr ⟨h.nd,by simp,λa ha b hb=>by
   rw [yK.mp hb];intro z;rw [show a=S from z] at ha;exact NG ha⟩
 ·rw [yL]
  exact Lam.add h.lam (λL hL=>by obtain⟨x,hx,e⟩:=yD.mp hL;rw [<- e];exact h.sc x hx) Dp
 ·obtain⟨r,h1,h2⟩:=h.en x hx
  exact⟨r,Kj r h1,h2⟩
theorem Rf.raise {ps:List α}{root:α}{R:List (Rw ν α)}{cost:ν->Int}{P:List (List α×Int)}{left:ν->Int} (hu:Uni R) (h:Rf ps root R cost P left) {S:List α}{m:Int} (hS:S.Sublist ps) (h0:S≠[]) (hr:root∉S) (hm:Mn R S left m)
  (Dp:∀r∈met R left,ent S r=false) (GQ:SC (met R left) S):Rf ps root R cost (P++[(S,m)]) (less R S m left)/\1 < S.length:=by
 have Tj:0 < m:=by
  obtain⟨r,h1,h2,h3⟩:=hm.at';have:=h.nn r h1;have hz:left r.1≠0:=λz=>by
   have:=Dp r (eu.mpr ⟨h1,z⟩);rw [h2] at this;cases this
  omega
 refine⟨⟨h.toRs.raise hu hS h0 hr hm Dp GQ λ_=>Tj,λy hy hn=>?_,λr C9=>?_⟩,?_⟩
 ·rw [yL];exact yW _ (h.one y hy hn)
 ·rw [d4 hu C9]
  cases c:ent S r with
  | true=>rw [if_pos rfl];have:=hm.le r C9 c;omega
  | false=>rw [if_neg yU];exact h.nn r C9
 ·cases S with
  | nil=>exact absurd rfl h0
  | cons y t =>
   cases t with
   | cons z t=>simp
   | nil =>
    exfalso
    have hy:y∈ps:=hS.subset yG;obtain⟨x,hx,e⟩:=yD.mp (h.one y hy λz=>hr (by rw [z];exact yG));obtain⟨r,h1,h2⟩:=h.en x hx;rw [show x.1=[y] from e,Dp r h1] at h2;cases h2
def subs:List α->List (List α)
 | []=>[[]]
 | x::t=>subs t++(subs t).map (x::·)
theorem kC:∀l:List α,(subs l).length=2 ^ l.length
 | []=>rfl
 | x::t=>by rw [subs,zc,yA,kC t,zk,Nat.pow_succ];omega
theorem iw:∀{l s:List α},s.Sublist l->s∈subs l
 | _,_,.slnil=>by simp [subs]
 | _,_,.cons a h=>by rw [subs];exact yW _ (iw h)
 | _,_,.cons_cons a h=>by rw [subs];exact yM _ (yD.mpr ⟨_,iw h,rfl⟩)
theorem Rs.few {ps:List α}{root:α}{R:List (Rw ν α)}{cost:ν->Int}{P:List (List α×Int)}{left:ν->Int} (h:Rs ps root R cost P left):P.length<=2 ^ ps.length:=by
 have:=iZ h.nd (b:=subs ps) λl hl=>by
  obtain⟨x,hx,e⟩:=yD.mp hl;rw [<- e];exact iw (h.sub x hx)
 rw [yA,kC] at this;exact this
structure Ro (ps:List α) (root:α) (R:List (Rw ν α)) (cost:ν->Int) (D:List α) (P:List (List α×Int)) (left:ν->Int):Prop extends Rs ps root R cost P left where
 lots:P.map (·.1)=D.map λy=>[y]
 nn:∀r∈R,r.2.2∈D->0<=left r.1
theorem Ro.add {ps:List α}{root:α}{R:List (Rw ν α)}{cost:ν->Int}{D:List α}{P:List (List α×Int)}{left:ν->Int} (hu:Uni R) (hl:∀r∈R,r.2.1≠r.2.2) (h:Ro ps root R cost D P left) {y:α}{m:Int} (hy:y∈ps) (hr:y≠root) (hn:y∉D) (hm:Mn R [y] left m) :
  Ro ps root R cost (D++[y]) (P++[([y],m)]) (less R [y] m left):=by
 have Di:∀{r:Rw ν α},r∈R->(ent [y] r=true ↔ r.2.2=y):=λ{r} C9=>by
  rw [de];constructor
  ·exact λz=>yK.mp z.1
  ·intro z
   refine⟨yK.mpr z,λq=>hl r C9 ?_⟩;rw [yK.mp q,z]
 have Kj:∀r∈met R left,r.2.2∈D->r∈met R (less R [y] m left):=λr C9 hd=>by
  obtain⟨h1,h2⟩:=eu.mp C9;refine eu.mpr ⟨h1,?_⟩;rw [d4 hu h1,if_neg]
  ·exact h2
  ·intro z
   rw [(Di h1).mp z] at hd;exact hn hd
 have one:∀x∈P,∃d∈D,x.1=[d]:=λx hx=>by
  have:x.1∈D.map λy=>[y]:=by rw [<- h.lots];exact yE hx
  obtain⟨d,hd,e⟩:=yD.mp this;exact⟨d,hd,e.symm⟩
 have Ho:(P++[([y],m)]).map (·.1)=(D++[y]).map λy=>[y]:=by rw [yL,yL,h.lots];rfl
 have Fl:∀{Q:List α×Int->Prop},(∀x∈P,Q x)->Q ([y],m)->∀x∈P++[([y],m)],Q x:=λ{Q} a b x hx=>(yQ.mp hx).elim (a x) λz=>by rw [yK.mp z];exact b
 refine⟨⟨λr C9=>?_,?_,Fl h.sub (List.singleton_sublist.mpr hy),Fl h.ne (by simp),Fl h.nr (by simp;exact λz=>hr z.symm),?_,Fl (λx hx=>?_) (SC.one y),Fl (λx hx=>?_) ?_,Fl h.pos (by simp)⟩,Ho,λr C9 hd=>?_⟩
 ·rw [d4 hu C9,jS,h.eq r C9]
  cases c:ent [y] r <;> simp <;> omega
 ·rw [yL]
  refine Aa.mpr ⟨h.nd,by simp,λa ha b hb=>?_⟩;rw [yK.mp hb];intro z;rw [h.lots] at ha;obtain⟨d,hd,e⟩:=yD.mp ha;rw [z] at e;have:d=y:=by simpa using e
  exact hn (this ▸ hd)
 ·rw [Ho]
  intro A hA B hB;obtain⟨a,_,rfl⟩:=yD.mp hA;obtain⟨b,_,rfl⟩:=yD.mp hB;cases Aq (a=b) with
  | inl z=>rw [z];exact .inl λx hx=>hx
  | inr z=>exact .inr (.inr λx hx hb=>z (by rw [<- yK.mp hx,<- yK.mp hb]))
 ·obtain⟨d,_,e⟩:=one x hx
  rw [e];exact SC.one d
 ·obtain⟨d,hd,e⟩:=one x hx
  obtain⟨r,h1,h2⟩:=h.en x hx;refine⟨r,Kj r h1 ?_,h2⟩;rw [e] at h2;rw [yK.mp (de.mp h2).1];exact hd
 ·obtain⟨r,h1,h2,h3⟩:=hm.at'
  exact⟨r,eu.mpr ⟨h1,by rw [d4 hu h1,if_pos h2,h3];omega⟩,h2⟩
 ·rw [d4 hu C9]
  cases c:ent [y] r with
  | true=>rw [if_pos rfl];have:=hm.le r C9 c;omega
  | false =>
   rw [if_neg yU]
   rcases yQ.mp hd with z | z
   ·exact h.nn r C9 z
   ·have:=(Di C9).mpr (yK.mp z)
    rw [c] at this;cases this
theorem Ro.start (ps:List α) (root:α) (R:List (Rw ν α)) (cost:ν->Int):Ro ps root R cost [] [] cost:=⟨Rs.start ps root R cost,rfl,by simp⟩
theorem Ro.full {ps:List α}{root:α}{R:List (Rw ν α)}{cost:ν->Int}{D:List α}{P:List (List α×Int)}{left:ν->Int} (h:Ro ps root R cost D P left) (hD:∀y∈ps,y≠root->y∈D) (hR:∀r∈R,r.2.2∈ps/\r.2.2≠root):Rf ps root R cost P left :=
 ⟨h.toRs,λy hy hn=>by rw [h.lots];exact yD.mpr ⟨y,hD y hy hn,rfl⟩,λr hr=>h.nn r hr (hD _ (hR r hr).1 (hR r hr).2)⟩
end
end CP
namespace K53
open PySem L2
def top (i:Nat):Stmt:=PySem.Challenge.pw_rootshares_k53_whole_cheapest_of_all.main.body.getD i (.Pass ⟨0,0,0,0⟩)
theorem cP:bootBuiltins "isinstance"=some (.builtin "isinstance"):=by decide +kernel
theorem eE:bootBuiltins "all"=some (.builtin "all"):=by decide +kernel
theorem dY:bootBuiltins "sorted"=some (.builtin "sorted"):=by decide +kernel
theorem mY:bootBuiltins "max"=some (.builtin "max"):=by decide +kernel
theorem gA:bootBuiltins "min"=some (.builtin "min"):=by decide +kernel
theorem i9:bootBuiltins "str"=some (.type "str"):=by decide +kernel
theorem bO:bootBuiltins "tuple"=some (.type "tuple"):=by decide +kernel
theorem mC:bootBuiltins "list"=some (.type "list"):=by decide +kernel
theorem vq:bootBuiltins "bool"=some (.type "bool"):=by decide +kernel
theorem mZ:bootBuiltins "int"=some (.type "int"):=by decide +kernel
structure Bl (mg:Str->Option zz9):Prop where
 len:mg "len"=none
 isinstance:mg "isinstance"=none
 all:mg "all"=none
 range:mg "range"=none
 sorted:mg "sorted"=none
 repr:mg "repr"=none
 max:mg "max"=none
 min:mg "min"=none
 str:mg "str"=none
 tuple:mg "tuple"=none
 list:mg "list"=none
 int:mg "int"=none
 set:mg "set"=none
 bool:mg "bool"=none
 zip:mg "zip"=none
 sum:mg "sum"=none
 abs:mg "abs"=none
 dict:mg "dict"=none
 any:mg "any"=none
 lng:∃t,mg "LONGEST_NAME"=some (.int 8 t)
def Fn (P:Program) (w:World) (K:zz7) (mg:Str->Option zz9) (base:Heap) (k:Nat) (x:Str) (ps:List Str) (sp:Sp):Prop :=
 ∃f fd,mg x=some (.ref f)/\PySem.W.keepIn K (.ref f)=true/\Binds K fd ps []/\aG P w K mg base Dl k f fd ps sp
theorem ax {X:Cx}{k:Nat}{x:Str}{ps:List Str}{sp:Sp}{e:Expr}{es:List Expr}{t:TA}{p pos:Pos} (F:Fn X.prog X.w X.K X.mg X.base k x ps sp) (hr:aN k X.A) (ha:PA X (e::es) t) (hg:Gl X x:=by rfl)
  (FC:(x == ("__debug__":Str))=false:=by decide) (he:starEach (e::es) X.env=(false,eval e X.env)::starEach es X.env:=by rfl) (DK:(backTo pos (starEach es X.env)).any (·.1)=false:=by rfl) :
  PE X (.Call (.Name x p) (e::es) [] pos) (nA sp [] E0 t):=by
 obtain⟨f,fd,h1,h2,h3,h4⟩:=F;exact uc h4 hr hg h1 h2 h3 .nil wC ha FC he DK
theorem aK {X:Cx}{scope:Scope}{N:List Str}{C:Addr}{s0:zz8}{H0:Hp}{fp:List Addr}{x:Str}{pos:Pos} (i:Nat) (hN:N.Nodup) (hi:N[i]?=some x) (hx:scope.names.lookup x=some .local) :
  PG (aw X scope N C s0 H0 fp) (.Name x pos) (bP i) :=
 bw (X:=aw X scope N C s0 H0 fp) hN hi (.inl (lookup_relabel_local hx)) (.inr (lookup_relabel_local hx))
theorem ju {c A B:Prop} [Decidable c] (hc:c) (h:A):if decide c=true then A else B:=by
 rw [decide_eq_true hc];exact aX h
theorem xa {c A B:Prop} [Decidable c] (hc:¬ c) (h:B):if decide c=true then A else B:=by
 rw [decide_eq_false hc];exact bh h
theorem nE {c A B:Prop} [Decidable c] (hc:¬ c) (h:A):if (!decide c)=true then A else B:=by
 rw [decide_eq_false hc];exact aX h
theorem Pb (a b:Nat):([a] < [b]) ↔ a < b:=by rw [List.cons_lt_cons_iff];simp
structure aV (x:Str):Prop where
 lo:1<=x.length
 hi:x.length<=8
 az:∀c∈x.cps.toList,97<=c/\c<=122
theorem aV.fits {x:Str} (h:aV x):x.length < sizeLine:=by have:=h.hi;rw [zj];omega
theorem aV.ascii {x:Str} (h:aV x):x.cps.all (· < 128)=true:=by
 rw [Array.all_eq_true'];intro c hc;have:=h.az c (by simpa using hc);simp;omega
variable {P:Program}{w:World}{K:zz7}{mg:Str->Option zz9}{base:Heap}{f:Addr}{fd:FuncData}
def iX:Sp:=λvs H Q _=>∃x,vs=[.str x]/\aV x/\∀H',ai H H'->Q (.bl true) H'
theorem Ra:aM ["thing"] ["thing"] (aC (top 8)):=⟨rfl,rfl,rfl,by decide +kernel,rfl,by decide +kernel,by decide +kernel⟩
theorem au {H H':Hp}{p:Addr}{o:HO} (h:ai H H') (hp:H' p=none):ai H (upd H' p o):=λb ob e=>by
 rw [ag (ar (h b ob e) hp)];exact h b ob e
theorem qd (F:Dk K "is_name" "is_name" (top 8) f fd) (B:Bl mg):aG P w K mg base Dl 1 f fd ["thing"] iX:=by
 refine F.ok Ra (λvs H Q E h=>?_) (λ_ _ _ _ H vs Q E hr h=>?_)
 ·obtain⟨x,rfl,_⟩:=h
  rfl
 ·obtain⟨x,rfl,hx,k⟩:=h
  obtain⟨tl,hl⟩:=B.lng
  refine⟨_,am (bg (PW.pt (dm (bY (bM (ay (cQ (T:="str")) rfl B.isinstance cP (aa (pv 0) (aa (cS (v:=.ty "str") rfl B.str i9 rfl) ae)))))
    (dG (bY (tE nB nB ak (ay o8 rfl B.len zg (aa (pv 0) ae)) (vd (v:=.int 8) rfl hl ⟨_,rfl⟩)))))) (av (aJ dj)) be)
   (av (aJ (ay (eh rfl) rfl B.all eE (aa (aY (N:=["letter"]) (ix:=[none]) ⟨rfl,rfl,rfl,by decide⟩ rfl (v3 (pv 0)) (λ_ _ _ _=>aK 0 (by decide) rfl rfl) (λ_ _ _ _=>bo)
    (λ_ _ _ _=>tO kr kr gy (pv 0) gy)) ae)))),?_⟩
  refine⟨_,rfl,_,_,true,rfl,.str x,?kit,true,rfl,bh ?_⟩
  case kit=>rfl
  refine⟨_,rfl,x,rfl,Am hx.fits,_,_,rfl,rfl,_,rfl,ju (by have:=hx.lo;omega) ⟨_,_,rfl,rfl,_,rfl,?_⟩⟩;refine eU (by have:=hx.hi;omega) ?_;refine⟨_,rfl,x,rfl,hx.ascii,tJ hx.fits (λi ys σ H1=>ys=List.replicate i (.bl true)/\ai H H1/\∃v,σ=[v]) ⟨rfl,ai.refl _,_,rfl⟩ (λi ys σ H1 _ q=>by rw [q.1];simp) ?_ ?_⟩
  ·rintro i c ys σ H1 hc ⟨rfl,hs,v,rfl⟩
   have NA:=hx.az c (Array.mem_toList_iff.mpr (Array.mem_of_getElem? hc));refine⟨_,rfl,_,_,rfl,rfl,_,rfl,nE ?_ ⟨_,_,rfl,rfl,?_,hs,_,rfl⟩⟩
   ·show ¬ ([c] < [97])
    rw [Pb];omega
   ·have e:(!decide ([122] < [c]))=true:=by rw [decide_eq_false (by rw [Pb];omega)];rfl
    show _++[V.bl (!decide ([122] < [c]))]=_;rw [e,AK]
  ·rintro ys σ H1 ⟨rfl,hs,v,rfl⟩ p hp
   refine⟨p,List.replicate x.length true,rfl,C3.of (by rw [aj,AY]),?_⟩;have e:(List.replicate x.length true).all id=true:=by simp
   rw [e];exact k _ (au hs hp)
theorem bR (K:zz7) {X:Cx} (h:X.K=K:=by rfl):Gj X (Mi K):=by subst h;exact aI
theorem lP (K:zz7) {X:Cx} (h:X.K=K:=by rfl):Dz X (compareOp .In) (Li K false):=by subst h;exact fh
theorem fT (K:zz7) {X:Cx} (h:X.K=K:=by rfl):Dz X (compareOp .NotIn) (Li K true):=by subst h;exact gP
theorem fw {α:Type}{xs:List α}{z:Int}{j:Nat}{v:α} (hz:z=(j:Int)) (h:xs[j]?=some v):Gy xs z=some v:=by subst hz;exact vk h
def Sq (K:zz7) (H:Hp) (p:Addr) (xs:List V):Prop:=C3 K H p xs\/C2 K H p xs
theorem fj {K:zz7}{H H':Hp}{a:Addr}{xs:List V} (e:ai H H') (h:C2 K H a xs):C2 K H' a xs:=by
 rcases h with (h | ⟨o,h⟩) | h
 ·exact .inl (.inl (e _ _ h))
 ·exact .inl (.inr ⟨o,e _ _ h⟩)
 ·exact .inr h
theorem Sq.same {K:zz7}{H H':Hp}{a:Addr}{xs:List V} (h:Sq K H a xs) (e:ai H H'):Sq K H' a xs:=h.imp (λz=>e.seq z) λz=>fj e z
theorem aB {K:zz7}{H:Hp}{p:Addr}{xs:List V}{z:Int}{j:Nat}{v:V}{Q:VK} (h:Sq K H p xs) (hz:z=(j:Int)) (hx:xs[j]?=some v) (q:Q v H):Mi K (.ref p) (.int z) H Q :=
 h.elim (λh=>.inl ⟨p,xs,z,v,rfl,rfl,h,fw hz hx,q⟩) λh=>.inr (.inl ⟨p,xs,z,v,rfl,rfl,h,fw hz hx,q⟩)
theorem fits {n:Nat} (h:n<=1000):n < sizeLine:=rP h
theorem strAt {ss:List Str}{i:Nat} (h:i < ss.length):(ss.map V.str)[i]?=some (.str ss[i]):=by rw [yR,yJ h];rfl
theorem cD (x:Str) (ss:List Str):FK (.str x) (ss.map V.str)=decide (x∈ss):=by
 unfold FK;rw [List.any_map];rw [A0,List.any_eq_true,decide_eq_true_iff];constructor
 ·rintro⟨y,hy,e⟩
  have e':y=x:=by simpa [Gv] using e
  exact e' ▸ hy
 ·intro h
  exact⟨x,h,by simp [Gv]⟩
theorem cA (ss:List Str):(ss.map V.str).all dJ=true:=by
 rw [List.all_map,zL];intro y _;rfl
abbrev Row:=Str×Str×Str
def dq (H:Hp) (p:Addr) (r:Row):Prop:=H p=some (.tup [.str r.1,.str r.2.1,.str r.2.2])
abbrev ao (rs:List (Addr×Row)):List V:=rs.map λr=>V.ref r.1
structure bF (H:Hp) (v pa ra:Addr) (ps:List Str) (rs:List (Addr×Row)):Prop where
 tp:H v=some (.tup [.ref pa,.ref ra])
 pl:H pa=some (.tup (ps.map V.str))
 rl:H ra=some (.tup (ao rs))
 rows:∀r∈rs,dq H r.1 r.2
structure Good (ps:List Str) (rs:List Row):Prop where
 ne:ps≠[]
 nm:∀x∈ps,aV x
 so:ps.Pairwise Du
 rn:∀r∈rs,aV r.1/\r.2.1∈ps/\r.2.2∈ps/\r.2.1≠r.2.2
 rso:(rs.map (·.1)).Pairwise Du
 pz:ps.length<=100
 rz:rs.length<=60
theorem bF.same {H H':Hp}{v pa ra:Addr}{ps:List Str}{rs:List (Addr×Row)} (h:bF H v pa ra ps rs) (e:ai H H'):bF H' v pa ra ps rs :=
 ⟨e _ _ h.tp,e _ _ h.pl,e _ _ h.rl,λr hr=>e _ _ (h.rows r hr)⟩
def hZ (K:zz7):Sp:=λvs H Q _=>∃(p:Addr) (ss:List Str),vs=[.ref p]/\Sq K H p (ss.map V.str)/\ss.Pairwise Du/\ss.length<=1000/\∀H',ai H H'->Q (.bl true) H'
theorem xV:aM ["names"] ["names"] (aC (top 10)):=⟨rfl,rfl,rfl,by decide +kernel,rfl,by decide +kernel,by decide +kernel⟩
theorem oS (F:Dk K "is_rising" "is_rising" (top 10) f fd) (B:Bl mg):aG P w K mg base Dl 1 f fd ["names"] (hZ K):=by
 refine F.ok xV (λvs H Q E h=>?_) (λ_ _ _ _ H vs Q E hr h=>?_)
 ·obtain⟨p,ss,rfl,_⟩:=h
  rfl
 ·obtain⟨p,ss,rfl,hq,hp,hz,k⟩:=h
  refine⟨_,av (aJ (ay (eh rfl) rfl B.all eE (aa (aY (N:=["at","names"]) (ix:=[none,some 0]) ⟨rfl,rfl,rfl,by decide⟩ rfl
   (rq rfl B.range (aa ak (aa (ay bj rfl B.len zg (aa (pv 0) ae)) ae))) (λ_ _ _ _=>aK 0 (by decide) rfl rfl) (λ_ _ _ _=>bo)
   (λ_ _ _ _=>cT qy (aA (bR K) (pv 1) (aE cF (pv 0) ak) (λ_ _=>rfl)) (aA (bR K) (pv 1) (pv 0) (λ_ _=>rfl)) (aS _))) ae))),?_⟩
  have D6:(ss.map V.str).length<=1000:=by simpa using hz
  refine⟨_,rfl,p,ss.map V.str,rfl,hq,1,_,rfl,⟨by decide,by decide,by omega,by omega⟩,gW (fits (by omega)) (λi ys σ H1=>ys=List.replicate i (.bl true)/\ai H H1/\∃v,σ=[v,some (.ref p)])
   ⟨rfl,ai.refl _,_,rfl⟩ (λi ys σ H1 _ q=>by rw [q.1];simp) ?_ ?_⟩
  ·rintro i ys σ H1 hi ⟨rfl,hs,v,rfl⟩
   have hl:i + 1 < ss.length:=by rw [yA] at hi;omega
   refine⟨_,rfl,_,rfl,_,_,rfl,rfl,aB (j:=i) (hq.same hs) (by omega) (strAt (by omega)) ⟨_,rfl,_,rfl,aB (j:=i + 1) (hq.same hs) (by push_cast;omega) (strAt hl) ⟨_,_,rfl,rfl,?_,hs,_,rfl⟩⟩⟩;have e:ss[i].cps.toList < ss[i + 1].cps.toList:=yZ.mp hp i (i + 1) (by omega) hl (by omega);show _++[V.bl (decide (ss[i].cps.toList < ss[i + 1].cps.toList))]=_;rw [decide_eq_true e,AK]
  ·rintro ys σ H1 ⟨rfl,hs,v,rfl⟩ q Kf
   refine⟨q,List.replicate _ true,rfl,C3.of (by rw [aj,AY]),?_⟩;have e:∀n:Nat,(List.replicate n true).all id=true:=by simp
   rw [e];exact k _ (au hs Kf)
def kA:Sp:=λvs H Q _=>∃(p:Addr) (ss:List Str),vs=[.ref p]/\H p=some (.tup (ss.map V.str))/\(∀x∈ss,aV x)/\ss.Pairwise Du/\ss.length<=1000/\∀H',ai H H'->Q (.bl true) H'
theorem xT:aM ["thing"] ["thing"] (aC (top 11)):=⟨rfl,rfl,rfl,by decide +kernel,rfl,by decide +kernel,by decide +kernel⟩
theorem o9 (F:Dk K "is_sorted_names" "is_sorted_names" (top 11) f fd) (B:Bl mg) (F1:Fn P w K mg base 1 "is_name" ["thing"] iX) (F2:Fn P w K mg base 1 "is_rising" ["names"] (hZ K)) :
  aG P w K mg base Dl 2 f fd ["thing"] kA:=by
 refine F.ok xT (λvs H Q E h=>?_) (λ_ _ _ _ H vs Q E hr h=>?_)
 ·obtain⟨p,ss,rfl,_⟩:=h
  rfl
 ·obtain⟨p,ss,rfl,hp,hn,hs,hz,k⟩:=h
  refine⟨_,am (bg (bY (bM (ay (cQ (T:="tuple")) rfl B.isinstance cP (aa (pv 0) (aa (cS (v:=.ty "tuple") rfl B.tuple bO rfl) ae))))) (av (aJ dj)) be)
   (av (aJ (cE (ay (eh rfl) rfl B.all eE (aa (aY (N:=["name"]) (ix:=[none]) ⟨rfl,rfl,rfl,by decide⟩ rfl (bJ (pv 0)) (λ_ _ _ _=>aK 0 (by decide) rfl rfl) (λ_ _ _ _=>bo)
    (λ_ _ _ _=>ax F1 hr (aa (pv 0) ae))) ae)) (di (ax F2 hr (aa (pv 0) ae)))))),?_⟩
  refine⟨_,rfl,_,_,true,rfl,.tup hp,rfl,true,rfl,bh ?_⟩
  refine⟨_,rfl,p,rfl,⟨_,C2.of hp⟩,dC (xs:=ss.map V.str) (fits (by simpa using hz)) (λi ys σ H1=>ys=List.replicate i (.bl true)/\ai H H1/\∃v,σ=[v]) ⟨rfl,ai.refl _,_,rfl⟩
   (λi ys σ H1 _ q=>⟨by rw [q.1];simp,fj q.2.1 (C2.of hp)⟩) ?_ ?_⟩
  ·rintro i x ys σ H1 hx ⟨rfl,MZ,v,rfl⟩
   obtain⟨y,hy,rfl⟩:∃y∈ss,x=V.str y:=by
    obtain⟨y,e1,e2⟩:=yD.mp (yP hx);exact⟨y,e1,e2.symm⟩
   exact⟨_,rfl,y,rfl,hn y hy,λH2 Ea=>⟨by rw [AK],MZ.trans Ea,_,rfl⟩⟩
  ·rintro ys σ H1 ⟨rfl,MZ,v,rfl⟩ q Kf
   refine⟨q,List.replicate _ true,rfl,C3.of (by rw [aj,AY]),_,rfl,?_⟩;have e:∀n:Nat,(List.replicate n true).all id=true:=by simp
   rw [e];have Ea:=au (o:=.lst (List.replicate (ss.map V.str).length (.bl true))) MZ Kf;exact aX ⟨_,rfl,p,ss,rfl,.inr (fj Ea (C2.of hp)),hs,hz,λH3 S5=>k _ (Ea.trans S5)⟩
def iC (K:zz7):Sp:=λvs H Q _=>∃(x:Str) (p:Addr) (ss:List Str),vs=[.str x,.ref p]/\Sq K H p (ss.map V.str)/\Q (.bl (decide (x∈ss))) H
theorem xY:aM ["thing","names"] ["thing","names"] (aC (top 12)):=⟨rfl,rfl,rfl,by decide +kernel,rfl,by decide +kernel,by decide +kernel⟩
theorem pC (F:Dk K "is_among" "is_among" (top 12) f fd) (B:Bl mg):aG P w K mg base Dl 1 f fd ["thing","names"] (iC K):=by
 refine F.ok xY (λvs H Q E h=>?_) (λ_ _ _ _ H vs Q E hr h=>?_)
 ·obtain⟨x,p,ss,rfl,_⟩:=h
  rfl
 ·obtain⟨x,p,ss,rfl,hp,k⟩:=h
  refine⟨_,av (aJ (cE (ay (cQ (T:="str")) rfl B.isinstance cP (aa (pv 0) (aa (cS (v:=.ty "str") rfl B.str i9 rfl) ae)))
   (di (cT fh (pv 0) (pv 1) (by with_unfolding_all rfl))))),?_⟩
  refine⟨_,rfl,_,_,true,rfl,.str x,rfl,true,rfl,aX ⟨_,rfl,_,rfl,p,ss.map V.str,rfl,hp,rfl,cA ss,?_⟩⟩;show Q (.bl (FK (.str x) (ss.map V.str))) H;rw [cD];exact k
def kY:Sp:=λvs H Q _=>∃(p q:Addr) (r:Row) (ps:List Str),vs=[.ref p,.ref q]/\dq H p r/\H q=some (.tup (ps.map V.str))/\aV r.1/\r.2.1∈ps/\r.2.2∈ps/\r.2.1≠r.2.2/\∀H',ai H H'->Q (.bl true) H'
theorem gK:aM ["thing","places","name","start","end"] ["thing","places"] (aC (top 13)):=⟨rfl,rfl,rfl,by decide +kernel,rfl,by decide +kernel,by decide +kernel⟩
theorem oO (F:Dk K "is_tie_row" "is_tie_row" (top 13) f fd) (B:Bl mg) (F1:Fn P w K mg base 1 "is_name" ["thing"] iX) (F2:Fn P w K mg base 1 "is_among" ["thing","names"] (iC K)) :
  aG P w K mg base Dl 2 f fd ["thing","places"] kY:=by
 refine F.ok gK (λvs H Q E h=>?_) (λ_ _ _ _ H vs Q E hr h=>?_)
 ·obtain⟨p,q,r,ps,rfl,_⟩:=h
  rfl
 ·obtain⟨p,q,r,ps,rfl,hp,hq,h1,h2,h3,h4,k⟩:=h
  have F9:H p=some (.tup [.str r.1,.str r.2.1,.str r.2.2]):=hp
  refine⟨_,am (bg (PW.pt (dm (bY (bM (ay (cQ (T:="tuple")) rfl B.isinstance cP (aa (pv 0) (aa (cS (v:=.ty "tuple") rfl B.tuple bO rfl) ae)))))
    (dG (aQ cW (ay bj rfl B.len zg (aa (pv 0) ae)) ak (aS _))))) (av (aJ dj)) be)
   (am (fE (pv 0) (fG rfl (n:=3) (bH (bw (i:=2) gK.nd rfl (Or.inl rfl)) (bH (bw (i:=3) gK.nd rfl (Or.inl rfl)) (bH (bw (i:=4) gK.nd rfl (Or.inl rfl)) d6)))))
   (av (aJ (cE (ax F1 hr (aa (pv 2) ae)) (cE (ax F2 hr (aa (pv 3) (aa (pv 1) ae))) (cE (ax F2 hr (aa (pv 4) (aa (pv 1) ae))) (di (cT cW (pv 3) (pv 4) (aS _))))))))),?_⟩
  refine⟨_,rfl,_,_,true,rfl,.tup F9,rfl,true,rfl,bh ⟨_,rfl,p,_,rfl,.inr (C2.of F9),rfl,_,rfl,eU rfl ?_⟩⟩;refine⟨_,rfl,p,_,rfl,C2.of F9,rfl,_,_,rfl,_,_,rfl,_,_,rfl,rfl,?_⟩;refine⟨_,rfl,r.1,rfl,h1,λH1 s1=>⟨true,rfl,aX ⟨_,rfl,_,rfl,r.2.1,q,ps,rfl,.inr (fj s1 (C2.of hq)),_,rfl,ju h2 ⟨_,rfl,_,rfl,r.2.2,q,ps,rfl,.inr (fj s1 (C2.of hq)),_,rfl,ju h3 ⟨_,rfl,_,rfl,rfl,?_⟩⟩⟩⟩⟩;have e:(!decide (V.str r.2.1=V.str r.2.2))=true:=by
   rw [decide_eq_false (λz=>h4 (V.str.inj z))];rfl
  rw [e];exact k H1 s1
theorem dS {α β:Type} (f:α->β) (l:List α) (i:Nat) (x:α) (h:l[i]?=some x):(l.take (i + 1)).map f=(l.take i).map f++[f x]:=by
 rw [zi,h];simp
theorem bU {rs:List (Addr×Row)}{i:Nat}{x:V} (h:(ao rs)[i]?=some x):∃r,rs[i]?=some r/\x=.ref r.1:=by
 unfold ao at h;rw [yR] at h;cases e:rs[i]? with
 | none=>rw [e] at h;cases h
 | some r=>rw [e] at h;exact⟨r,rfl,(zy h).symm⟩
def gF (r:V):Sp:=λvs H Q _=>∃(v pa ra:Addr) (ps:List Str) (rs:List (Addr×Row)),vs=[.ref v]/\bF H v pa ra ps rs/\Good ps (rs.map (·.2))/\∀H',ai H H'->Q r H'
theorem jy:aM ["thing","places","rows"] ["thing"] (aC (top 14)):=⟨rfl,rfl,rfl,by decide +kernel,rfl,by decide +kernel,by decide +kernel⟩
theorem rF (F:Dk K "is_web" "is_web" (top 14) f fd) (B:Bl mg) (F1:Fn P w K mg base 2 "is_sorted_names" ["thing"] kA) (F2:Fn P w K mg base 2 "is_tie_row" ["thing","places"] kY)
  (F3:Fn P w K mg base 1 "is_rising" ["names"] (hZ K)):aG P w K mg base Dl 3 f fd ["thing"] (gF (.bl true)):=by
 refine F.ok jy (λvs H Q E h=>?_) (λ_ _ _ _ H vs Q E hr h=>?_)
 ·obtain⟨v,pa,ra,ps,rs,rfl,_⟩:=h
  rfl
 ·obtain⟨v,pa,ra,ps,rs,rfl,W,G,k⟩:=h
  have DI:aN 1 _:=hr.mono (by decide)
  refine⟨_,am (bg (PW.pt (dm (bY (bM (ay (cQ (T:="tuple")) rfl B.isinstance cP (aa (pv 0) (aa (cS (v:=.ty "tuple") rfl B.tuple bO rfl) ae)))))
    (dG (aQ cW (ay bj rfl B.len zg (aa (pv 0) ae)) ak (aS _))))) (av (aJ dj)) be)
   (am (fE (pv 0) (fG rfl (n:=2) (bH (bw (i:=1) jy.nd rfl (Or.inr rfl)) (bH (bw (i:=2) jy.nd rfl (Or.inl rfl)) d6))))
   (am (bg (PW.pt (dm (bY (bM (ax F1 hr (aa (pv 1) ae)))) (dm (aQ eY (ay bj rfl B.len zg (aa (pv 1) ae)) ak (aS _))
    (dG (bY (bM (ay (cQ (T:="tuple")) rfl B.isinstance cP (aa (pv 2) (aa (cS (v:=.ty "tuple") rfl B.tuple bO rfl) ae))))))))) (av (aJ dj)) be)
   (av (aJ (cE (ay (eh rfl) rfl B.all eE (aa (aY (N:=["row","places"]) (ix:=[none,some 1]) ⟨rfl,rfl,rfl,by decide⟩ rfl (bJ (pv 2)) (λ_ _ _ _=>aK 0 (by decide) rfl rfl) (λ_ _ _ _=>bo)
    (λ_ _ _ _=>ax F2 hr (aa (pv 0) (aa (pv 1) ae)))) ae))
    (di (ax F3 DI (aa (aY (N:=["row"]) (ix:=[none]) ⟨rfl,rfl,rfl,by decide⟩ rfl (bJ (pv 2)) (λ_ _ _ _=>aK 0 (by decide) rfl rfl) (λ_ _ _ _=>bo)
     (λ_ _ _ _=>aA (bR K) (pv 0) ak (λ_ _=>rfl))) ae)))))))),?_⟩
  have C6:(ao rs).length<=1000:=by have:=G.rz;simp at this ⊢;omega
  refine⟨_,rfl,_,_,true,rfl,.tup W.tp,rfl,true,rfl,bh ⟨_,rfl,v,_,rfl,.inr (C2.of W.tp),rfl,_,rfl,eU rfl ?_⟩⟩;refine⟨_,rfl,v,_,rfl,C2.of W.tp,rfl,_,_,rfl,_,_,rfl,rfl,?_⟩;refine⟨_,rfl,pa,ps,rfl,W.pl,G.nm,G.so,by have:=G.pz;omega,λH1 s1=>⟨true,rfl,bh ?_⟩⟩;refine⟨_,rfl,pa,_,rfl,.inr (C2.of (s1 _ _ W.pl)),rfl,_,rfl,xa ?_ ?_⟩
  ·intro z
   have z':((ps.map V.str).length:Int)=0:=V.int.inj z;have:ps.length≠0:=λq=>G.ne (AQ.mp q);rw [yA] at z';omega
  refine⟨_,rfl,_,_,true,rfl,.tup (s1 _ _ W.rl),rfl,true,rfl,bh ?_⟩
  refine⟨_,rfl,ra,rfl,⟨_,C2.of (s1 _ _ W.rl)⟩,dC (xs:=ao rs) (fits C6) (λi ys σ H2=>ys=List.replicate i (.bl true)/\ai H H2/\∃x,σ=[x,some (.ref pa)]) ⟨rfl,s1,_,rfl⟩
   (λi ys σ H2 _ q=>⟨by rw [q.1];simp,C2.of (q.2.1 _ _ W.rl)⟩) ?_ ?_⟩
  ·rintro i x ys σ H2 hx ⟨rfl,s2,y,rfl⟩
   obtain⟨r,C9,rfl⟩:=bU hx;have hm:=yP C9;obtain⟨g1,g2,g3,g4⟩:=G.rn r.2 (yE hm);exact⟨_,rfl,_,rfl,r.1,pa,r.2,ps,rfl,s2 _ _ (W.rows r hm),s2 _ _ W.pl,g1,g2,g3,g4,λH3 s3=>⟨by rw [AK],s2.trans s3,_,rfl⟩⟩
  ·rintro ys σ H2 ⟨rfl,s2,y,rfl⟩ q Kf
   have s3:=au (o:=.lst (List.replicate (ao rs).length (.bl true))) s2 Kf;refine⟨q,List.replicate _ true,rfl,C3.of (by rw [aj,AY]),_,rfl,?_⟩;have e:∀n:Nat,(List.replicate n true).all id=true:=by simp
   rw [e]
   refine aX ⟨_,rfl,ra,rfl,⟨_,C2.of (s3 _ _ W.rl)⟩,dC (xs:=ao rs) (fits C6) (λi ys σ H4=>ys=((rs.take i).map λr=>V.str r.2.1)/\ai H H4/\∃x,σ=[x]) ⟨rfl,s3,_,rfl⟩
    (λi ys σ H4 _ q=>⟨by rw [q.1];simp;omega,C2.of (q.2.1 _ _ W.rl)⟩) ?_ ?_⟩
   ·rintro i x ys σ H4 hx ⟨rfl,s4,z,rfl⟩
    obtain⟨r,C9,rfl⟩:=bU hx;have hm:=yP C9;exact⟨_,rfl,aB (j:=0) (.inr (C2.of (s4 _ _ (W.rows r hm)))) rfl rfl ⟨(dS _ _ _ _ C9).symm,s4,_,rfl⟩⟩
   ·rintro ys σ H4 ⟨rfl,s4,z,rfl⟩ q2 EN
    refine⟨q2,rs.map (·.2.1),rfl,.inl (C3.of (by rw [aj];simp)),?_,by simpa using C6,λH5 s5=>k _ ((au s4 EN).trans s5)⟩;have:=G.rso;rw [y8] at this;exact this
theorem bT {α:Type} (p:α->Bool) (l:List α) (i:Nat) (x:α) (h:l[i]?=some x):(l.take (i + 1)).filter p=(l.take i).filter p++(if p x then [x] else []):=by
 rw [zi,h,List.filter_append];simp only [Option.toList_some,zD,List.filter_nil]
theorem take_all {α:Type} (l:List α) {n:Nat} (h:n=l.length):l.take n=l:=by subst h;exact zU
abbrev nms (rs:List (Addr×Row)):List Str:=rs.map (·.2.1)
theorem xR:aM ["thing"] ["thing"] (aC (top 15)):=⟨rfl,rfl,rfl,by decide +kernel,rfl,by decide +kernel,by decide +kernel⟩
theorem pD (F:Dk K "need_web" "need_web" (top 15) f fd) (F1:Fn P w K mg base 3 "is_web" ["thing"] (gF (.bl true))):aG P w K mg base Dl 4 f fd ["thing"] (gF .non):=by
 refine F.ok xR (λvs H Q E h=>?_) (λ_ _ _ _ H vs Q E hr h=>?_)
 ·obtain⟨v,pa,ra,ps,rs,rfl,_⟩:=h
  rfl
 ·obtain⟨v,pa,ra,ps,rs,rfl,W,G,k⟩:=h
  refine⟨_,av (bg (bY (bM (ax F1 hr (aa (pv 0) ae)))) eg be),?_⟩;exact⟨_,rfl,v,pa,ra,ps,rs,rfl,W,G,λH1 s1=>⟨true,rfl,bh (k H1 s1)⟩⟩
def jB:Sp:=λvs H Q _=>∃(v pa ra:Addr) (ps:List Str) (rs:List (Addr×Row)) (x:Str),vs=[.ref v,.str x]/\bF H v pa ra ps rs/\x∈ps/\Q .non H
theorem xO:aM ["web","thing"] ["web","thing"] (aC (top 16)):=⟨rfl,rfl,rfl,by decide +kernel,rfl,by decide +kernel,by decide +kernel⟩
theorem oP (F:Dk K "need_place" "need_place" (top 16) f fd) (F1:Fn P w K mg base 1 "is_among" ["thing","names"] (iC K)):aG P w K mg base Dl 2 f fd ["web","thing"] jB:=by
 refine F.ok xO (λvs H Q E h=>?_) (λ_ _ _ _ H vs Q E hr h=>?_)
 ·obtain⟨v,pa,ra,ps,rs,x,rfl,_⟩:=h
  rfl
 ·obtain⟨v,pa,ra,ps,rs,x,rfl,W,hx,k⟩:=h
  refine⟨_,av (bg (bY (bM (ax F1 hr (aa (pv 1) (aa (aA aI (pv 0) ak (λ_ _=>rfl)) ae))))) eg be),?_⟩;exact⟨_,rfl,_,rfl,aB (j:=0) (.inr (C2.of W.tp)) rfl rfl ⟨x,pa,ps,rfl,.inr (C2.of W.pl),_,rfl,eU hx k⟩⟩
theorem jZ (K:zz7) {X:Cx} (h:X.K=K:=by rfl):aZ X (.type "tuple") (λxs H Q=>∃p ys,xs=[.ref p]/\((C3 K H p ys/\∀l,H l=none->Q (.ref l) (upd H l (.tup ys)))\/(C2 K H p ys/\Q (.ref p) H))):=by subst h;exact da
theorem jY {α β:Type} (f:α->β):∀(l':List β) (l:List α),l'.Perm (l.map f)->∃Ph:List α,Ph.Perm l/\Ph.map f=l'
 | [],l,h=>by
  have:l=[]:=by simpa using h.length_eq.symm
  subst this;exact⟨[],.refl _,rfl⟩
 | b::t,l,h=>by
  obtain⟨a,ha,rfl⟩:=yD.mp (h.mem_iff.mp yG);obtain⟨u,v,rfl⟩:=Cs ha;have h2:(f a::t).Perm (f a::(u++v).map f):=by
   refine h.trans ?_;rw [yL,y0,yL];exact List.perm_middle
  obtain⟨w,hw,e⟩:=jY f t (u++v) h2.cons_inv;exact⟨a::w,(hw.cons a).trans List.perm_middle.symm,by rw [y0,e]⟩
theorem bA {ss:List Str} (h:ss.Pairwise Du):ss.Nodup:=h.imp λ{a b} Gg e=>by
 subst e;exact absurd Gg (BQ _)
theorem uo {rs:List (Addr×Row)} (hn:(nms rs).Nodup) {r:Addr×Row} (h:r∈rs):rs.filter (λx=>decide (x.2.1∈[r.2.1]))=[r]:=by
 induction rs with
 | nil=>cases h
 | cons x t ih =>
  have EB:=zb.mp (show (x.2.1::nms t).Nodup from hn)
  rcases yF.mp h with rfl | hm
  ·rw [zD,if_pos (by simp)]
   congr 1
   refine BY.mpr λy hy=>?_;have:y.2.1≠r.2.1:=λe=>EB.1 (e ▸ yE (f:=λz:Addr×Row=>z.2.1) hy);simpa using this
  ·have:x.2.1≠r.2.1:=λe=>EB.1 (e ▸ yE (f:=λz:Addr×Row=>z.2.1) hm)
   rw [zD,if_neg (by simpa using this)];exact ih EB.2 hm
def Dn (H:Hp) (p:Addr):Prop:=∃a b,H p=some (.lst [.int a,.int b])/\0<=b/\b < 2147483629
def Kp (P:List Addr) (H H':Hp):Prop:=∀b o,H b=some o->b∉P->H' b=some o
theorem Kp.refl (P:List Addr) (H:Hp):Kp P H H:=λ_ _ h _=>h
theorem Kp.trans {P:List Addr}{H H1 H2:Hp} (a:Kp P H H1) (b:Kp P H1 H2):Kp P H H2:=λc o h n=>b c o (a c o h n) n
theorem Kp.mono {P P':List Addr}{H H':Hp} (a:Kp P H H') (h:∀b∈P,b∈P'):Kp P' H H':=λc o e n=>a c o e λz=>n (h c z)
theorem Kp.of_same {P:List Addr}{H H1 H2:Hp} (a:Kp P H H1) (b:ai H1 H2):Kp P H H2:=λc o h n=>b c o (a c o h n)
theorem Kp.inn {P:List Addr}{H H1:Hp}{p:Addr}{o:HO} (a:Kp P H H1) (hp:p∈P):Kp P H (upd H1 p o):=λc ob h n=>by rw [ag (show c≠p from λz=>n (by rw [z];exact hp))];exact a c ob h n
theorem Kp.new {P:List Addr}{H H1:Hp}{p:Addr}{o:HO} (a:Kp P H H1) (hp:H1 p=none):Kp P H (upd H1 p o):=λc ob h n=>by rw [ag (ar (a c ob h n) hp)];exact a c ob h n
def nY (K:zz7):Sp:=λvs H Q _=>∃(a:Addr) (ns:List Int) (k:Int),vs=[.ref a,.int k]/\C3 K H a (ns.map V.int)/\0<=k/\∀c,Q (.int c) H
theorem x6:aM ["_law_script","_law_k"] ["_law_script","_law_k"] (aC (top 33)):=⟨rfl,rfl,rfl,by decide +kernel,rfl,by decide +kernel,by decide +kernel⟩
theorem wI (F:Dk K "_law_at" "_law_at" (top 33) f fd) (B:Bl mg):aG P w K mg base Dl 1 f fd ["_law_script","_law_k"] (nY K):=by
 refine F.ok x6 (λvs H Q E h=>?_) (λ_ _ _ _ H vs Q E hr h=>?_)
 ·obtain⟨a,ns,k,rfl,_⟩:=h
  rfl
 ·obtain⟨a,ns,k,rfl,ha,hk,q⟩:=h
  refine⟨_,am (bg (aQ gE (pv 1) (ay bj rfl B.len zg (aa (pv 0) ae)) (aS _)) (av (aJ (aA aI (pv 0) (pv 1) (λ_ _=>rfl)))) be) (av (aJ ak)),?_⟩;refine⟨_,rfl,_,rfl,a,_,rfl,.inl ha,_,_,rfl,rfl,_,rfl,?_⟩;refine bc (λc=>?_) (λc=>q 0);have c':k < ((ns.map V.int).length:Int):=of_decide_eq_true c;rw [yA] at c';have hl:k.toNat < ns.length:=by omega
  exact⟨_,rfl,_,rfl,aB (j:=k.toNat) (v:=.int ns[k.toNat]) (.inl ha) (by omega) (by rw [yR,yJ hl];rfl) (q _)⟩
def ng (K:zz7):Sp:=λvs H Q _=>∃(a:Addr) (ns:List Int) (k:Int),vs=[.ref a,.int k]/\C3 K H a (ns.map V.int)/\0<=k/\k<=100/\∀q H',ai H H'->H q=none->Dn H' q->Q (.ref q) H'
theorem oj:aM ["_law_script","_law_k","_law_cell"] ["_law_script","_law_k"] (aC (top 34)):=⟨rfl,rfl,rfl,by decide +kernel,rfl,by decide +kernel,by decide +kernel⟩
theorem vR (F:Dk K "_law_pot" "_law_pot" (top 34) f fd) (B:Bl mg) (F1:Fn P w K mg base 1 "_law_at" ["_law_script","_law_k"] (nY K)):aG P w K mg base Dl 2 f fd ["_law_script","_law_k"] (ng K):=by
 refine F.ok oj (λvs H Q E h=>?_) (λ_ _ _ _ H vs Q E hr h=>?_)
 ·obtain⟨a,ns,k,rfl,_⟩:=h
  rfl
 ·obtain⟨a,ns,k,rfl,ha,hk,hk2,q⟩:=h
  refine⟨_,am (aH (i:=2) oj.nd rfl (Or.inl rfl) (ax F1 hr (aa (pv 0) (aa (pv 1) ae))))
   (av (aJ (bS (aa (ay (kh rfl) rfl B.max mY (aa ak (aa (aE cF (pv 2) (aE fA ak ak)) ae)))
    (aa (aE df (aE cG (aE df (pv 2) ak) (aE dF ak (aE cG (pv 1) ak))) ak) ae))))),?_⟩
  refine⟨_,rfl,_,rfl,a,ns,k,rfl,ha,hk,λc=>?_⟩;refine⟨_,rfl,_,_,rfl,rfl,⟨by decide,by decide,by decide⟩,_,_,rfl,rfl,_,_,rfl,?_⟩;refine⟨_,rfl,_,_,rfl,rfl,by show (0:Int) < 2147483629;decide,_,rfl,_,_,rfl,rfl,_,_,rfl,rfl,.inl ⟨by decide,by decide⟩,_,_,rfl,rfl,_,_,rfl,rfl,by show (0:Int) < 2147483629;decide,by show 2<=sizeLine;decide,λl hl=>?_⟩;exact q l _ (au (ai.refl _) hl) hl ⟨_,_,aj,BI _ (by decide),Bo _ (by decide)⟩
theorem tI {X:Cx}:Dz X (binaryOp .FloorDiv) (rI (λ_ j=>0 < j/\j < 2 * 10 ^ 30) λi j=>.int (i / j)):=JS λi j _ _ _ _ _ hc q=>by
 have h1:(0:Int) < j:=hc.1;have h2:j < 2 * 10 ^ 30:=hc.2;have h3:j.natAbs < 2 ^ 9000:=za (show j.natAbs < 2 ^ 101 by omega) (A7 (by decide) (by decide))
 exact PyProof.Rows.floordiv_int (by omega) (by rw [Ct i (by omega)];exact q) (.inl (PyProof.noPylong_of_log2 (by
  have h0:j.natAbs≠0:=by omega
  exact (Nat.log2_lt h0).mpr h3)))
def dD:Sp:=λvs H Q _=>∃(p:Addr) (n:Int),vs=[.ref p,.int n]/\Dn H p/\0 < n/\n < 2 * 10 ^ 30/\∀r H',0<=r->r < n->Dn H' p->(∀b,b≠p->H' b=H b)->Q (.int r) H'
theorem nO:aM ["_law_pot_here","_law_many","_law_digit"] ["_law_pot_here","_law_many"] (aC (top 35)):=⟨rfl,rfl,rfl,by decide +kernel,rfl,by decide +kernel,by decide +kernel⟩
theorem uT (F:Dk K "_law_take" "_law_take" (top 35) f fd):aG P w K mg base Dl 1 f fd ["_law_pot_here","_law_many"] dD:=by
 refine F.ok nO (λvs H Q E h=>?_) (λ_ _ _ _ H vs Q E hr h=>?_)
 ·obtain⟨p,n,rfl,_⟩:=h
  rfl
 ·obtain⟨p,n,rfl,⟨a,b,hp,TJ,HB⟩,hn,Nh,k⟩:=h
  refine⟨_,am (bg (aQ jc (aA aI (pv 0) ak (λ_ _=>rfl)) ak (aS _))
    (am (aH (i:=2) nO.nd rfl (Or.inl rfl) (aE df (aA aI (pv 0) ak (λ_ _=>rfl)) (pv 1)))
     (am (fE (aE tI (aA aI (pv 0) ak (λ_ _=>rfl)) (pv 1)) (mP (pv 0) ak set_list)) (av (aJ (pv 2))))) be)
   (am (fE (aE df (aE cG (aE dF (aA aI (pv 0) ak (λ_ _=>rfl)) ak) ak) ak) (mP (pv 0) ak set_list))
   (av (aJ (aE df (aE lF (aE df (aE dF (aA aI (pv 0) ak (λ_ _=>rfl)) (aA aI (pv 0) ak (λ_ _=>rfl))) ak) ak) (pv 1))))),?_⟩
  have hS:Sq K H p [.int a,.int b]:=.inl (C3.of hp);refine⟨_,rfl,aB (j:=0) hS rfl rfl ⟨_,_,rfl,rfl,_,rfl,?_⟩⟩;refine bc (λc=>?_) (λc=>?_)
  ·refine⟨_,rfl,aB (j:=0) hS rfl rfl ⟨_,rfl,_,_,rfl,rfl,hn,?_⟩⟩
   refine⟨_,rfl,aB (j:=0) hS rfl rfl ⟨_,rfl,_,_,rfl,rfl,⟨hn,Nh⟩,_,rfl,p,[.int a,.int b],_,0,rfl,rfl,hp,rfl,?_⟩⟩;refine⟨_,rfl,k _ _ (BI _ (by omega)) (Bo _ hn) ⟨_,_,aj,TJ,HB⟩ λc hc=>ag hc⟩
  ·refine⟨_,rfl,aB (j:=1) hS rfl rfl ⟨_,_,rfl,rfl,.inl ⟨by omega,by omega⟩,_,_,rfl,rfl,_,_,rfl,rfl,by show (0:Int) < 2147483629;decide,_,rfl,p,[.int a,.int b],_,1,rfl,rfl,hp,rfl,?_⟩⟩
   have m0:0<=(b * 39373 + 7919) % 2147483629:=BI _ (by decide);have m1:(b * 39373 + 7919) % 2147483629 < 2147483629:=Bo _ (by decide);have D5:Sq K (upd H p (.lst ([V.int a,V.int b].set 1 (.int ((b * 39373 + 7919) % 2147483629))))) p [.int a,.int ((b * 39373 + 7919) % 2147483629)]:=.inl (C3.of aj);refine⟨_,rfl,aB (j:=1) D5 rfl rfl ⟨_,rfl,aB (j:=1) D5 rfl rfl ⟨_,_,rfl,rfl,.inl ⟨by omega,by omega⟩,_,_,rfl,rfl,by show (0:Int) < 2147483563;decide,_,_,rfl,rfl,⟨by decide,by decide⟩,_,rfl,_,_,rfl,rfl,hn,?_⟩⟩⟩;exact k _ _ (BI _ (by omega)) (Bo _ hn) ⟨_,_,aj,m0,m1⟩ λc hc=>ag hc
def d5:Str:=Str.ofString "abcdefghijklmnopqrstuvwxyz"
theorem pB:∀r:_root_.Fin 26,d5.cps.toList[r.val]?=some (97 + r.val):=by decide +kernel
theorem gU {r:Nat} (h:r < 26):d5.cps.toList[r]?=some (97 + r):=pB ⟨r,h⟩
theorem gO:d5.length<=sizeLine:=by decide
theorem join_one (cs:List Nat):(Txt.join (Str.ofString "") (cs.map λc=>(⟨#[c]⟩:Str))).cps.toList=cs:=by
 have e0:(Str.ofString "").cps=#[]:=by decide
 show (Builtin.Str.glued (Str.ofString "") _).cps.toList=cs;rw [StrLaws.glued_eq_join]
 induction cs with
 | nil=>rfl
 | cons c t ih =>
  cases t with
  | nil=>rfl
  | cons d r =>
   show (((⟨#[c]⟩:Str)++Str.ofString ""++Str.join (Str.ofString "") ((d::r).map λc=>(⟨#[c]⟩:Str))).cps).toList=_;rw [Cq,Cq,e0,BF,BF,ih];rfl
theorem qQ (x:Str):∀c∈(Txt.slice x none (some 6)).cps.toList,c∈x.cps.toList:=by
 intro c hc;unfold Txt.slice at hc;split at hc
 ·exact hc
 ·simp only [Cr] at hc
  obtain⟨i,_,e⟩:=hc;simpa using Array.mem_of_getElem? e
theorem jX (x:Str):(Txt.slice x none (some 6)).length<=6:=by
 by_cases h:6<=x.length
 ·have e:=eq_of_beq (PyProof.Rows.slice_closes_toL (x:=x) (j:=6) (by decide) (by omega))
  rw [e];simp [Str.length];omega
 ·exact y7 (Cd x _ _) (by omega)
def dN (x:Str) (m:Nat):Str:=Txt.slice x none (some 6)++(⟨#[97 + m / 26]⟩:Str)++(⟨#[97 + m % 26]⟩:Str)
theorem jE (x:Str) (m:Nat):(dN x m).cps.toList=(Txt.slice x none (some 6)).cps.toList++[97 + m / 26,97 + m % 26]:=by
 unfold dN;rw [Cq,Cq,BF,BF];simp
theorem tw (x:Str) {m n:Nat} (h:dN x m=dN x n):m=n:=by
 have e:=congrArg (λs:Str=>s.cps.toList) h;simp only [jE] at e;have e2:=List.append_cancel_left e;simp at e2;omega
theorem aV.of_codes {x:Str}{l:List Nat} (e:x.cps.toList=l) (h1:1<=l.length) (h8:l.length<=8) (h:∀c∈l,97<=c/\c<=122):aV x:=by
 have hl:x.length=l.length:=by rw [<- e];simp [Str.length]
 exact⟨by omega,by omega,by rw [e];exact h⟩
theorem qI {x:Str} (hx:aV x) {m:Nat} (hm:m < 676):aV (dN x m):=by
 refine aV.of_codes (jE x m) (by simp) ?_ ?_
 ·have:=jX x
  simp [Str.length] at this ⊢;omega
 ·intro c hc
  rcases yQ.mp hc with z | z
  ·exact hx.az c (qQ x c z)
  ·simp at z
   omega
theorem mL {α:Type}:∀(l m:List α),l.Nodup->(∀x∈l,x∈m)->l.length<=m.length
 | [],_,_,_=>ze _
 | x::t,m,hn,h=>by
  obtain⟨u,v,rfl⟩:=Cs (h x yG);have EB:=zb.mp hn;have:=mL t (u++v) EB.2 λy hy=>by
   have MH:=h y (yT _ hy)
   rcases yQ.mp MH with z | z
   ·exact yW _ z
   ·rcases yF.mp z with e | z
    ·exact absurd (e ▸ hy) EB.1
    ·exact yM _ z
  simp at this ⊢;omega
abbrev cands (x:Str) (n:Nat):List Str:=(List.range n).map (dN x)
theorem pI (x:Str) (ss:List Str):∃y r,(cands x (ss.length + 1)).filter (λz=>!decide (z∈ss))=y::r:=by
 cases e:(cands x (ss.length + 1)).filter (λz=>!decide (z∈ss)) with
 | cons y r=>exact⟨y,r,rfl⟩
 | nil =>
  have h:=BY.mp e;have nd:(cands x (ss.length + 1)).Nodup:=by
   refine Ae.mpr ?_;exact List.nodup_range.imp λ{a b} Gg z=>Gg (tw x z)
  have:=mL (cands x (ss.length + 1)) ss nd λz hz=>by simpa using h z hz
  simp at this;omega
theorem gn {H:Hp}{p t:Addr}{ss:List Str} (h1:Dn H p) (h2:H t=some (.lst (ss.map V.str))):t≠p:=by
 rintro rfl;obtain⟨a,b,e,_⟩:=h1;rw [e] at h2;have h3:=HO.lst.inj (zy h2);cases ss with
 | nil=>cases h3
 | cons x r=>rw [y0] at h3;cases Cw h3 |>.1
theorem oE {α:Type} (f:Nat->α) (i:Nat):(List.range (i + 1)).map f=(List.range i).map f++[f i]:=by rw [List.range_succ,yL];rfl
def gL:Sp:=λvs H Q _=>∃(p t:Addr) (ss:List Str),vs=[.ref p,.ref t]/\Dn H p/\H t=some (.lst (ss.map V.str))/\ss.length<=600 /\
 ∀x H',aV x->x∉ss->Dn H' p->H' t=some (.lst ((ss++[x]).map V.str))->Kp [p,t] H H'->Q (.str x) H'
abbrev Uz:List Str:=["_law_pot_here","_law_taken","_law_letters","_law_name_here","_law_some"]
theorem fL:aM Uz ["_law_pot_here","_law_taken"] (aC (top 36)):=⟨rfl,rfl,rfl,by decide +kernel,rfl,by decide +kernel,by decide +kernel⟩
theorem vb (F:Dk K "_law_name" "_law_name" (top 36) f fd) (B:Bl mg) (Ft:Fn P w K mg base 1 "_law_take" ["_law_pot_here","_law_many"] dD):aG P w K mg base Dl 2 f fd ["_law_pot_here","_law_taken"] gL:=by
 refine F.ok fL (λvs H Q E h=>?_) (λ_ _ _ _ H vs Q E hr h=>?_)
 ·obtain⟨p,t,ss,rfl,_⟩:=h
  rfl
 ·obtain⟨p,t,ss,rfl,hp,ht,hz,k⟩:=h
  have Et:=gn hp ht
  refine⟨_,am (aH (i:=2) fL.nd rfl (Or.inr rfl) gy)
   (am (aH (i:=3) fL.nd rfl (Or.inr rfl) (cK PySem.F.plainAttrs_str PySem.F.slot_str_join PySem.F.type_str_join uN gy (aa (aY (N:=["_law_k","_law_letters","_law_pot_here"]) (ix:=[none,some 2,some 0]) ⟨rfl,rfl,rfl,by decide⟩ rfl
    (eN rfl B.range (aa (aE cG ak (aE dF (ax Ft hr (aa (pv 0) (aa ak ae))) (ax Ft hr (aa (pv 0) (aa ak ae))))) ae)) (λ_ _ _ _=>aK 0 (by decide) rfl rfl) (λ_ _ _ _=>bo)
    (λ_ _ _ _=>aA (bR K) (pv 1) (ax Ft hr (aa (pv 2) (aa ak ae))) (λ_ _=>rfl))) ae)))
   (am (bg (aQ fh (pv 3) (pv 1) (by with_unfolding_all rfl))
    (am (dX (i:=4) (N:=["_law_k","_law_letters","_law_name_here"]) (ix:=[none,some 2,some 3]) fL.nd rfl (Or.inl rfl) ⟨rfl,rfl,rfl,by decide⟩ rfl (eN rfl B.range (aa (aE cG (ay bj rfl B.len zg (aa (pv 1) ae)) ak) ae))
      (λ_ _ _ _=>aK 0 (by decide) rfl rfl) (λ_ _ _ _=>bo)
      (λ_ _ _ _=>aE jL (aE jL (sg v8 (pv 2) uz (uX ak)) (aA (bR K) (pv 1) (aE lF (pv 0) ak) (λ_ _=>rfl))) (aA (bR K) (pv 1) (aE df (pv 0) ak) (λ_ _=>rfl))))
     (av (aH (i:=3) fL.nd rfl (Or.inr rfl) (aA aI (aY (N:=["_law_one","_law_taken"]) (ix:=[none,some 1]) ⟨rfl,rfl,rfl,by decide⟩ rfl (bE (pv 4)) (λ_ _ _ _=>aK 0 (by decide) rfl rfl)
      (λ_ _ _ _=>b7 (aQ (fT K) (pv 0) (pv 1) (by with_unfolding_all rfl))) (λ_ _ _ _=>pv 0)) ak (λ_ _=>rfl))))) be)
   (am (bL (cK zI zQ zR dB (pv 1) (aa (pv 3) ae)))
   (av (aJ (pv 3)))))),?_⟩
  refine⟨rfl,_,rfl,p,2,rfl,hp,by decide,by decide,λr1 H1 a0 a1 P1 e1=>⟨_,rfl,p,8,rfl,P1,by decide,by decide,λr2 H2 b0 b1 P2 e2=>?_⟩⟩;have hj:0<=r1 * r2/\r1 * r2<=7:=by
   have:r1=0\/r1=1:=by omega
   rcases this with rfl | rfl <;> omega
  have N1:∀b,b≠p->H2 b=H b:=λb hb=>(e2 b hb).trans (e1 b hb);refine⟨_,_,rfl,rfl,.inl ⟨by omega,by omega⟩,_,_,rfl,rfl,_,rfl,by omega,by omega,?_⟩;refine gW (fits (by omega)) (λi ys σ H3=>(∃cs:List Nat,cs.length=i/\(∀c∈cs,97<=c/\c<=122)/\ys=cs.map λc=>V.str ⟨#[c]⟩)/\Dn H3 p/\(∀b,b≠p->H3 b=H b)/\∃x,σ=[x,some (.str d5),some (.ref p)])
   ⟨⟨[],rfl,by simp,rfl⟩,P2,N1,_,rfl⟩ (λi ys σ H3 _ q=>by obtain⟨⟨cs,rfl,_,rfl⟩,_⟩:=q;simp) ?_ ?_
  ·rintro i ys σ H3 hi ⟨⟨cs,rfl,GV,rfl⟩,P3,e3,v,rfl⟩
   refine⟨_,rfl,_,rfl,p,26,rfl,P3,by decide,by decide,λr H4 r0 r1 P4 e4=>.inr (.inr ⟨d5,r,97 + r.toNat,rfl,rfl,gO,fw (j:=r.toNat) (by omega) (gU (by omega)),⟨cs++[97 + r.toNat],by simp,λc hc=>?_,by simp⟩,P4,λb hb=>(e4 b hb).trans (e3 b hb),_,rfl⟩)⟩
   rcases yQ.mp hc with z | z
   ·exact GV c z
   ·simp at z
    omega
  ·rintro ys σ H3 ⟨⟨cs,C6,GV,rfl⟩,P3,e3,v,rfl⟩ q hq
   have hn:q≠p:=by rintro rfl;obtain⟨_,_,e,_⟩:=P3;rw [hq] at e;cases e
   have hx:aV (Txt.join (Str.ofString "") (cs.map λc=>(⟨#[c]⟩:Str))):=aV.of_codes (join_one cs) (by rw [C6];omega) (by rw [C6];omega) GV;have Nk:(cs.map λc=>V.str ⟨#[c]⟩)=(cs.map λc=>(⟨#[c]⟩:Str)).map V.str:=by rw [y8];rfl
   refine⟨Str.ofString "",q,cs.map λc=>(⟨#[c]⟩:Str),rfl,rfl,C3.of (by rw [aj,Nk]),?_,?_⟩
   ·have hs:∀l:List Nat,((l.map λc=>(⟨#[c]⟩:Str)).map (·.length)).sum=l.length:=λl=>by
     induction l with
     | nil=>rfl
     | cons c r ih=>simp only [y0,zX,ih,zk];show 1 + r.length=_;omega
    have e0:(Str.ofString "").length=0:=by decide
    rw [hs,e0];omega
   generalize Txt.join (Str.ofString "") (cs.map λc=>(⟨#[c]⟩:Str))=x at hx ⊢;have P4:Dn (upd H3 q (.lst (cs.map λc=>V.str ⟨#[c]⟩))) p:=by obtain⟨a,b,e,h⟩:=P3;exact⟨a,b,by rw [ag hn.symm];exact e,h⟩
   have K4:Kp [p,t] H (upd H3 q (.lst (cs.map λc=>V.str ⟨#[c]⟩))):=Kp.new (λb o e n=>by rw [e3 b (λz=>n (by rw [z];simp))];exact e) hq;have t4:upd H3 q (.lst (cs.map λc=>V.str ⟨#[c]⟩)) t=some (.lst (ss.map V.str)):=by
    rw [ag (by rintro rfl;rw [e3 _ Et,ht] at hq;cases hq),e3 t Et];exact ht
   generalize upd H3 q (.lst (cs.map λc=>V.str ⟨#[c]⟩))=H4 at P4 K4 t4 ⊢;have Ox:=gn P4 t4;refine⟨_,rfl,_,rfl,t,ss.map V.str,rfl,.inl (C3.of t4),rfl,cA ss,_,rfl,?_⟩;show if FK (.str x) (ss.map V.str)=true then _ else _;rw [cD];refine bc (λc=>?_) (λc=>?_)
   ·refine⟨_,rfl,t,_,rfl,.inl (C3.of t4),_,_,rfl,rfl,_,rfl,by omega,by rw [yA];omega,?_⟩
    have Ng:((((ss.map V.str).length:Nat):Int) + 1).toNat=ss.length + 1:=by rw [yA];omega
    rw [Ng];refine gW (fits (by omega)) (λi ys σ H5=>ys=(cands x i).map V.str/\H5=H4/\∃v,σ=[v,some (.str d5),some (.str x)]) ⟨rfl,rfl,_,rfl⟩ (λi ys σ H5 _ q=>by rw [q.1];simp) ?_ ?_
    ·rintro i ys σ H5 hi ⟨rfl,rfl,v,rfl⟩
     have l1:=jX x;refine⟨_,rfl,_,rfl,x,rfl,Am hx.fits,_,rfl,_,rfl,_,_,rfl,rfl,⟨by decide,by decide⟩,.inr (.inr ⟨d5,_,97 + i / 26,rfl,rfl,gO,fw (j:=i / 26) (by omega) (gU (by omega)),_,_,rfl,rfl,?_,?_⟩)⟩
     ·show (Txt.slice x none (some 6)).length + 1<=sizeLine
      rw [zj];omega
     refine⟨_,rfl,_,rfl,_,_,rfl,rfl,by show (0:Int) < 26;decide,.inr (.inr ⟨d5,_,97 + i % 26,rfl,rfl,gO,fw (j:=i % 26) (by omega) (gU (by omega)),_,_,rfl,rfl,?_,?_,rfl,_,rfl⟩)⟩
     ·rw [Str.length_append]
      show (Txt.slice x none (some 6)).length + 1 + 1<=sizeLine;rw [zj];omega
     ·rw [cands,cands,oE,yL];rfl
    ·rintro ys σ H5 ⟨rfl,rfl,v,rfl⟩ q2 EN
     have t5:upd H5 q2 (.lst ((cands x (ss.length + 1)).map V.str)) t=some (.lst (ss.map V.str)):=by rw [ag (ar t4 EN)];exact t4
     have P5:Dn (upd H5 q2 (.lst ((cands x (ss.length + 1)).map V.str))) p:=by
      obtain⟨a,b,e,h⟩:=P4;exact⟨a,b,by rw [ag (ar e EN)];exact e,h⟩
     have K5:=K4.new (o:=.lst ((cands x (ss.length + 1)).map V.str)) EN;have c5:upd H5 q2 (.lst ((cands x (ss.length + 1)).map V.str)) q2=some (.lst ((cands x (ss.length + 1)).map V.str)):=aj;generalize upd H5 q2 (.lst ((cands x (ss.length + 1)).map V.str))=H6 at t5 P5 K5 c5 ⊢
     refine⟨_,rfl,q2,rfl,⟨_,C3.of c5⟩,dU (xs:=(cands x (ss.length + 1)).map V.str) (fits (by simp;omega)) (λi ys σ H7=>ys=(((cands x (ss.length + 1)).take i).filter λz=>!decide (z∈ss)).map V.str/\H7=H6/\∃v,σ=[v,some (.ref t)])
      ⟨rfl,rfl,_,rfl⟩ (λi ys σ H7 _ q=>⟨by rw [q.1,yA];exact y7 (yY _ _) (by simp;omega),by rw [q.2.1];exact C3.of c5⟩) ?_ ?_⟩
     ·rintro i y ys σ H7 hy ⟨rfl,rfl,v,rfl⟩
      rw [yR] at hy;cases hc:(cands x (ss.length + 1))[i]? with
      | none=>rw [hc] at hy;cases hy
      | some z =>
       rw [hc] at hy;cases hy;have tf:=bT (λz:Str=>!decide (z∈ss)) (cands x (ss.length + 1)) i z hc;refine⟨_,rfl,_,rfl,t,ss.map V.str,rfl,.inl (C3.of t5),rfl,cA ss,_,rfl,?_⟩;show if (!FK (.str z) (ss.map V.str))=true then _ else _;rw [cD];refine bc (λc=>⟨_,rfl,?_,rfl,_,rfl⟩) (λc=>⟨?_,rfl,_,rfl⟩)
       ·rw [tf,c];simp
       ·rw [tf];simp only [By] at c;rw [c];simp
     ·rintro ys σ H7 ⟨rfl,rfl,v,rfl⟩ q3 Kg
      rw [take_all (cands x (ss.length + 1)) (by simp)];obtain⟨y,r,ey⟩:=pI x ss;rw [ey];have hy:y∈(cands x (ss.length + 1)).filter (λz=>!decide (z∈ss)):=by rw [ey];exact yG
      obtain⟨SN,IU⟩:=yI.mp hy;obtain⟨m,hm,rfl⟩:=yD.mp SN;have PP:=AD.mp hm;refine aB (j:=0) (.inl (C3.of aj)) rfl rfl ?_;have t7:upd H7 q3 (.lst ((dN x m::r).map V.str)) t=some (.lst (ss.map V.str)):=by rw [ag (ar t5 Kg)];exact t5
      have P7:Dn (upd H7 q3 (.lst ((dN x m::r).map V.str))) p:=by
       obtain⟨a,b,e,h⟩:=P5;exact⟨a,b,by rw [ag (ar e Kg)];exact e,h⟩
      have K7:=K5.new (o:=.lst ((dN x m::r).map V.str)) Kg;refine⟨_,rfl,.inl ⟨rfl,_,C3.of t7⟩,_,rfl,t,ss.map V.str,_,rfl,rfl,t7,by rw [yA];exact fits (by omega),?_⟩;refine⟨_,rfl,k _ _ (qI hx (by omega)) (by simpa using IU) ?_ (by rw [aj,yL];rfl) (K7.inn (by simp))⟩;obtain⟨a,b,e,h⟩:=P7;exact⟨a,b,by rw [ag Ox.symm];exact e,h⟩
   ·simp only [decide_eq_true_eq] at c
    refine⟨_,rfl,.inl ⟨rfl,_,C3.of t4⟩,_,rfl,t,ss.map V.str,_,rfl,rfl,t4,by rw [yA];exact fits (by omega),?_⟩;refine⟨_,rfl,k _ _ hx c ?_ (by rw [aj,yL];rfl) (K4.inn (by simp))⟩;obtain⟨a,b,e,h⟩:=P4;exact⟨a,b,by rw [ag Ox.symm];exact e,h⟩
theorem jU:∀(r:List Str) (x:Str),PyProof.Rows.risingS x r=true->(x::r).Nodup->(x::r).Pairwise Du
 | [],x,_,_=>by simp
 | y::r,x,h,hn=>by
  have h':(!PySem.Spec.ltCps y.cps.toList x.cps.toList && PyProof.Rows.risingS y r)=true:=h;rw [An,PyProof.Rows.ltCps_eq] at h';have EB:=zb.mp hn;have ih:=jU r y h'.2 EB.2;have Lx:Du x y:=by
   rcases iG (λe=>EB.1 (e ▸ yG):x≠y) with z | z
   ·exact z
   ·rw [decide_eq_true z] at h'
    exact absurd h'.1 (by simp)
  refine BO.mpr ⟨λz hz=>?_,ih⟩
  rcases yF.mp hz with rfl | hz
  ·exact Lx
  ·exact Cv Lx ((BO.mp ih).1 z hz)
theorem eO {ss:List Str} (h:PyProof.Rows.sortedS ss=true) (hn:ss.Nodup):ss.Pairwise Du:=by
 cases ss with
 | nil=>exact .nil
 | cons x r=>exact jU r x h hn
theorem Kp.free {P:List Addr}{H H':Hp} (k:Kp P H H') (hP:∀b∈P,∃o,H' b=some o) {q:Addr} (hq:H' q=none):H q=none:=by
 cases e:H q with
 | none=>rfl
 | some o =>
  by_cases hm:q∈P
  ·obtain⟨o',e'⟩:=hP q hm
   rw [hq] at e';cases e'
  ·rw [k q o e hm] at hq;cases hq
theorem Dn.some {H:Hp}{p:Addr} (h:Dn H p):∃o,H p=some o:=let ⟨a,b,e,_⟩:=h;⟨_,e⟩
theorem Dn.keep {H H':Hp}{p:Addr} (h:Dn H p) (e:∀o,H p=Option.some o->H' p=Option.some o):Dn H' p:=let ⟨a,b,q,r⟩:=h;⟨a,b,e _ q,r⟩
def kE:Sp:=λvs H Q _=>∃(p:Addr) (n:Int),vs=[.ref p,.int n]/\Dn H p/\0 < n/\n<=8 /\
 ∀(q:Addr) (ps:List Str) (H':Hp),Dn H' p->H' q=some (.lst (ps.map V.str))->H q=none->(∀x∈ps,aV x)->ps.Pairwise Du->1<=ps.length->(ps.length:Int)<=n->Kp [p] H H'->Q (.ref q) H'
theorem jl:aM ["_law_pot_here","_law_most","_law_taken","_law_k"] ["_law_pot_here","_law_most"] (aC (top 39)):=⟨rfl,rfl,rfl,by decide +kernel,rfl,by decide +kernel,by decide +kernel⟩
theorem qM (F:Dk K "_law_places" "_law_places" (top 39) f fd) (B:Bl mg) (Ft:Fn P w K mg base 1 "_law_take" ["_law_pot_here","_law_many"] dD) (Fm:Fn P w K mg base 2 "_law_name" ["_law_pot_here","_law_taken"] gL) :
  aG P w K mg base Dl 3 f fd ["_law_pot_here","_law_most"] kE:=by
 refine F.ok jl (λvs H Q E h=>?_) (λ_ _ _ _ H vs Q E hr h=>?_)
 ·obtain⟨p,n,rfl,_⟩:=h
  rfl
 ·obtain⟨p,n,rfl,hp,hn,hn8,k⟩:=h
  have DI:aN 1 _:=hr.mono (by decide)
  refine⟨_,am (aH (i:=2) jl.nd rfl (Or.inl rfl) (bS ae))
   (am (cv zG rfl (eN rfl B.range (aa (aE cG ak (ax Ft DI (aa (pv 0) (aa (pv 1) ae)))) ae)) (bw (i:=3) jl.nd rfl (Or.inl rfl)) (av (bL (ax Fm hr (aa (pv 0) (aa (pv 2) ae))))))
   (av (aJ (ay fS rfl B.sorted dY (aa (pv 2) ae))))),?_⟩
  refine⟨by show 0<=sizeLine;exact ze _,λt ht=>?_⟩;have Et:t≠p:=λz=>by obtain⟨o,e⟩:=hp.some;rw [<- z,ht] at e;cases e
  have PB:Dn (upd H t (.lst [])) p:=hp.keep λo e=>by rw [ag Et.symm];exact e
  refine⟨_,rfl,_,rfl,p,n,rfl,PB,hn,by omega,λr H1 r0 r1 P1 e1=>?_⟩;have t1:H1 t=some (.lst []):=by rw [e1 t Et,aj]
  have K1:Kp [p,t] H H1:=λb o e nb=>by
   rw [e1 b (λz=>nb (by rw [z];simp)),ag (ar e ht)];exact e
  refine⟨_,_,rfl,rfl,_,rfl,by omega,by omega,fW (λi σ H2=>∃(ss:List Str) (v:Option V),σ=[some (.ref p),some (.int n),some (.ref t),v]/\Dn H2 p/\H2 t=some (.lst (ss.map V.str))/\ss.length=i/\ss.Nodup/\(∀x∈ss,aV x)/\Kp [p,t] H H2)
   ⟨[],none,rfl,P1,t1,rfl,Br,by simp,K1⟩ ?_ ?_⟩
  ·rintro i σ H2 hi ⟨ss,v,rfl,P2,t2,hl,nd,Gq,K2⟩
   refine⟨_,rfl,_,rfl,p,t,ss,rfl,P2,t2,by omega,λx H3 hx Ka P3 t3 K3=>⟨ss++[x],_,rfl,P3,t3,by simp [hl],Aa.mpr ⟨nd,by simp,λa ha b hb=>?_⟩,λy hy=>?_,K2.trans K3⟩⟩
   ·have e:b=x:=by simpa using hb
    subst e;exact λz=>Ka (z ▸ ha)
   ·rcases yQ.mp hy with z | z
    ·exact Gq y z
    ·have e:y=x:=by simpa using z
     subst e;exact hx
  ·rintro σ H2 ⟨ss,v,rfl,P2,t2,hl,nd,Gq,K2⟩
   refine⟨_,rfl,t,ss,rfl,C3.of t2,by omega,λDg q DT Eo hq=>?_⟩;have RN:Dg.Nodup:=DT.nodup_iff.mpr nd;have Il:Dg.length=ss.length:=DT.length_eq;refine k q Dg _ (P2.keep λo e=>by rw [ag (ar e hq)];exact e) aj (K2.free (λb hb=>?_) hq) (λx hx=>Gq x (DT.mem_iff.mp hx)) (eO Eo RN) (by omega) (by omega) (λb o e nb=>?_)
   ·rcases yF.mp hb with rfl | hb
    ·exact P2.some
    ·have e:b=t:=by simpa using hb
     subst e;exact⟨_,t2⟩
   ·have NC:b≠t:=ar e ht
    have:=K2 b o e (by simp at nb ⊢;exact⟨nb,NC⟩);rw [ag (ar this hq)];exact this
structure bq (H:Hp) (rw tk:Addr) (rs:List (Addr×Row)):Prop where
 rl:H rw=some (.lst (ao rs))
 tl:H tk=some (.lst ((nms rs).map V.str))
 rows:∀r∈rs,dq H r.1 r.2
structure GR (ps:List Str) (rs:List (Addr×Row)):Prop where
 nd:(nms rs).Nodup
 ok:∀r∈rs,aV r.2.1/\r.2.2.1∈ps/\r.2.2.2∈ps/\r.2.2.1≠r.2.2.2
theorem tup_ne {H:Hp}{a b:Addr}{xs ys:List V} (h1:H a=some (.tup xs)) (h2:H b=some (.lst ys)):a≠b:=i8 h1 h2 (by intro z;cases z)
theorem eS {H H':Hp}{P:List Addr}{b:Addr}{xs:List V} (k:Kp P H H') (hP:∀c∈P,∃ys,H c=some (.lst ys)) (e:H b=some (.tup xs)):H' b=some (.tup xs) :=
 k b _ e λhb=>by
  obtain⟨ys,e'⟩:=hP b hb;exact tup_ne e e' rfl
theorem Dn.lst {H:Hp}{p:Addr} (h:Dn H p):∃ys,H p=Option.some (HO.lst ys):=let ⟨a,b,e,_⟩:=h;⟨_,e⟩
theorem bq.kp {H H':Hp}{rw tk:Addr}{rs:List (Addr×Row)}{P:List Addr} (R:bq H rw tk rs) (k:Kp P H H') (hP:∀c∈P,∃ys,H c=some (.lst ys)) (h1:rw∉P) (h2:tk∉P):bq H' rw tk rs :=
 ⟨k _ _ R.rl h1,k _ _ R.tl h2,λr hr=>eS k hP (R.rows r hr)⟩
theorem bq.new {H:Hp}{rw tk q:Addr}{o:HO}{rs:List (Addr×Row)} (R:bq H rw tk rs) (hq:H q=none):bq (upd H q o) rw tk rs :=
 R.kp (P:=[]) (Kp.new (Kp.refl _ _) hq) (by simp) (by simp) (by simp)
theorem bq.off {H:Hp}{rw tk q:Addr}{o:HO}{ys:List V}{rs:List (Addr×Row)} (R:bq H rw tk rs) (h1:rw≠q) (h2:tk≠q) (hq:H q=some (.lst ys)):bq (upd H q o) rw tk rs :=
 R.kp (P:=[q]) (Kp.inn (Kp.refl _ _) (by simp)) (λc hc=>by have e:c=q:=(by simpa using hc);subst e;exact⟨ys,hq⟩) (by simpa using h1) (by simpa using h2)
theorem bq.add {H H2:Hp}{p rw tk n:Addr}{rs:List (Addr×Row)}{x a b:Str} (R:bq H rw tk rs) (hp:Dn H p) (n1:rw≠p) (n2:rw≠tk) (K2:Kp [p,tk] H H2) (t2:H2 tk=some (.lst ((nms rs++[x]).map V.str))) (hn:H2 n=none) :
  bq (upd (upd H2 n (.tup [.str x,.str a,.str b])) rw (.lst (ao rs++[.ref n]))) rw tk (rs++[(n,(x,a,b))]):=by
 have hP:∀c∈[p,tk],∃ys,H c=some (.lst ys):=λc hc=>by
  rcases yF.mp hc with rfl | hc
  ·exact hp.lst
  ·have e:c=tk:=by simpa using hc
   subst e;exact⟨_,R.tl⟩
 have r2:H2 rw=some (.lst (ao rs)):=K2 _ _ R.rl (by simp [n1,n2]);have Mq:n≠rw:=λz=>by rw [z,r2] at hn;cases hn
 have Ry:tk≠n:=ar t2 hn;refine⟨by rw [aj];simp [ao],by rw [ag n2.symm,ag Ry,t2];simp [nms],λr hr=>?_⟩
 rcases yQ.mp hr with z | z
 ·have e2:=eS K2 hP (R.rows r z)
  show upd _ _ _ r.1=_;rw [ag (tup_ne e2 r2),ag (ar e2 hn)];exact e2
 ·have e:r=(n,(x,a,b)):=by simpa using z
  subst e;show upd _ _ _ n=_;rw [ag Mq,aj]
theorem GR.add {ps:List Str}{rs:List (Addr×Row)}{n:Addr}{x a b:Str} (G:GR ps rs) (hx:aV x) (hn:x∉nms rs) (ha:a∈ps) (hb:b∈ps) (Gg:a≠b):GR ps (rs++[(n,(x,a,b))]):=by
 refine⟨?_,λr hr=>?_⟩
 ·rw [nms,yL]
  refine Aa.mpr ⟨G.nd,by simp,λy hy z hz=>?_⟩;have e:z=x:=by simpa using hz
  subst e;exact λq=>hn (q ▸ hy)
 ·rcases yQ.mp hr with z | z
  ·exact G.ok r z
  ·have e:r=(n,(x,a,b)):=by simpa using z
   subst e;exact⟨hx,ha,hb,Gg⟩
theorem qu {ps:List Str}{x:Str}:ps.Nodup->x∈ps->(ps.filter λy=>!decide (y=x)).length + 1=ps.length:=by
 induction ps with
 | nil=>intro _ h;cases h
 | cons y t ih =>
  intro hn hm;have EB:=zb.mp hn
  by_cases e:y=x
  ·subst e
   rw [zD,if_neg (by simp),List.filter_eq_self.mpr λz hz=>by simpa using λq:z=y=>EB.1 (q ▸ hz)];rfl
  ·rw [zD,if_pos (by simpa using e),zk,zk,ih EB.2 ((yF.mp hm).resolve_left λq=>e q.symm)]
theorem tT {x:Str} (h:aV x):PyData.strOk x=true:=by
 unfold PyData.strOk;rw [Array.all_eq_true'];intro c hc;have:=h.az c (by simpa using hc);simp;omega
theorem kH {ss:List Str} (h:∀x∈ss,aV x):PyData.canLayAll0 (ss.map PyData.str)=true/\PyData.depthAll (ss.map PyData.str)=0:=by
 induction ss with
 | nil=>exact⟨rfl,rfl⟩
 | cons x t ih =>
  have:=ih λy hy=>h y (yT _ hy);rw [y0];simp only [PyData.canLayAll0,PyData.canLay0,PyData.depthAll,PyData.depth,tT (h x yG),this.1,this.2];exact⟨rfl,rfl⟩
theorem fe {ss:List Str} (h:∀x∈ss,aV x):SeqAt.shaped (.list (ss.map PyData.str))=true/\SeqAt.shaped (.tuple (ss.map PyData.str))=true:=by
 have q:=kH h;unfold SeqAt.shaped;simp only [PyData.canLay0,PyData.depth,q.1,q.2];exact⟨by decide,by decide⟩
theorem gR:∀(a b:List Str),PyData.eqvAll (a.map PyData.str) (b.map PyData.str)=decide (a=b)
 | [],[]=>by simp [PyData.eqvAll]
 | [],y::t=>by simp [PyData.eqvAll]
 | x::s,[]=>by simp [PyData.eqvAll]
 | x::s,y::t=>by
  simp only [y0,PyData.eqvAll,PyData.eqv,gR s t];rw [A0];simp
theorem jA {α:Type}:∀{l:List α}{i:Nat} (hi:i < l.length),l.Nodup->l[i]∉l.eraseIdx i
 | x::t,0,_,hn=>(zb.mp hn).1
 | x::t,i + 1,hi,hn=>by
  have EB:=zb.mp hn;have Eb:i < t.length:=by simpa using hi
  show t[i]∉x::t.eraseIdx i;intro h
  rcases yF.mp h with e | h
  ·exact EB.1 (e ▸ zx Eb)
  ·exact jA Eb EB.2 h
theorem j6 {α β:Type} (f:α->β):∀(l:List α) (i:Nat),(l.map f).eraseIdx i=(l.eraseIdx i).map f
 | [],i=>by simp
 | x::t,0=>rfl
 | x::t,i + 1=>by
  show f x::(t.map f).eraseIdx i=f x::(t.eraseIdx i).map f;rw [j6 f t i]
structure Tree (root:Str) (ps:List Str) (R:List Row):Prop where
 nd:(root::R.map (·.2.2)).Nodup
 all:∀x∈ps,x∈root::R.map (·.2.2)
 rk:∃d:Str->Nat,d root=0/\∀r∈R,d r.2.2=d r.2.1 + 1
structure eZ (root:Str) (ps ds ls ts:List Str) (R:List (Addr×Row)):Prop where
 dse:ds=root::R.map (·.2.2.2)
 st:∀r∈R,r.2.2.1∈ds
 rk:∃d:Str->Nat,d root=0/\∀r∈R,d r.2.2.2=d r.2.2.1 + 1
 tse:ts=R.map (·.2.1)
 nd:ds.Nodup
 all:∀x∈ps,x∈ds\/x∈ls
theorem kc {α:Type}{l:List α}{x:α} (h:l.Nodup) (hx:x∉l):(l++[x]).Nodup:=by
 rw [Aa];refine⟨h,by simp,λa ha b hb=>?_⟩;have e:b=x:=by simpa using hb
 subst e;exact λq=>hx (q ▸ ha)
theorem eZ.add {root:Str}{ps ds ls ts FJ:List Str}{R:List (Addr×Row)} (G:eZ root ps ds ls ts R) {n:Addr}{x a z:Str} (ha:a∈ds) (hz:z∉ds) (hl:∀y∈ls,y=z\/y∈FJ):eZ root ps (ds++[z]) FJ (ts++[x]) (R++[(n,(x,a,z))]):=by
 obtain⟨d,d0,d1⟩:=G.rk;have hr:root∈ds:=by rw [G.dse];exact yG
 have hg:∀r∈R,r.2.2.2∈ds:=λr h=>by rw [G.dse];exact yT _ (yE h)
 refine⟨by rw [G.dse];simp,λr h=>?_,⟨λy=>if y=z then d a + 1 else d y,?_,λr h=>?_⟩,by rw [G.tse];simp,kc G.nd hz,λy hy=>?_⟩
 ·rcases yQ.mp h with q | q
  ·exact yW _ (G.st r q)
  ·have e:r=(n,(x,a,z)):=by simpa using q
   subst e;exact yW _ ha
 ·show (if root=z then _ else _)=0
  have e0:¬ root=z:=λe=>hz (e ▸ hr);rw [if_neg e0];exact d0
 ·rcases yQ.mp h with q | q
  ·show (if r.2.2.2=z then _ else _)=(if r.2.2.1=z then _ else _) + 1
   have e0:¬ r.2.2.2=z:=λe=>hz (e ▸ hg r q);have e1:¬ r.2.2.1=z:=λe=>hz (e ▸ G.st r q);rw [if_neg e0,if_neg e1];exact d1 r q
  ·have e:r=(n,(x,a,z)):=by simpa using q
   subst e;show (if z=z then _ else _)=(if a=z then _ else _) + 1;have e0:¬ a=z:=λe=>hz (e ▸ ha);rw [if_pos rfl,if_neg e0]
 ·rcases G.all y hy with q | q
  ·exact .inl (yW _ q)
  ·rcases hl y q with e | e
   ·exact .inl (yM _ (by simp [e]))
   ·exact .inr e
theorem eZ.tree {root:Str}{ps ds ts:List Str}{R:List (Addr×Row)} (G:eZ root ps ds [] ts R):Tree root ps (R.map (·.2)):=by
 have e:root::(R.map (·.2)).map (·.2.2)=ds:=by rw [G.dse,y8];rfl
 refine⟨by rw [e];exact G.nd,λx hx=>by rw [e];exact (G.all x hx).resolve_right (by simp),?_⟩;obtain⟨d,d0,d1⟩:=G.rk;exact⟨d,d0,λr h=>by obtain⟨t,ht,rfl⟩:=yD.mp h;exact d1 t ht⟩
def lX:Sp:=λvs H Q _=>∃(p pl rw tk:Addr) (root:Str) (ps:List Str) (rs:List (Addr×Row)),vs=[.ref p,.ref pl,.str root,.ref rw,.ref tk]/\Dn H p/\H pl=some (.lst (ps.map V.str))/\root∈ps/\ps.Nodup/\(∀x∈ps,aV x)/\ps.length<=8 /\
 bq H rw tk rs/\GR ps rs/\rs.length<=300/\rw≠p/\tk≠p/\rw≠tk /\
 ∀(q:Addr) (more:List (Addr×Row)) (ss:List Str) (H':Hp),Dn H' p->bq H' rw tk (rs++more)->GR ps (rs++more)->more.length<=7->Kp [p,rw,tk] H H'->H' q=some (.tup (ss.map V.str))->ss.Pairwise Du->ss.Perm (more.map (·.2.1))->Tree root ps (more.map (·.2))->Q (.ref q) H'
abbrev Uy:List Str:=["_law_pot_here","_law_places_here","_law_root","_law_rows","_law_taken","_law_done","_law_left","_law_tree","_law_goal"]
theorem fN:aM Uy ["_law_pot_here","_law_places_here","_law_root","_law_rows","_law_taken"] (aC (top 37)):=⟨rfl,rfl,rfl,by decide +kernel,rfl,by decide +kernel,by decide +kernel⟩
structure GS (H H1:Hp) (p rw tk d l tr:Addr) (ps:List Str) (ds ls ts:List Str) (rs more:List (Addr×Row)):Prop where
 pot:Dn H1 p
 dd:H1 d=some (.lst (ds.map V.str))
 ll:H1 l=some (.lst (ls.map V.str))
 tt:H1 tr=some (.lst (ts.map V.str))
 ra:bq H1 rw tk (rs++more)
 gr:GR ps (rs++more)
 kp:Kp [p,rw,tk] H H1
structure GP (root:Str) (ps:List Str) (ds ls ts:List Str) (more:List (Addr×Row)):Prop where
 d1:∀x∈ds,x∈ps
 l1:∀x∈ls,x∈ps/\x∉ds
 ln:ls.Nodup
 n1:more.length + ls.length + 1=ps.length
 n2:ds.length=more.length + 1
 n3:ts.length=more.length
 gw:eZ root ps ds ls ts more
theorem GS.new {H H1:Hp}{p rw tk d l tr q:Addr}{o:HO}{ps ds ls ts:List Str}{rs more:List (Addr×Row)} (S:GS H H1 p rw tk d l tr ps ds ls ts rs more) (hq:H1 q=none):GS H (upd H1 q o) p rw tk d l tr ps ds ls ts rs more :=
 ⟨S.pot.keep λob e=>by rw [ag (ar e hq)];exact e,by rw [ag (ar S.dd hq)];exact S.dd,by rw [ag (ar S.ll hq)];exact S.ll,by rw [ag (ar S.tt hq)];exact S.tt,S.ra.new hq,S.gr,S.kp.new hq⟩
theorem GS.pots {H H1 H2:Hp}{p rw tk d l tr:Addr}{ps ds ls ts:List Str}{rs more:List (Addr×Row)} (S:GS H H1 p rw tk d l tr ps ds ls ts rs more) (n1:rw≠p) (n2:tk≠p) (n3:d≠p) (n4:l≠p) (n5:tr≠p) (P2:Dn H2 p) (e2:∀b,b≠p->H2 b=H1 b) :
  GS H H2 p rw tk d l tr ps ds ls ts rs more :=
 ⟨P2,by rw [e2 d n3];exact S.dd,by rw [e2 l n4];exact S.ll,by rw [e2 tr n5];exact S.tt,S.ra.kp (P:=[p]) (λb o e nb=>by rw [e2 b (by simpa using nb)];exact e) (λc hc=>by
  have e:c=p:=by simpa using hc
  subst e;exact S.pot.lst) (by simpa using n1) (by simpa using n2),S.gr,S.kp.trans λb o e nb=>by rw [e2 b (by simp at nb;exact nb.1)];exact e⟩
theorem sH (F:Dk K "_law_grown" "_law_grown" (top 37) f fd) (B:Bl mg) (Ft:Fn P w K mg base 1 "_law_take" ["_law_pot_here","_law_many"] dD) (Fm:Fn P w K mg base 2 "_law_name" ["_law_pot_here","_law_taken"] gL) :
  aG P w K mg base Dl 3 f fd ["_law_pot_here","_law_places_here","_law_root","_law_rows","_law_taken"] lX:=by
 refine F.ok fN (λvs H Q E h=>?_) (λ_ _ _ _ H vs Q E hr h=>?_)
 ·obtain⟨p,pl,rw,tk,root,ps,rs,rfl,_⟩:=h
  rfl
 ·obtain⟨p,pl,rw,tk,root,ps,rs,rfl,hp,DK,De,Hk,Ll,p8,R,G,hz,EK,Et,GH,k⟩:=h
  have DI:aN 1 _:=hr.mono (by decide)
  refine⟨_,am (aH (i:=5) fN.nd rfl (Or.inl rfl) (bS (aa (pv 2) ae)))
   (am (dX (i:=6) (N:=["_law_place","_law_root"]) (ix:=[none,some 2]) fN.nd rfl (Or.inl rfl) ⟨rfl,rfl,rfl,by decide⟩ rfl (bE (pv 1)) (λ_ _ _ _=>aK 0 (by decide) rfl rfl) (λ_ _ _ _=>b7 (aQ cW (pv 0) (pv 1) (aS _))) (λ_ _ _ _=>pv 0))
   (am (aH (i:=7) fN.nd rfl (Or.inl rfl) (bS ae))
   (am (gg zG (aQ (iU hr) (pv 6) (bS ae) (aS _))
    (am (aH (i:=8) fN.nd rfl (Or.inl rfl) (cK zI PySem.F.slot_list_pop PySem.F.type_list_pop sG (pv 6) (aa (ax Ft DI (aa (pv 0) (aa (ay bj rfl B.len zg (aa (pv 6) ae)) ae))) ae)))
    (am (bL (cK zI zQ zR dB (pv 3) (aa (cV (aa (ax Fm hr (aa (pv 0) (aa (pv 4) ae)))
      (aa (aA aI (pv 5) (ax Ft DI (aa (pv 0) (aa (ay bj rfl B.len zg (aa (pv 5) ae)) ae))) (λ_ _=>rfl)) (aa (pv 8) ae)))) ae)))
    (am (bL (cK zI zQ zR dB (pv 7) (aa (aA aI (aA aI (pv 3) (wK vS ak) (λ_ _=>rfl)) ak (λ_ _=>rfl)) ae)))
    (av (bL (cK zI zQ zR dB (pv 5) (aa (pv 8) ae))))))))
   (av (aJ (bV da rfl B.tuple bO (aa (ay fS rfl B.sorted dY (aa (pv 7) ae)) ae))))))),?_⟩
  refine⟨_,rfl,by show 1<=sizeLine;decide,λd hd=>?_⟩;have J0:d≠p:=λz=>by obtain⟨o,e⟩:=hp.some;rw [<- z,hd] at e;cases e
  have OX:d≠rw:=(ar R.rl hd).symm;have OW:d≠tk:=(ar R.tl hd).symm;have p1:Dn (upd H d (.lst [.str root])) p:=hp.keep λo e=>by rw [ag J0.symm];exact e
  have R1:bq (upd H d (.lst [.str root])) rw tk rs:=R.new hd;have K1:Kp [p,rw,tk] H (upd H d (.lst [.str root])):=(Kp.refl _ _).new hd;have d1:upd H d (.lst [.str root]) d=some (.lst ([root].map V.str)):=aj;have Ml:upd H d (.lst [.str root]) pl=some (.lst (ps.map V.str)):=by rw [ag (ar DK hd)];exact DK
  generalize upd H d (.lst [.str root])=H1 at p1 R1 K1 d1 Ml ⊢
  refine⟨_,rfl,pl,rfl,⟨_,C3.of Ml⟩,dU (xs:=ps.map V.str) (fits (by simp;omega)) (λi ys σ H2=>ys=((ps.take i).filter λy=>!decide (y=root)).map V.str/\H2=H1/\∃v,σ=[v,some (.str root)]) ⟨rfl,rfl,_,rfl⟩
   (λi ys σ H2 _ q=>⟨by rw [q.1,yA];exact y7 (yY _ _) (by simp;omega),by rw [q.2.1];exact C3.of Ml⟩) ?_ ?_⟩
  ·rintro i y ys σ H2 hy ⟨rfl,rfl,v,rfl⟩
   rw [yR] at hy;cases hc:ps[i]? with
   | none=>rw [hc] at hy;cases hy
   | some z =>
    rw [hc] at hy;cases hy;have tf:=bT (λz:Str=>!decide (z=root)) ps i z hc;refine⟨_,rfl,_,rfl,rfl,_,rfl,?_⟩;have e:(!decide (V.str z=V.str root))=!decide (z=root):=by simp
    rw [e];refine bc (λc=>⟨_,rfl,?_,rfl,_,rfl⟩) (λc=>⟨?_,rfl,_,rfl⟩)
    ·rw [tf,c];simp
    ·rw [tf];simp only [By] at c;rw [c];simp
  rintro ys σ H2 ⟨rfl,rfl,v,rfl⟩ l hl;rw [take_all ps (by simp)];have EL:l≠p:=λz=>by obtain⟨o,e⟩:=p1.some;rw [<- z,hl] at e;cases e
  have GI:l≠rw:=(ar R1.rl hl).symm;have DZ:l≠tk:=(ar R1.tl hl).symm;have Mt:l≠d:=(ar d1 hl).symm
  have PV:H l=none:=K1.free (λb hb=>by
   rcases yF.mp hb with rfl | hb
   ·exact p1.some
   rcases yF.mp hb with rfl | hb
   ·exact⟨_,R1.rl⟩
   ·have e:b=tk:=by simpa using hb
    subst e;exact⟨_,R1.tl⟩) hl
  have Tu:=qu Hk De;have E8:∀x∈ps.filter (λy=>!decide (y=root)),x∈ps/\x∉[root]:=λx hx=>by
   obtain⟨a,b⟩:=yI.mp hx;exact⟨a,by simpa using b⟩
  have Jf:(ps.filter λy=>!decide (y=root)).Nodup:=Hk.filter _;have LA:∀x∈ps,x∈[root]\/x∈ps.filter (λy=>!decide (y=root)):=λx hx=>by
   by_cases e:x=root
   ·exact .inl (by simp [e])
   ·exact .inr (yI.mpr ⟨hx,by simpa using e⟩)
  generalize ps.filter (λy=>!decide (y=root))=Gm at Tu E8 Jf LA ⊢;have p2:Dn (upd H2 l (.lst (Gm.map V.str))) p:=p1.keep λo e=>by rw [ag EL.symm];exact e
  have R2:=R1.new (o:=.lst (Gm.map V.str)) hl;have K2:=K1.new (o:=.lst (Gm.map V.str)) hl;have d2:upd H2 l (.lst (Gm.map V.str)) d=some (.lst ([root].map V.str)):=by rw [ag Mt.symm];exact d1
  have l2:upd H2 l (.lst (Gm.map V.str)) l=some (.lst (Gm.map V.str)):=aj;generalize upd H2 l (.lst (Gm.map V.str))=H3 at p2 R2 K2 d2 l2 ⊢;refine⟨ze _,λtr GM=>?_⟩;have FS:tr≠p:=λz=>by obtain⟨o,e⟩:=p2.some;rw [<- z,GM] at e;cases e
  have JV:tr≠rw:=(ar R2.rl GM).symm;have JU:tr≠tk:=(ar R2.tl GM).symm;have Mr:tr≠d:=(ar d2 GM).symm;have Hl:tr≠l:=(ar l2 GM).symm
  have MP:H tr=none:=K2.free (λb hb=>by
   rcases yF.mp hb with rfl | hb
   ·exact p2.some
   rcases yF.mp hb with rfl | hb
   ·exact⟨_,R2.rl⟩
   ·have e:b=tk:=by simpa using hb
    subst e;exact⟨_,R2.tl⟩) GM
  have S0:GS H (upd H3 tr (.lst [])) p rw tk d l tr ps [root] Gm [] rs [] :=
   ⟨p2.keep λo e=>by rw [ag FS.symm];exact e,by rw [ag Mr.symm];exact d2,by rw [ag Hl.symm];exact l2,aj,by rw [zt];exact R2.new GM,by rw [zt];exact G,K2.new GM⟩
  have G0:GP root ps [root] Gm [] []:=⟨λx hx=>by
   have e:x=root:=by simpa using hx
   subst e;exact De,E8,Jf,by simp;omega,rfl,rfl,⟨rfl,by simp,⟨λ_=>0,rfl,by simp⟩,rfl,by simp,LA⟩⟩
  refine⟨λm σ H4=>∃ds ls ts more g,σ=[some (.ref p),some (.ref pl),some (.str root),some (.ref rw),some (.ref tk),some (.ref d),some (.ref l),some (.ref tr),g]/\ls.length=m/\GS H H4 p rw tk d l tr ps ds ls ts rs more/\GP root ps ds ls ts more,⟨_,[root],Gm,[],[],none,rfl,rfl,S0,G0⟩,?_⟩;rintro m σ H4 ⟨ds,ls,ts,more,g,rfl,rfl,S,C⟩;refine⟨_,rfl,ze _,λe he=>?_⟩;have S1:=S.new (o:=.lst []) he;have e1:upd H4 e (.lst []) e=some (.lst []):=aj;generalize upd H4 e (.lst [])=H5 at S1 e1 ⊢;have Su:∀x∈ls,aV x:=λx hx=>Ll x (C.l1 x hx).1;refine⟨.list (ls.map PyData.str),.list [],.lst S1.ll (Er.strs ls),.lst e1 .nil,(fe Su).1,(fe (ss:=[]) (by simp)).1,_,rfl,?_⟩;have ev:PyData.eqv (.list (ls.map PyData.str)) (.list [])=decide (ls=[]):=gR ls [];rw [ev];refine bc (λc=>?_) (λc=>?_)
  ·
   have Di:ls≠[]:=by simpa using c
   have PQ:0 < ls.length:=by cases ls with | nil=>exact absurd rfl Di | cons _ _=>simp
   have hl8:ls.length<=8:=by have:=C.n1;omega
   refine⟨λσ' H'=>∃m',m' < ls.length/\∃ds ls ts more g,σ'=[some (.ref p),some (.ref pl),some (.str root),some (.ref rw),some (.ref tk),some (.ref d),some (.ref l),some (.ref tr),g]/\ls.length=m'/\GS H H' p rw tk d l tr ps ds ls ts rs more/\GP root ps ds ls ts more,λσ' H' q=>q,?_⟩;refine⟨_,rfl,.inl ⟨rfl,_,C3.of S1.ll⟩,_,rfl,_,rfl,l,_,rfl,.inl (C3.of S1.ll),p,_,rfl,S1.pot,by rw [yA];omega,by rw [yA];omega,λi H6 i0 i1 P6 e6=>?_⟩;rw [yA] at i1;have S2:=S1.pots EK Et J0 EL FS P6 e6;have D1:i.toNat < ls.length:=by omega
   refine⟨l,ls.map V.str,i,i.toNat,.str ls[i.toNat],rfl,rfl,S2.ll,by omega,by omega,seqIndex_of i0 (by rw [yA];omega),strAt D1,?_⟩;have Pi:ls[i.toNat]∈ls:=zx D1;have J7:=C.l1 _ Pi;have Nu:(ls.eraseIdx i.toNat).length + 1=ls.length:=by rw [Cj,if_pos D1];omega
   have El:∀x∈ls.eraseIdx i.toNat,x∈ls:=λx hx=>List.mem_of_mem_eraseIdx hx;have Nc:ls[i.toNat]∉ls.eraseIdx i.toNat:=jA D1 C.ln;have Kh:(ls.eraseIdx i.toNat).Nodup:=C.ln.sublist (List.eraseIdx_sublist _ _);have LC:∀y∈ls,y=ls[i.toNat]\/y∈ls.eraseIdx i.toNat:=λy hy=>by
    rcases yF.mp ((fQ ls i.toNat D1).mem_iff.mpr hy) with q | q
    ·exact .inl q
    ·exact .inr q
   have em:(ls.map V.str).eraseIdx i.toNat=(ls.eraseIdx i.toNat).map V.str:=j6 _ _ _;rw [em];generalize ls[i.toNat]=z at Pi J7 Nc LC ⊢;generalize ls.eraseIdx i.toNat=FJ at Nu El Nc Kh LC ⊢;have S3:GS H (upd H6 l (.lst (FJ.map V.str))) p rw tk d l tr ps ds FJ ts rs more :=
    ⟨S2.pot.keep λo q=>by rw [ag EL.symm];exact q,by rw [ag Mt.symm];exact S2.dd,aj,by rw [ag Hl];exact S2.tt,S2.ra.off GI.symm DZ.symm S2.ll,S2.gr,λb o q nb=>by rw [ag (ar q PV)];exact S2.kp b o q nb⟩
   generalize upd H6 l (.lst (FJ.map V.str))=H7 at S3 ⊢;have E4:(rs++more).length<=400:=by rw [zc];have:=C.n1;omega
   refine⟨_,rfl,.inl ⟨rfl,_,C3.of S3.ra.rl⟩,_,rfl,_,rfl,p,tk,nms (rs++more),rfl,S3.pot,S3.ra.tl,by rw [nms,yA];omega,λx H8 hx Ka P8 t8 K8=>?_⟩;have d8:H8 d=some (.lst (ds.map V.str)):=K8 _ _ S3.dd (by simp [J0,OW]);have l8:H8 l=some (.lst (FJ.map V.str)):=K8 _ _ S3.ll (by simp [EL,DZ]);have r8:H8 tr=some (.lst (ts.map V.str)):=K8 _ _ S3.tt (by simp [FS,JU]);have hdl:=C.n2;refine⟨_,rfl,_,rfl,_,rfl,d,_,rfl,.inl (C3.of d8),p,_,rfl,P8,by rw [yA];omega,by rw [yA];have:=C.n1;omega,λj H9 j0 j1 P9 e9=>?_⟩;rw [yA] at j1;have D9:j.toNat < ds.length:=by omega
   have d9:H9 d=some (.lst (ds.map V.str)):=by rw [e9 d J0];exact d8
   have l9:H9 l=some (.lst (FJ.map V.str)):=by rw [e9 l EL];exact l8
   have r9:H9 tr=some (.lst (ts.map V.str)):=by rw [e9 tr FS];exact r8
   have t9:H9 tk=some (.lst ((nms (rs++more)++[x]).map V.str)):=by rw [e9 tk Et];exact t8
   have K9:Kp [p,tk] H7 H9:=K8.trans λb o q nb=>by rw [e9 b (by simp at nb;exact nb.1)];exact q
   refine aB (j:=j.toNat) (.inl (C3.of d9)) (by omega) (strAt D9) ⟨_,rfl,by show 3<=sizeLine;decide,λn hn=>?_⟩;have LB:ds[j.toNat]∈ds:=zx D9;generalize ds[j.toNat]=a at LB ⊢;have G7:=S3.ra.add (a:=a) (b:=z) S3.pot EK GH K9 t9 hn;have QM:=S3.gr.add (n:=n) (a:=a) (b:=z) hx Ka (C.d1 a LB) J7.1 (λq=>J7.2 (q ▸ LB));have w9:H9 rw=some (.lst (ao (rs++more))):=K9 _ _ S3.ra.rl (by simp [EK,GH]);have Ms:rw≠n:=ar w9 hn;have Rq:p≠n:=λq=>by obtain⟨o,e⟩:=P9.some;rw [q,hn] at e;cases e
   refine⟨rw,ao (rs++more),.ref n,rfl,rfl,by rw [ag Ms];exact w9,fits (by rw [yA];omega),?_⟩;have KR:Dn (upd (upd H9 n (.tup [.str x,.str a,.str z])) rw (.lst (ao (rs++more)++[.ref n]))) p:=P9.keep λo q=>by rw [ag EK.symm,ag Rq];exact q
   have d10:upd (upd H9 n (.tup [.str x,.str a,.str z])) rw (.lst (ao (rs++more)++[.ref n])) d=some (.lst (ds.map V.str)):=by rw [ag OX,ag (ar d9 hn)];exact d9
   have Pg:upd (upd H9 n (.tup [.str x,.str a,.str z])) rw (.lst (ao (rs++more)++[.ref n])) l=some (.lst (FJ.map V.str)):=by rw [ag GI,ag (ar l9 hn)];exact l9
   have IM:upd (upd H9 n (.tup [.str x,.str a,.str z])) rw (.lst (ao (rs++more)++[.ref n])) tr=some (.lst (ts.map V.str)):=by rw [ag JV,ag (ar r9 hn)];exact r9
   have KW:Kp [p,rw,tk] H (upd (upd H9 n (.tup [.str x,.str a,.str z])) rw (.lst (ao (rs++more)++[.ref n]))):=((S3.kp.trans (K9.mono λb hb=>by simp at hb ⊢;rcases hb with q | q <;> simp [q])).new hn).inn (by simp);generalize upd (upd H9 n (.tup [.str x,.str a,.str z])) rw (.lst (ao (rs++more)++[.ref n]))=DD at G7 KR d10 Pg IM KW ⊢;have JQ:DD n=some (.tup [.str x,.str a,.str z]):=G7.rows (n,(x,a,z)) (by simp);have Mh:DD rw=some (.lst (ao (rs++more)++[.ref n])):=by rw [G7.rl];simp [ao]
   refine⟨_,rfl,.inl ⟨rfl,_,C3.of IM⟩,_,rfl,1,rfl,.inl ⟨rw,_,_,.ref n,rfl,rfl,C3.of Mh,tX _ _,aB (j:=0) (.inr (C2.of JQ)) rfl rfl ⟨tr,ts.map V.str,.str x,rfl,rfl,IM,fits (by have:=C.n3;have:=C.n1;simp;omega),?_⟩⟩⟩;have QE:=G7.off (o:=.lst (ts.map V.str++[.str x])) JV.symm JU.symm IM;have KQ:Dn (upd DD tr (.lst (ts.map V.str++[.str x]))) p:=KR.keep λo q=>by rw [ag FS.symm];exact q
   have d11:upd DD tr (.lst (ts.map V.str++[.str x])) d=some (.lst (ds.map V.str)):=by rw [ag Mr.symm];exact d10
   have Pf:upd DD tr (.lst (ts.map V.str++[.str x])) l=some (.lst (FJ.map V.str)):=by rw [ag Hl.symm];exact Pg
   have OL:upd DD tr (.lst (ts.map V.str++[.str x])) tr=some (.lst ((ts++[x]).map V.str)):=by rw [aj,yL];rfl
   have QI:Kp [p,rw,tk] H (upd DD tr (.lst (ts.map V.str++[.str x]))):=λb o q nb=>by rw [ag (ar q MP)];exact KW b o q nb
   generalize upd DD tr (.lst (ts.map V.str++[.str x]))=EW at QE KQ d11 Pf OL QI ⊢;refine⟨_,rfl,.inl ⟨rfl,_,C3.of d11⟩,_,rfl,d,ds.map V.str,.str z,rfl,rfl,d11,fits (by have:=C.n2;have:=C.n1;simp;omega),?_⟩;refine⟨FJ.length,by omega,ds++[z],FJ,ts++[x],more++[(n,(x,a,z))],_,rfl,rfl,⟨?_,?_,?_,?_,?_,?_,?_⟩,⟨?_,?_,?_,?_,?_,?_,C.gw.add LB J7.2 LC⟩⟩
   ·exact KQ.keep λo q=>by rw [ag J0.symm];exact q
   ·rw [aj,yL];rfl
   ·rw [ag Mt];exact Pf
   ·rw [ag Mr];exact OL
   ·have:=QE.off (o:=.lst (ds.map V.str++[.str z])) OX.symm OW.symm d11
    rw [Aj] at this;exact this
   ·rw [Aj] at QM;exact QM
   ·exact λb o q nb=>by rw [ag (ar q hd)];exact QI b o q nb
   ·intro y hy
    rcases yQ.mp hy with q | q
    ·exact C.d1 y q
    ·have e:y=z:=by simpa using q
     subst e;exact J7.1
   ·intro y hy
    have q:=C.l1 y (El y hy);refine⟨q.1,λhm=>?_⟩
    rcases yQ.mp hm with w' | w'
    ·exact q.2 w'
    ·have e:y=z:=by simpa using w'
     subst e;exact Nc hy
   ·exact Kh
   ·have:=C.n1;simp;omega
   ·have:=C.n2;simp;omega
   ·have:=C.n3;simp;omega
  ·
   refine⟨_,rfl,tr,ts,rfl,C3.of S1.tt,by have:=C.n1;have:=C.n3;omega,λDg q DT Eo hq=>?_⟩;have e0:ls=[]:=by simpa using c
   subst e0;have QY:ts.Nodup:=by
    rw [C.gw.tse];have:=S1.gr.nd;rw [nms,yL] at this;exact (Aa.mp this).2.1
   have snd:Dg.Nodup:=DT.nodup_iff.mpr QY;have S2:=S1.new (o:=.lst (Dg.map V.str)) hq;refine⟨q,_,rfl,.inl ⟨C3.of aj,λu hu=>?_⟩⟩;have S3:=S2.new (o:=.tup (Dg.map V.str)) hu;exact k u more Dg _ S3.pot S3.ra S3.gr (by have:=C.n1;omega) S3.kp aj (eO Eo snd) (by rw [<- C.gw.tse];exact DT) C.gw.tree
theorem v2 {a r n:Int} (h1:0<=a) (h2:a < n) (h3:0<=r) (h4:r < n - 1):(a + 1 + r) % n≠a/\0<=(a + 1 + r) % n/\(a + 1 + r) % n < n:=by
 refine⟨λe=>?_,BI _ (by omega),Bo _ (by omega)⟩;have q:=Int.mul_ediv_add_emod (a + 1 + r) n;rw [e] at q;generalize (a + 1 + r) / n=k at q;have hk:k<=0\/1<=k:=by omega
 rcases hk with hk | hk
 ·have:=Int.mul_nonpos_of_nonneg_of_nonpos (show 0<=n by omega) hk
  omega
 ·have:=Int.mul_le_mul_of_nonneg_left hk (show 0<=n by omega)
  omega
def mx:Sp:=λvs H Q _=>∃(p pl rw tk:Addr) (many:Int) (ps:List Str) (rs:List (Addr×Row)),vs=[.ref p,.ref pl,.ref rw,.ref tk,.int many]/\Dn H p/\H pl=some (.lst (ps.map V.str))/\ps.Nodup/\ps.length<=8 /\
 bq H rw tk rs/\GR ps rs/\rs.length<=300/\0<=many/\many<=100/\rw≠p/\tk≠p/\rw≠tk/\pl≠rw/\pl≠tk /\
 ∀(more:List (Addr×Row)) (H':Hp),Dn H' p->bq H' rw tk (rs++more)->GR ps (rs++more)->(more.length:Int)<=many->Kp [p,rw,tk] H H'->Q .non H'
abbrev Ux:List Str:=["_law_pot_here","_law_places_here","_law_rows","_law_taken","_law_many","_law_k","_law_a","_law_b"]
theorem gJ:aM Ux ["_law_pot_here","_law_places_here","_law_rows","_law_taken","_law_many"] (aC (top 38)):=⟨rfl,rfl,rfl,by decide +kernel,rfl,by decide +kernel,by decide +kernel⟩
theorem ug (F:Dk K "_law_more" "_law_more" (top 38) f fd) (B:Bl mg) (Ft:Fn P w K mg base 1 "_law_take" ["_law_pot_here","_law_many"] dD) (Fm:Fn P w K mg base 2 "_law_name" ["_law_pot_here","_law_taken"] gL) :
  aG P w K mg base Dl 3 f fd ["_law_pot_here","_law_places_here","_law_rows","_law_taken","_law_many"] mx:=by
 refine F.ok gJ (λvs H Q E h=>?_) (λ_ _ _ _ H vs Q E hr h=>?_)
 ·obtain⟨p,pl,rw,tk,many,ps,rs,rfl,_⟩:=h
  rfl
 ·obtain⟨p,pl,rw,tk,many,ps,rs,rfl,hp,DK,Hk,p8,R,G,hz,m0,m1,EK,Et,GH,GI,DZ,k⟩:=h
  have DI:aN 1 _:=hr.mono (by decide);have EL:pl≠p:=gn hp DK
  refine⟨_,av (cv zG rfl (eN rfl B.range (aa (aE dF (pv 4) (bV qJ rfl B.int mZ (aa (cT jc (ay bj rfl B.len zg (aa (pv 1) ae)) ak (aS _)) ae))) ae)) (bw (i:=5) gJ.nd rfl (Or.inl rfl))
   (am (aH (i:=6) gJ.nd rfl (Or.inl rfl) (ax Ft DI (aa (pv 0) (aa (ay bj rfl B.len zg (aa (pv 1) ae)) ae))))
   (am (aH (i:=7) gJ.nd rfl (Or.inl rfl) (aE df (aE cG (aE cG (pv 6) ak) (ax Ft DI (aa (pv 0) (aa (aE cF (ay bj rfl B.len zg (aa (pv 1) ae)) ak) ae)))) (ay bj rfl B.len zg (aa (pv 1) ae))))
   (av (bL (cK zI zQ zR dB (pv 2) (aa (cV (aa (ax Fm hr (aa (pv 0) (aa (pv 3) ae)))
    (aa (aA aI (pv 1) (pv 6) (λ_ _=>rfl)) (aa (aA aI (pv 1) (pv 7) (λ_ _=>rfl)) ae)))) ae))))))),?_⟩
  have C6:(ps.map V.str).length=ps.length:=by simp
  refine⟨_,rfl,_,rfl,pl,_,rfl,.inl (C3.of DK),_,_,rfl,rfl,.inr ⟨_,rfl,_,_,rfl,rfl,.inl ⟨by omega,by omega⟩,_,rfl,?_,?_,?_⟩⟩
  ·split <;> omega
  ·split <;> omega
  have hj:∀i:Nat,i < (many * (if decide ((1:Int) < ((ps.map V.str).length:Int))=true then 1 else 0)).toNat->1 < ps.length/\(i:Int) < many:=λi hi=>by
   rw [C6] at hi;split at hi
   ·next c=>have c':=of_decide_eq_true c;omega
   ·simp at hi
  have hjm:(((many * (if decide ((1:Int) < ((ps.map V.str).length:Int))=true then 1 else 0)).toNat:Nat):Int)<=many:=by split <;> omega
  refine fW (λi σ H1=>∃(more:List (Addr×Row)) (g1 g2 g3:Option V),σ=[some (.ref p),some (.ref pl),some (.ref rw),some (.ref tk),some (.int many),g1,g2,g3]/\Dn H1 p/\bq H1 rw tk (rs++more)/\GR ps (rs++more)/\more.length=i/\Kp [p,rw,tk] H H1)
   ⟨[],none,none,none,rfl,hp,by rw [zt];exact R,by rw [zt];exact G,rfl,Kp.refl _ _⟩ ?_ ?_
  ·rintro i σ H1 hi ⟨more,g1,g2,g3,rfl,P1,R1,G1,Gb,K1⟩
   obtain⟨PB,him⟩:=hj i hi;have l1:H1 pl=some (.lst (ps.map V.str)):=K1 _ _ DK (by simp [EL,GI,DZ]);refine⟨_,rfl,_,rfl,pl,_,rfl,.inl (C3.of l1),p,_,rfl,P1,by omega,by omega,λa H2 a0 a1 P2 e2=>?_⟩;have l2:H2 pl=some (.lst (ps.map V.str)):=by rw [e2 pl EL];exact l1
   refine⟨_,rfl,_,_,rfl,rfl,_,rfl,_,rfl,pl,_,rfl,.inl (C3.of l2),_,_,rfl,rfl,p,_,rfl,P2,by omega,by omega,λr H3 r0 r1 P3 e3=>?_⟩;have l3:H3 pl=some (.lst (ps.map V.str)):=by rw [e3 pl EL];exact l2
   refine⟨_,_,rfl,rfl,_,rfl,pl,_,rfl,.inl (C3.of l3),_,_,rfl,rfl,by show (0:Int) < _;omega,?_⟩;rw [C6] at a1 r1 ⊢;obtain⟨b1,b2,b3⟩:=v2 a0 a1 r0 r1;obtain⟨b,GW⟩:∃b,b=(a + 1 + r) % (ps.length:Int):=⟨_,rfl⟩
   rw [<- GW] at b1 b2 b3;have LI:∀c,c≠p->H3 c=H1 c:=λc hc=>(e3 c hc).trans (e2 c hc)
   have R3:bq H3 rw tk (rs++more):=R1.kp (P:=[p]) (λc o e nc=>by rw [LI c (by simpa using nc)];exact e) (λc hc=>by
    have e:c=p:=by simpa using hc
    subst e;exact P1.lst) (by simpa using EK) (by simpa using Et)
   have E4:(rs++more).length<=400:=by rw [zc];omega
   refine⟨_,rfl,.inl ⟨rfl,_,C3.of R3.rl⟩,_,rfl,_,rfl,p,tk,nms (rs++more),rfl,P3,R3.tl,by rw [nms,yA];omega,λx H4 hx Ka P4 t4 K4=>?_⟩;have l4:H4 pl=some (.lst (ps.map V.str)):=K4 _ _ l3 (by simp [EL,DZ]);have ha:a.toNat < ps.length:=by omega
   have hb:b.toNat < ps.length:=by omega
   refine⟨_,rfl,_,rfl,aB (j:=a.toNat) (.inl (C3.of l4)) (by omega) (strAt ha) ⟨_,rfl,_,rfl,aB (j:=b.toNat) (.inl (C3.of l4)) (by omega) (strAt hb) ⟨by show 3<=sizeLine;decide,λn hn=>?_⟩⟩⟩;have Gg:ps[a.toNat]≠ps[b.toNat]:=by
    have Di:a.toNat≠b.toNat:=by omega
    rcases Bi Di with y | y
    ·exact yZ.mp Hk _ _ ha hb y
    ·exact λz=>yZ.mp Hk _ _ hb ha y z.symm
   have w4:H4 rw=some (.lst (ao (rs++more))):=K4 _ _ R3.rl (by simp [EK,GH]);have Ms:rw≠n:=ar w4 hn;have Rr:p≠n:=λq=>by obtain⟨o,e⟩:=P4.some;rw [q,hn] at e;cases e
   have R5:=R3.add (a:=ps[a.toNat]) (b:=ps[b.toNat]) P3 EK GH K4 t4 hn;have G5:=G1.add (n:=n) hx Ka (zx ha) (zx hb) Gg;refine⟨rw,ao (rs++more),.ref n,rfl,rfl,by rw [ag Ms];exact w4,fits (by rw [yA];omega),more++[(n,(x,ps[a.toNat],ps[b.toNat]))],_,_,_,rfl,P4.keep λo q=>by rw [ag EK.symm,ag Rr];exact q,?_,?_,by simp [Gb],?_⟩
   ·rw [Aj] at R5;exact R5
   ·rw [Aj] at G5;exact G5
   ·have K3:Kp [p,rw,tk] H H3:=K1.trans λc o e nc=>by rw [LI c (by simp at nc;exact nc.1)];exact e
    exact ((K3.trans (K4.mono λb hb=>by simp at hb ⊢;rcases hb with q | q <;> simp [q])).new hn).inn (by simp)
  ·rintro σ H1 ⟨more,g1,g2,g3,rfl,P1,R1,G1,Gb,K1⟩
   exact k more H1 P1 R1 G1 (by omega) K1
theorem kX (rs:List (Addr×Row)):refs (rs.map λr=>(r.1,r.2.1))=ao rs:=by
 unfold refs ao;rw [y8];rfl
theorem Tree.perm {root:Str}{ps:List Str}{R R':List Row} (t:Tree root ps R) (p:R'.Perm R):Tree root ps R':=by
 have q:=List.Perm.cons root (p.map (λr:Row=>r.2.2));obtain⟨d,d0,d1⟩:=t.rk;exact⟨q.nodup_iff.mpr t.nd,λx hx=>q.mem_iff.mpr (t.all x hx),d,d0,λr h=>d1 r (p.mem_iff.mp h)⟩
abbrev aD (rs:List (Addr×Row)) (ss:List Str):List (Addr×Row):=rs.filter λr=>decide (r.2.1∈ss)
structure gu (root:Str) (ps:List Str) (rs:List (Addr×Row)) (ss:List Str):Prop where
 so:ss.Pairwise Du
 nm:∀x∈ss,x∈nms rs
 tr:Tree root ps ((aD rs ss).map (·.2))
theorem nJ {c:TT}{x y b:TS}{D:Ends}{σ:St}{H:Hp} (M:St->Hp->Prop) (h:∀N:St->Hp->Prop,(∀σ H,M σ H->N σ H)->jh c x y { D with nx:=N } σ H) (k:∀σ H,M σ H->b D σ H):jq (jh c x y) b D σ H:=h (b D) k
abbrev T:=Addr×Row
inductive Walk (R:List Row) (a:Str):Nat->Str->Prop
 | nil:Walk R a 0 a
 | snoc {n:Nat}{r:Row}:Walk R a n r.2.1->r∈R->Walk R a (n + 1) r.2.2
def aW (R:List Row) (a:Str) (n:Nat) (x:Str):Prop:=Walk R a n x/\∀m,Walk R a m x->n<=m
section
variable {R:List Row}{a x:Str}{n m:Nat}
theorem aW.uniq (h:aW R a n x) (h':aW R a m x):n=m:=Nat.le_antisymm (h.2 m h'.1) (h'.2 n h.1)
theorem aW.zero:aW R a 0 a:=⟨.nil,λ_ _=>ze _⟩
theorem Walk.z (h:Walk R a 0 x):x=a:=by cases h;rfl
theorem Walk.dist:∀{n:Nat}{x:Str},Walk R a n x->∃m,m<=n/\aW R a m x:=by
 intro n
 induction n using Nat.strongRecOn with
 | ind n ih =>
  intro x h
  by_cases c:∃m,m < n/\Walk R a m x
  ·obtain⟨m,h1,h2⟩:=c
   obtain⟨k,h3,h4⟩:=ih m h1 h2;exact⟨k,by omega,h4⟩
  ·refine⟨n,yO _,h,λm hm=>?_⟩
   rcases Bu m n with q | q
   ·exact absurd ⟨m,q,hm⟩ c
   ·exact q
theorem aW.pred (h:aW R a (n + 1) x):∃r∈R,r.2.2=x/\aW R a n r.2.1:=by
 obtain⟨hw,hm⟩:=h;generalize hn:n + 1=k at hw hm;cases hw with
 | nil=>omega
 | @snoc n' r SR hr =>
  have e:n'=n:=by omega
  subst e;refine⟨r,hr,rfl,SR,λm h=>?_⟩;have:=hm (m + 1) (.snoc h hr);omega
theorem aW.step {r:Row} (h:aW R a n r.2.1) (hr:r∈R) (hn:∀m,m<=n->¬ aW R a m r.2.2):aW R a (n + 1) r.2.2:=by
 refine⟨.snoc h.1 hr,λm hm=>?_⟩;obtain⟨k,h1,h2⟩:=hm.dist
 rcases Bu n k with q | q
 ·omega
 ·exact absurd h2 (hn k q)
end
def DG (a x:Str) (tk:List T) (r:T):List T:=if r.2.2.1=x/\r.2.2.2∉a::tk.map (·.2.2.2) then tk++[r] else tk
def Dr (rs:List T) (a:Str):Nat->List T
 | 0=>[]
 | k + 1=>match (a::(Dr rs a k).map (·.2.2.2))[k]? with
  | some x=>rs.foldl (DG a x) (Dr rs a k)
  | none=>Dr rs a k
structure Ei (rs:List T) (a:Str) (fd:List (Str×Nat)) (tk:List T) (q:Nat):Prop where
 fst:fd.map (·.1)=a::tk.map (·.2.2.2)
 dist:∀p∈fd,aW (rs.map (·.2)) a p.2 p.1
 nd:(fd.map (·.1)).Nodup
 so:fd.Pairwise (λp p'=>p.2<=p'.2)
 sub:∀t∈tk,t∈rs
 par:∀t∈tk,t.2.2.1∈fd.map (·.1)/\∃n,aW (rs.map (·.2)) a n t.2.2.1/\aW (rs.map (·.2)) a (n + 1) t.2.2.2
 done:∀i p,i < q->fd[i]?=some p->∀r∈rs,r.2.2.1=p.1->r.2.2.2∈fd.map (·.1)
 near:∀p,fd[q]?=some p->(∀p'∈fd,p'.2<=p.2 + 1)/\∀z m,aW (rs.map (·.2)) a m z->m<=p.2->z∈fd.map (·.1)
 ql:q<=fd.length
theorem Ei.start (rs:List T) (a:Str):Ei rs a [(a,0)] [] 0 where
 fst:=rfl
 dist:=λp hp=>by have e:p=(a,0):=(by simpa using hp);subst e;exact aW.zero
 nd:=by simp
 so:=by simp
 sub:=by simp
 par:=by simp
 done:=λi p hi=>absurd hi (Cb _)
 near:=λp hp=>by
  have e:p=(a,0):=by simpa using hp.symm
  subst e;refine⟨by simp,λz m h hm=>?_⟩;have e:m=0:=Nat.le_zero.mp hm;subst e;simpa using h.1.z
 ql:=ze _
theorem jJ {α:Type}{l:List α}{x:α} (h:l.Nodup) (hx:x∉l):(l++[x]).Nodup:=by
 rw [Aa];refine⟨h,by simp,λa ha b hb=>?_⟩;have e:b=x:=by simpa using hb
 subst e;exact λz=>hx (z ▸ ha)
section
variable {rs:List T}{a:Str}{fd:List (Str×Nat)}{tk:List T}{q:Nat}
theorem Ei.row (B:Ei rs a fd tk q) {x:Str}{n:Nat} (hq:fd[q]?=some (x,n)) {r:T} (hr:r∈rs) :
  ∃more,fd <+: fd++more/\Ei rs a (fd++more) (DG a x tk r) q/\(r.2.2.1=x->r.2.2.2∈(fd++more).map (·.1)):=by
 have IY:q < fd.length:=(yV.mp hq).1;have PM:(x,n)∈fd:=yP hq
 by_cases c:r.2.2.1=x/\r.2.2.2∉a::tk.map (·.2.2.2)
 ·have hy:r.2.2.2∉fd.map (·.1):=by rw [B.fst];exact c.2
  obtain⟨n1,n2⟩:=B.near _ hq;have hd:aW (rs.map (·.2)) a n r.2.2.1:=by rw [c.1];exact B.dist _ PM
  have Ir:aW (rs.map (·.2)) a (n + 1) r.2.2.2:=hd.step (yE hr) λm hm h=>hy (n2 _ m h hm);have e:DG a x tk r=tk++[r]:=by unfold DG;rw [if_pos c]
  rw [e];refine⟨[(r.2.2.2,n + 1)],List.prefix_append _ _,⟨?_,?_,?_,?_,?_,?_,?_,?_,?_⟩,λ_=>by simp⟩
  ·simp [B.fst]
  ·intro p hp
   rcases yQ.mp hp with z | z
   ·exact B.dist p z
   ·have e:p=(r.2.2.2,n + 1):=by simpa using z
    subst e;exact Ir
  ·rw [yL];exact jJ B.nd hy
  ·rw [List.pairwise_append]
   refine⟨B.so,by simp,λp hp p' F9=>?_⟩;have e:p'=(r.2.2.2,n + 1):=by simpa using F9
   subst e;exact n1 p hp
  ·intro t ht
   rcases yQ.mp ht with z | z
   ·exact B.sub t z
   ·have e:t=r:=by simpa using z
    subst e;exact hr
  ·intro t ht
   rcases yQ.mp ht with z | z
   ·obtain⟨y1,y2⟩:=B.par t z
    exact⟨by rw [yL];exact yW _ y1,y2⟩
   ·have e:t=r:=by simpa using z
    subst e;exact⟨by rw [yL];exact yW _ (by rw [c.1];exact yE (f:=(·.1)) PM),n,hd,Ir⟩
  ·intro i p hi hp r' C9 e
   rw [Ak (by omega)] at hp;rw [yL];exact yW _ (B.done i p hi hp r' C9 e)
  ·intro p hp
   rw [Ak IY,hq] at hp;cases hp;refine⟨λp' F9=>?_,λz m h hm=>by rw [yL];exact yW _ (n2 z m h hm)⟩
   rcases yQ.mp F9 with z | z
   ·exact n1 p' z
   ·have e:p'=(r.2.2.2,n + 1):=by simpa using z
    subst e;exact yO _
  ·have:=B.ql;simp;omega
 ·have e:DG a x tk r=tk:=by unfold DG;rw [if_neg c]
  rw [e];refine⟨[],by simp,by simpa using B,λh=>?_⟩;rw [zt,B.fst];exact Decidable.byContradiction λz=>c ⟨h,z⟩
theorem Ei.rows {x:Str}{n:Nat}:∀(Fs:List T) (fd:List (Str×Nat)) (tk:List T),(∀r∈Fs,r∈rs)->Ei rs a fd tk q->fd[q]?=some (x,n) ->
  ∃more,Ei rs a (fd++more) (Fs.foldl (DG a x) tk) q/\∀r∈Fs,r.2.2.1=x->r.2.2.2∈(fd++more).map (·.1)
 | [],fd,tk,_,B,_=>⟨[],by simpa using B,by simp⟩
 | r::Fs,fd,tk,hs,B,hq=>by
  obtain⟨m1,_,B1,h1⟩:=B.row hq (hs r yG);have IY:q < fd.length:=(yV.mp hq).1;obtain⟨m2,B2,h2⟩:=Ei.rows Fs (fd++m1) _ (λr' C9=>hs r' (yT _ C9)) B1 (by rw [Ak IY];exact hq);refine⟨m1++m2,by rw [<- Aj];exact B2,λr' C9 e=>?_⟩;rw [<- Aj]
  rcases yF.mp C9 with z | z
  ·subst z
   rw [yL];exact yW _ (h1 e)
  ·exact h2 r' z e
theorem Ei.next (B:Ei rs a fd tk q) {x:Str}{n:Nat} (hq:fd[q]?=some (x,n)):∃NY,Ei rs a NY (rs.foldl (DG a x) tk) (q + 1):=by
 obtain⟨more,B',h⟩:=Ei.rows rs fd tk (λ_ z=>z) B hq;have IY:q < fd.length:=(yV.mp hq).1;have Em:(fd++more)[q]?=some (x,n):=by rw [Ak IY];exact hq
 refine⟨fd++more,B'.fst,B'.dist,B'.nd,B'.so,B'.sub,B'.par,λi p hi hp r hr e=>?_,λp hp=>?_,by simp;omega⟩
 ·rcases Bu i q with z | z
  ·exact B'.done i p z hp r hr e
  ·have ei:i=q:=by omega
   subst ei;rw [Em] at hp;cases hp;exact h r hr e
 ·obtain⟨n1,n2⟩:=B'.near _ Em
  have DT:=yP hp;obtain⟨l1,g1⟩:=yV.mp Em;obtain⟨l2,g2⟩:=yV.mp hp;have Im:n<=p.2:=by
   have:=yZ.mp B'.so q (q + 1) l1 l2 (by omega);rw [g1,g2] at this;exact this
  have Nn:=n1 p DT
  dsimp only at Nn n1
  refine⟨λp' F9=>by have:=n1 p' F9;omega,λz m hz hm=>?_⟩
  rcases Bu n m with y | y
  ·have em:m=n + 1:=by omega
   subst em;obtain⟨r,hr,rfl,hd⟩:=hz.pred;obtain⟨t,ht,rfl⟩:=yD.mp hr;have hf:=n2 _ n hd (yO _);obtain⟨p0,Hs,e0⟩:=yD.mp hf;have en:p0.2=n:=(B'.dist p0 Hs).uniq (by rw [e0];exact hd);obtain⟨i,hi⟩:=Bz Hs;obtain⟨l3,g3⟩:=yV.mp hi;have hiq:i < q + 1:=by
    rcases Bu i (q + 1) with w | w
    ·exact w
    ·exfalso
     rcases Bu (q + 1) i with v | v
     ·have:=yZ.mp B'.so (q + 1) i l2 l3 v
      rw [g2,g3] at this;omega
     ·have ei:i=q + 1:=by omega
      subst ei;rw [hp] at hi;cases hi;omega
   rcases Bu i q with w | w
   ·exact B'.done i p0 w hi t ht e0.symm
   ·have ei:i=q:=by omega
    subst ei;rw [Em] at hi;cases hi;exact h t ht e0.symm
  ·exact n2 z m hz y
end
theorem dZ {α:Type}:∀{l m:List α},l.Nodup->(∀x∈l,x∈m)->l.length<=m.length
 | [],_,_,_=>ze _
 | x::l,m,h,hs=>by
  obtain⟨h1,h2⟩:=zb.mp h;obtain⟨u,v,rfl⟩:=Cs (hs x yG);have:=dZ (m:=u++v) h2 λy hy=>by
   have q:=hs y (yT _ hy)
   rcases yQ.mp q with z | z
   ·exact yW _ z
   ·rcases yF.mp z with e | z
    ·subst e;exact absurd hy h1
    ·exact yM _ z
  simp at this ⊢;omega
abbrev C8 (a:Str) (tk:List T):List Str:=a::tk.map (·.2.2.2)
structure cm (rs:List T) (a:Str) (tk:List T):Prop where
 mem:∀z∈C8 a tk,∃n,aW (rs.map (·.2)) a n z
 nd:(C8 a tk).Nodup
 sub:∀t∈tk,t∈rs
 par:∀t∈tk,t.2.2.1∈C8 a tk/\∃n,aW (rs.map (·.2)) a n t.2.2.1/\aW (rs.map (·.2)) a (n + 1) t.2.2.2
 cl:∀n z,Walk (rs.map (·.2)) a n z->z∈C8 a tk
theorem Ei.full {rs:List T}{a:Str}{fd:List (Str×Nat)}{tk:List T}{q:Nat} (B:Ei rs a fd tk q) (hq:fd.length<=q):cm rs a tk:=by
 have hf:C8 a tk=fd.map (·.1):=B.fst.symm;refine⟨λz hz=>?_,by rw [hf];exact B.nd,B.sub,λt ht=>by rw [hf];exact B.par t ht,λn z h=>?_⟩
 ·rw [hf] at hz
  obtain⟨p,hp,rfl⟩:=yD.mp hz;exact⟨_,B.dist p hp⟩
 ·rw [hf]
  induction h with
  | nil=>rw [<- hf];exact yG
  | @snoc n r h hr ih =>
   obtain⟨p,hp,e⟩:=yD.mp ih;obtain⟨i,hi⟩:=Bz hp;obtain⟨t,ht,rfl⟩:=yD.mp hr;exact B.done i p (za (yV.mp hi).1 hq) hi t ht e.symm
theorem ft {R:List Row}{a:Str}{ps:List Str} (ha:a∈ps) (h:∀r∈R,r.2.2∈ps):∀{n:Nat}{z:Str},Walk R a n z->z∈ps:=by
 intro n z hw;cases hw with
 | nil=>exact ha
 | snoc _ hr=>exact h _ hr
theorem Ei.bound {rs:List T}{a:Str}{fd:List (Str×Nat)}{tk:List T}{q:Nat} (B:Ei rs a fd tk q) {ps:List Str} (ha:a∈ps) (h:∀r∈rs,r.2.2.2∈ps):fd.length<=ps.length:=by
 have:=dZ B.nd (m:=ps) λz hz=>by
  obtain⟨p,hp,rfl⟩:=yD.mp hz;exact ft ha (λr hr=>by obtain⟨t,ht,rfl⟩:=yD.mp hr;exact h t ht) (B.dist p hp).1
 simpa using this
theorem jI {rs:List T}{a:Str}{k:Nat} (h:(Dr rs a k).length + 1<=k):∀j,Dr rs a (k + j)=Dr rs a k
 | 0=>rfl
 | j + 1=>by
  have ih:=jI h j;show (match (a::(Dr rs a (k + j)).map (·.2.2.2))[k + j]? with | some x=>rs.foldl (DG a x) (Dr rs a (k + j)) | none=>Dr rs a (k + j))=_;rw [ih];have e:(a::(Dr rs a k).map (·.2.2.2))[k + j]?=none:=by
   rw [List.getElem?_eq_none_iff];simp;omega
  rw [e]
theorem kS:∃f:List T->Str->List T,∀rs a,f rs a=Dr rs a 200:=⟨_,λ_ _=>rfl⟩
def first (rs:List T) (a:Str):List T:=Classical.choose kS rs a
theorem tR (rs:List T) (a:Str):first rs a=Dr rs a 200:=Classical.choose_spec kS rs a
theorem tW {rs:List T}{a:Str}{k:Nat} (h:(Dr rs a k).length + 1<=k) (hk:k<=200):Dr rs a k=first rs a:=by
 have:=jI h (200 - k);rw [show k + (200 - k)=200 by omega] at this;rw [tR];exact this.symm
def xF (tk:List T) (a:Str):Nat->Str->List T
 | 0,_=>[]
 | f + 1,x=>if x=a then [] else match tk.find? (λt=>decide (t.2.2.2=x)) with
  | some t=>xF tk a f t.2.2.1++[t]
  | none=>[]
def lst (a:Str) (w:List T):Str:=(a::w.map (·.2.2.2)).getLast (by simp)
structure yu (rs:List T) (a:Str) (w:List T) (x:Str):Prop where
 at':∀i t,w[i]?=some t->t∈rs/\t.2.2.1=lst a (w.take i)/\aW (rs.map (·.2)) a (i + 1) t.2.2.2
 last:lst a w=x
theorem find_some {tk:List T}{x:Str} (h:x∈tk.map (·.2.2.2)):∃t,tk.find? (λt=>decide (t.2.2.2=x))=some t/\t∈tk/\t.2.2.2=x:=by
 obtain⟨t,ht,e⟩:=yD.mp h;cases q:tk.find? (λt=>decide (t.2.2.2=x)) with
 | none=>exact absurd (List.find?_eq_none.mp q t ht) (by simpa using e)
 | some u=>exact⟨u,rfl,AH q,by simpa using BJ q⟩
theorem uD {R:List Row}{a:Str}{ps:List Str} (ha:a∈ps) (h:∀r∈R,r.2.2∈ps):∀{n:Nat}{z:Str},aW R a n z->n < ps.length:=by
 have key:∀(n:Nat) (z:Str),aW R a n z->∃l:List Str,l.length=n + 1/\l.Nodup/\(∀y∈l,y∈ps)/\∀y∈l,∃m,m<=n/\aW R a m y:=by
  intro n
  induction n with
  | zero=>intro z hz;exact⟨[z],rfl,by simp,by simpa using ft ha h hz.1,by simpa using hz⟩
  | succ n ih =>
   intro z hz;obtain⟨r,hr,rfl,hd⟩:=hz.pred;obtain⟨l,h1,h2,h3,h4⟩:=ih _ hd;refine⟨r.2.2::l,by simp [h1],zb.mpr ⟨λhm=>?_,h2⟩,λy hy=>?_,λy hy=>?_⟩
   ·obtain⟨m,h5,h6⟩:=h4 _ hm
    exact absurd (h6.uniq hz) (by omega)
   ·rcases yF.mp hy with e | hy
    ·subst e;exact h _ hr
    ·exact h3 y hy
   ·rcases yF.mp hy with e | hy
    ·subst e;exact⟨_,yO _,hz⟩
    ·obtain⟨m,h5,h6⟩:=h4 y hy
     exact⟨m,by omega,h6⟩
 intro n z hz;obtain⟨l,h1,h2,h3,_⟩:=key n z hz;have:=dZ h2 h3;omega
end K53
namespace L2
open PySem PySem.Spec PyProof.Rows
section
variable {X:Cx}{tg:Expr}
def SJ (K:zz7) (tl:TE):TI:=λσ H R=>tl σ H λx H1=>∃a,x=.ref a/\((∃xs,C3 K H1 a xs)/\R (Gk K a) H1\/(∃xs,C2 K H1 a xs)/\R (Gz K a) H1)
theorem wY {l:Expr}{tl:TE} (hl:PE X l tl):PI X tg l (SJ X.K tl):=by
 intro pins s σ H R I h;refine C4 (hl pins s σ H _ I h) λv s1 ⟨x,H1,I1,r1,q1⟩=>?_;obtain⟨a,e,q1⟩:=q1;subst e;cases r1;have fp:∀b∈[s1.heap.objs.size],bv X pins H1 b:=λb hb=>by
  have e:b=s1.heap.objs.size:=by simpa using hb
  subst e;exact I1.fpOk (yO _) (I1.hok.fresh (yO _))
 rcases q1 with ⟨⟨xs,hq⟩,q⟩ | ⟨⟨xs,hq⟩,q⟩
 ·obtain⟨C1,rv,p,hz⟩:=I1.list hq
  refine AL p.isList ?_;exact⟨s1.heap.objs.size,[s1.heap.objs.size],_,_,H1,rfl,I1.kept (t':=s1.toks) λb o e=>yB _ e,kl a _,⟨_,yN _ rfl,rfl,rfl⟩,fp,q⟩
 ·obtain⟨C1,rv,p,hz⟩:=I1.tuple hq
  refine AE (show s1.heap.IsTuple a C1.toArray from p) ?_;exact⟨s1.heap.objs.size,[s1.heap.objs.size],_,_,H1,rfl,I1.kept (t':=s1.toks) λb o e=>yB _ e,jK a _,⟨_,yN _ rfl,rfl,rfl⟩,fp,q⟩
def mV (J:It) (g:TG) (tb:TS) (D:Ends) (σ:St) (H:Hp):Prop:=∃W:Nat->Nat->St->Hp->Prop,(∃m,W 0 m σ H)/\∀i m σ H,W i m σ H ->
 (J.stop i H/\D.nx σ H)\/(J.go i H/\∃N:St->Hp->Prop,(∀σ' H',N σ' H'->∃m',m' < m/\W (i + 1) m' σ' H')/\∀x H',J.yld i H x H'->g x σ H' λσ2 H2=>tb { D with nx:=N,ct:=N,bk:=D.nx } σ2 H2)
theorem wd {K:zz7}{a:Addr}{xs:List V}{g:TG}{tb:TS}{D:Ends}{σ:St}{H H0:Hp} (Pv:Nat->St->Hp->Prop) (h0:Pv 0 σ H) (hq:H0 a=some (.lst xs)\/H0 a=some (.tup xs)) (hl:∀i σ H,Pv i σ H->ai H0 H)
  (hs:∀i x σ H,xs[i]?=some x->Pv i σ H->g x σ H λσ2 H2=>tb { D with nx:=Pv (i + 1),ct:=Pv (i + 1),bk:=D.nx } σ2 H2) (hd:∀σ H,Pv xs.length σ H->D.nx σ H) :
  (∃xs,C3 K H a xs)/\mV (Gk K a) g tb D σ H\/(∃xs,C2 K H a xs)/\mV (Gz K a) g tb D σ H:=by
 rcases hq with q | q
 ·exact .inl ⟨⟨_,C3.of (hl _ _ _ h0 _ _ q)⟩,ip Pv h0 (λi σ H _ p=>C3.of (hl i σ H p _ _ q)) hs hd⟩
 ·exact .inr ⟨⟨_,C2.of (hl _ _ _ h0 _ _ q)⟩,eA Pv h0 (λi σ H _ p=>C2.of (hl i σ H p _ _ q)) hs hd⟩
end
end L2
namespace K53
open PySem L2
theorem sk (a x:Str) (r:T) (tk:List T):∃more,DG a x tk r=tk++more/\more.length<=1:=by
 unfold DG;split
 ·exact⟨[r],rfl,by simp⟩
 ·exact⟨[],by simp,by simp⟩
theorem kj (a x:Str):∀(rs tk:List T),∃more,rs.foldl (DG a x) tk=tk++more/\more.length<=rs.length
 | [],tk=>⟨[],by simp,by simp⟩
 | r::rs,tk=>by
  obtain⟨m1,e1,h1⟩:=sk a x r tk;obtain⟨m2,e2,h2⟩:=kj a x rs (DG a x tk r);refine⟨m1++m2,?_,by simp;omega⟩;rw [List.foldl_cons,e2,e1,Aj]
theorem qT {a x:Str}{rs tk:List T}{i:Nat}{r:T} (h:rs[i]?=some r):(rs.take (i + 1)).foldl (DG a x) tk=DG a x ((rs.take i).foldl (DG a x) tk) r:=by
 rw [zi,h,CG];rfl
theorem ai.upd0 {H H':Hp}{q:Addr}{o:HO} (h:ai H H') (hq:H q=none):ai H (upd H' q o):=λb ob e=>by
 rw [ag (ar e hq)];exact h b ob e
structure cJ (H:Hp) (rs:List T):Prop where
 e:∀r∈rs,dq H r.1 r.2
theorem cJ.same {H H':Hp}{rs:List T} (h:cJ H rs) (s:ai H H'):cJ H' rs:=⟨λr hr=>s _ _ (h.e r hr)⟩
variable {P:Program}{w:World}{K:zz7}{mg:Str->Option zz9}{base:Heap}{f:Addr}{fd:FuncData}
def lW:Sp:=λvs H Q _=>∃(ra:Addr) (a:Str) (rs:List T) (ps:List Str),vs=[.ref ra,.str a]/\(H ra=some (.lst (ao rs))\/H ra=some (.tup (ao rs)))/\cJ H rs/\a∈ps/\(∀r∈rs,r.2.2.2∈ps)/\ps.length<=100/\rs.length<=60 /\
 ∀(q:Addr) (H':Hp),ai H H'->H q=none->H' q=some (.lst (ao (first rs a)))->cm rs a (first rs a)->Q (.ref q) H'
abbrev UB:List Str:=["rows","start","found","taken","done","row"]
theorem fb:aM UB ["rows","start"] (aC (top 18)):=⟨rfl,rfl,rfl,by decide +kernel,rfl,by decide +kernel,by decide +kernel⟩
theorem oM (F:Dk K "first_rows" "first_rows" (top 18) f fd) (B:Bl mg):aG P w K mg base Dl 1 f fd ["rows","start"] lW:=by
 refine F.ok fb (λvs H Q E h=>?_) (λ_ _ _ _ H vs Q E hr h=>?_)
 ·obtain⟨ra,a,rs,ps,rfl,_⟩:=h
  rfl
 ·obtain⟨ra,a,rs,ps,rfl,Ke,Dj,GX,Ew,hz,FL,k⟩:=h
  refine⟨_,am (aH (i:=2) fb.nd rfl (Or.inl rfl) (bS (aa (pv 1) ae)))
   (am (aH (i:=3) fb.nd rfl (Or.inl rfl) (bS ae))
   (am (aH (i:=4) fb.nd rfl (Or.inl rfl) ak)
   (am (gg zG (aQ gE (pv 4) (ay bj rfl B.len zg (aa (pv 2) ae)) (aS _))
    (am (cv zG rfl (wY (pv 0)) (bw (i:=5) fb.nd rfl (Or.inl rfl))
     (av (bg (PW.pt (vB (aQ eY (aA aI (pv 5) ak (λ_ _=>rfl)) (aA aI (pv 2) (pv 4) (λ_ _=>rfl)) (aS _))
       (vi (aQ gP (aA aI (pv 5) ak (λ_ _=>rfl)) (pv 2) (by with_unfolding_all rfl)))))
      (am (bL (cK zI zQ zR dB (pv 2) (aa (aA aI (pv 5) ak (λ_ _=>rfl)) ae)))
      (av (bL (cK zI zQ zR dB (pv 3) (aa (pv 5) ae))))) be)))
    (av (v6 (i:=4) fb.nd rfl (Or.inl rfl) ak v9))))
   (av (aJ (pv 3)))))),?_⟩
  refine⟨_,rfl,by show 1<=sizeLine;decide,λfo Iq=>?_⟩;have s1:=au (o:=.lst [.str a]) (ai.refl H) Iq;have f1:upd H fo (.lst [.str a]) fo=some (.lst ((C8 a []).map V.str)):=aj;generalize upd H fo (.lst [.str a])=H1 at s1 f1 ⊢;refine⟨ze _,λtk Eg=>?_⟩;have FZ:=s1.free Eg;have HY:fo≠tk:=ar f1 Eg;have s2:=au (o:=.lst []) s1 Eg;have f2:upd H1 tk (.lst []) fo=some (.lst ((C8 a []).map V.str)):=by rw [ag HY];exact f1
  have t2:upd H1 tk (.lst []) tk=some (.lst (ao [])):=aj;generalize upd H1 tk (.lst [])=H2 at s2 f2 t2 ⊢
  refine⟨λm σ H3=>∃(q:Nat) (fd:List (Str×Nat)) (g:Option V),σ=[some (.ref ra),some (.str a),some (.ref fo),some (.ref tk),some (.int q),g]/\m=200 - q/\Ei rs a fd (Dr rs a q) q/\ai H H3/\H3 fo=some (.lst ((C8 a (Dr rs a q)).map V.str))/\H3 tk=some (.lst (ao (Dr rs a q))),
   ⟨_,0,_,none,rfl,rfl,Ei.start rs a,s2,f2,t2⟩,?_⟩
  rintro m σ H3 ⟨q,fd,g,rfl,rfl,Bq,s3,f3,t3⟩;have FB:(C8 a (Dr rs a q)).length=fd.length:=by
   have:=congrArg List.length Bq.fst;rw [yA] at this;exact this.symm
  have hfb:=Bq.bound GX Ew;have IY:=Bq.ql;refine⟨_,rfl,_,rfl,fo,_,rfl,.inl (C3.of f3),_,_,rfl,rfl,_,rfl,bc (λc=>?_) (λc=>?_)⟩
  ·have Dh:q < fd.length:=by
    have:=of_decide_eq_true c;rw [yA,FB] at this;omega
   have Pw:fd[q]?=some (fd[q].1,fd[q].2):=yJ Dh;obtain⟨NY,B'⟩:=Bq.next Pw;have hx:(C8 a (Dr rs a q))[q]?=some fd[q].1:=by
    show (a::(Dr rs a q).map (·.2.2.2))[q]?=_;rw [<- Bq.fst,yR,Pw];rfl
   have eb:Dr rs a (q + 1)=rs.foldl (DG a fd[q].1) (Dr rs a q):=by
    show (match (a::(Dr rs a q).map (·.2.2.2))[q]? with | some x=>rs.foldl (DG a x) (Dr rs a q) | none=>Dr rs a q)=_;rw [show (a::(Dr rs a q).map (·.2.2.2))[q]?=some fd[q].1 from hx]
   rw [<- eb] at B';generalize fd[q].1=x at hx eb;refine⟨λσ' H'=>∃m',m' < 200 - q/\∃(q:Nat) (fd:List (Str×Nat)) (g:Option V),σ'=[some (.ref ra),some (.str a),some (.ref fo),some (.ref tk),some (.int q),g]/\m'=200 - q/\Ei rs a fd (Dr rs a q) q/\ai H H'/\H' fo=some (.lst ((C8 a (Dr rs a q)).map V.str))/\H' tk=some (.lst (ao (Dr rs a q))),λσ' H' q=>q,?_⟩
   refine⟨_,rfl,ra,rfl,wd (K:=K) (a:=ra) (xs:=ao rs) (H0:=H) (λi σ H4=>∃g,σ=[some (.ref ra),some (.str a),some (.ref fo),some (.ref tk),some (.int q),g]/\ai H H4/\H4 fo=some (.lst ((C8 a ((rs.take i).foldl (DG a x) (Dr rs a q))).map V.str))/\H4 tk=some (.lst (ao ((rs.take i).foldl (DG a x) (Dr rs a q)))))
    ⟨_,rfl,s3,f3,t3⟩ Ke (λi σ H4 p=>by obtain⟨_,_,s4,_⟩:=p;exact s4) ?_ ?_⟩
   ·rintro i y σ H4 hy ⟨g,rfl,s4,f4,t4⟩
    obtain⟨r,Dw,rfl⟩:=bU hy;have D1:i < rs.length:=(yV.mp Dw).1;have E3:=s4 _ _ (Dj.e r (yP Dw));obtain⟨more,em,Gb⟩:=kj a x (rs.take i) (Dr rs a q);have C6:((rs.take i).foldl (DG a x) (Dr rs a q)).length<=160:=by
     rw [em,zc];have h1:(Dr rs a q).length + 1=fd.length:=by simpa using FB
     have h2:(rs.take i).length<=60:=by rw [zF];omega
     omega
    have Po:(C8 a ((rs.take i).foldl (DG a x) (Dr rs a q)))[q]?=some x:=by
     rw [em];show (a::(Dr rs a q++more).map (·.2.2.2))[q]?=_
     rw [yL,<- CT,Ak (by
      have:=FB;simp at this ⊢;omega)]
     exact hx
    have tf:=qT (a:=a) (x:=x) (tk:=Dr rs a q) Dw;rw [tf];generalize (rs.take i).foldl (DG a x) (Dr rs a q)=tl at f4 t4 C6 Po ⊢;have SO:((C8 a tl).map V.str)[q]?=some (.str x):=by rw [yR,Po];rfl
    refine⟨_,rfl,aB (j:=1) (.inr (C2.of E3)) rfl rfl ⟨_,rfl,_,rfl,aB (j:=q) (.inl (C3.of f4)) rfl SO ⟨rfl,_,rfl,?_⟩⟩⟩
    by_cases c1:r.2.2.1=x
    ·rw [decide_eq_true (show V.str r.2.2.1=V.str x by rw [c1])]
     refine aX ⟨_,rfl,aB (j:=2) (.inr (C2.of E3)) rfl rfl ⟨_,rfl,fo,_,rfl,.inl (C3.of f4),rfl,cA _,_,rfl,?_⟩⟩;rw [cD]
     by_cases c2:r.2.2.2∈C8 a tl
     ·have es:DG a x tl r=tl:=by unfold DG;rw [if_neg (λz=>z.2 c2)]
      rw [es];show if (!decide (r.2.2.2∈C8 a tl))=true then _ else _;exact eU c2 ⟨_,rfl,s4,f4,t4⟩
     ·have es:DG a x tl r=tl++[r]:=by unfold DG;rw [if_pos ⟨c1,c2⟩]
      rw [es];show if (!decide (r.2.2.2∈C8 a tl))=true then _ else _;refine nE c2 ?_;refine⟨_,rfl,.inl ⟨rfl,_,C3.of f4⟩,_,rfl,aB (j:=2) (.inr (C2.of E3)) rfl rfl ⟨fo,_,_,rfl,rfl,f4,fits (by simp;omega),?_⟩⟩;have s5:=ai.upd0 s4 (o:=.lst ((C8 a tl).map V.str++[.str r.2.2.2])) (q:=fo) Iq;have f5:upd H4 fo (.lst ((C8 a tl).map V.str++[.str r.2.2.2])) fo=some (.lst ((C8 a (tl++[r])).map V.str)):=by rw [aj];simp
      have t5:upd H4 fo (.lst ((C8 a tl).map V.str++[.str r.2.2.2])) tk=some (.lst (ao tl)):=by rw [ag HY.symm];exact t4
      generalize upd H4 fo (.lst ((C8 a tl).map V.str++[.str r.2.2.2]))=H5 at s5 f5 t5 ⊢;refine⟨_,rfl,.inl ⟨rfl,_,C3.of t5⟩,_,rfl,tk,_,_,rfl,rfl,t5,fits (by simp;omega),_,rfl,ai.upd0 s5 FZ,by rw [ag HY];exact f5,by rw [aj];simp [ao]⟩
    ·have es:DG a x tl r=tl:=by unfold DG;rw [if_neg (λz=>c1 z.1)]
     rw [es,decide_eq_false (λz=>c1 (V.str.inj z))];exact bh (bh ⟨_,rfl,s4,f4,t4⟩)
   ·rintro σ H4 ⟨g,rfl,s4,f4,t4⟩
    have et:rs.take (ao rs).length=rs:=take_all rs (by simp);rw [et,<- eb] at f4 t4;exact⟨_,rfl,_,_,rfl,rfl,_,by omega,q + 1,NY,_,rfl,rfl,B',s4,f4,t4⟩
  ·have Ts:fd.length<=q:=by
    have:=of_decide_eq_false (CI.mpr c);rw [yA,FB] at this;omega
   have e1:Dr rs a q=first rs a:=tW (by have:=FB;simp at this;omega) (by omega);have Fu:=Bq.full Ts;rw [e1] at t3 Fu;exact⟨_,rfl,k tk H3 s3 FZ t3 Fu⟩
def iV:Sp:=λvs H Q _=>∃(ra:Addr) (a:Str) (rs:List T) (ps:List Str),vs=[.ref ra,.str a]/\(H ra=some (.lst (ao rs))\/H ra=some (.tup (ao rs)))/\cJ H rs/\a∈ps/\(∀r∈rs,r.2.2.2∈ps)/\ps.length<=100/\rs.length<=60 /\
 ∀(q:Addr) (H':Hp),ai H H'->H q=none->H' q=some (.lst ((C8 a (first rs a)).map V.str))->cm rs a (first rs a)->Q (.ref q) H'
theorem gf {rs tk:List T}{a:Str}{ps:List Str} (F:cm rs a tk) (ha:a∈ps) (h:∀r∈rs,r.2.2.2∈ps):tk.length + 1<=ps.length:=by
 have:=dZ F.nd (m:=ps) λz hz=>by
  obtain⟨n,hd⟩:=F.mem z hz;exact ft ha (λr hr=>by obtain⟨t,ht,rfl⟩:=yD.mp hr;exact h t ht) hd.1
 simpa using this
theorem xl:aM ["rows","start"] ["rows","start"] (aC (top 19)):=⟨rfl,rfl,rfl,by decide +kernel,rfl,by decide +kernel,by decide +kernel⟩
theorem pJ (F:Dk K "come_to" "come_to" (top 19) f fd) (F1:Fn P w K mg base 1 "first_rows" ["rows","start"] lW):aG P w K mg base Dl 2 f fd ["rows","start"] iV:=by
 refine F.ok xl (λvs H Q E h=>?_) (λ_ _ _ _ H vs Q E hr h=>?_)
 ·obtain⟨ra,a,rs,ps,rfl,_⟩:=h
  rfl
 ·obtain⟨ra,a,rs,ps,rfl,Ke,Dj,GX,Ew,hz,FL,k⟩:=h
  refine⟨_,av (aJ (aE vy (bS (aa (pv 1) ae)) (aY (N:=["row"]) (ix:=[none]) ⟨rfl,rfl,rfl,by decide⟩ rfl (bE (ax F1 hr (aa (pv 0) (aa (pv 1) ae)))) (λ_ _ _ _=>aK 0 (by decide) rfl rfl) (λ_ _ _ _=>bo)
   (λ_ _ _ _=>aA (bR K) (pv 0) ak (λ_ _=>rfl))))),?_⟩
  refine⟨_,rfl,by show 1<=sizeLine;decide,λl hl=>?_⟩;have s1:=au (o:=.lst [.str a]) (ai.refl H) hl;have l1:upd H l (.lst [.str a]) l=some (.lst [.str a]):=aj;generalize upd H l (.lst [.str a])=H1 at s1 l1 ⊢;refine⟨_,rfl,_,rfl,ra,a,rs,ps,rfl,Ke.imp (s1 _ _) (s1 _ _),Dj.same s1,GX,Ew,hz,FL,λq H2 s2 EN q2 Fu=>?_⟩;have C6:=gf Fu GX Ew;have r2:cJ H2 (first rs a):=⟨λr hr=>s2 _ _ (s1 _ _ (Dj.e r (Fu.sub r hr)))⟩
  refine⟨q,rfl,⟨_,C3.of q2⟩,dW (xs:=ao (first rs a)) (fits (by simp;omega)) (λi ys σ H3=>ys=((first rs a).take i).map (λt=>V.str t.2.2.2)/\ai H2 H3/\∃v,σ=[v]) ⟨rfl,ai.refl _,_,rfl⟩
   (λi ys σ H3 _ p=>⟨by rw [p.1];simp;omega,C3.of (p.2.1 _ _ q2)⟩) ?_ ?_⟩
  ·rintro i x ys σ H3 hx ⟨rfl,s3,v,rfl⟩
   obtain⟨r,Dw,rfl⟩:=bU hx;exact⟨_,rfl,aB (j:=2) (.inr (C2.of (s3 _ _ (r2.e r (yP Dw))))) rfl rfl ⟨(dS _ _ _ _ Dw).symm,s3,_,rfl⟩⟩
  ·rintro ys σ H3 ⟨rfl,s3,v,rfl⟩ c hc
   rw [take_all (first rs a) (by simp)];have s4:=au (o:=.lst ((first rs a).map λt=>V.str t.2.2.2)) s3 hc;have c4:upd H3 c (.lst ((first rs a).map λt=>V.str t.2.2.2)) c=some (.lst ((first rs a).map λt=>V.str t.2.2.2)):=aj;generalize upd H3 c (.lst ((first rs a).map λt=>V.str t.2.2.2))=H4 at s4 c4 ⊢;have Lg:=s1.trans (s2.trans s4);refine⟨l,c,_,_,rfl,rfl,s4 _ _ (s2 _ _ l1),c4,Am (fits (by simp;omega)),λp hp=>k p _ (au Lg hp) (Lg.free hp) (by rw [aj];simp [y8]) Fu⟩
structure ba (root:Str) (ps:List Str) (tk:List T):Prop where
 tr:Tree root ps (tk.map (·.2))
 st:∀t∈tk,t.2.2.1∈ps/\t.2.2.2∈ps
 rt:root∈ps
section
variable {root:Str}{ps:List Str}{tk:List T}
theorem ba.goals (W:ba root ps tk):(tk.map (·.2.2.2)).Nodup:=by
 have:=W.tr.nd;rw [y8] at this;exact (zb.mp this).2
theorem ba.nroot (W:ba root ps tk) {t:T} (h:t∈tk):t.2.2.2≠root:=by
 have:=W.tr.nd;rw [y8] at this;exact λe=>(zb.mp this).1 (e ▸ yE (f:=λt:T=>t.2.2.2) h)
theorem ba.inn (W:ba root ps tk) {x:Str} (h:x∈ps):x∈C8 root tk:=by
 have:=W.tr.all x h;rw [y8] at this;exact this
theorem ba.out (W:ba root ps tk) {x:Str} (h:x∈C8 root tk):x∈ps:=by
 rcases yF.mp h with e | h
 ·rw [e];exact W.rt
 ·obtain⟨t,ht,rfl⟩:=yD.mp h
  exact (W.st t ht).2
theorem ba.one (W:ba root ps tk) {t t':T} (h:t∈tk) (h':t'∈tk) (e:t.2.2.2=t'.2.2.2):t=t':=by
 have nd:=W.goals;have Ul:∀(l:List T),(l.map (·.2.2.2)).Nodup->∀a∈l,∀b∈l,a.2.2.2=b.2.2.2->a=b:=by
  intro l
  induction l with
  | nil=>intro _ a ha;cases ha
  | cons c r ih =>
   intro nd a ha b hb e;obtain⟨n1,n2⟩:=zb.mp (show (c.2.2.2::r.map (·.2.2.2)).Nodup from nd)
   rcases yF.mp ha with rfl | ha2
   ·rcases yF.mp hb with rfl | hb
    ·rfl
    ·exact absurd (e ▸ yE (f:=λt:T=>t.2.2.2) hb) n1
   ·have LD:=ha2
    rcases yF.mp hb with rfl | hb
    ·exact absurd (by rw [<- e];exact yE (f:=λt:T=>t.2.2.2) LD) n1
    ·exact ih n2 a ha2 b hb e
 exact Ul tk nd t h t' h' e
theorem ba.find (W:ba root ps tk) {t:T} (h:t∈tk):tk.find? (λu=>decide (u.2.2.2=t.2.2.2))=some t:=by
 obtain⟨u,e,hu,hx⟩:=find_some (tk:=tk) (x:=t.2.2.2) (yE (f:=λt:T=>t.2.2.2) h);rw [e,W.one hu h hx]
theorem qH {d:Str->Nat} (hd:∀r∈tk.map (·.2),d r.2.2=d r.2.1 + 1) {a x:Str}{n:Nat} (h:Walk (tk.map (·.2)) a n x):d x=d a + n:=by
 induction h with
 | nil=>rfl
 | @snoc n r h hr ih=>rw [hd r hr,ih];omega
theorem ba.walk (W:ba root ps tk) {d:Str->Nat} (h0:d root=0) (hd:∀r∈tk.map (·.2),d r.2.2=d r.2.1 + 1):∀(k:Nat) (x:Str),d x<=k->x∈ps->Walk (tk.map (·.2)) root (d x) x:=by
 intro k
 induction k with
 | zero =>
  intro x hx hp
  rcases yF.mp (W.inn hp) with e | h
  ·subst e;rw [h0];exact .nil
  ·obtain⟨t,ht,rfl⟩:=yD.mp h
   have:=hd t.2 (yE ht);omega
 | succ k ih =>
  intro x hx hp
  rcases yF.mp (W.inn hp) with e | h
  ·subst e;rw [h0];exact .nil
  ·obtain⟨t,ht,rfl⟩:=yD.mp h
   have e:=hd t.2 (yE ht);have:=ih t.2.2.1 (by omega) (W.st t ht).1;rw [e];exact .snoc this (yE ht)
theorem ba.dist (W:ba root ps tk):∃d:Str->Nat,d root=0/\(∀r∈tk.map (·.2),d r.2.2=d r.2.1 + 1)/\∀x∈ps,aW (tk.map (·.2)) root (d x) x/\d x < ps.length:=by
 obtain⟨d,h0,hd⟩:=W.tr.rk;have D:∀x∈ps,aW (tk.map (·.2)) root (d x) x:=λx hx=>⟨W.walk h0 hd _ x (yO _) hx,λm hm=>by have:=qH hd hm;omega⟩
 exact⟨d,h0,hd,λx hx=>⟨D x hx,uD W.rt (λr hr=>by obtain⟨t,ht,rfl⟩:=yD.mp hr;exact (W.st t ht).2) (D x hx)⟩⟩
theorem ba.full (W:ba root ps tk):cm tk root tk:=by
 obtain⟨d,h0,hd,D⟩:=W.dist;refine⟨λz hz=>⟨_,(D z (W.out hz)).1⟩,?_,λt h=>h,λt ht=>⟨W.inn (W.st t ht).1,d t.2.2.1,(D _ (W.st t ht).1).1,?_⟩,λn z h=>W.inn (ft W.rt (λr hr=>by obtain⟨t,ht,rfl⟩:=yD.mp hr;exact (W.st t ht).2) h)⟩
 ·have:=W.tr.nd
  rw [y8] at this;exact this
 ·rw [<- hd t.2 (yE ht)];exact (D _ (W.st t ht).2).1
end
def FQ (F:List T) (x:Str):Str:=match F.find? (λt=>decide (t.2.2.2=x)) with | some t=>t.2.2.1 | none=>x
def upN (F:List T):Nat->Str->Str
 | 0,x=>x
 | n + 1,x=>FQ F (upN F n x)
def isTr (root:Str) (ps:List Str) (F:List T):Bool:=ps.all λp=>decide (upN F ps.length p=root)
section
variable {root:Str}{ps:List Str}{tk:List T}
theorem ba.upN (W:ba root ps tk) {d:Str->Nat} (hd:∀r∈tk.map (·.2),d r.2.2=d r.2.1 + 1) (h0:d root=0) {x:Str} (hx:x∈ps):∀n,upN tk n x∈ps/\d (K53.upN tk n x)=d x - n:=by
 intro n
 induction n with
 | zero=>exact⟨hx,rfl⟩
 | succ n ih =>
  show FQ tk (K53.upN tk n x)∈ps/\d (FQ tk (K53.upN tk n x))=d x - (n + 1);generalize K53.upN tk n x=y at ih
  rcases yF.mp (W.inn ih.1) with e | h
  ·subst e
   have:FQ tk y=y:=by
    unfold FQ;cases q:tk.find? (λt=>decide (t.2.2.2=y)) with
    | none=>rfl
    | some t=>exact absurd (by simpa using BJ q) (W.nroot (AH q))
   rw [this];exact⟨ih.1,by omega⟩
  ·obtain⟨t,ht,rfl⟩:=yD.mp h
   have:FQ tk t.2.2.2=t.2.2.1:=by unfold FQ;rw [W.find ht]
   rw [this];have:=hd t.2 (yE ht);exact⟨(W.st t ht).1,by omega⟩
theorem ba.isTr (W:ba root ps tk):isTr root ps tk=true:=by
 obtain⟨d,h0,hd,D⟩:=W.dist;unfold K53.isTr;rw [zL];intro p hp;refine decide_eq_true ?_;obtain⟨h1,h2⟩:=W.upN hd h0 hp ps.length;have:=(D p hp).2;generalize K53.upN tk ps.length p=y at h1 h2
 rcases yF.mp (W.inn h1) with e | h
 ·exact e
 ·obtain⟨t,ht,rfl⟩:=yD.mp h
  have:=hd t.2 (yE ht);omega
open Classical in
end
theorem mi (x:Str):¬ Du x x:=λh=>BQ _ h
theorem uP {x y:Str} (h:Du x y) (h':Du y x):False:=BQ _ (Cv h h')
theorem fD:∀{a b:List Str},a.Pairwise Du->b.Pairwise Du->(∀x,x∈a ↔ x∈b)->a=b:=by
 intro a
 induction a with
 | nil =>
  intro b _ _ h;cases b with
  | nil=>rfl
  | cons y s=>exact absurd ((h y).mpr yG) (by simp)
 | cons x r ih =>
  intro b ha hb h;obtain⟨Qi,ha2⟩:=BO.mp ha;cases b with
  | nil=>exact absurd ((h x).mp yG) (by simp)
  | cons y s =>
   obtain⟨HB,Gf⟩:=BO.mp hb;have e:x=y:=by
    rcases yF.mp ((h x).mp yG) with e | e
    ·exact e
    ·rcases yF.mp ((h y).mpr yG) with e' | e'
     ·exact e'.symm
     ·exact (uP (HB x e) (Qi y e')).elim
   subst e;rw [ih ha2 Gf λz=>⟨λhz=>?_,λhz=>?_⟩]
   ·rcases yF.mp ((h z).mp (yT _ hz)) with e | e
    ·subst e;exact (mi _ (Qi _ hz)).elim
    ·exact e
   ·rcases yF.mp ((h z).mpr (yT _ hz)) with e | e
    ·subst e;exact (mi _ (HB _ hz)).elim
    ·exact e
theorem gu.treeW {ps:List Str}{rs:List T}{root:Str}{ss:List Str} (t:gu root ps rs ss) (G:Good ps (rs.map (·.2))) (rt:root∈ps):ba root ps (aD rs ss) :=
 ⟨t.tr,λr hr=>by have:=G.rn r.2 (yE (yI.mp hr).1);exact⟨this.2.1,this.2.2.1⟩,rt⟩
theorem Good.names {ps:List Str}{rs:List T} (G:Good ps (rs.map (·.2))):(nms rs).Pairwise Du:=by
 have:=G.rso;rw [y8] at this;exact this
theorem ba.len {root:Str}{ps:List Str}{tk:List T} (W:ba root ps tk):tk.length + 1<=ps.length:=by
 have:=gf W.full W.rt (λr hr=>(W.st r hr).2);exact this
theorem ba.len2 {root:Str}{ps:List Str}{tk:List T} (W:ba root ps tk) (nd:ps.Nodup):tk.length + 1=ps.length:=by
 refine Nat.le_antisymm W.len ?_;have:=dZ nd (m:=C8 root tk) λx hx=>W.inn hx;simpa using this
structure UE (ps:List Str) (F:List T):Prop where
 st:∀t∈F,t.2.2.1∈ps/\t.2.2.2∈ps
section
variable {root:Str}{ps:List Str}{F:List T}
theorem pH {a b:List Str} (ha:a.Nodup) (hs:∀x∈a,x∈b) (hl:b.length<=a.length):∀x∈b,x∈a:=by
 intro x hx
 by_cases c:x∈a
 ·exact c
 ·have nd:(x::a).Nodup:=zb.mpr ⟨c,ha⟩
  have:=dZ nd (m:=b) λy hy=>by
   rcases yF.mp hy with e | e
   ·rw [e];exact hx
   ·exact hs y e
  simp at this;omega
def cx (root:Str) (ps:List Str) (F:List T):Prop:=F.length + 1=ps.length/\(F.map (·.2.2.2)).Nodup/\root∉F.map (·.2.2.2)/\isTr root ps F=true
end
structure WP (H:Hp) (v pa ra:Addr) (ps:List Str) (rs:List T) (root:Str):Prop where
 W:bF H v pa ra ps rs
 G:Good ps (rs.map (·.2))
 pz:ps.length<=8
 rz:rs.length<=40
 rt:root∈ps
theorem WP.same {H H':Hp}{v pa ra:Addr}{ps:List Str}{rs:List T}{root:Str} (t:WP H v pa ra ps rs root) (s:ai H H'):WP H' v pa ra ps rs root:=⟨t.W.same s,t.G,t.pz,t.rz,t.rt⟩
theorem Good.inP {ps ss:List Str}{rs:List T} (G:Good ps (rs.map (·.2))):UE ps (aD rs ss):=⟨λt ht=>by
 have:=G.rn t.2 (yE (yI.mp ht).1)
 exact⟨this.2.1,this.2.2.1⟩⟩
theorem cj {k:Nat}{A:Around} (hr:aN k A):A.units + 1 < cLine:=wx hr
theorem lx {H:Hp}{a b:Addr}{xs:List V}{kvs:List (Key×V)} (h1:H a=some (.tup xs)) (h2:H b=some (.dK kvs)):a≠b:=i8 h1 h2 (by intro z;cases z)
theorem wJ:bootBuiltins "set"=some (.type "set"):=by decide +kernel
theorem o6 (K:zz7) {T:String}{X:Cx} (h:X.K=K:=by rfl):aZ X (.builtin "isinstance") (λxs H Q=>∃x t b,xs=[x,.ty T]/\cf K H x t/\PySem.W.kitOne K t (.type T)=some b/\Q (.bl b) H):=by subst h;exact cQ
theorem pe (w:World) {X:Cx} (hc:X.calm=true) (h:X.w=w:=by rfl):aZ X (.type "set") (λxs H Q=>∃(p:Addr) (ss:List Str),xs=[.ref p]/\C2 X.K H p (ss.map V.str)/\ss.length < 3000 /\
  ∀(a:Addr),H a=none->Q (.ref a) (upd H a (cY w a (aU ss.reverse)))):=by subst h;exact pW hc
theorem oq (w:World) {X:Cx} (hc:X.calm=true) (h:X.w=w:=by rfl):aZ X (.builtin "sorted") (λxs H Q=>∃(a:Addr) (ss:List Str),xs=[.ref a]/\H a=some (cY w a ss)/\ss.length < 64 /\
  ∀(Dg:List Str) (q:Addr),Dg.Perm ss->PyProof.Rows.sortedS Dg=true->H q=none->Q (.ref q) (upd H q (.lst (Dg.map V.str)))):=by subst h;exact oC hc
abbrev Al:=Addr×T
abbrev Gn (al:List Al):List (Key×V):=al.map λp=>((Sum.inr p.2.2.1:Key),V.ref p.1)
theorem oo (al:List Al) (x:Str):aL (Gn al) (Sum.inr x)=(al.find? λp=>decide (p.2.2.1=x)).map λp=>V.ref p.1:=by
 unfold aL Gn;rw [List.find?_map];have e:((λkv:Key×V=>decide (kv.1=Sum.inr x)) ∘ λp:Al=>((Sum.inr p.2.2.1:Key),V.ref p.1))=λp:Al=>decide (p.2.2.1=x):=by
  funext p
  simp
 rw [e,Option.map_map];rfl
theorem xZ {al:List Al}{x:Str} (h:x∈al.map (·.2.2.1)):∃p∈al,p.2.2.1=x/\aL (Gn al) (Sum.inr x)=some (V.ref p.1):=by
 obtain⟨u,hu,e⟩:=yD.mp h;rw [oo];cases q:al.find? (λp=>decide (p.2.2.1=x)) with
 | none=>exact absurd (List.find?_eq_none.mp q u hu) (by simpa using e)
 | some p=>exact⟨p,AH q,by simpa using BJ q,rfl⟩
abbrev Ib (F:List T):List (Key×V):=F.map λt=>((Sum.inr t.2.2.2:Key),V.str t.2.2.1)
theorem xM (F:List T) (x:Str):aL (Ib F) (Sum.inr x)=(F.find? λt=>decide (t.2.2.2=x)).map λt=>V.str t.2.2.1:=by
 unfold aL Ib;rw [List.find?_map];have e:((λkv:Key×V=>decide (kv.1=Sum.inr x)) ∘ λp:T=>((Sum.inr p.2.2.2:Key),V.str p.2.2.1))=λp:T=>decide (p.2.2.2=x):=by
  funext p
  simp
 rw [e,Option.map_map];rfl
theorem xQ (F:List T) (x:Str):(aL (Ib F) (Sum.inr x)).getD (.str x)=.str (FQ F x):=by
 rw [xM];unfold FQ;cases F.find? (λt=>decide (t.2.2.2=x)) <;> rfl
theorem qB {ps:List Str}{rs:List T} (G:Good ps (rs.map (·.2))) {a b:T} (ha:a∈rs) (hb:b∈rs) (e:a.2.1=b.2.1):a=b:=by
 have h1:=uo (bA G.names) ha;have:b∈rs.filter (λx=>decide (x.2.1∈[a.2.1])):=yI.mpr ⟨hb,by rw [e];simp⟩;rw [h1] at this;exact (by simpa using this:b=a).symm
theorem kP {ps:List Str}{rs:List T}{ss:List Str} (G:Good ps (rs.map (·.2))) (so:ss.Pairwise Du) (nm:∀x∈ss,x∈nms rs):(aD rs ss).map (·.2.1)=ss:=by
 refine fD (G.names.sublist (zh.map _)) so λx=>⟨λh=>?_,λh=>?_⟩
 ·obtain⟨r,hr,rfl⟩:=yD.mp h
  exact of_decide_eq_true (yI.mp hr).2
 ·obtain⟨r,hr,e⟩:=yD.mp (nm x h)
  exact yD.mpr ⟨r,yI.mpr ⟨hr,decide_eq_true (by rw [e];exact h)⟩,e⟩
structure eG (F:List T) (j:Nat) (kvs:List (Key×V)):Prop where
 le:kvs.length<=j
 nd:((F.take j).map (·.2.2.2)).Nodup->kvs=Ib (F.take j)
 no:¬ ((F.take j).map (·.2.2.2)).Nodup->kvs.length < j
 mem:∀x,(aL kvs (Sum.inr x)).isSome=true ↔ x∈(F.take j).map (·.2.2.2)
theorem eG.start (F:List T):eG F 0 []:=⟨yO _,λ_=>rfl,λh=>absurd Br h,λx=>by simp [aL]⟩
theorem eG.put {F:List T}{j:Nat}{kvs:List (Key×V)} (A:eG F j kvs) {t:T} (h:F[j]?=some t):eG F (j + 1) (putK kvs (Sum.inr t.2.2.2) (.str t.2.2.1)):=by
 have e:(F.take (j + 1)).map (·.2.2.2)=(F.take j).map (·.2.2.2)++[t.2.2.2]:=by rw [zi,h];simp
 have hm:∀x,(aL (putK kvs (Sum.inr t.2.2.2) (.str t.2.2.1)) (Sum.inr x)).isSome=true ↔ x∈(F.take (j + 1)).map (·.2.2.2):=λx=>by
  rw [tN,e,yQ]
  by_cases c:x=t.2.2.2
  ·subst c;simp
  ·have c':¬ (Sum.inr x:Key)=Sum.inr t.2.2.2:=λq=>c (by injection q)
   rw [if_neg c',A.mem];constructor
   ·exact .inl
   ·rintro (q | q)
    ·exact q
    ·exact absurd (by simpa using q) c
 cases hv:aL kvs (Sum.inr t.2.2.2) with
 | none =>
  have hn:t.2.2.2∉(F.take j).map (·.2.2.2):=λq=>by
   have:=(A.mem _).mpr q;rw [hv] at this;cases this
  rw [gh _ hv] at hm ⊢;refine⟨by rw [zc];have:=A.le;simpa using this,λq=>?_,λq=>?_,hm⟩
  ·rw [e] at q
   rw [A.nd (Aa.mp q).1,zi,h];simp [Ib]
  ·have:¬ ((F.take j).map (·.2.2.2)).Nodup:=λz=>q (by rw [e];exact kc z hn)
   have:=A.no this;rw [zc];simpa using this
 | some y =>
  have hs:t.2.2.2∈(F.take j).map (·.2.2.2):=(A.mem _).mp (by rw [hv];rfl);have hl:(putK kvs (Sum.inr t.2.2.2) (V.str t.2.2.1)).length=kvs.length:=by
   unfold putK;have:(kvs.any λkv=>decide (kv.1=(Sum.inr t.2.2.2:Key)))=true:=by rw [eo,hv];rfl
   rw [if_pos this,yA]
  have Im:=A.le;refine⟨by omega,λq=>?_,λ_=>by omega,hm⟩;rw [e] at q;exact absurd rfl ((Aa.mp q).2.2 _ hs _ (by simp))
def iK:Sp:=λvs H Q _=>∃(v pa ra th:Addr) (ps:List Str) (rs:List T) (root:Str) (ss:List Str),vs=[.ref v,.str root,.ref th]/\WP H v pa ra ps rs root/\H th=some (.tup (ss.map V.str))/\(∀x∈ss,x∈nms rs)/\ss.length<=900 /\
 ∀(b:Bool) (H':Hp),ai H H'->(b=true ↔ ss.Pairwise Du/\cx root ps (aD rs ss))->Q (.bl b) H'
abbrev Uw:List Str:=["_law_web","_law_root","_law_thing","_law_led","_law_tie","_law_begin","_law_goal","_law_ahead","_law_place","_law_here","_law_step"]
theorem cX:aM Uw ["_law_web","_law_root","_law_thing"] (aC (top 40)):=⟨rfl,rfl,rfl,by decide +kernel,rfl,by decide +kernel,by decide +kernel⟩
theorem sV (F:Dk K "_law_is_tree" "_law_is_tree" (top 40) f fd) (B:Bl mg):aG P w K mg base Dl 1 f fd ["_law_web","_law_root","_law_thing"] iK:=by
 refine F.ok cX (λvs H Q E h=>?_) (λ_ _ _ _ H vs Q E hr h=>?_)
 ·obtain⟨v,pa,ra,th,ps,rs,root,ss,rfl,_⟩:=h
  rfl
 ·obtain⟨v,pa,ra,th,ps,rs,root,ss,rfl,wp,E1,nm,hz9,k⟩:=h
  obtain⟨W,G,IZ,FL,ER⟩:=wp
  refine⟨_,am (aH (i:=3) cX.nd rfl (Or.inr rfl) ky)
   (am (cv zG rfl (bJ (aA aI (pv 0) ak (λ_ _=>rfl))) (fG rfl (n:=3) (bH (bw (i:=4) cX.nd rfl (Or.inl rfl)) (bH (bw (i:=5) cX.nd rfl (Or.inl rfl)) (bH (bw (i:=6) cX.nd rfl (Or.inl rfl)) d6))))
    (av (iD (cj hr) (pv 3) (pv 4) (cV (aa (pv 5) (aa (pv 6) ae))) rfl)))
   (am (bg (PW.pt (dm (bY (bM (ay (cQ (T:="tuple")) rfl B.isinstance cP (aa (pv 2) (aa (cS (v:=.ty "tuple") rfl B.tuple bO rfl) ae)))))
     (dG (bY (bM (ay (eh rfl) rfl B.all eE (aa (aY (N:=["_law_one","_law_led"]) (ix:=[none,some 3]) ⟨rfl,rfl,rfl,by decide⟩ rfl (bJ (pv 2)) (λ_ _ _ _=>aK 0 (by decide) rfl rfl) (λ_ _ _ _=>bo)
      (λ_ _ _ _=>cE (ay (o6 K (T:="str")) rfl B.isinstance cP (aa (pv 0) (aa (cS (v:=.ty "str") rfl B.str i9 rfl) ae))) (di (vD (mR (cj hr) (pv 0) (pv 1)) (by with_unfolding_all rfl))))) ae))))))) eg be)
   (am (bg (PW.pt (dm (aQ (iU hr) (bV o7 rfl B.list mC (aa (pv 2) ae)) (ay (oq w rfl) rfl B.sorted dY (aa (bV (pe w rfl) rfl B.set wJ (aa (pv 2) ae)) ae)) (aS _))
     (dG (aQ cW (ay bj rfl B.len zg (aa (pv 2) ae)) (aE cF (ay bj rfl B.len zg (aa (aA aI (pv 0) ak (λ_ _=>rfl)) ae)) ak) (aS _))))) (av (aJ dj)) be)
   (am (aH (i:=7) cX.nd rfl (Or.inl rfl) ky)
   (am (cv zG rfl (bJ (pv 2)) (bw (i:=4) cX.nd rfl (Or.inl rfl))
    (av (iD (cj hr) (pv 7) (aA aI (er (cj hr) (pv 3) (pv 4) (λ_ _=>rfl)) ak (λ_ _=>rfl)) (aA aI (er (cj hr) (pv 3) (pv 4) (λ_ _=>rfl)) ak (λ_ _=>rfl)) rfl)))
   (am (bg (PW.pt (dm (aQ gE (ay qN rfl B.len zg (aa (pv 7) ae)) (ay bj rfl B.len zg (aa (pv 2) ae)) (aS _)) (dG (wn (mR (cj hr) (pv 1) (pv 7)) (by with_unfolding_all rfl))))) (av (aJ dj)) be)
   (am (cv zG rfl (bJ (aA aI (pv 0) ak (λ_ _=>rfl))) (bw (i:=8) cX.nd rfl (Or.inl rfl))
    (am (aH (i:=9) cX.nd rfl (Or.inl rfl) (pv 8))
    (am (cv zG rfl (bJ (aA aI (pv 0) ak (λ_ _=>rfl))) (bw (i:=10) cX.nd rfl (Or.inl rfl))
     (av (aH (i:=9) cX.nd rfl (Or.inl rfl) (sD (cj hr) (pv 7) (pv 9) (pv 9) ⟨rfl,rfl,rfl,rfl⟩))))
    (av (bg (aQ cW (pv 9) (pv 1) (aS _)) (av (aJ dj)) be)))))
   (av (aJ dj))))))))),?_⟩
  have Do:(nms rs).Nodup:=bA G.names;intro ld E6;have s1:=au (o:=.dK []) (ai.refl H) E6;have d1:upd H ld (.dK []) ld=some (.dK (Gn [])):=aj;generalize upd H ld (.dK [])=H1 at s1 d1 ⊢;have W1:=W.same s1;refine⟨_,rfl,aB (j:=1) (.inr (C2.of W1.tp)) rfl rfl ⟨ra,rfl,⟨_,C2.of W1.rl⟩,?_⟩⟩;refine eA (K:=K) (a:=ra) (xs:=ao rs) (λj σ H2=>∃(al:List Al) (g1 g2 g3:Option V),σ=[some (.ref v),some (.str root),some (.ref th),some (.ref ld),g1,g2,g3,none,none,none,none]/\ai H H2/\H2 ld=some (.dK (Gn al))/\al.map (·.2)=rs.take j/\∀p∈al,H2 p.1=some (.tup [.str p.2.2.2.1,.str p.2.2.2.2]))
   ⟨[],none,none,none,rfl,s1,d1,rfl,λp hp=>by cases hp⟩ (λj σ H2 _ p=>by obtain⟨_,_,_,_,_,s2,_⟩:=p;exact C2.of (s2 _ _ W.rl)) ?_ ?_
  ·rintro j y σ H2 hy ⟨al,g1,g2,g3,rfl,s2,d2,ea,ha⟩
   obtain⟨r,Dw,rfl⟩:=bU hy;have E3:=s2 _ _ (W.rows r (yP Dw));refine⟨r.1,_,rfl,C2.of E3,rfl,_,_,rfl,_,_,rfl,_,_,rfl,rfl,?_⟩;refine⟨_,rfl,_,rfl,by show 2<=sizeLine;decide,λu hu=>?_⟩;have s3:=au (o:=.tup [.str r.2.2.1,.str r.2.2.2]) s2 hu;have d3:upd H2 u (.tup [.str r.2.2.1,.str r.2.2.2]) ld=some (.dK (Gn al)):=by rw [ag (ar d2 hu)];exact d2
   have u3:upd H2 u (.tup [.str r.2.2.1,.str r.2.2.2]) u=some (.tup [.str r.2.2.1,.str r.2.2.2]):=aj;have a3:∀p∈al,upd H2 u (.tup [.str r.2.2.1,.str r.2.2.2]) p.1=some (.tup [.str p.2.2.2.1,.str p.2.2.2.2]):=λp hp=>by rw [ag (ar (ha p hp) hu)];exact ha p hp
   generalize upd H2 u (.tup [.str r.2.2.1,.str r.2.2.2])=H3 at s3 d3 u3 a3 ⊢;have LC:al.length<=40:=by
    have:=congrArg List.length ea;rw [yA,zF] at this;omega
   refine⟨_,rfl,_,rfl,ld,_,rfl,cZ.k (k:=Sum.inr r.2.1) d3 (fits (by rw [yA];omega)),al++[(u,r)],_,_,_,rfl,ai.upd0 s3 E6,?_,by rw [yL,ea,zi,Dw];rfl,λp hp=>?_⟩
   ·have hv:aL (Gn al) (Sum.inr r.2.1)=none:=by
     rw [oo];cases q:al.find? (λp=>decide (p.2.2.1=r.2.1)) with
     | none=>rfl
     | some p =>
      have hm:p.2∈rs.take j:=by rw [<- ea];exact yE (AH q)
      have e1:p.2.2.1=r.2.1:=by simpa using BJ q
      have HZ:(nms (rs.take (j + 1))).Nodup:=Do.sublist ((CA _ _).map _);rw [zi,Dw] at HZ;unfold nms at HZ;rw [yL] at HZ;exact absurd e1 ((Aa.mp HZ).2.2 _ (yE hm) _ (by simp))
    rw [aj,gh _ hv];simp [Gn]
   ·rcases yQ.mp hp with q | q
    ·rw [ag (lx (a3 p q) d3)];exact a3 p q
    ·have e:p=(u,r):=by simpa using q
     subst e;rw [ag (lx u3 d3)];exact u3
  rintro σ H2 ⟨al,g1,g2,g3,rfl,s2,d2,ea,ha⟩;rw [show rs.take (ao rs).length=rs from take_all rs (by simp)] at ea
  have Km:∀x∈ss,∃p∈al,p.2.2.1=x/\aL (Gn al) (Sum.inr x)=some (V.ref p.1):=λx hx=>xZ (by
   have:al.map (·.2.2.1)=nms rs:=by unfold nms;rw [<- ea,y8];rfl
   rw [this];exact nm x hx)
  refine⟨_,rfl,_,_,true,rfl,.tup (s2 _ _ E1),rfl,true,rfl,bh ?_⟩
  refine⟨_,rfl,th,rfl,⟨_,C2.of (s2 _ _ E1)⟩,dC (xs:=ss.map V.str) (fits (by simp;omega)) (λi ys σ H3=>ys=List.replicate i (.bl true)/\H3=H2/\∃v,σ=[v,some (.ref ld)]) ⟨rfl,rfl,_,rfl⟩
   (λi ys σ H3 _ q=>⟨by rw [q.1];simp,by rw [q.2.1];exact C2.of (s2 _ _ E1)⟩) ?_ ?_⟩
  ·rintro i x ys σ H3 hx ⟨rfl,rfl,v',rfl⟩
   obtain⟨y,hy,rfl⟩:∃y∈ss,x=V.str y:=by
    obtain⟨y,e1,e2⟩:=yD.mp (yP hx);exact⟨y,e1,e2.symm⟩
   obtain⟨p,hp,ep,hv⟩:=Km y hy;have dg:=bp.k (k:=Sum.inr y) d2;rw [hv] at dg;exact⟨_,rfl,_,_,true,rfl,.str y,rfl,true,rfl,aX ⟨_,rfl,_,rfl,ld,_,rfl,dg,by rw [AK];rfl,rfl,_,rfl⟩⟩
  rintro ys σ H3 ⟨rfl,rfl,v',rfl⟩ q3 Kg;have s4:=au (o:=.lst (List.replicate (ss.map V.str).length (.bl true))) (ai.refl H3) Kg;refine⟨q3,List.replicate _ true,rfl,C3.of (by rw [aj,AY]),_,rfl,?_⟩;have N0:∀n:Nat,(List.replicate n true).all id=true:=by simp
  rw [N0];refine bh ?_;generalize upd H3 q3 (.lst (List.replicate (ss.map V.str).length (.bl true)))=H4 at s4 ⊢;have Lg:=s2.trans s4;have LZ:=Lg _ _ E1;refine⟨_,rfl,th,_,rfl,.inr (C2.of LZ),λl hl=>?_⟩;have s5:=au (o:=.lst (ss.map V.str)) s4 hl;have l5:upd H4 l (.lst (ss.map V.str)) l=some (.lst (ss.map V.str)):=aj;have Oz:upd H4 l (.lst (ss.map V.str)) th=some (.tup (ss.map V.str)):=by rw [ag (ar LZ hl)];exact LZ
  generalize upd H4 l (.lst (ss.map V.str))=H5 at s5 l5 Oz ⊢;refine⟨_,rfl,th,ss,rfl,C2.of Oz,by omega,λst Gp=>?_⟩;have Mx:=qv ss.reverse;have Ia:∀x,x∈aU ss.reverse ↔ x∈ss:=λx=>by rw [tj,List.mem_reverse]
  have Mz:(aU ss.reverse).length<=40:=by
   have:=dZ Mx (m:=nms rs) λx hx=>nm x ((Ia x).mp hx);have e:(nms rs).length=rs.length:=by simp [nms]
   omega
  generalize aU ss.reverse=mt at Mx Ia Mz ⊢;have s6:=au (o:=cY w st mt) s5 Gp;have l6:upd H5 st (cY w st mt) l=some (.lst (ss.map V.str)):=by rw [ag (ar l5 Gp)];exact l5
  refine⟨st,mt,rfl,aj,by omega,λEY q7 DT Eo Px=>?_⟩;have OF:EY.Pairwise Du:=eO Eo (DT.nodup_iff.mpr Mx);have JL:∀x,x∈EY ↔ x∈ss:=λx=>by rw [DT.mem_iff,Ia]
  have s7:=au (o:=.lst (EY.map V.str)) s6 Px;have l7:upd (upd H5 st (cY w st mt)) q7 (.lst (EY.map V.str)) l=some (.lst (ss.map V.str)):=by rw [ag (ar l6 Px)];exact l6
  have OM:upd (upd H5 st (cY w st mt)) q7 (.lst (EY.map V.str)) q7=some (.lst (EY.map V.str)):=aj;generalize upd (upd H5 st (cY w st mt)) q7 (.lst (EY.map V.str))=H7 at s7 l7 OM ⊢;have OU:∀x∈ss,aV x:=λx hx=>by
   obtain⟨r,C9,e⟩:=yD.mp (nm x hx);have:=(G.rn r.2 (yE C9)).1;rw [<- e];exact this
  have RH:∀x∈EY,aV x:=λx hx=>OU x ((JL x).mp hx);refine⟨.list (ss.map PyData.str),.list (EY.map PyData.str),.lst l7 (Er.strs ss),.lst OM (Er.strs EY),(fe OU).1,(fe RH).1,_,rfl,?_⟩;have ev:PyData.eqv (.list (ss.map PyData.str)) (.list (EY.map PyData.str))=decide (ss=EY):=gR ss EY;rw [ev]
  by_cases LH:ss=EY
  case neg =>
   rw [decide_eq_false LH];exact aX (aX (k false H7 (s2.trans s7) ⟨λz=>(by cases z),λz=>absurd (fD z.1 OF λx=>(JL x).symm) LH⟩))
  rw [decide_eq_true LH];subst LH;refine bh ?_;have so:=OF;have Gq:=kP G so nm;have F0:ss.length=(aD rs ss).length:=by rw [<- Gq,yA];rw [Gq]
  have Hj:=s2.trans s7;have W7:=W.same Hj;refine⟨_,rfl,th,_,rfl,.inr (C2.of (Hj _ _ E1)),_,rfl,aB (j:=0) (.inr (C2.of W7.tp)) rfl rfl ⟨pa,_,rfl,.inr (C2.of W7.pl),_,_,rfl,rfl,rfl,_,rfl,?_⟩⟩
  by_cases ED:(aD rs ss).length + 1=ps.length
  case neg =>
   have en:(!decide (V.int ((ss.map V.str).length:Int)=V.int (((ps.map V.str).length:Int) - 1)))=true:=by
    rw [yA,yA,F0,decide_eq_false (λz=>ED (by have:=V.int.inj z;omega))];rfl
   rw [en];exact aX (k false H7 Hj ⟨λz=>(by cases z),λz=>absurd z.2.1 ED⟩)
  have en:(!decide (V.int ((ss.map V.str).length:Int)=V.int (((ps.map V.str).length:Int) - 1)))=false:=by
   rw [yA,yA,F0,<- ED];simp
  rw [en];refine bh ?_;intro ah NF;have s8:=au (o:=.dK []) s7 NF;have h8:upd H7 ah (.dK []) ah=some (.dK (Ib [])):=aj;have d8:upd H7 ah (.dK []) ld=some (.dK (Gn al)):=by rw [ag (ar (s7 _ _ d2) NF)];exact s7 _ _ d2
  have a8:∀p∈al,upd H7 ah (.dK []) p.1=some (.tup [.str p.2.2.2.1,.str p.2.2.2.2]):=λp hp=>s8 _ _ (ha p hp);have ND:H3 ah=none:=s7.free NF;generalize upd H7 ah (.dK [])=H8 at s8 h8 d8 a8 ⊢;have Lf:=s2.trans s8;refine⟨_,rfl,th,rfl,⟨_,C2.of (Lf _ _ E1)⟩,?_⟩;refine eA (K:=K) (a:=th) (xs:=ss.map V.str) (λj σ H9=>∃(g1:Option V),σ=[some (.ref v),some (.str root),some (.ref th),some (.ref ld),g1,g2,g3,some (.ref ah),none,none,none]/\ai H3 H9/\∃kvs,H9 ah=some (.dK kvs)/\eG (aD rs ss) j kvs)
   ⟨_,rfl,s8,_,h8,eG.start _⟩ (λj σ H9 _ p=>by obtain⟨_,_,s9,_⟩:=p;exact C2.of (s9 _ _ (s2 _ _ E1))) ?_ ?_
  ·rintro j y σ H9 hy ⟨NT,rfl,s9,kvs,h9,A9⟩
   rw [yR] at hy;cases hc:ss[j]? with
   | none=>rw [hc] at hy;cases hy
   | some z =>
    rw [hc] at hy;cases hy;have D9:j < (aD rs ss).length:=by rw [<- F0];exact (yV.mp hc).1
    have Qa:(aD rs ss)[j]?=some (aD rs ss)[j]:=yJ D9;have SL:((aD rs ss)[j]).2.1=z:=by
     have:((aD rs ss).map (·.2.1))[j]?=some z:=by rw [Gq];exact hc
     rw [yR,Qa] at this;simpa using this
    have E8:(aD rs ss)[j]∈aD rs ss:=zx D9;obtain⟨p,hp,ep,hv⟩:=Km z (yP hc);have Hr:p.2=(aD rs ss)[j]:=qB G (by rw [<- ea];exact yE hp) (yI.mp E8).1 (by rw [ep,SL]);have QO:=A9.put Qa;generalize (aD rs ss)[j]=t at Hr QO;subst Hr;have Np:=A9.le;have dg:=bp.k (k:=Sum.inr z) (s9 _ _ d2);rw [hv] at dg;have Pz:=s9 _ _ (ha p hp);refine⟨_,rfl,_,rfl,ld,_,rfl,dg,aB (j:=0) (.inr (C2.of Pz)) rfl rfl ⟨_,rfl,_,rfl,_,rfl,ld,_,rfl,dg,aB (j:=1) (.inr (C2.of Pz)) rfl rfl ?_⟩⟩;exact⟨ah,_,rfl,cZ.k (k:=Sum.inr p.2.2.2.2) h9 (fits (by omega)),_,rfl,ai.upd0 s9 ND,_,aj,QO⟩
  rintro σ H9 ⟨NT,rfl,s9,kvs,h9,A9⟩;rw [show (ss.map V.str).length=(aD rs ss).length by rw [yA];exact F0] at A9;have GD:=s2.trans s9;have W9:=W.same GD;refine⟨_,rfl,ah,_,rfl,h9,_,rfl,th,_,rfl,.inr (C2.of (GD _ _ E1)),_,_,rfl,rfl,_,rfl,?_⟩;have eF:(aD rs ss).take (aD rs ss).length=aD rs ss:=zU
  by_cases LG:((aD rs ss).map (·.2.2.2)).Nodup
  case neg =>
   have:=A9.no (by rw [eF];exact LG);have el:decide ((kvs.length:Int) < ((ss.map V.str).length:Int))=true:=decide_eq_true (by rw [yA];omega);rw [el];exact aX (aX (k false H9 GD ⟨λz=>(by cases z),λz=>absurd z.2.2.1 LG⟩))
  have ek:=A9.nd (by rw [eF];exact LG);rw [eF] at ek;subst ek;have el:decide (((Ib (aD rs ss)).length:Int) < ((ss.map V.str).length:Int))=false:=by
   rw [yA,yA,F0];simp
  rw [el];refine bh ?_;refine⟨_,rfl,_,rfl,ah,_,rfl,bp.k (k:=Sum.inr root) h9,_,rfl,?_⟩;have Ni:=A9.mem root;rw [eF] at Ni
  by_cases LF:root∈(aD rs ss).map (·.2.2.2)
  ·rw [Ni.mpr LF]
   exact aX (k false H9 GD ⟨λz=>(by cases z),λz=>absurd LF z.2.2.2.1⟩)
  rw [CI.mpr λz=>LF (Ni.mp z)];refine bh ?_;refine⟨_,rfl,aB (j:=0) (.inr (C2.of W9.tp)) rfl rfl ⟨pa,rfl,⟨_,C2.of W9.pl⟩,?_⟩⟩;refine eA (K:=K) (a:=pa) (xs:=ps.map V.str) (λi σ DD=>DD=H9/\(∃g8 g9 Gu,σ=[some (.ref v),some (.str root),some (.ref th),some (.ref ld),NT,g2,g3,some (.ref ah),g8,g9,Gu])/\∀p∈ps.take i,upN (aD rs ss) ps.length p=root)
   ⟨rfl,⟨_,_,_,rfl⟩,λp hp=>by simp at hp⟩ (λi σ DD _ p=>by rw [p.1];exact C2.of W9.pl) ?_ ?_
  ·rintro i y σ DD hy ⟨rfl,⟨g8,g9,Gu,rfl⟩,DM⟩
   rw [yR] at hy;cases hc:ps[i]? with
   | none=>rw [hc] at hy;cases hy
   | some z =>
    rw [hc] at hy;cases hy;refine⟨_,rfl,_,rfl,aB (j:=0) (.inr (C2.of W9.tp)) rfl rfl ⟨pa,rfl,⟨_,C2.of W9.pl⟩,?_⟩⟩;refine eA (K:=K) (a:=pa) (xs:=ps.map V.str) (λm σ EW=>EW=DD/\∃Gu,σ=[some (.ref v),some (.str root),some (.ref th),some (.ref ld),NT,g2,g3,some (.ref ah),some (.str z),some (.str (upN (aD rs ss) m z)),Gu])
     ⟨rfl,_,rfl⟩ (λm σ EW _ p=>by rw [p.1];exact C2.of W9.pl) ?_ ?_
    ·rintro m y2 σ EW IU ⟨rfl,NS,rfl⟩
     refine⟨_,rfl,ah,rfl,.inl ⟨_,.inl h9⟩,_,rfl,_,rfl,_,bp.k (k:=Sum.inr (upN (aD rs ss) m z)) h9,?_⟩;rw [xQ];exact⟨rfl,_,rfl⟩
    ·rintro σ EW ⟨rfl,NS,rfl⟩
     rw [yA];refine⟨_,rfl,_,rfl,rfl,_,rfl,?_⟩
     by_cases c:upN (aD rs ss) ps.length z=root
     ·have e:(!decide (V.str (upN (aD rs ss) ps.length z)=V.str root))=false:=by rw [c];simp
      rw [e];refine bh ⟨rfl,⟨_,_,_,rfl⟩,λp hp=>?_⟩;rw [zi,hc] at hp
      rcases yQ.mp hp with q | q
      ·exact DM p q
      ·have e:p=z:=by simpa using q
       subst e;exact c
     ·have e:(!decide (V.str (upN (aD rs ss) ps.length z)=V.str root))=true:=by rw [decide_eq_false (λq=>c (V.str.inj q))];rfl
      rw [e];have hf:isTr root ps (aD rs ss)=false:=by
       cases q:isTr root ps (aD rs ss) with
       | false=>rfl
       | true =>
        unfold isTr at q;exact absurd (of_decide_eq_true (zL.mp q z (yP hc))) c
      exact aX (k false _ GD ⟨λz=>(by cases z),λz=>by have q:=z.2.2.2.2;rw [hf] at q;cases q⟩)
  ·rintro σ DD ⟨rfl,⟨g8,g9,Gu,rfl⟩,DM⟩
   rw [show ps.take (ps.map V.str).length=ps from take_all ps (by simp)] at DM;have hf:isTr root ps (aD rs ss)=true:=by
    unfold isTr;rw [zL];exact λp hp=>decide_eq_true (DM p hp)
   exact k true _ GD ⟨λ_=>⟨so,ED,LG,LF,hf⟩,λ_=>rfl⟩
def lead (ls:List Str) (r:Addr×Row):Bool:=decide (r.2.2.2∈ls) && !decide (r.2.2.1∈ls)
def iQ:Sp:=λvs H Q _=>∃(l:Addr) (r:Addr×Row) (ls:List Str),vs=[.ref r.1,.ref l]/\dq H r.1 r.2/\H l=some (.tup (ls.map V.str))/\Q (.bl (lead ls r)) H
theorem xK:aM ["row","lot"] ["row","lot"] (aC (top 17)):=⟨rfl,rfl,rfl,by decide +kernel,rfl,by decide +kernel,by decide +kernel⟩
theorem oK (F:Dk K "leads_into" "leads_into" (top 17) f fd):aG P w K mg base Dl 1 f fd ["row","lot"] iQ:=by
 refine F.ok xK (λvs H Q E h=>?_) (λ_ _ _ _ H vs Q E hr h=>?_)
 ·obtain⟨l,r,ls,rfl,_⟩:=h
  rfl
 ·obtain⟨l,r,ls,rfl,F8,hl,k⟩:=h
  refine⟨_,av (aJ (cE (cT fh (aA aI (pv 0) ak (λ_ _=>rfl)) (pv 1) (by with_unfolding_all rfl)) (di (cT gP (aA aI (pv 0) ak (λ_ _=>rfl)) (pv 1) (by with_unfolding_all rfl))))),?_⟩;have hS:Sq K H l (ls.map V.str):=.inr (C2.of hl);refine⟨_,rfl,aB (j:=2) (.inr (C2.of F8)) rfl rfl ⟨_,rfl,l,ls.map V.str,rfl,hS,rfl,cA ls,?_⟩⟩;have e1:(FK (.str r.2.2.2) (ls.map V.str))=decide (r.2.2.2∈ls):=cD _ _;have e2:(FK (.str r.2.2.1) (ls.map V.str))=decide (r.2.2.1∈ls):=cD _ _;refine⟨FK (.str r.2.2.2) (ls.map V.str),rfl,?_⟩;rw [e1];refine bc (λc=>⟨_,rfl,aB (j:=1) (.inr (C2.of F8)) rfl rfl ⟨_,rfl,l,ls.map V.str,rfl,hS,rfl,cA ls,?_⟩⟩) (λc=>?_)
  ·show Q (.bl (!FK (.str r.2.2.1) (ls.map V.str))) H
   rw [e2];have:lead ls r=!decide (r.2.2.1∈ls):=by unfold lead;rw [c];rfl
   rw [<- this];exact k
  ·simp only [By] at c
   have:lead ls r=false:=by unfold lead;rw [c];rfl
   rw [this] at k
   first | exact k | (rw [c];exact k) | skip
theorem bF.kp {H H':Hp}{p v pa ra:Addr}{ps:List Str}{rs:List (Addr×Row)} (W:bF H v pa ra ps rs) (hp:Dn H p) (k:Kp [p] H H'):bF H' v pa ra ps rs:=by
 have hP:∀c∈[p],∃ys,H c=some (.lst ys):=λc hc=>by
  have e:c=p:=by simpa using hc
  subst e;exact hp.lst
 exact⟨eS k hP W.tp,eS k hP W.pl,eS k hP W.rl,λr hr=>eS k hP (W.rows r hr)⟩
theorem mX:bootBuiltins "sum"=some (.builtin "sum"):=by decide +kernel
theorem m3:bootBuiltins "abs"=some (.builtin "abs"):=by decide +kernel
theorem gi (K:zz7) {X:Cx}{es:List Expr}{k:Nat}{t:HH}{n:Nat}{pos:Pos} (hc:X.calm=true) (h:KP X es t) (hK:X.K=K:=by rfl) (hn:(assignEach es X.env).length=n:=by rfl) (Gp:(assignEach es X.env).findIdx? (·.1)=none:=by rfl) :
  PG X (.Tuple es k pos) (og K n t):=by subst hK;exact fG hc h hn Gp
theorem eQ {ns:List Int}{i:Nat}{x:V} (h:(ns.map V.int)[i]?=some x):∃n,ns[i]?=some n/\x=.int n:=by
 rw [yR] at h;cases e:ns[i]? with
 | none=>rw [e] at h;cases h
 | some r=>rw [e] at h;exact⟨r,rfl,(zy h).symm⟩
theorem eR {ns:List Str}{i:Nat}{x:V} (h:(ns.map V.str)[i]?=some x):∃n,ns[i]?=some n/\x=.str n:=by
 rw [yR] at h;cases e:ns[i]? with
 | none=>rw [e] at h;cases h
 | some r=>rw [e] at h;exact⟨r,rfl,(zy h).symm⟩
def lZ:Sp:=λvs H Q _=>∃z:Int,vs=[.int z]/\Q (.bl true) H
theorem xP:aM ["thing"] ["thing"] (aC (top 9)):=⟨rfl,rfl,rfl,by decide +kernel,rfl,by decide +kernel,by decide +kernel⟩
theorem pb (F:Dk K "is_whole" "is_whole" (top 9) f fd) (B:Bl mg):aG P w K mg base Dl 1 f fd ["thing"] lZ:=by
 refine F.ok xP (λvs H Q E h=>?_) (λ_ _ _ _ H vs Q E hr h=>?_)
 ·obtain⟨z,rfl,_⟩:=h
  rfl
 ·obtain⟨z,rfl,k⟩:=h
  refine⟨_,av (aJ (cE (ay (cQ (T:="int")) rfl B.isinstance cP (aa (pv 0) (aa (cS (v:=.ty "int") rfl B.int mZ rfl) ae)))
   (di (vA (ay (cQ (T:="bool")) rfl B.isinstance cP (aa (pv 0) (aa (cS (v:=.ty "bool") rfl B.bool vq rfl) ae))))))),?_⟩
  exact⟨_,rfl,_,_,true,rfl,.int z,rfl,true,rfl,aX ⟨_,rfl,_,_,false,rfl,.int z,rfl,false,rfl,k⟩⟩
def jD:Sp:=λvs H Q _=>∃(v c pa ra:Addr) (ps:List Str) (rs:List (Addr×Row)) (cs:List Int),vs=[.ref v,.ref c]/\bF H v pa ra ps rs/\rs.length<=100/\H c=some (.tup (cs.map V.int))/\cs.length=rs.length/\∀H',ai H H'->Q .non H'
theorem xo:aM ["web","thing"] ["web","thing"] (aC (top 21)):=⟨rfl,rfl,rfl,by decide +kernel,rfl,by decide +kernel,by decide +kernel⟩
theorem oH (F:Dk K "need_costs" "need_costs" (top 21) f fd) (B:Bl mg) (F1:Fn P w K mg base 1 "is_whole" ["thing"] lZ):aG P w K mg base Dl 2 f fd ["web","thing"] jD:=by
 refine F.ok xo (λvs H Q E h=>?_) (λ_ _ _ _ H vs Q E hr h=>?_)
 ·obtain⟨v,c,pa,ra,ps,rs,cs,rfl,_⟩:=h
  rfl
 ·obtain⟨v,c,pa,ra,ps,rs,cs,rfl,W,hz,hc,hl,k⟩:=h
  refine⟨_,am (bg (PW.pt (dm (bY (bM (ay (cQ (T:="tuple")) rfl B.isinstance cP (aa (pv 1) (aa (cS (v:=.ty "tuple") rfl B.tuple bO rfl) ae)))))
    (dG (aQ cW (ay bj rfl B.len zg (aa (pv 1) ae)) (ay bj rfl B.len zg (aa (aA aI (pv 0) ak (λ_ _=>rfl)) ae)) (aS _))))) eg be)
   (av (bg (bY (bM (ay (eh rfl) rfl B.all eE (aa (aY (N:=["cost"]) (ix:=[none]) ⟨rfl,rfl,rfl,by decide⟩ rfl (bJ (pv 1)) (λ_ _ _ _=>aK 0 (by decide) rfl rfl) (λ_ _ _ _=>bo)
    (λ_ _ _ _=>ax F1 hr (aa (pv 0) ae))) ae)))) eg be)),?_⟩
  have h1:(cs.map V.int).length=rs.length:=by simp [hl]
  have h2:(ao rs).length=rs.length:=by simp
  refine⟨_,rfl,_,_,true,rfl,.tup hc,rfl,true,rfl,bh ⟨_,rfl,c,_,rfl,.inr (C2.of hc),_,rfl,aB (j:=1) (.inr (C2.of W.tp)) rfl rfl ⟨ra,_,rfl,.inr (C2.of W.rl),rfl,_,rfl,eU (by rw [h1,h2]) ?_⟩⟩⟩;refine⟨_,rfl,c,rfl,⟨_,C2.of hc⟩,dC (xs:=cs.map V.int) (fits (by omega)) (λi ys σ H1=>ys=List.replicate i (.bl true)/\H1=H/\∃x,σ=[x]) ⟨rfl,rfl,_,rfl⟩ (λi ys σ H1 _ q=>⟨by rw [q.1];simp,by rw [q.2.1];exact C2.of hc⟩) ?_ ?_⟩
  ·rintro i x ys σ H1 hx ⟨rfl,rfl,g,rfl⟩
   obtain⟨n,hn,rfl⟩:=eQ hx;exact⟨_,rfl,n,rfl,by rw [AK],rfl,_,rfl⟩
  ·rintro ys σ H1 ⟨rfl,rfl,g,rfl⟩ q hq
   refine⟨q,List.replicate (cs.map V.int).length true,rfl,C3.of (by rw [aj,AY]),?_⟩;have e:(List.replicate (cs.map V.int).length true).all id=true:=by simp
   rw [e];exact⟨true,rfl,bh (k _ (au (ai.refl _) hq))⟩
def ed (z:Int):Prop:=-(10 ^ 31) < z/\z < 10 ^ 31
def lL:Sp:=λvs H Q _=>∃p:Addr,vs=[.ref p]/\Dn H p/\∀(z:Int) (H':Hp),ed z->Dn H' p->Kp [p] H H'->Q (.int z) H'
abbrev xn:List Str:=["_law_pot_here","_law_near","_law_far"]
theorem jf:aM xn ["_law_pot_here"] (aC (top 41)):=⟨rfl,rfl,rfl,by decide +kernel,rfl,by decide +kernel,by decide +kernel⟩
theorem ur (F:Dk K "_law_cost" "_law_cost" (top 41) f fd) (B:Bl mg) (Ft:Fn P w K mg base 1 "_law_take" ["_law_pot_here","_law_many"] dD):aG P w K mg base Dl 2 f fd ["_law_pot_here"] lL:=by
 refine F.ok jf (λvs H Q E h=>?_) (λ_ _ _ _ H vs Q E hr h=>?_)
 ·obtain⟨p,rfl,_⟩:=h
  rfl
 ·obtain⟨p,rfl,hp,k⟩:=h
  refine⟨_,am (aH (i:=1) jf.nd rfl (Or.inl rfl) (aE cF (ax Ft hr (aa (pv 0) (aa ak ae))) ak))
   (am (aH (i:=2) jf.nd rfl (Or.inl rfl) (aE cG (aE cF (ax Ft hr (aa (pv 0) (aa (aE cF (aE dF ak (aE fA ak ak)) ak) ae))) (aE fA ak ak)) ak))
   (av (aJ (aA aI (bS (aa (pv 1) (aa (pv 1) (aa (pv 1) (aa (aE df (ay ki rfl B.abs m3 (aa (pv 1) ae)) ak) (aa ak (aa (pv 2)
    (aa (aE cF (aE cF (aE fA ak ak) ak) (ay ki rfl B.abs m3 (aa (pv 1) ae))) ae)))))))) (ax Ft hr (aa (pv 0) (aa ak ae))) (λ_ _=>rfl))))),?_⟩
  have cp:nU 10 30:=⟨by decide,by decide,by decide⟩
  refine⟨_,rfl,p,41,rfl,hp,by decide,by decide,λa H1 a0 a1 P1 e1=>⟨_,_,rfl,rfl,?_⟩⟩;have K1:Kp [p] H H1:=λb o e nb=>by rw [e1 b (by simpa using nb)];exact e
  refine⟨_,rfl,_,_,rfl,rfl,cp,_,_,rfl,rfl,.inl ⟨by decide,by decide⟩,_,_,rfl,rfl,p,_,rfl,P1,by decide,by decide,λb H2 b0 b1 P2 e2=>⟨_,_,rfl,rfl,cp,_,_,rfl,rfl,_,_,rfl,rfl,?_⟩⟩;have K2:Kp [p] H H2:=K1.trans λb o e nb=>by rw [e2 b (by simpa using nb)];exact e
  refine⟨_,rfl,_,rfl,_,rfl,_,rfl,_,rfl,_,_,rfl,rfl,by show (0:Int) < 4;decide,_,rfl,_,_,rfl,rfl,cp,_,_,rfl,rfl,_,rfl,_,rfl,_,_,rfl,rfl,by show 7<=sizeLine;decide,λt ht=>?_⟩;have P3:=P2.keep (H':=upd H2 t (.lst [.int (a - 20),.int (a - 20),.int (a - 20),.int ((if a - 20 < 0 then -(a - 20) else a - 20) % 4),.int 0,.int (b - 10 ^ Int.toNat 30 + 1),.int (10 ^ Int.toNat 30 - 1 - (if a - 20 < 0 then -(a - 20) else a - 20))])) λo e=>by rw [ag (ar e ht)];exact e
  have t3:upd H2 t (.lst [.int (a - 20),.int (a - 20),.int (a - 20),.int ((if a - 20 < 0 then -(a - 20) else a - 20) % 4),.int 0,.int (b - 10 ^ Int.toNat 30 + 1),.int (10 ^ Int.toNat 30 - 1 - (if a - 20 < 0 then -(a - 20) else a - 20))]) t=some (.lst [.int (a - 20),.int (a - 20),.int (a - 20),.int ((if a - 20 < 0 then -(a - 20) else a - 20) % 4),.int 0,.int (b - 10 ^ Int.toNat 30 + 1),.int (10 ^ Int.toNat 30 - 1 - (if a - 20 < 0 then -(a - 20) else a - 20))]):=aj;have K3:=K2.new (o:=.lst [.int (a - 20),.int (a - 20),.int (a - 20),.int ((if a - 20 < 0 then -(a - 20) else a - 20) % 4),.int 0,.int (b - 10 ^ Int.toNat 30 + 1),.int (10 ^ Int.toNat 30 - 1 - (if a - 20 < 0 then -(a - 20) else a - 20))]) ht;have Et:t≠p:=λz=>by obtain⟨o,e⟩:=P2.some;rw [<- z,ht] at e;cases e
  refine⟨_,rfl,p,7,rfl,P3,by decide,by decide,λc H4 c0 c1 P4 e4=>?_⟩;have t4:=(e4 t Et).trans t3;have K4:Kp [p] H H4:=K3.trans λb o e nb=>by rw [e4 b (by simpa using nb)];exact e
  have Ug:(10:Int) ^ Int.toNat 30=1000000000000000000000000000000:=by decide
  rw [Ug] at t4;have b1':b < 2 * 1000000000000000000000000000000 - 1:=b1;have cl:∀(j:Nat) (z:Int),[V.int (a - 20),.int (a - 20),.int (a - 20),.int ((if a - 20 < 0 then -(a - 20) else a - 20) % 4),.int 0,.int (b - 1000000000000000000000000000000 + 1),.int (1000000000000000000000000000000 - 1 - (if a - 20 < 0 then -(a - 20) else a - 20))][j]?=some (.int z)->ed z:=λj z hz=>by
   have N6:(10:Int) ^ 31=10000000000000000000000000000000:=by decide
   unfold ed;rw [N6]
   match j,hz with
   | 0,hz | 1,hz | 2,hz | 4,hz | 5,hz=>simp at hz;omega
   | 3,hz | 6,hz=>simp at hz;split at hz <;> omega
   | j + 7,hz=>simp at hz
  have hc:c.toNat < 7:=by omega
  obtain⟨z,hz⟩:∃z,[V.int (a - 20),.int (a - 20),.int (a - 20),.int ((if a - 20 < 0 then -(a - 20) else a - 20) % 4),.int 0,.int (b - 1000000000000000000000000000000 + 1),.int (1000000000000000000000000000000 - 1 - (if a - 20 < 0 then -(a - 20) else a - 20))][c.toNat]?=some (.int z):=by
   generalize c.toNat=j at hc
   match j,hc with
   | 0,_ | 1,_ | 2,_ | 3,_ | 4,_ | 5,_ | 6,_=>exact⟨_,rfl⟩
  exact aB (j:=c.toNat) (.inl (C3.of t4)) (by omega) hz (k z H4 (cl _ _ hz) P4 K4)
def lS:Sp:=λvs H Q _=>∃(p v pa ra:Addr) (ps:List Str) (rs:List (Addr×Row)),vs=[.ref p,.ref v]/\Dn H p/\bF H v pa ra ps rs/\rs.length<=40 /\
 ∀(q:Addr) (cs:List Int) (H':Hp),Dn H' p->H' q=some (.tup (cs.map V.int))->cs.length=rs.length->(∀z∈cs,ed z)->Kp [p] H H'->Q (.ref q) H'
theorem wZ:aM ["_law_pot_here","_law_web"] ["_law_pot_here","_law_web"] (aC (top 42)):=⟨rfl,rfl,rfl,by decide +kernel,rfl,by decide +kernel,by decide +kernel⟩
theorem tY (F:Dk K "_law_costs" "_law_costs" (top 42) f fd) (B:Bl mg) (Ft:Fn P w K mg base 1 "_law_take" ["_law_pot_here","_law_many"] dD) (Fc:Fn P w K mg base 2 "_law_cost" ["_law_pot_here"] lL):aG P w K mg base Dl 3 f fd ["_law_pot_here","_law_web"] lS:=by
 refine F.ok wZ (λvs H Q E h=>?_) (λ_ _ _ _ H vs Q E hr h=>?_)
 ·obtain⟨p,v,pa,ra,ps,rs,rfl,_⟩:=h
  rfl
 ·obtain⟨p,v,pa,ra,ps,rs,rfl,hp,W,r40,k⟩:=h
  have DI:aN 1 _:=hr.mono (by decide)
  refine⟨_,am (bg (aQ eY (ax Ft DI (aa (pv 0) (aa ak ae))) ak (aS _))
    (av (aJ (bV da rfl B.tuple bO (aa (aY (N:=["_law_row","_law_pot_here"]) (ix:=[none,some 0]) ⟨rfl,rfl,rfl,by decide⟩ rfl (bJ (aA aI (pv 1) ak (λ_ _=>rfl))) (λ_ _ _ _=>aK 0 (by decide) rfl rfl) (λ_ _ _ _=>bo) (λ_ _ _ _=>ax Ft DI (aa (pv 1) (aa ak ae)))) ae)))) be)
   (av (aJ (bV da rfl B.tuple bO (aa (aY (N:=["_law_row","_law_pot_here"]) (ix:=[none,some 0]) ⟨rfl,rfl,rfl,by decide⟩ rfl (bJ (aA aI (pv 1) ak (λ_ _=>rfl))) (λ_ _ _ _=>aK 0 (by decide) rfl rfl) (λ_ _ _ _=>bo) (λ_ _ _ _=>ax Fc hr (aa (pv 1) ae))) ae)))),?_⟩
  have E4:(ao rs).length=rs.length:=by simp
  refine⟨_,rfl,p,4,rfl,hp,by decide,by decide,λa H1 a0 a1 P1 e1=>⟨rfl,_,rfl,?_⟩⟩;have K1:Kp [p] H H1:=λb o e nb=>by rw [e1 b (by simpa using nb)];exact e
  have W1:=W.kp hp K1;have fin:∀(ys:List V) (cs:List Int) (H2:Hp),ys=cs.map V.int->cs.length=rs.length->(∀z∈cs,ed z)->Dn H2 p->Kp [p] H H2->∀t,H2 t=none->∃(p':Addr) (zs:List V),[V.ref t]=[.ref p']/\((C3 K (upd H2 t (.lst ys)) p' zs/\∀l,upd H2 t (.lst ys) l=none->Q (.ref l) (upd (upd H2 t (.lst ys)) l (.tup zs)))\/(C2 K (upd H2 t (.lst ys)) p' zs/\Q (.ref p') (upd H2 t (.lst ys)))):=λys cs H2 ey hl hc P2 K2 t ht=>by
   subst ey;refine⟨t,_,rfl,.inl ⟨C3.of aj,λl Fz=>?_⟩⟩;have s1:=au (o:=.tup (cs.map V.int)) (au (o:=.lst (cs.map V.int)) (ai.refl H2) ht) Fz;exact k l cs _ (P2.keep λo e=>s1 _ _ e) aj hl hc (K2.of_same s1)
  refine bc (λc=>?_) (λc=>?_)
  ·refine⟨_,rfl,aB (j:=1) (.inr (C2.of W1.tp)) rfl rfl ⟨ra,rfl,⟨_,C2.of W1.rl⟩,dC (xs:=ao rs) (fits (by omega)) (λi ys σ H2=>(∃cs:List Int,ys=cs.map V.int/\cs.length=i/\∀z∈cs,ed z)/\Dn H2 p/\Kp [p] H H2/\bF H2 v pa ra ps rs/\∃x,σ=[x,some (.ref p)])
    ⟨⟨[],rfl,rfl,by simp⟩,P1,K1,W1,_,rfl⟩ (λi ys σ H2 _ q=>by obtain⟨⟨cs,rfl,hl,_⟩,_,_,W2,_⟩:=q;exact⟨by simp [hl],C2.of W2.rl⟩) ?_ ?_⟩⟩
   ·rintro i x ys σ H2 hx ⟨⟨cs,rfl,hl,hc⟩,P2,K2,W2,g,rfl⟩
    refine⟨_,rfl,p,3,rfl,P2,by decide,by decide,λz H3 z0 z1 P3 e3=>?_⟩;have K3:Kp [p] H2 H3:=λb o e nb=>by rw [e3 b (by simpa using nb)];exact e
    refine⟨⟨cs++[z],by simp,by simp [hl],λy hy=>?_⟩,P3,K2.trans K3,W2.kp P2 K3,_,rfl⟩
    rcases yQ.mp hy with q | q
    ·exact hc y q
    ·have e:y=z:=by simpa using q
     have N6:(10:Int) ^ 31=10000000000000000000000000000000:=by decide
     unfold ed;rw [e,N6];omega
   ·rintro ys σ H2 ⟨⟨cs,ey,hl,hc⟩,P2,K2,W2,g,rfl⟩ t ht
    exact fin ys cs H2 ey (by rw [hl,E4]) hc P2 K2 t ht
  ·refine⟨_,rfl,aB (j:=1) (.inr (C2.of W1.tp)) rfl rfl ⟨ra,rfl,⟨_,C2.of W1.rl⟩,dC (xs:=ao rs) (fits (by omega)) (λi ys σ H2=>(∃cs:List Int,ys=cs.map V.int/\cs.length=i/\∀z∈cs,ed z)/\Dn H2 p/\Kp [p] H H2/\bF H2 v pa ra ps rs/\∃x,σ=[x,some (.ref p)])
    ⟨⟨[],rfl,rfl,by simp⟩,P1,K1,W1,_,rfl⟩ (λi ys σ H2 _ q=>by obtain⟨⟨cs,rfl,hl,_⟩,_,_,W2,_⟩:=q;exact⟨by simp [hl],C2.of W2.rl⟩) ?_ ?_⟩⟩
   ·rintro i x ys σ H2 hx ⟨⟨cs,rfl,hl,hc⟩,P2,K2,W2,g,rfl⟩
    refine⟨_,rfl,p,rfl,P2,λz H3 cz P3 K3=>?_⟩;refine⟨⟨cs++[z],by simp,by simp [hl],λy hy=>?_⟩,P3,K2.trans K3,W2.kp P2 K3,_,rfl⟩
    rcases yQ.mp hy with q | q
    ·exact hc y q
    ·have e:y=z:=by simpa using q
     rw [e];exact cz
   ·rintro ys σ H2 ⟨⟨cs,ey,hl,hc⟩,P2,K2,W2,g,rfl⟩ t ht
    exact fin ys cs H2 ey (by rw [hl,E4]) hc P2 K2 t ht
end K53
namespace L2
open PySem
section
variable {X:Cx}
def Lr (s:Stmt) (j:Nat):Stmt:=match s with
 | .ClassDef _ _ _ body _ _ _ _ _ _ _=>body.getD j (.Pass ⟨0,0,0,0⟩)
 | _=>.Pass ⟨0,0,0,0⟩
def my (C:Addr):Sp:=λvs H Q _=>∃(e:Addr) (v:V),vs=[.ref e,v]/\H e=some (dv e C none)/\∀dx,H dx=none->dx≠e->Q .non (upd (upd H e (dv e C (some dx))) dx (.xd [(Str.ofString "lot",v)]))
end
end L2
namespace K53
open PySem L2
variable {P:Program}{w:World}{K:zz7}{mg:Str->Option zz9}{base:Heap}{f:Addr}{fd:FuncData}
theorem Q9:aM ["self","lot"] ["self","lot"] (aC (Lr (top 5) 0)):=⟨rfl,rfl,rfl,by decide +kernel,rfl,by decide +kernel,by decide +kernel⟩
theorem ue {f C:Addr}{fd:FuncData} (F:Dk K "__init__" "TooFew.__init__" (Lr (top 5) 0) f fd) (hC:c8 dP base C f):aG P w K mg base Dl 1 f fd ["self","lot"] (my C):=by
 refine F.ok Q9 (λvs H Q E h=>?_) (λ_ _ _ _ H vs Q E hr h=>?_)
 ·obtain⟨e,v,rfl,_⟩:=h
  rfl
 ·obtain⟨e,v,rfl,he,k⟩:=h
  refine⟨_,av (tZ (n:=Str.ofString "lot") hC (by decide) (by decide) (by decide) (pv 0) (pv 1)),?_⟩;exact⟨_,rfl,_,rfl,e,rfl,he,λdx h1 h2=>k dx h1 h2⟩
def kz:Sp:=λvs H Q _=>∃(v pa ra q:Addr) (ps:List Str) (rs:List T) (fs:List Str),vs=[.ref v,.ref q]/\bF H v pa ra ps rs/\ps.length<=100/\H q=some (.lst (fs.map V.str)) /\
 ∀(u:Addr) (H':Hp),ai H H'->H u=none->H' u=some (.tup ((ps.filter λp=>!decide (p∈fs)).map V.str))->Q (.ref u) H'
theorem xi:aM ["web","found"] ["web","found"] (aC (top 23)):=⟨rfl,rfl,rfl,by decide +kernel,rfl,by decide +kernel,by decide +kernel⟩
theorem qY (F:Dk K "places_beyond" "places_beyond" (top 23) f fd) (B:Bl mg):aG P w K mg base Dl 1 f fd ["web","found"] kz:=by
 refine F.ok xi (λvs H Q E h=>?_) (λ_ _ _ _ H vs Q E hr h=>?_)
 ·obtain⟨v,pa,ra,q,ps,rs,fs,rfl,_⟩:=h
  rfl
 ·obtain⟨v,pa,ra,q,ps,rs,fs,rfl,W,hz,hq,k⟩:=h
  refine⟨_,av (aJ (bV da rfl B.tuple bO (aa (aY (N:=["place","found"]) (ix:=[none,some 1]) ⟨rfl,rfl,rfl,by decide⟩ rfl (bJ (aA aI (pv 0) ak (λ_ _=>rfl))) (λ_ _ _ _=>aK 0 (by decide) rfl rfl)
   (λ_ _ _ _=>b7 (aQ (fT K) (pv 0) (pv 1) (by with_unfolding_all rfl))) (λ_ _ _ _=>pv 0)) ae))),?_⟩
  refine⟨_,rfl,aB (j:=0) (.inr (C2.of W.tp)) rfl rfl ⟨pa,rfl,⟨_,C2.of W.pl⟩,ik (xs:=ps.map V.str) (fits (by simp;omega)) (λi ys σ H3=>ys=((ps.take i).filter λp=>!decide (p∈fs)).map V.str/\ai H H3/\∃x,σ=[x,some (.ref q)]) ⟨rfl,ai.refl _,_,rfl⟩
   (λi ys σ H3 _ p=>⟨by rw [p.1];simp;exact y7 (yY _ _) (by simp;omega),C2.of (p.2.1 _ _ W.pl)⟩) ?_ ?_⟩⟩
  ·rintro i y ys σ H3 hy ⟨rfl,s3,x,rfl⟩
   rw [yR] at hy;cases hc:ps[i]? with
   | none=>rw [hc] at hy;cases hy
   | some p =>
    rw [hc] at hy;cases hy;have tf:=bT (λp:Str=>!decide (p∈fs)) ps i p hc;refine⟨_,rfl,_,rfl,q,_,rfl,.inl (C3.of (s3 _ _ hq)),rfl,cA _,_,rfl,?_⟩;rw [cD];show if (!decide (p∈fs))=true then _ else _;refine bc (λc=>⟨_,rfl,?_,s3,_,rfl⟩) (λc=>⟨?_,s3,_,rfl⟩)
    ·rw [tf,c];simp
    ·rw [tf];simp only [By] at c;rw [c];simp
  ·rintro ys σ H3 ⟨rfl,s3,x,rfl⟩ l hl
   rw [take_all ps (by simp)];refine⟨l,_,rfl,.inl ⟨C3.of aj,λu hu=>?_⟩⟩;have s4:=au (o:=.lst ((ps.filter λp=>!decide (p∈fs)).map V.str)) s3 hl;exact k u _ (au s4 hu) (s4.free hu) aj
end K53
namespace L2
open PySem PySem.Spec PyProof.Rows
def bG (ns:List Int):Int:=ns.getD (argBest (DQ λi=>ns.getD i 0) (ns.length - 1)) 0
theorem f9 {ns:List Int} (h:ns≠[]):bG ns∈ns:=by
 have hp:0 < ns.length:=List.length_pos_iff.mpr h;have hb:=jH (DQ λi=>ns.getD i 0) (ns.length - 1);unfold bG;rw [zd,yJ (by omega)];exact zx _
theorem gj {ns:List Int}{x:Int} (h:x∈ns):bG ns<=x:=by
 obtain⟨j,hj,rfl⟩:=List.mem_iff_getElem.mp h;have q:=gS (λi=>ns.getD i 0) (ns.length - 1) j (by omega);unfold bG;have e:ns.getD j 0=ns[j]:=by rw [zd,yJ hj];rfl
 rw [e] at q;exact q
theorem hV {X:Cx} (hc:X.calm=true):aZ X (.builtin "min") (λxs H Q=>∃(p:Addr) (ns:List Int),xs=[.ref p]/\C3 X.K H p (ns.map V.int)/\ns≠[]/\Q (.int (bG ns)) H):=by
 intro pins s σ H xs us Q I r h;obtain⟨p,ns,rfl,hq,Di,q⟩:=h;obtain⟨u,rfl,rx⟩:=vals1 r;cases rx;obtain⟨C1,r',pl,hz⟩:=I.list hq;have C6:=r'.length;rw [yA] at C6;have Ey:0 < ns.length:=List.length_pos_iff.mpr Di;have Eh:∀(i:Nat) (v:zz9),C1.toArray[i]?=some v->∃t,v=Value.int (ns.getD i 0) t:=λi v hv=>by
  have Ic:C1[i]?=some v:=by simpa using hv
  have hi:i < ns.length:=by rw [C6];exact (yV.mp Ic).1
  have e1:(ns.map V.int)[i]?=some (V.int ns[i]):=by rw [yR,yJ hi];rfl
  obtain⟨w',e2,DY⟩:=r'.get e1;rw [Ic] at e2;cases e2;obtain⟨t,e⟩:=DY;exact⟨t,by rw [e,zd,yJ hi];rfl⟩
 refine pA (DQ λi=>ns.getD i 0) (I.ok.hd hc) pl.isList (by rw [yS];omega) (λi j x y G tk Q' E' hk hx hy hQ=>?_) λv G tk hv hk=>?_
 ·obtain⟨t,rfl⟩:=Eh i x hx
  obtain⟨t',rfl⟩:=Eh j y hy;exact HT.yj _ _ _ _ _ _ _ _ _ _ hQ
 ·obtain⟨t,rfl⟩:=Eh _ v hv
  rw [yS,<- C6];exact⟨.int (bG ns),H,I.kept hk,⟨t,rfl⟩,q⟩
end L2
namespace K53
open PySem L2
def DX (all:List (Addr×Row)) (left:Str->Int):List (Key×V):=all.map λr=>(Sum.inr r.2.1,V.int (left r.2.1))
theorem fi {left:Str->Int}{x:Str}:∀{all:List (Addr×Row)},x∈nms all->aL (DX all left) (Sum.inr x)=some (V.int (left x))
 | r::t,h=>by
  show aL ((Sum.inr r.2.1,V.int (left r.2.1))::DX t left) (Sum.inr x)=_
  by_cases e:r.2.1=x
  ·rw [cq (p:=(Sum.inr r.2.1,V.int (left r.2.1))) (by show Sum.inr r.2.1=_;rw [e])]
   show some (V.int (left r.2.1))=_;rw [e]
  ·rw [bW (p:=(Sum.inr r.2.1,V.int (left r.2.1))) (λz=>e (BW z))]
   rcases yF.mp (show x∈r.2.1::nms t from h) with q | q
   ·exact absurd q.symm e
   ·exact fi q
theorem qF {left:Str->Int}{x:Str}{z:Int}{all:List (Addr×Row)} (h:x∈nms all):putK (DX all left) (Sum.inr x) (V.int z)=DX all (λn=>if n=x then z else left n):=by
 unfold putK;rw [eo,fi h,Option.isSome_some,if_pos rfl];unfold DX;rw [y8];refine Ay λr _=>?_;show (if (Sum.inr r.2.1:Key)=Sum.inr x then (Sum.inr r.2.1,V.int z) else (Sum.inr r.2.1,V.int (left r.2.1)))=(Sum.inr r.2.1,V.int (if r.2.1=x then z else left r.2.1))
 by_cases e:r.2.1=x
 ·rw [if_pos (by rw [e]),if_pos e]
 ·rw [if_neg (λq=>e (BW q)),if_neg e]
variable {P:Program}{w:World}{K:zz7}{mg:Str->Option zz9}{base:Heap}{f:Addr}{fd:FuncData}
abbrev bz (rs:List (Addr×Row)) (left:Str->Int):List (Addr×Row):=rs.filter λr=>decide (left r.2.1=0)
def ja:Sp:=λvs H Q _=>∃(rl ld:Addr) (rs all:List (Addr×Row)) (left:Str->Int),vs=[.ref rl,.ref ld]/\H rl=some (.lst (ao rs))/\(∀r∈rs,dq H r.1 r.2)/\(∀r∈rs,r.2.1∈nms all)/\rs.length<=100/\H ld=some (.dK (DX all left)) /\
 ∀(u:Addr) (H':Hp),ai H H'->H u=none->H' u=some (.lst (ao (bz rs left)))->Q (.ref u) H'
theorem wN:aM ["rows","left"] ["rows","left"] (aC (top 26)):=⟨rfl,rfl,rfl,by decide +kernel,rfl,by decide +kernel,by decide +kernel⟩
theorem vH (F:Dk K "met_rows" "met_rows" (top 26) f fd):aG P w K mg base Dl 1 f fd ["rows","left"] ja:=by
 refine F.ok wN (λvs H Q E h=>?_) (λ_ _ _ _ H vs Q E hr h=>?_)
 ·obtain⟨rl,ld,rs,all,left,rfl,_⟩:=h
  rfl
 ·obtain⟨rl,ld,rs,all,left,rfl,hl,Dj,DU,hz,hd,k⟩:=h
  refine⟨_,av (aJ (aY (N:=["row","left"]) (ix:=[none,some 1]) ⟨rfl,rfl,rfl,by decide⟩ rfl (bE (pv 0)) (λ_ _ _ _=>aK 0 (by decide) rfl rfl)
   (λ_ _ _ _=>b7 (aQ eY (er (cj hr) (pv 1) (aA (bR K) (pv 0) ak (λ_ _=>rfl)) (λ_ _=>rfl)) ak (aS _))) (λ_ _ _ _=>pv 0))),?_⟩
  refine⟨_,rfl,rl,rfl,⟨_,C3.of hl⟩,dU (xs:=ao rs) (fits (by simp;omega)) (λi ys σ H3=>ys=ao (bz (rs.take i) left)/\H3=H/\∃x,σ=[x,some (.ref ld)]) ⟨rfl,rfl,_,rfl⟩
   (λi ys σ H3 _ p=>⟨by rw [p.1];simp only [yA];exact y7 (yY _ _) (by simp;omega),by rw [p.2.1];exact C3.of hl⟩) ?_ ?_⟩
  ·rintro i y ys σ H3 hy ⟨rfl,rfl,x,rfl⟩
   obtain⟨r,Dw,rfl⟩:=bU hy;have hm:=yP Dw;have E3:=Dj r hm;have tf:=bT (λr:Addr×Row=>decide (left r.2.1=0)) rs i r Dw;have dg:bp H3 ld (.str r.2.1) (some (V.int (left r.2.1))):=by
    have:=bp.k (k:=Sum.inr r.2.1) hd;rw [fi (DU r hm)] at this;exact this
   refine⟨_,rfl,_,rfl,aB (j:=0) (.inr (C2.of E3)) rfl rfl ⟨ld,V.int (left r.2.1),rfl,dg,rfl,_,rfl,?_⟩⟩;have e1:decide (V.int (left r.2.1)=V.int 0)=decide (left r.2.1=0):=by
    rw [iJ];rfl
   rw [e1];refine bc (λc=>⟨_,rfl,?_,rfl,_,rfl⟩) (λc=>⟨?_,rfl,_,rfl⟩)
   ·show _=ao (List.filter _ (List.take (i + 1) rs))
    rw [tf,if_pos c,ao,ao,yL];rfl
   ·show _=ao (List.filter _ (List.take (i + 1) rs))
    rw [tf,if_neg c,zt]
  ·rintro ys σ H3 ⟨rfl,rfl,x,rfl⟩ u hu
   refine k u _ (au (ai.refl _) hu) hu ?_;rw [aj,take_all rs (by simp)]
abbrev DN (ls:List Str):List Key:=ls.map Sum.inr
def Dv (Ps:List (List Str×Int)):List (List Key×V):=Ps.map λx=>(DN x.1,V.int x.2)
theorem lw {a b:List Str} (h:DN a=DN b):a=b:=(List.map_inj_right (λx y h=>BW h)).mp h
theorem gx (ls:List Str):(DN ls).map kV=ls.map V.str:=by rw [y8];rfl
theorem gT:∀{Ps:List (List Str×Int)}{ls:List Str},ls∉Ps.map (·.1)->aL (Dv Ps) (DN ls)=none
 | [],_,_=>rfl
 | x::t,ls,h=>by
  show aL ((DN x.1,V.int x.2)::Dv t) (DN ls)=none;rw [bW (p:=(DN x.1,V.int x.2)) (λz=>h (by rw [y0,<- lw z];exact yG))];exact gT λz=>h (yT _ z)
theorem qj {Ps:List (List Str×Int)}{ls:List Str}{m:Int} (h:ls∉Ps.map (·.1)):putK (Dv Ps) (DN ls) (V.int m)=Dv (Ps++[(ls,m)]):=by
 rw [gh _ (gT h)];unfold Dv;rw [yL];rfl
theorem pN {Ps:List (List Str×Int)}{ls:List Str}{m:Int} (h:ls∉Ps.map (·.1)):aL (Dv (Ps++[(ls,m)])) (DN ls)=some (V.int m):=by
 have:=gY (DN ls) (DN ls) (V.int m) (Dv Ps) (gT h);rw [if_pos rfl] at this;unfold Dv at this ⊢;rw [yL];exact this
abbrev Fd (rs:List (Addr×Row)) (ls:List Str):List (Addr×Row):=rs.filter λr=>lead ls r
abbrev dQ (rs:List (Addr×Row)) (left:Str->Int) (ls:List Str):Int:=bG ((Fd rs ls).map λr=>left r.2.1)
def cI (ns:List Str) (m:Int) (left:Str->Int):Str->Int:=λn=>if n∈ns then left n - m else left n
theorem qA (m:Int) (left:Str->Int):cI [] m left=left:=by funext n;simp [cI]
theorem pZ {ns:List Str}{x:Str}{m:Int}{left:Str->Int} (h:x∉ns):(λn=>if n=x then cI ns m left x - m else cI ns m left n)=cI (ns++[x]) m left:=by
 funext n
 unfold cI
 by_cases e:n=x
 ·subst e
  simp [h]
 ·simp [e]
def lB:Sp:=λvs H Q _=>∃(pd ld rl l:Addr) (Ps:List (List Str×Int)) (rs all:List (Addr×Row)) (left:Str->Int) (ls:List Str),vs=[.ref pd,.ref ld,.ref rl,.ref l]/\H pd=some (.dT (Dv Ps))/\H ld=some (.dK (DX all left)) /\
 H rl=some (.lst (ao rs))/\(∀r∈rs,dq H r.1 r.2)/\(∀r∈rs,r.2.1∈nms all)/\(nms rs).Nodup/\rs.length<=100/\all.length<=100/\H l=some (.tup (ls.map V.str))/\ls∉Ps.map (·.1)/\Ps.length<=1000/\(∃r∈rs,lead ls r=true) /\
 ∀H':Hp,Kp [pd,ld] H H'->H' pd=some (.dT (Dv (Ps++[(ls,dQ rs left ls)])))->H' ld=some (.dK (DX all (cI (nms (Fd rs ls)) (dQ rs left ls) left)))->Q .non H'
abbrev yc:List Str:=["prices","left","rows","lot","entering","name"]
theorem jg:aM yc ["prices","left","rows","lot"] (aC (top 25)):=⟨rfl,rfl,rfl,by decide +kernel,rfl,by decide +kernel,by decide +kernel⟩
theorem sI (F:Dk K "raise_price" "raise_price" (top 25) f fd) (B:Bl mg) (F1:Fn P w K mg base 1 "leads_into" ["row","lot"] iQ):aG P w K mg base Dl 2 f fd ["prices","left","rows","lot"] lB:=by
 refine F.ok jg (λvs H Q E h=>?_) (λ_ _ _ _ H vs Q E hr h=>?_)
 ·obtain⟨pd,ld,rl,l,Ps,rs,all,left,ls,rfl,_⟩:=h
  rfl
 ·obtain⟨pd,ld,rl,l,Ps,rs,all,left,ls,rfl,Fx,E6,hl,Dj,DU,Do,hz,Lv,Fy,GU,hPz,hex,k⟩:=h
  refine⟨_,am (dX (i:=4) (N:=["row","lot"]) (ix:=[none,some 3]) jg.nd rfl (Or.inl rfl) ⟨rfl,rfl,rfl,by decide⟩ rfl (bE (pv 2)) (λ_ _ _ _=>aK 0 (by decide) rfl rfl)
    (λ_ _ _ _=>b7 (bM (ax F1 hr (aa (pv 0) (aa (pv 1) ae))))) (λ_ _ _ _=>aA (bR K) (pv 0) ak (λ_ _=>rfl)))
   (am (iD (cj hr) (pv 0) (pv 3) (ay (hV rfl) rfl B.min gA (aa (aY (N:=["name","left"]) (ix:=[none,some 1]) ⟨rfl,rfl,rfl,by decide⟩ rfl (bE (pv 4)) (λ_ _ _ _=>aK 0 (by decide) rfl rfl)
    (λ_ _ _ _=>bo) (λ_ _ _ _=>er (cj hr) (pv 1) (pv 0) (λ_ _=>rfl))) ae)) rfl)
   (av (cv zG rfl (bE (pv 4)) (bw (i:=5) jg.nd rfl (Or.inl rfl)) (av (u9 (cj hr) (pv 1) (pv 5) (er (cj hr) (pv 0) (pv 3) (λ_ _=>rfl)) v7 (λ_ _ _=>rfl)))))),?_⟩
  refine⟨_,rfl,rl,rfl,⟨_,C3.of hl⟩,dU (xs:=ao rs) (fits (by simp;omega)) (λi ys σ H3=>ys=(nms (Fd (rs.take i) ls)).map V.str/\H3=H/\∃x,σ=[x,some (.ref l)]) ⟨rfl,rfl,_,rfl⟩
   (λi ys σ H3 _ p=>⟨by rw [p.1];simp only [yA];exact y7 (yY _ _) (by simp;omega),by rw [p.2.1];exact C3.of hl⟩) ?_ ?_⟩
  ·rintro i y ys σ H3 hy ⟨rfl,rfl,x,rfl⟩
   obtain⟨r,Dw,rfl⟩:=bU hy;have hm:=yP Dw;have E3:=Dj r hm;have tf:=bT (λr:Addr×Row=>lead ls r) rs i r Dw;refine⟨_,rfl,_,rfl,l,r,ls,rfl,E3,Fy,_,rfl,?_⟩;refine bc (λc=>⟨_,rfl,aB (j:=0) (.inr (C2.of E3)) rfl rfl ⟨?_,rfl,_,rfl⟩⟩) (λc=>⟨?_,rfl,_,rfl⟩)
   ·show _=(nms (List.filter _ (List.take (i + 1) rs))).map V.str
    rw [tf,if_pos c,nms,nms,yL,yL];rfl
   ·show _=(nms (List.filter _ (List.take (i + 1) rs))).map V.str
    rw [tf,if_neg c,zt]
  ·rintro ys σ H3 ⟨rfl,rfl,x,rfl⟩ en Nv
   have hT:nms (Fd (rs.take (ao rs).length) ls)=nms (Fd rs ls):=by rw [take_all rs (by simp)]
   rw [hT];have TY:(nms (Fd rs ls)).Nodup:=AG (List.Sublist.map _ zh) Do;have NJ:∀x∈nms (Fd rs ls),x∈nms all:=λx hx=>by
    obtain⟨r,C9,rfl⟩:=yD.mp hx;exact DU r (yI.mp C9).1
   have hNz:(nms (Fd rs ls)).length<=100:=by
    rw [yA];exact y7 (yY _ _) hz
   have TZ:nms (Fd rs ls)≠[]:=by
    obtain⟨r,h1,h2⟩:=hex;exact BP (yE (yI.mpr ⟨h1,h2⟩))
   have Nl:dQ rs left ls=bG ((nms (Fd rs ls)).map left):=by
    show bG _=bG _;rw [y8];rfl
   rw [Nl] at k;generalize nms (Fd rs ls)=NN at *;have s1:=au (o:=.lst (NN.map V.str)) (ai.refl H3) Nv;have e1:upd H3 en (.lst (NN.map V.str)) en=some (.lst (NN.map V.str)):=aj;generalize upd H3 en (.lst (NN.map V.str))=H1 at s1 e1 ⊢;have Sv:=s1 _ _ E6
   refine⟨_,rfl,en,rfl,⟨_,C3.of e1⟩,dW (xs:=NN.map V.str) (fits (by simp;omega)) (λi ys σ H2=>ys=((NN.take i).map left).map V.int/\H2=H1/\∃x,σ=[x,some (.ref ld)]) ⟨rfl,rfl,_,rfl⟩
    (λi ys σ H2 _ p=>⟨by rw [p.1];simp;omega,by rw [p.2.1];exact C3.of e1⟩) ?_ ?_⟩
   ·rintro i y ys σ H2 hy ⟨rfl,rfl,g,rfl⟩
    obtain⟨n,hn,rfl⟩:=eR hy;have dg:bp H2 ld (.str n) (some (V.int (left n))):=by
     have:=bp.k (k:=Sum.inr n) Sv;rw [fi (NJ n (yP hn))] at this;exact this
    refine⟨_,rfl,_,rfl,ld,V.int (left n),rfl,dg,?_,rfl,_,rfl⟩;rw [zi,hn,yL,yL];rfl
   ·rintro ys σ H2 ⟨rfl,rfl,g,rfl⟩ q hq
    have TU:NN.take (NN.map V.str).length=NN:=by rw [yA,zU]
    rw [TU];have s2:=au (o:=.lst ((NN.map left).map V.int)) s1 hq;have e2:upd H2 q (.lst ((NN.map left).map V.int)) q=some (.lst ((NN.map left).map V.int)):=aj;have Jl:upd H2 q (.lst ((NN.map left).map V.int)) en=some (.lst (NN.map V.str)):=by rw [ag (ar e1 hq)];exact e1
    generalize upd H2 q (.lst ((NN.map left).map V.int))=H4 at s2 e2 Jl ⊢;refine⟨q,NN.map left,rfl,C3.of e2,by simpa using TZ,?_⟩;generalize bG (NN.map left)=m at *;have J5:H4 l=some (.tup ((DN ls).map kV)):=by rw [gx];exact s2 _ _ Fy
    refine⟨_,rfl,_,rfl,pd,_,rfl,cZ.t (k:=DN ls) (s2 _ _ Fx) J5 (fits (by unfold Dv;rw [yA];omega)),?_⟩;rw [qj GU];have HX:pd≠ld:=λz=>by rw [z,E6] at Fx;cases Fx
    have RA:l≠pd:=λz=>by rw [z,Fx] at Fy;cases Fy
    have DZ:l≠ld:=λz=>by rw [z,E6] at Fy;cases Fy
    have RB:en≠pd:=λz=>by rw [z,s2 _ _ Fx] at Jl;cases Jl
    have RI:en≠ld:=λz=>by rw [z,s2 _ _ E6] at Jl;cases Jl
    have K5:Kp [pd,ld] H3 (upd H4 pd (.dT (Dv (Ps++[(ls,m)])))):=λc ob e n=>by
     rw [ag (λz=>n (by rw [z];simp))];exact s2 _ _ e
    have p5:upd H4 pd (.dT (Dv (Ps++[(ls,m)]))) pd=some (.dT (Dv (Ps++[(ls,m)]))):=aj;have l5:upd H4 pd (.dT (Dv (Ps++[(ls,m)]))) ld=some (.dK (DX all (cI (NN.take 0) m left))):=by
     rw [ag (zP HX),List.take_zero,qA];exact s2 _ _ E6
    have t5:upd H4 pd (.dT (Dv (Ps++[(ls,m)]))) l=some (.tup ((DN ls).map kV)):=by rw [ag RA];exact J5
    have n5:upd H4 pd (.dT (Dv (Ps++[(ls,m)]))) en=some (.lst (NN.map V.str)):=by rw [ag RB];exact Jl
    generalize upd H4 pd (.dT (Dv (Ps++[(ls,m)])))=H5 at K5 p5 l5 t5 n5 ⊢
    refine⟨_,rfl,en,rfl,⟨_,C3.of n5⟩,ip (K:=K) (a:=en) (xs:=NN.map V.str) (λj σ H6=>∃g,σ=[some (.ref pd),some (.ref ld),some (.ref rl),some (.ref l),some (.ref en),g]/\Kp [pd,ld] H3 H6/\H6 pd=some (.dT (Dv (Ps++[(ls,m)])))/\H6 ld=some (.dK (DX all (cI (NN.take j) m left)))/\H6 l=some (.tup ((DN ls).map kV))/\H6 en=some (.lst (NN.map V.str)))
     ⟨none,rfl,K5,p5,l5,t5,n5⟩ (λj σ H6 _ p=>by obtain⟨_,_,_,_,_,_,n6⟩:=p;exact C3.of n6) ?_ ?_⟩
    ·rintro j y σ H6 hy ⟨g,rfl,K6,p6,l6,t6,n6⟩
     obtain⟨n,hn,rfl⟩:=eR hy;have Gq:=yP hn;have dg:bp H6 ld (.str n) (some (V.int (cI (NN.take j) m left n))):=by
      have:=bp.k (k:=Sum.inr n) l6;rw [fi (NJ n Gq)] at this;exact this
     have dp:bp H6 pd (.ref l) (some (V.int m)):=by
      have:=bp.t (k:=DN ls) p6 t6;rw [pN GU] at this;exact this
     refine⟨_,rfl,_,rfl,ld,_,rfl,dg,_,rfl,_,rfl,pd,_,rfl,dp,_,_,rfl,rfl,_,cZ.k (k:=Sum.inr n) l6 (fits (by unfold DX;rw [yA];omega)),?_⟩;rw [qF (NJ n Gq)];have Ij:n∉NN.take j:=λz=>by
      obtain⟨i,hi,e⟩:=Ad z;rw [zF] at hi;have hj:=(yV.mp hn).1;have e2:=(yV.mp hn).2;rw [CJ] at e;exact yZ.mp TY i j (by omega) hj (by omega) (e.trans e2.symm)
     rw [pZ Ij];refine⟨_,rfl,λc ob e nn=>?_,?_,?_,?_,?_⟩
     ·rw [ag (λz=>nn (by rw [z];simp))];exact K6 c ob e nn
     ·rw [ag HX];exact p6
     ·rw [aj,zi,hn];rfl
     ·rw [ag DZ];exact t6
     ·rw [ag RI];exact n6
    ·rintro σ H6 ⟨g,rfl,K6,p6,l6,t6,n6⟩
     have TR:NN.take (NN.map V.str).length=NN:=by rw [yA,zU]
     rw [TR] at l6;exact k H6 K6 p6 l6
theorem tU (K:zz7) {X:Cx} (h:X.K=K:=by rfl):aZ X (.builtin "sorted") (λxs H Q=>∃(p:Addr) (ss:List Str),xs=[.ref p]/\C3 K H p (ss.map V.str)/\ss.length < 64/\∀(Dg:List Str) (q:Addr),Dg.Perm ss->PyProof.Rows.sortedS Dg=true->H q=none->Q (.ref q) (upd H q (.lst (Dg.map V.str)))):=by subst h;exact fS
def eJ (r:Row):Row:=(r.1,r.2.2,r.2.1)
theorem qW {R:List Row}{x:Str}:∀{n:Nat}{y:Str},Walk (R.map eJ) x n y->CP.Pth R y x:=by
 intro n y h
 induction h with
 | nil=>exact .nil
 | @snoc n r hw hr ih =>
  obtain⟨q,hq,rfl⟩:=yD.mp hr;exact (CP.Pth.snoc (r:=q) CP.Pth.nil hq).trans ih
theorem Walk.front {R:List Row}{x:Str}{r:Row} (hr:r∈R) (e:r.2.1=x):∀{n:Nat}{y:Str},Walk R r.2.2 n y->Walk R x (n + 1) y:=by
 intro n y h
 induction h with
 | nil=>subst e;exact .snoc .nil hr
 | snoc hw hq ih=>exact .snoc ih hq
theorem qx {R:List Row}{y x:Str} (h:CP.Pth R y x):∃n,Walk (R.map eJ) x n y:=by
 induction h with
 | nil=>exact⟨0,.nil⟩
 | @snoc r hp hr ih =>
  obtain⟨n,hw⟩:=ih;exact⟨n + 1,Walk.front (r:=eJ r) (yE hr) rfl hw⟩
structure Jo (R:List Row) (ps:List Str) (lots:Str->List Str):Prop where
 so:∀x∈ps,(lots x).Pairwise Du
 me:∀x∈ps,∀y,y∈lots x ↔ y∈ps/\CP.Pth R y x
def cM (R:List Row) (ps:List Str) (x:Str):List Str:=Classical.epsilon λl:List Str=>l.Pairwise Du/\∀y,y∈l ↔ y∈ps/\CP.Pth R y x
theorem lI {R:List Row}{ps:List Str}{x:Str}{l:List Str} (h1:l.Pairwise Du) (h2:∀y,y∈l ↔ y∈ps/\CP.Pth R y x):cM R ps x=l:=by
 have h:=Classical.epsilon_spec (p:=λl:List Str=>l.Pairwise Du/\∀y,y∈l ↔ y∈ps/\CP.Pth R y x) ⟨l,h1,h2⟩;exact fD h.1 h1 λy=>(h.2 y).trans (h2 y).symm
abbrev EV:=Addr×List Str
abbrev DA (ls:List EV):List V:=ls.map λx=>V.ref x.1
theorem iF {ls:List EV}{i:Nat}{x:V} (h:(DA ls)[i]?=some x):∃r,ls[i]?=some r/\x=.ref r.1:=by
 unfold DA at h;rw [yR] at h;cases e:ls[i]? with
 | none=>rw [e] at h;cases h
 | some r=>rw [e] at h;exact⟨r,rfl,(zy h).symm⟩
def gz (Ls:List (List Str)):Option (List Str):=Ls[shortest (Ls.map λL=>((0:Addr),L.map V.str))]?
theorem uU {fl:List EV}{x:Addr×List V} (h:(fl.map λx=>(x.1,x.2.map V.str))[shortest (fl.map λx=>(x.1,x.2.map V.str))]?=some x):∃z∈fl,x=(z.1,z.2.map V.str)/\gz (fl.map (·.2))=some z.2:=by
 have e:shortest (fl.map λx=>(x.1,x.2.map V.str))=shortest ((fl.map (·.2)).map λL=>((0:Addr),L.map V.str)):=by
  unfold shortest;have e2:ck (fl.map λx=>(x.1,x.2.map V.str))=ck ((fl.map (·.2)).map λL=>((0:Addr),L.map V.str)):=by
   funext i
   unfold ck;rw [yR,yR,yR];cases fl[i]? <;> rfl
  rw [e2,yA,yA,yA]
 rw [e,yR] at h;unfold gz;cases c:fl[shortest ((fl.map (·.2)).map λL=>((0:Addr),L.map V.str))]? with
 | none=>rw [c] at h;cases h
 | some z =>
  rw [c] at h;exact⟨z,yP c,(zy h).symm,by rw [yR,c];rfl⟩
def dw (R:List Row) (ps:List Str) (root:Str):Option (List Str):=gz ((ps.map (cM R ps)).filter λL=>!decide (root∈L))
def k8:Sp:=λvs H Q _=>∃(pa ml:Addr) (ps:List Str) (root:Str) (ms:List T),vs=[.ref pa,.str root,.ref ml]/\H pa=some (.tup (ps.map V.str))/\H ml=some (.lst (ao ms))/\cJ H ms/\(∀r∈ms,r.2.2.1∈ps/\r.2.2.2∈ps)/\ps.length<=20/\ms.length<=60 /\
 ∀(v:V) (H':Hp) (lots:Str->List Str),ai H H'->Jo (ms.map (·.2)) ps lots ->
  ((v=.non/\dw (ms.map (·.2)) ps root=none/\∀x∈ps,root∈lots x)\/∃u x0,v=.ref u/\x0∈ps/\dw (ms.map (·.2)) ps root=some (lots x0)/\H' u=some (.tup ((lots x0).map V.str))/\root∉lots x0/\∀y∈ps,root∉lots y->(lots x0).length<=(lots y).length)->Q v H'
abbrev xJ:List Str:=["places","root","met","turned","lots"]
theorem i5:aM xJ ["places","root","met"] (aC (top 27)):=⟨rfl,rfl,rfl,by decide +kernel,rfl,by decide +kernel,by decide +kernel⟩
theorem rX (F:Dk K "unmet_lot" "unmet_lot" (top 27) f fd) (B:Bl mg) (F1:Fn P w K mg base 2 "come_to" ["rows","start"] iV):aG P w K mg base Dl 3 f fd ["places","root","met"] k8:=by
 refine F.ok i5 (λvs H Q E h=>?_) (λ_ _ _ _ H vs Q E hr h=>?_)
 ·obtain⟨pa,ml,ps,root,ms,rfl,_⟩:=h
  rfl
 ·obtain⟨pa,ml,ps,root,ms,rfl,Ez,Gb,Dj,Ku,hz,Tf,k⟩:=h
  refine⟨_,am (aH (i:=3) i5.nd rfl (Or.inr rfl) (aY (N:=["name","start","end"]) (ix:=[none,none,none]) ⟨rfl,rfl,rfl,by decide⟩ rfl (bE (pv 2)) (λ_ _ _ _=>gi K rfl (n:=3) (bH (aK 0 (by decide) rfl rfl) (bH (aK 1 (by decide) rfl rfl) (bH (aK 2 (by decide) rfl rfl) d6))))
    (λ_ _ _ _=>bo) (λ_ _ _ _=>cV (aa (pv 0) (aa (pv 2) (aa (pv 1) ae))))))
   (am (dX (i:=4) (N:=["place","turned"]) (ix:=[none,some 3]) i5.nd rfl (Or.inl rfl) ⟨rfl,rfl,rfl,by decide⟩ rfl (bJ (pv 0)) (λ_ _ _ _=>aK 0 (by decide) rfl rfl) (λ_ _ _ _=>bo)
    (λ_ _ _ _=>bV (jZ K) rfl B.tuple bO (aa (ay (tU K) rfl B.sorted dY (aa (ax F1 hr (aa (pv 1) (aa (pv 0) ae))) ae)) ae)))
   (av (aJ (uu rfl rfl B.min rfl B.len (aY (N:=["lot","root"]) (ix:=[none,some 1]) ⟨rfl,rfl,rfl,by decide⟩ rfl (bE (pv 4)) (λ_ _ _ _=>aK 0 (by decide) rfl rfl)
    (λ_ _ _ _=>b7 (aQ (fT K) (pv 1) (pv 0) (by with_unfolding_all rfl))) (λ_ _ _ _=>pv 0)))))),?_⟩
  refine⟨_,rfl,ml,rfl,⟨_,C3.of Gb⟩,ig (xs:=ao ms) (fits (by simp;omega)) (λi ys σ H1=>∃ts:List T,ys=ao ts/\ts.map (·.2)=(ms.take i).map (λr=>eJ r.2)/\cJ H1 ts/\ai H H1/\∃a b c,σ=[a,b,c]) ⟨[],rfl,rfl,⟨λr hr=>by cases hr⟩,ai.refl _,_,_,_,rfl⟩
   (λi ys σ H1 _ p=>by
    obtain⟨ts,rfl,et,_,s1,_⟩:=p;have:=congrArg List.length et;simp only [yA,zF] at this
    exact⟨by rw [yA];omega,C3.of (s1 _ _ Gb)⟩) ?_ ?_⟩
  ·rintro i y ys σ H1 hy ⟨ts,rfl,et,GL,s1,a,b,c,rfl⟩
   obtain⟨r,Dw,rfl⟩:=bU hy;have E3:=s1 _ _ (Dj.e r (yP Dw));refine⟨r.1,_,rfl,C2.of E3,rfl,_,_,rfl,_,_,rfl,_,_,rfl,rfl,?_⟩;unfold b6
   dsimp only
   rw [if_pos rfl];refine⟨_,rfl,_,rfl,_,rfl,by show 3<=sizeLine;decide,λu hu=>?_⟩;refine⟨ts++[(u,eJ r.2)],by rw [ao,ao,yL];rfl,by rw [yL,et,zi,Dw,yL];rfl,⟨λq hq=>?_⟩,au s1 hu,_,_,_,rfl⟩
   rcases yQ.mp hq with q1 | q1
   ·show upd H1 u _ q.1=_
    rw [ag (ar (GL.e q q1) hu)];exact GL.e q q1
   ·rw [yK.mp q1]
    exact aj
  ·rintro ys σ H1 ⟨ts,rfl,et,GL,s1,a,b,c,rfl⟩ tn GN
   rw [take_all ms (by simp)] at et;have s2:=au (o:=.lst (ao ts)) s1 GN;have t2:upd H1 tn (.lst (ao ts)) tn=some (.lst (ao ts)):=aj;have r2:cJ (upd H1 tn (.lst (ao ts))) ts:=GL.same (au (ai.refl _) GN);generalize upd H1 tn (.lst (ao ts))=H2 at s2 t2 r2 ⊢;have hR:ts.map (·.2)=(ms.map (·.2)).map eJ:=by rw [et,y8];rfl
   have Kb:ts.length=ms.length:=by have:=congrArg List.length et;simpa using this
   have Kc:∀r∈ts,r.2.2.2∈ps:=λr C9=>by
    have:r.2∈(ms.map (·.2)).map eJ:=by rw [<- hR];exact yE C9
    obtain⟨q,hq,e⟩:=yD.mp this;obtain⟨t,ht,rfl⟩:=yD.mp hq;rw [<- e];exact (Ku t ht).1
   have OR:=s2 _ _ Ez
   refine⟨_,rfl,pa,rfl,⟨_,C2.of OR⟩,dC (xs:=ps.map V.str) (fits (by simp;omega)) (λi ys σ H3=>∃ls:List EV,ys=DA ls/\(∀x∈ps.take i,(cM (ms.map (·.2)) ps x).Pairwise Du/\∀y,y∈cM (ms.map (·.2)) ps x ↔ y∈ps/\CP.Pth (ms.map (·.2)) y x)/\ls.map (·.2)=(ps.take i).map (cM (ms.map (·.2)) ps)/\(∀x∈ls,H3 x.1=some (.tup (x.2.map V.str)))/\ai H2 H3/\∃x,σ=[x,some (.ref tn)]) ⟨[],rfl,λx hx=>(by cases hx),rfl,λx hx=>(by cases hx),ai.refl _,_,rfl⟩
    (λi ys σ H3 _ p=>by
     obtain⟨ls,rfl,_,el,_,s3,_⟩:=p;have:=congrArg List.length el;simp only [yA,zF] at this
     exact⟨by rw [yA];omega,C2.of (s3 _ _ OR)⟩) ?_ ?_⟩
   ·rintro i y ys σ H3 hy ⟨ls,rfl,hok,el,FM,s3,x,rfl⟩
    obtain⟨x,hx,rfl⟩:=eR hy;have Hq:=yP hx;refine⟨_,rfl,_,rfl,tn,x,ts,ps,rfl,.inl (s3 _ _ t2),r2.same s3,Hq,Kc,by omega,by omega,λq H4 s4 hq4 q4 Fu=>?_⟩;have C6:=gf Fu Hq Kc;refine⟨q,_,rfl,C3.of q4,by simp only [C8,zk,yA];omega,λss q' hp Eo Em=>?_⟩;have s5:=au (o:=.lst (ss.map V.str)) (s3.trans s4) Em;have q5:upd H4 q' (.lst (ss.map V.str)) q'=some (.lst (ss.map V.str)):=aj;have l5:∀x∈ls,upd H4 q' (.lst (ss.map V.str)) x.1=some (.tup (x.2.map V.str)):=λx MK=>by
     have:=s4 _ _ (FM x MK);rw [ag (ar this Em)];exact this
    generalize upd H4 q' (.lst (ss.map V.str))=H5 at s5 q5 l5 ⊢;refine⟨q',_,rfl,.inl ⟨C3.of q5,λu hu=>?_⟩⟩;have Ja:ss.Pairwise Du:=eO Eo (hp.nodup_iff.mpr Fu.nd);have Nj:∀y,y∈ss ↔ y∈ps/\CP.Pth (ms.map (·.2)) y x:=λy=>by
     rw [hp.mem_iff];constructor
     ·intro MH
      obtain⟨n,hd⟩:=Fu.mem y MH;refine⟨ft Hq (λr C9=>?_) hd.1,qW (by rw [<- hR];exact hd.1)⟩;obtain⟨t,ht,rfl⟩:=yD.mp C9;exact Kc t ht
     ·rintro⟨_,M6⟩
      obtain⟨n,hw⟩:=qx M6;exact Fu.cl n y (by rw [hR];exact hw)
    refine⟨ls++[(u,ss)],by rw [DA,DA,yL];rfl,λz D6=>?_,by rw [yL,el,zi,hx,yL];simp only [Option.toList,y0,CO,lI Ja Nj],λz D6=>?_,au s5 hu,_,rfl⟩
    ·rw [zi,hx] at D6
     rcases yQ.mp D6 with q1 | q1
     ·exact hok z q1
     ·rw [show z=x from yK.mp q1,lI Ja Nj];exact⟨Ja,Nj⟩
    rcases yQ.mp D6 with q1 | q1
    ·rw [ag (ar (l5 z q1) hu)];exact l5 z q1
    ·rw [yK.mp q1]
     exact aj
   ·rintro ys σ H3 ⟨ls,rfl,hok,el,FM,s3,x,rfl⟩ lo Hu
    rw [take_all ps (by simp)] at el hok;have NK:Jo (ms.map (·.2)) ps (cM (ms.map (·.2)) ps):=⟨λx hx=>(hok x hx).1,λx hx=>(hok x hx).2⟩
    have Il:ls.length=ps.length:=by have:=congrArg List.length el;simpa using this
    have s4:=au (o:=.lst (DA ls)) (s2.trans s3) Hu;have l4:upd H3 lo (.lst (DA ls)) lo=some (.lst (DA ls)):=aj;have t4:∀x∈ls,upd H3 lo (.lst (DA ls)) x.1=some (.tup (x.2.map V.str)):=λx hx=>by
     rw [ag (ar (FM x hx) Hu)];exact FM x hx
    generalize upd H3 lo (.lst (DA ls))=H4 at s4 l4 t4 ⊢
    refine⟨_,rfl,lo,rfl,⟨_,C3.of l4⟩,dU (xs:=DA ls) (fits (by simp;omega)) (λi ys σ H5=>ys=DA ((ls.take i).filter λx=>!decide (root∈x.2))/\H5=H4/\∃x,σ=[x,some (.str root)]) ⟨rfl,rfl,_,rfl⟩
     (λi ys σ H5 _ p=>⟨by rw [p.1];simp only [yA];exact y7 (yY _ _) (by simp;omega),by rw [p.2.1];exact C3.of l4⟩) ?_ ?_⟩
    ·rintro i y ys σ H5 hy ⟨rfl,rfl,x,rfl⟩
     obtain⟨z,D6,rfl⟩:=iF hy;have tf:=bT (λx:EV=>!decide (root∈x.2)) ls i z D6;refine⟨_,rfl,_,rfl,z.1,_,rfl,.inr (C2.of (t4 z (yP D6))),rfl,cA _,_,rfl,?_⟩;rw [cD];show if (!decide (root∈z.2))=true then _ else _;refine bc (λc=>⟨_,rfl,?_,rfl,_,rfl⟩) (λc=>⟨?_,rfl,_,rfl⟩)
     ·rw [tf,if_pos c,DA,DA,yL];rfl
     ·rw [tf,if_neg c,zt]
    ·rintro ys σ H5 ⟨rfl,rfl,x,rfl⟩ q hq
     rw [take_all ls (by simp)];have s5:=au (o:=.lst (DA (ls.filter λx=>!decide (root∈x.2)))) s4 hq;have q5:upd H5 q (.lst (DA (ls.filter λx=>!decide (root∈x.2)))) q=some (.lst (DA (ls.filter λx=>!decide (root∈x.2)))):=aj;have t5:∀x∈ls,upd H5 q (.lst (DA (ls.filter λx=>!decide (root∈x.2)))) x.1=some (.tup (x.2.map V.str)):=λx hx=>by
      rw [ag (ar (t4 x hx) hq)];exact t4 x hx
     generalize FB:(ls.filter λx=>!decide (root∈x.2))=fl at s5 q5 t5 ⊢;generalize upd H5 q (.lst (DA fl))=H6 at s5 q5 t5 ⊢;have E8:∀x,x∈fl ↔ x∈ls/\root∉x.2:=λx=>by rw [<- FB,yI];simp
     have Qm:Jo (ms.map (·.2)) ps (cM (ms.map (·.2)) ps):=NK;have Gs:∀{i:Nat}{x:Str},ps[i]?=some x->∃z,ls[i]?=some z/\z.2=cM (ms.map (·.2)) ps x:=λ{i x} hx=>by
      have e:=congrArg (λl:List (List Str)=>l[i]?) el;simp only [yR,hx,A2] at e;cases c:ls[i]? with
      | none=>rw [c] at e;cases e
      | some z=>rw [c] at e;exact⟨z,rfl,zy e⟩
     have FA:∀z∈ls,∃x∈ps,z.2=cM (ms.map (·.2)) ps x:=λz D6=>by
      have:z.2∈ps.map (cM (ms.map (·.2)) ps):=by rw [<- el];exact yE D6
      obtain⟨x,hx,e⟩:=yD.mp this;exact⟨x,hx,e.symm⟩
     have PZ:fl.map (·.2)=(ps.map (cM (ms.map (·.2)) ps)).filter λL=>!decide (root∈L):=by
      rw [<- FB,<- el,Cm];rfl
     refine⟨q,fl.map λx=>(x.1,x.2.map V.str),rfl,C3.of (by rw [q5,DA,gH,y8];rfl),λx hx=>?_,λx hx=>?_,λh0=>?_⟩
     ·obtain⟨z,D6,rfl⟩:=yD.mp hx
      exact t5 z ((E8 z).mp D6).1
     ·have DL:=oY hx
      obtain⟨z,D6,rfl,Py⟩:=uU hx;rw [PZ] at Py;obtain⟨z1,z2⟩:=(E8 z).mp D6;obtain⟨x0,h1,h2⟩:=FA z z1;refine k _ H6 _ s5 Qm (.inr ⟨z.1,x0,rfl,h1,by rw [<- h2];exact Py,by rw [<- h2];exact t5 z z1,by rw [<- h2];exact z2,λy hy S6=>?_⟩);obtain⟨i,hi⟩:=Bz hy;obtain⟨z',h3,h4⟩:=Gs hi;have:=DL (z'.1,z'.2.map V.str) (yD.mpr ⟨z',(E8 z').mpr ⟨yP h3,by rw [h4];exact S6⟩,rfl⟩);simp only [yA] at this;rw [<- h2,<- h4];exact this
     ·have Qr:fl=[]:=List.map_eq_nil_iff.mp h0
      refine k _ H6 _ s5 Qm (.inl ⟨rfl,by unfold dw gz;rw [<- PZ,Qr];rfl,λx hx=>?_⟩);obtain⟨i,hi⟩:=Bz hx;obtain⟨z,h3,h4⟩:=Gs hi;cases Aq (root∈cM (ms.map (·.2)) ps x) with
      | inl c=>exact c
      | inr c =>
       have:=(E8 z).mpr ⟨yP h3,by rw [h4];exact c⟩;rw [Qr] at this;cases this
abbrev Rw (rs:List T):List Row:=rs.map (·.2)
theorem iT (rs:List T) (left:Str->Int):Rw (bz rs left)=CP.met (Rw rs) left:=by
 unfold CP.met;rw [Cm];rfl
theorem tu (rs:List T) (ls:List Str):nms (Fd rs ls)=(CP.enter (Rw rs) ls).map (·.1):=by
 unfold CP.enter;rw [Cm,y8];rfl
theorem md (rs:List T) (ls:List Str) (m:Int) (left:Str->Int):cI (nms (Fd rs ls)) m left=CP.less (Rw rs) ls m left:=by
 unfold cI CP.less;rw [tu]
theorem mK {rs:List T}{ls:List Str}{left:Str->Int} (h:∃r∈rs,lead ls r=true):CP.Mn (Rw rs) ls left (dQ rs left ls):=by
 have Di:((Fd rs ls).map λr=>left r.2.1)≠[]:=by
  obtain⟨r,h1,h2⟩:=h;exact BP (yE (yI.mpr ⟨h1,h2⟩))
 refine⟨λr hr he=>?_,?_⟩
 ·obtain⟨t,ht,rfl⟩:=yD.mp hr
  exact gj (yD.mpr ⟨t,yI.mpr ⟨ht,he⟩,rfl⟩)
 ·obtain⟨t,ht,e⟩:=yD.mp (f9 Di)
  obtain⟨h1,h2⟩:=yI.mp ht;exact⟨t.2,yE h1,h2,e⟩
theorem mF {rs:List T} (h:(nms rs).Nodup):CP.Uni (Rw rs):=λr hr q hq e=>by
 obtain⟨t,ht,rfl⟩:=yD.mp hr;obtain⟨u,hu,rfl⟩:=yD.mp hq;obtain⟨i,hi,rfl⟩:=Ad ht;obtain⟨j,hj,rfl⟩:=Ad hu;have DE:i=j:=by
  have:=yZ.mp h
  rcases Nat.lt_trichotomy i j with c | c | c
  ·exact absurd (by rw [zY,zY];exact e) (this i j (by simpa using hi) (by simpa using hj) c)
  ·exact c
  ·exact absurd (by rw [zY,zY];exact e.symm) (this j i (by simpa using hj) (by simpa using hi) c)
 subst DE;rfl
structure G4 (ps:List Str) (root:Str) (rs:List T):Prop where
 so:ps.Pairwise Du
 ro:root∈ps
 nd:(nms rs).Nodup
 en:∀r∈rs,r.2.2.1∈ps/\r.2.2.2∈ps
 lo:∀r∈rs,r.2.2.1≠r.2.2.2
 nr:∀r∈rs,r.2.2.2≠root
 re:∀x∈ps,CP.Pth (Rw rs) root x
theorem G4.into {ps:List Str}{root:Str}{rs:List T} (W:G4 ps root rs) {S:List Str} (h0:S≠[]) (hs:∀x∈S,x∈ps) (hr:root∉S):∃r∈rs,lead S r=true:=by
 cases S with
 | nil=>exact absurd rfl h0
 | cons y t =>
  obtain⟨r,h1,h2⟩:=(W.re y (hs y yG)).enter hr yG;obtain⟨u,hu,rfl⟩:=yD.mp h1;exact⟨u,hu,h2⟩
theorem Jo.sub {R:List Row}{ps:List Str}{lots:Str->List Str} (L:Jo R ps lots) (so:ps.Pairwise Du) {x:Str} (hx:x∈ps):(lots x).Sublist ps:=by
 have e:lots x=ps.filter λy=>decide (y∈lots x):=fD (L.so x hx) (so.sublist zh) λy=>by
  rw [yI];constructor
  ·exact λh=>⟨((L.me x hx y).mp h).1,by simpa using h⟩
  ·exact λh=>by simpa using h.2
 rw [e];exact zh
def Out (ps:List Str) (root:Str) (rs:List T) (left:Str->Int) (v:V) (H:Hp):Prop:=(v=.non/\dw (Rw (bz rs left)) ps root=none/\∀x∈ps,CP.Pth (CP.met (Rw rs) left) root x) \/
 ∃u S,v=.ref u/\dw (Rw (bz rs left)) ps root=some S/\H u=some (.tup (S.map V.str))/\S.Sublist ps/\S≠[]/\root∉S/\CP.SC (CP.met (Rw rs) left) S/\∀r∈CP.met (Rw rs) left,CP.ent S r=false
theorem mQ {ps:List Str}{root:Str}{rs:List T}{left:Str->Int}{lots:Str->List Str}{v:V}{H:Hp} (W:G4 ps root rs) (L:Jo (Rw (bz rs left)) ps lots)
  (h:(v=.non/\dw (Rw (bz rs left)) ps root=none/\∀x∈ps,root∈lots x)\/∃u x0,v=.ref u/\x0∈ps/\dw (Rw (bz rs left)) ps root=some (lots x0)/\H u=some (.tup ((lots x0).map V.str))/\root∉lots x0/\∀y∈ps,root∉lots y->(lots x0).length<=(lots y).length):Out ps root rs left v H:=by
 rw [iT] at L
 rcases h with ⟨rfl,hn,h⟩ | ⟨u,x0,rfl,h0,hn,hu,hr,DL⟩
 ·exact .inl ⟨rfl,hn,λx hx=>((L.me x hx root).mp (h x hx)).2⟩
 ·have hM:∀r∈CP.met (Rw rs) left,r.2.1∈ps:=λr C9=>by
   obtain⟨t,ht,rfl⟩:=yD.mp (CP.eu.mp C9).1;exact (W.en t ht).1
  obtain⟨h1,h2⟩:=CP.yf L.me (λx hx=>bA (L.so x hx)) hM h0 hr DL;exact .inr ⟨u,lots x0,rfl,hn,hu,L.sub W.so h0,BP ((L.me x0 h0 x0).mpr ⟨h0,.nil⟩),hr,h1,h2⟩
abbrev PL:=List (List Str×Int)×(Str->Int)
def iY (rs:List T) (s:PL) (S:List Str):PL:=(s.1++[(S,dQ rs s.2 S)],CP.less (Rw rs) S (dQ rs s.2 S) s.2)
def e7 (root:Str) (rs:List T) (s:PL) (y:Str):PL:=if y≠root then iY rs s [y] else s
inductive HI (ps:List Str) (root:Str) (rs:List T) (cost:Str->Int):PL->Prop
 | start:HI ps root rs cost (ps.foldl (e7 root rs) ([],cost))
 | step {s:PL}{S:List Str}:HI ps root rs cost s->dw (Rw (bz rs s.2)) ps root=some S->HI ps root rs cost (iY rs s S)
def Fin (ps:List Str) (root:Str) (rs:List T) (cost:Str->Int) (s:PL):Prop:=HI ps root rs cost s/\dw (Rw (bz rs s.2)) ps root=none
def xy (ps:List Str) (root:Str) (rs:List T) (s:PL):PL:=match dw (Rw (bz rs s.2)) ps root with
 | some S=>iY rs s S
 | none=>s
def Sz (ps:List Str) (root:Str) (rs:List T):Nat->PL->PL
 | 0,s=>s
 | n + 1,s=>Sz ps root rs n (xy ps root rs s)
def kD:Sp:=λvs H Q _=>∃(pa rl ld:Addr) (ps:List Str) (root:Str) (rs all:List T) (cost:Str->Int),vs=[.ref pa,.str root,.ref rl,.ref ld]/\H pa=some (.tup (ps.map V.str))/\H rl=some (.lst (ao rs))/\cJ H rs/\(∀r∈rs,r.2.1∈nms all)/\G4 ps root rs /\
 ps.length<=8/\rs.length<=60/\all.length<=100/\H ld=some (.dK (DX all cost)) /\
 ∀(pd:Addr) (H':Hp) (Ps:List (List Str×Int)) (left:Str->Int),Kp [ld] H H'->H pd=none->H' pd=some (.dT (Dv Ps))->H' ld=some (.dK (DX all left))->CP.Rf ps root (Rw rs) cost Ps left->(∀x∈ps,CP.Pth (CP.met (Rw rs) left) root x)->Fin ps root rs cost (Ps,left)->Q (.ref pd) H'
abbrev xk:List Str:=["places","root","rows","left","prices","place","lot"]
theorem fJ:aM xk ["places","root","rows","left"] (aC (top 28)):=⟨rfl,rfl,rfl,by decide +kernel,rfl,by decide +kernel,by decide +kernel⟩
theorem rh (F:Dk K "raised_prices" "raised_prices" (top 28) f fd) (B:Bl mg) (F1:Fn P w K mg base 2 "raise_price" ["prices","left","rows","lot"] lB) (F2:Fn P w K mg base 1 "met_rows" ["rows","left"] ja)
  (F3:Fn P w K mg base 3 "unmet_lot" ["places","root","met"] k8):aG P w K mg base Dl 4 f fd ["places","root","rows","left"] kD:=by
 refine F.ok fJ (λvs H Q E h=>?_) (λ_ _ _ _ H vs Q E hr h=>?_)
 ·obtain⟨pa,rl,ld,ps,root,rs,all,cost,rfl,_⟩:=h
  rfl
 ·obtain⟨pa,rl,ld,ps,root,rs,all,cost,rfl,Ez,E4,Dj,DU,W,hz,FL,Lv,E6,k⟩:=h
  refine⟨_,am (aH (i:=4) fJ.nd rfl (Or.inl rfl) tH)
   (am (cv zG rfl (bJ (pv 0)) (bw (i:=5) fJ.nd rfl (Or.inl rfl))
    (av (bg (aQ cW (pv 5) (pv 1) (aS _)) (av (bL (ax F1 (hr.mono (by decide)) (aa (pv 4) (aa (pv 3) (aa (pv 2) (aa (cV (aa (pv 5) ae)) ae))))))) be)))
   (am (aH (i:=6) fJ.nd rfl (Or.inl rfl) (ax F3 hr (aa (pv 0) (aa (pv 1) (aa (ax F2 (hr.mono (by decide)) (aa (pv 2) (aa (pv 3) ae))) ae)))))
   (am (gg zG (aQ lR (pv 6) dH (aS _))
    (am (bL (ax F1 (hr.mono (by decide)) (aa (pv 4) (aa (pv 3) (aa (pv 2) (aa (pv 6) ae))))))
    (av (aH (i:=6) fJ.nd rfl (Or.inl rfl) (ax F3 hr (aa (pv 0) (aa (pv 1) (aa (ax F2 (hr.mono (by decide)) (aa (pv 2) (aa (pv 3) ae))) ae))))))))
   (av (aJ (pv 4)))))),?_⟩
  intro pd Fx;have hU:=mF W.nd;have PQ:∀r∈Rw rs,r.2.1≠r.2.2:=λr C9=>by
   obtain⟨t,ht,rfl⟩:=yD.mp C9;exact W.lo t ht
  have HX:pd≠ld:=λz=>by rw [z,E6] at Fx;cases Fx
  have K1:Kp [ld] H (upd H pd (.dT [])):=λc ob e _=>by rw [ag (ar e Fx)];exact e
  have p1:upd H pd (.dT []) pd=some (.dT (Dv [])):=aj;have l1:upd H pd (.dT []) ld=some (.dK (DX all cost)):=by rw [ag (zP HX)];exact E6
  generalize upd H pd (.dT [])=H1 at K1 p1 l1 ⊢;have Lo:pa∉[ld]:=λz=>by rw [yK.mp z,E6] at Ez;cases Ez
  have Hl:rl∉[ld]:=λz=>by rw [yK.mp z,E6] at E4;cases E4
  have Mq:∀r∈rs,r.1∉[ld]:=λr C9 z=>by
   have:=Dj.e r C9;unfold dq at this;rw [yK.mp z,E6] at this;cases this
  have Ef:∀{H2:Hp},Kp [ld] H H2->cJ H2 rs:=λ{H2} K2=>⟨λr C9=>K2 _ _ (Dj.e r C9) (Mq r C9)⟩
  have Ov:∀{H2 H3:Hp},Kp [ld] H H2->Kp [pd,ld] H2 H3->Kp [ld] H H3:=λ{H2 H3} K2 K3 c ob e n=>K3 c ob (K2 c ob e n) λz=>by
   rcases yF.mp z with q | q
   ·rw [q,Fx] at e;cases e
   ·exact n q
  have JM:∀{H2 H3:Hp},Kp [ld] H H2->ai H2 H3->Kp [ld] H H3:=λ{H2 H3} K2 s3 c ob e n=>s3 c ob (K2 c ob e n)
  refine⟨_,rfl,pa,rfl,⟨_,C2.of (K1 _ _ Ez Lo)⟩,eA (K:=K) (a:=pa) (xs:=ps.map V.str) (λj σ H2=>∃(Ps:List (List Str×Int)) (left:Str->Int) (g:Option V),σ=[some (.ref pa),some (.str root),some (.ref rl),some (.ref ld),some (.ref pd),g,none]/\Kp [ld] H H2/\H2 pd=some (.dT (Dv Ps))/\H2 ld=some (.dK (DX all left))/\CP.Ro ps root (Rw rs) cost ((ps.take j).filter λy=>decide (y≠root)) Ps left/\(Ps,left)=(ps.take j).foldl (e7 root rs) ([],cost))
   ⟨[],cost,none,rfl,K1,p1,l1,CP.Ro.start _ _ _ _,rfl⟩ (λj σ H2 _ p=>by obtain⟨_,_,_,_,K2,_⟩:=p;exact C2.of (K2 _ _ Ez Lo)) ?_ ?_⟩
  ·rintro j y σ H2 hy ⟨Ps,left,g,rfl,K2,p2,l2,R2,D2⟩
   obtain⟨y,Lw,rfl⟩:=eR hy;have hyp:=yP Lw;have tf:=bT (λy:Str=>decide (y≠root)) ps j y Lw;have td:(ps.take (j + 1)).foldl (e7 root rs) ([],cost)=e7 root rs (Ps,left) y:=by rw [zi,Lw,CG,<- D2];rfl
   refine⟨_,rfl,_,rfl,rfl,_,rfl,?_⟩;have e1:(!decide (V.str y=V.str root))=decide (y≠root):=by
    by_cases c:y=root
    ·subst c;simp
    ·simp [c]
   rw [e1];refine bc (λc=>?_) (λc=>?_)
   ·have MG:y≠root:=of_decide_eq_true c
    refine⟨_,rfl,_,rfl,_,rfl,_,rfl,by show 1<=sizeLine;decide,λu hu=>?_⟩;have s3:=au (o:=.tup [.str y]) (ai.refl H2) hu;have u3:upd H2 u (.tup [.str y]) u=some (.tup ([y].map V.str)):=aj;generalize upd H2 u (.tup [.str y])=H3 at s3 u3 ⊢;have K3:=JM K2 s3;have Do:y∉(ps.take j).filter λy=>decide (y≠root):=λz=>by
     obtain⟨i,hi,e⟩:=Ad (yI.mp z).1;rw [zF] at hi;obtain⟨hj,e2⟩:=yV.mp Lw;rw [CJ] at e;exact yZ.mp (bA W.so) i j (by omega) hj (by omega) (e.trans e2.symm)
    have NH:[y]∉Ps.map (·.1):=λz=>by
     rw [R2.lots] at z;obtain⟨d,hd,e⟩:=yD.mp z;rw [List.singleton_inj] at e;exact Do (e ▸ hd)
    have hex:=W.into (S:=[y]) (by simp) (λx hx=>by rw [yK.mp hx];exact hyp) (λz=>MG (yK.mp z).symm);have Gd:=R2.toRs.few;have NP:2 ^ ps.length<=256:=by have:=A7 (show 0 < 2 by decide) hz;simpa using this
    refine⟨pd,ld,rl,u,Ps,rs,all,left,[y],rfl,s3 _ _ p2,s3 _ _ l2,K3 _ _ E4 Hl,(Ef K3).e,DU,W.nd,by omega,Lv,u3,NH,by omega,hex,λH4 K4 p4 l4=>?_⟩;refine⟨_,_,_,rfl,Ov K3 K4,p4,by rw [l4,md],?_,?_⟩
    ·have:=R2.add hU PQ hyp MG Do (mK (left:=left) hex)
     rw [tf,if_pos c];exact this
    ·rw [td,e7,if_pos MG];rfl
   ·refine⟨Ps,left,_,rfl,K2,p2,l2,?_,?_⟩
    ·rw [tf,if_neg c,zt];exact R2
    ·rw [td,e7,if_neg (λz=>c (decide_eq_true z))]
  ·rintro σ H2 ⟨Ps,left,g,rfl,K2,p2,l2,R2,D2⟩
   have hT:ps.take (ps.map V.str).length=ps:=by rw [yA,zU]
   rw [hT] at R2 D2;have D3:HI ps root rs cost (Ps,left):=by rw [D2];exact .start
   have RF:CP.Rf ps root (Rw rs) cost Ps left:=R2.full (λy hy hn=>yI.mpr ⟨hy,decide_eq_true hn⟩) λr C9=>by
    obtain⟨t,ht,rfl⟩:=yD.mp C9;exact⟨(W.en t ht).2,W.nr t ht⟩
   clear R2 hT D2;have NP:2 ^ ps.length<=256:=by have:=A7 (show 0 < 2 by decide) hz;simpa using this
   refine⟨_,rfl,_,rfl,_,rfl,_,rfl,rl,ld,rs,all,left,rfl,K2 _ _ E4 Hl,(Ef K2).e,DU,by omega,l2,λml H5 s5 PN m5=>?_⟩;have K5:=JM K2 s5;refine⟨pa,ml,ps,root,bz rs left,rfl,K5 _ _ Ez Lo,m5,⟨λr C9=>(Ef K5).e r (yI.mp C9).1⟩,λr C9=>W.en r (yI.mp C9).1,by omega,y7 (yY _ _) FL,λv H6 lots s6 hL hO=>?_⟩;have O6:Out ps root rs left v H6:=mQ W hL hO;have K6:=JM K5 s6;have p6:=s6 _ _ (s5 _ _ p2);have l6:=s6 _ _ (s5 _ _ l2);refine⟨λm σ H7=>∃(Ps:List (List Str×Int)) (left:Str->Int) (v:V) (g:Option V),σ=[some (.ref pa),some (.str root),some (.ref rl),some (.ref ld),some (.ref pd),g,some v]/\m=256 - Ps.length/\Kp [ld] H H7/\H7 pd=some (.dT (Dv Ps))/\H7 ld=some (.dK (DX all left))/\CP.Rf ps root (Rw rs) cost Ps left/\Out ps root rs left v H7/\HI ps root rs cost (Ps,left),⟨_,Ps,left,v,g,rfl,rfl,K6,p6,l6,RF,O6,D3⟩,?_⟩;clear O6 K6 p6 l6 hL hO s6 m5 PN s5 K5 RF l2 p2 K2 D3;rintro m σ H7 ⟨Ps,left,v,g,rfl,rfl,K7,p7,l7,RF,O7,D7⟩;refine⟨_,rfl,rfl,_,rfl,?_⟩
   rcases O7 with ⟨rfl,MO,DM⟩ | ⟨u,S,rfl,MO,hu,hS,h0,Pu,GQ,Dp⟩
   ·rw [show (!decide (V.non=V.non))=false by simp]
    refine bh ?_;exact⟨_,rfl,k pd H7 Ps left K7 Fx p7 l7 RF DM ⟨D7,MO⟩⟩
   ·rw [show (!decide (V.ref u=V.non))=true by simp]
    refine aX ⟨λσ' H7=>∃m',m' < 256 - Ps.length/\∃(LN:List (List Str×Int)) (left:Str->Int) (v:V) (g:Option V),σ'=[some (.ref pa),some (.str root),some (.ref rl),some (.ref ld),some (.ref pd),g,some v]/\m'=256 - LN.length/\Kp [ld] H H7/\H7 pd=some (.dT (Dv LN))/\H7 ld=some (.dK (DX all left))/\CP.Rf ps root (Rw rs) cost LN left/\Out ps root rs left v H7/\HI ps root rs cost (LN,left),λ_ _ h=>h,?_⟩;have Gd:=RF.toRs.few;have hex:=W.into h0 (λx hx=>hS.subset hx) Pu;have NH:S∉Ps.map (·.1):=λz=>by
     obtain⟨x,hx,e⟩:=yD.mp z;obtain⟨r,h1,h2⟩:=RF.en x hx;rw [show x.1=S from e,Dp r h1] at h2;cases h2
    refine⟨_,rfl,_,rfl,_,rfl,_,rfl,pd,ld,rl,u,Ps,rs,all,left,S,rfl,p7,l7,K7 _ _ E4 Hl,(Ef K7).e,DU,W.nd,by omega,Lv,hu,NH,by omega,hex,λH8 K8 p8 l8=>?_⟩;have K9:=Ov K7 K8;rw [md] at l8;obtain⟨Ob,_⟩:=RF.raise hU hS h0 Pu (mK (left:=left) hex) Dp GQ;have Kt:=Ob.toRs.few;rw [zc,A1] at Kt;have D8:HI ps root rs cost (Ps++[(S,dQ rs left S)],CP.less (Rw rs) S (dQ rs left S) left):=D7.step MO;generalize CP.less (Rw rs) S (dQ rs left S) left=FX at l8 Ob D8;refine⟨_,rfl,_,rfl,_,rfl,_,rfl,rl,ld,rs,all,FX,rfl,K9 _ _ E4 Hl,(Ef K9).e,DU,by omega,l8,λml H5 s5 PN m5=>?_⟩;have K5:=JM K9 s5;refine⟨pa,ml,ps,root,bz rs FX,rfl,K5 _ _ Ez Lo,m5,⟨λr C9=>(Ef K5).e r (yI.mp C9).1⟩,λr C9=>W.en r (yI.mp C9).1,by omega,y7 (yY _ _) FL,λv H6 lots s6 hL hO=>?_⟩;have O6:Out ps root rs FX v H6:=mQ W hL hO;have K6:=JM K5 s6;have p6:=s6 _ _ (s5 _ _ p8);have l6:=s6 _ _ (s5 _ _ l8);exact⟨_,by rw [zc,A1];omega,_,_,v,_,rfl,rfl,K6,p6,l6,Ob,O6,D8⟩
end K53
namespace L2
open PySem PySem.Spec PyProof.Rows
abbrev Ek (elt tg iter Dy iter2:Expr) (ifs Dd:List Expr) (scope:Scope) (pos:Pos):Expr:=.ListComp elt [⟨tg,iter,ifs,0⟩,⟨Dy,iter2,Dd,0⟩] scope pos
theorem sE (elt tg iter Dy iter2:Expr) (ifs Dd:List Expr) (scope:Scope) (pos:Pos) (it C5:zz9) (env:Env):compTurn (Ek elt tg iter Dy iter2 ifs Dd scope pos) 1 it C5 env=(do
   standAt iter2.pos
   match <- pyNext it with
   | none=>pure (.done .next)
   | some v =>
    letOwnedTupleGo Dy it v
    assign Dy env v
    let mut ok:=true
    for c in Dd do
     if ok then ok <- isTrue c env (eval c env)
    if ok then (do let _ <- call (.builtin "list.append") [C5,<- eval elt env])
    again (.compLoop (Ek elt tg iter Dy iter2 ifs Dd scope pos) 1 it C5 env)):=by rfl
theorem sY (elt tg iter Dy iter2:Expr) (ifs Dd:List Expr) (scope:Scope) (pos:Pos) (it C5:zz9) (env:Env):compTurn (Ek elt tg iter Dy iter2 ifs Dd scope pos) 0 it C5 env=(do
   standAt iter.pos
   match <- pyNext it with
   | none=>pure (.done .next)
   | some v =>
    letOwnedTupleGo tg it v
    assign tg env v
    let mut ok:=true
    for c in ifs do
     if ok then ok <- isTrue c env (eval c env)
    if ok then
     let x <- eval iter2 env
     standAt iter2.pos
     let x <- foldedSetIterable iter2 env x
     let _ <- runOwn (.compStart (Ek elt tg iter Dy iter2 ifs Dd scope pos) 1 (<- holding [x] (pyIter x)) C5 env) env
    again (.compLoop (Ek elt tg iter Dy iter2 ifs Dd scope pos) 0 it C5 env)):=by rfl
section
variable {prog:Program}{w:World}{A:Around}{R:Result->zz8->Prop}{s:zz8}{elt tg iter Dy iter2:Expr}{ifs Dd:List Expr}{scope:Scope}{pos:Pos}{it C5:zz9}{env:Env}
theorem rJ (h0:codeAny (model prog w) A (.compLoop (Ek elt tg iter Dy iter2 ifs Dd scope pos) 1 it C5 env) R s)
  (h:wpAny (model prog w) A (pyIter it) (λME s'=>codeAny (model prog w) A (.compLoop (Ek elt tg iter Dy iter2 ifs Dd scope pos) 1 ME C5 env) R s') (λ_ _=>False) s) :
  codeAny (model prog w) A (.compStart (Ek elt tg iter Dy iter2 ifs Dd scope pos) 1 it C5 env) R s:=by
 refine Cg ?_;show wpAny _ _ ((compStart (Ek elt tg iter Dy iter2 ifs Dd scope pos) 1 it C5 env).onRaise (λx=>do noteFrame x env;standAt theWindowsPlace)) _ _ s;refine wpAny_notedAt (zJ (E:=λ_ _=>False) ?_ (λ_ _ q=>q) λ_ _ f=>f.elim);unfold compStart;show wpAny _ _ (ask >>= _) _ _ s;refine yz (AU (wpAny_ite ?_));split
 ·first | exact yz (yC (yC (And.intro rfl h0))) | exact yC (And.intro rfl h0)
 ·first
   | exact yz (AV (yz (zW (yz (zJ h (λME s' h'=>yC (And.intro rfl h')) λ_ _ x=>x)))))
   | (refine yz (AV ?_);show wpAny _ _ (standAt iter2.pos >>= _) _ _ s;exact yz (zW (yz (zJ h (λME s' h'=>yC (And.intro rfl h')) λ_ _ x=>x))))
theorem sM (J:Nat->zz8->Prop)
  (turn:∀n s,J n s->wpAny (model prog w) A (pyNext it) (λr s1=>match r with
   | none=>R (.ok .next) s1
   | some v=>wpAny (model prog w) A (letOwnedTupleGo Dy it v) (λ_ s2=>wpAny (model prog w) A (assign Dy env v) (λ_ s3 =>
     wpAny (model prog w) A (forIn Dd true λc r=>if r=true then do let ok <- isTrue c env (eval c env);pure (ForInStep.yield ok) else pure (ForInStep.yield r)) (λok s4 =>
      if ok=true then wpAny (model prog w) A (eval elt env) (λx s5=>wpAny (model prog w) A (call (.builtin "list.append") [C5,x]) (λ_ s6=>∃m,m < n/\J m s6) (λ_ _=>False) s5) (λ_ _=>False) s4
      else ∃m,m < n/\J m s4) (λ_ _=>False) s3) (λ_ _=>False) s2) (λ_ _=>False) s1) (λ_ _=>False) s)
  (n:Nat) (h:J n s):codeAny (model prog w) A (.compLoop (Ek elt tg iter Dy iter2 ifs Dd scope pos) 1 it C5 env) R s:=by
 refine CQ rfl J (λk t hJ=>?_) n h;show wpAny _ A ((compTurn (Ek elt tg iter Dy iter2 ifs Dd scope pos) 1 it C5 env).onRaise (λx=>do noteFrame x env;theTreesLotGoes x)) _ _ t;refine wpAny_noted (zJ (E:=λ_ _=>False) ?_ (λ_ _ q=>q) λ_ _ f=>f.elim);rw [sE];refine yz (zW (yz (C4 (turn k t hJ) λr s1 h1=>?_)));cases r with
 | none=>exact yC h1
 | some v =>
  refine yz (C4 h1 λ_ s2 h2=>yz (C4 h2 λ_ s3 h3=>yz (C4 h3 λok s4 h4=>?_)));cases ok with
  | false=>exact yC ⟨rfl,h4⟩
  | true=>exact yz (yz (C4 h4 λx s5 h5=>yz (C4 h5 λ_ s6 h6=>yC (yC ⟨rfl,h6⟩))))
theorem sq (hs:∀x,foldedSetIterable iter2 env x=pure x) (J:Nat->zz8->Prop)
  (turn:∀n s,J n s->wpAny (model prog w) A (pyNext it) (λr s1=>match r with
   | none=>R (.ok .next) s1
   | some v=>wpAny (model prog w) A (letOwnedTupleGo tg it v) (λ_ s2=>wpAny (model prog w) A (assign tg env v) (λ_ s3 =>
     wpAny (model prog w) A (forIn ifs true λc r=>if r=true then do let ok <- isTrue c env (eval c env);pure (ForInStep.yield ok) else pure (ForInStep.yield r)) (λok s4 =>
      if ok=true then wpAny (model prog w) A (eval iter2 env) (λx s5=>wpAny (model prog w) A (pyIter x) (λMD s6=>codeAny (model prog w) A (.compStart (Ek elt tg iter Dy iter2 ifs Dd scope pos) 1 MD C5 env) (λr s7=>match r with | .ok _=>∃m,m < n/\J m s7 | .error _=>False) s6) (λ_ _=>False) s5) (λ_ _=>False) s4
      else ∃m,m < n/\J m s4) (λ_ _=>False) s3) (λ_ _=>False) s2) (λ_ _=>False) s1) (λ_ _=>False) s)
  (n:Nat) (h:J n s):codeAny (model prog w) A (.compLoop (Ek elt tg iter Dy iter2 ifs Dd scope pos) 0 it C5 env) R s:=by
 refine CQ rfl J (λk t hJ=>?_) n h;show wpAny _ A ((compTurn (Ek elt tg iter Dy iter2 ifs Dd scope pos) 0 it C5 env).onRaise (λx=>do noteFrame x env;theTreesLotGoes x)) _ _ t;refine wpAny_noted (zJ (E:=λ_ _=>False) ?_ (λ_ _ q=>q) λ_ _ f=>f.elim);rw [sY];refine yz (zW (yz (C4 (turn k t hJ) λr s1 h1=>?_)));cases r with
 | none=>exact yC h1
 | some v =>
  refine yz (C4 h1 λ_ s2 h2=>yz (C4 h2 λ_ s3 h3=>yz (C4 h3 λok s4 h4=>?_)));cases ok with
  | false=>exact yC ⟨rfl,h4⟩
  | true =>
   refine yz (C4 h4 λx s5 h5=>yz (zW (yz (AA (hs x) (yz (zw (C4 h5 λMD s6 h6=>yz (wpAny_runOwn ?_))))))));rw [Around.mark_none];refine AX h6 λr s7 h7=>?_;cases r with
   | error e=>exact h7.elim
   | ok f=>exact yC ⟨rfl,h7⟩
end
def nR (J:It) (g:TG) (tt:TT) (te:TE) (QP:List V) (σ':St) (fin:List V->St->Hp->Prop) (H1:Hp):Prop :=
 ∃W:Nat->Nat->List V->St->Hp->Prop,(∃m,W 0 m QP σ' H1)/\∀i m ys σ H,W i m ys σ H ->
  (J.stop i H/\ys.length<=sizeLine/\fin ys σ H)\/(J.go i H/\ys.length < sizeLine/\∃Nx:List V->St->Hp->Prop,(∀DF σ' H',Nx DF σ' H'->∃m',m' < m/\W (i + 1) m' DF σ' H') /\
   ∀x H',J.yld i H x H'->g x σ H' λσ2 H2=>tt σ2 H2 λb H3=>if b=true then te σ2 H3 (λv H4=>Nx (ys++[v]) σ2 H4) else Nx ys σ2 H3)
abbrev FW (C1:List zz9) (k:Nat):Obj:={ cls:=.type "list",data:=.seq C1.toArray k }
theorem sP {Y:Cx}{D:Addr}{elt tg iter Dy iter2:Expr}{ifs Dd:List Expr}{scope:Scope}{pos:Pos}{g:TG}{tt:TT}{te:TE} (hc:Y.calm=true) (Ec:D≠Y.env.locals) (Jj:D∉Y.fs) (T5:Y.s₀.heap.objs.size<=D) (EG:∀x c,Y.env.cells.lookup x=some c->c≠D) (pn:Y.pn=[]) (MI:Y.xe=λ_ _=>False)
  (hg:PG Y Dy g) (ht:FN Y Dd tt) (he:PE Y elt te) {P0:List (Addr×Obj)} (NI:∀p∈P0,p.1≠D)
  {σ:St}{H:Hp}{s:zz8}{C1:List zz9}{k:Nat}{it:Addr}{fp:List Addr}{tn:Nat->Heap->Prop}{J:It}{ys:List V}{fin:List V->St->Hp->Prop}{R:Result->zz8->Prop}
  (I:Inv Y ((D,FW C1 k)::P0) σ H s) (rv:aq ys C1) (T:Turn Y.prog Y.w Y.K Dy J fp it tn) (st:tn 0 s.heap) (f2:∀b∈fp,bv Y ((D,FW C1 k)::P0) H b) (hW:nR J g tt te ys σ fin H)
  (hR:∀σ' H' s' DF its' k',Inv Y ((D,FW its' k')::P0) σ' H' s'->aq DF its'->DF.length<=sizeLine->fin DF σ' H'->R (.ok .next) s') :
  codeAny (model Y.prog Y.w) Y.A (.compLoop (Ek elt tg iter Dy iter2 ifs Dd scope pos) 1 (.ref it) (.ref D) Y.env) R s:=by
 obtain⟨W,⟨m0,w0⟩,turn⟩:=hW;have nD:∀b∈fp,b≠D:=λb hb z=>(f2 b hb).2.2.2.2.2 (D,FW C1 k) (yM _ yG) z.symm;have stat:∀{H':Hp} (its':List zz9) (k':Nat),(∀b∈fp,H' b=none)->∀b∈fp,bv Y ((D,FW its' k')::P0) H' b:=λ{H'} its' k' hn b hb=>by
  obtain⟨_,a1,a2,a3,a4,a5⟩:=f2 b hb;refine⟨hn b hb,a1,a2,a3,a4,λp hp=>?_⟩
  rcases yQ.mp hp with z | z
  ·exact a5 p (yW _ z)
  ·rcases yF.mp z with q | q
   ·rw [q];exact λz=>nD b hb z.symm
   ·exact a5 p (yM _ (yT _ q))
 refine sM (λn s'=>∃i σ' H' ys C1 k,Inv Y ((D,FW C1 k)::P0) σ' H' s'/\tn i s'.heap/\(∀b∈fp,H' b=none)/\aq ys C1/\W i n ys σ' H') ?_ m0 ⟨0,σ,H,ys,C1,k,I,st,λb hb=>(f2 b hb).1,rv,w0⟩;rintro n s' ⟨i,σ',H',ys,C1,k,I',Dm,Gh,rv,w'⟩
 rcases turn i n ys σ' H' w' with ⟨stop,hz,qf⟩ | ⟨go,hz,Nx,hN,step⟩
 ·refine C4 (T.done Y rfl rfl rfl hc i _ s' σ' H' _ I' (stat _ _ Gh) Dm stop) λr s5 ⟨hr,I5⟩=>?_
  subst hr;exact hR σ' H' s5 ys C1 k I5 rv hz qf
 ·refine C4 (T.item Y rfl rfl rfl hc i _ s' σ' H' _ I' (stat _ _ Gh) Dm go) λr s5 ⟨u,hr,h5⟩=>?_
  subst hr;refine C4 h5 λ_ s6 ⟨x,H6,I6,r6,y6,Es,ID⟩=>?_;have IH:=I6.pinned (stat _ _ ID) (T.obj _ _ Es);have g1:=hg _ s6 σ' H6 x u _ IH r6 (step x H6 y6);rw [MI] at g1;refine C4 g1 λ_ s7 ⟨σ7,H7,I7,q7⟩=>?_;have g2:=ht _ s7 σ7 H7 _ I7 q7;rw [MI] at g2;refine C4 g2 λok s8 ⟨H8,I8,q8⟩=>?_;have back:∀{H9:Hp}{s9:zz8},Inv Y (((D,FW C1 k)::P0)++cH fp s6.heap) σ7 H9 s9->tn (i + 1) s9.heap/\∀b∈fp,H9 b=none:=λ{H9 s9} I9=>by
   refine⟨T.keep _ _ _ Es λb hb o e=>(I9.pin (b,o) (yM _ (yM _ (cy hb e)))).1,λb hb=>?_⟩;obtain⟨o,e,d⟩:=T.obj _ _ Es b hb;exact (I9.pin (b,o) (yM _ (yM _ (cy hb e)))).2.1
  cases ok with
  | false =>
   rw [if_neg yU] at q8 ⊢;obtain⟨m',hm,w8⟩:=hN _ _ _ q8;obtain⟨HR,IC⟩:=back I8;exact⟨m',hm,i + 1,σ7,H8,ys,C1,k,I8.unpinned,HR,IC,rv,w8⟩
  | true =>
   rw [if_pos rfl] at q8 ⊢;have g3:=he _ s8 σ7 H8 _ I8 q8;rw [MI] at g3;refine C4 g3 λy s9 ⟨v,H9,I9,r9,q9⟩=>?_;have Iz:=I9.pin (D,FW C1 k) (yM _ (yW _ yG));obtain⟨L3,NV⟩:=back I9;refine wpAny_list_append_plain (hsz:=by have:=rv.length;rw [yS];omega) ⟨k,Iz.1⟩ λh' Fz DS=>?_;obtain⟨m',hm,w9⟩:=hN _ _ _ q9;obtain⟨k',Ep⟩:=Fz;have IP:Inv Y P0 σ7 H9 s9:=I9.pins_of λp hp=>I9.pin p (yM _ (yW _ (yT _ hp)))
   have HJ:Inv Y P0 σ7 H9 { s9 with heap:=h' }:=IP.turned (t':=s9.toks) (it:=D) (λb o hb e=>DS.extBut b o hb e) Iz.2.1 Ec (.inr T5) EG (λp hp=>by
    rw [pn,List.nil_append] at hp
    exact NI p hp)
   refine⟨m',hm,i + 1,σ7,H9,ys++[v],C1++[y],k',HJ.pins_of λp hp=>?_,T.keep _ _ _ L3 λb hb o e=>DS.extBut b o (nD b hb) e,NV,rv.append (.cons r9 .nil),w9⟩
   rcases yF.mp hp with q | q
   ·rw [q];exact⟨by show h'.get? D=_;rw [Ep];simp,Iz.2.1,Ec,Jj,λv z=>by cases z⟩
   ·exact HJ.pin p (yM _ q)
def jr (J:It) (g:TG) (tt:TT) (Hc:TI) (g2:TG) (Hd:TT) (te:TE) (σ':St) (fin:List V->Hp->Prop) (H1:Hp):Prop :=
 ∃W:Nat->Nat->List V->St->Hp->Prop,(∃m,W 0 m [] σ' H1)/\∀i m ys σ H,W i m ys σ H ->
  (J.stop i H/\ys.length<=sizeLine/\fin ys H)\/(J.go i H/\∃Nx:List V->St->Hp->Prop,(∀DF σ' H',Nx DF σ' H'->∃m',m' < m/\W (i + 1) m' DF σ' H') /\
   ∀x H',J.yld i H x H'->g x σ H' λσ2 H2=>tt σ2 H2 λb H3=>if b=true then Hc σ2 H3 (λJ2 H4=>nR J2 g2 Hd te ys σ2 Nx H4) else Nx ys σ2 H3)
def xj (wi:TI) (g:TG) (tt:TT) (Hc:TI) (g2:TG) (Hd:TT) (te:TE) (ix:List (Option Nat)):TE:=λσ H Q=>wi σ H λJ H1=>jr J g tt Hc g2 Hd te (Fe ix σ) (λys H'=>∀p,H' p=none->Q (.ref p) (upd H' p (.lst ys))) H1
section
variable {X:Cx}{scope:Scope}{N:List Str}{ix:List (Option Nat)}{tg iter Dy iter2 elt:Expr}{ifs Dd:List Expr}{pos:Pos}{g g2:TG}{tt Hd:TT}{te:TE}{wi Hc:TI}
theorem uL (L:bD X scope N ix) (hc:X.calm=true) (hg:∀C s0 H0 fp,PG (aw X scope N C s0 H0 fp) tg g) (ht:∀C s0 H0 fp,FN (aw X scope N C s0 H0 fp) ifs tt) (ET:∀C s0 H0 fp,PI (aw X scope N C s0 H0 fp) Dy iter2 Hc) (Ea:∀C s0 H0 fp x,foldedSetIterable iter2 (aw X scope N C s0 H0 fp).env x=pure x) (Kr:∀C s0 H0 fp,PG (aw X scope N C s0 H0 fp) Dy g2) (MT:∀C s0 H0 fp,FN (aw X scope N C s0 H0 fp) Dd Hd) (he:∀C s0 H0 fp,PE (aw X scope N C s0 H0 fp) elt te)
  {pins:List (Addr×Obj)}{σ:St}{H2:Hp}{s2:zz8}{it:Addr}{fp:List Addr}{tn:Nat->Heap->Prop}{J:It}{fin:List V->Hp->Prop}{E:zz9->zz8->Prop}{RR:zz9->Addr->Result->zz8->Prop}
  (I2:Inv X pins σ H2 s2) (T:Turn X.prog X.w X.K tg J fp it tn) (st:tn 0 s2.heap) (f2:∀b∈fp,bv X pins H2 b) (hW:jr J g tt Hc g2 Hd te (Fe ix σ) fin H2)
  (KD:∀D C s' m ys H',s'.heap.Ns C m->s'.os=s2.os->D≠C->bv X pins (upd H' D (.lst ys)) C->(∀h',Heap.SameBut C s'.heap h'->Inv X pins σ (upd H' D (.lst ys)) { s' with heap:=h' })->H' D=none->fin ys H'->RR (.ref D) C (.ok .next) s') :
  wpAny (model X.prog X.w) X.A (newList []) (λC5 s3=>wpAny (model X.prog X.w) X.A (newFunctionEnv scope X.env.globals (bK X.env scope.names []) [] X.env.qual none .none (some X.env)) (λEF s4 =>
   codeAny (model X.prog X.w) X.A (.compStart (Ek elt tg iter Dy iter2 ifs Dd scope pos) 0 (.ref it) C5 { EF with scope:=relabel scope X.env }) (RR C5 EF.locals) s4) E s3) E s2:=by
 obtain⟨W,⟨m0,w0⟩,turn⟩:=hW;have Gf:∀b∈fp,b < s2.heap.objs.size:=λb hb=>by
  obtain⟨o,e,_⟩:=T.obj _ _ st b hb;exact yH e
 refine zA (Ca L.nocell (by intro y hy;simp at hy) (λh1 ES E2=>?_) L.kind)
 dsimp only at ES E2 ⊢
 generalize hG:s2.heap.push { cls:=.type "list",dict:=none,data:=.seq ([]:List zz9).toArray }=G at ES E2 ⊢;have HC:G.objs.size=s2.heap.objs.size + 1:=by rw [<- hG,zo]
 generalize Iy:s2.heap.objs.size=D at HC Gf;generalize IB:G.objs.size=C at HC ES E2 ⊢;have Ec:D≠C:=by omega
 have nq:∀b:Nat,b < s2.heap.objs.size->b≠C/\b≠D:=λb h=>⟨by omega,by omega⟩
 have HW:∀b∈fp,b≠C/\b≠D:=λb hb=>nq b (by rw [Iy];exact Gf b hb);have kG:∀b o,s2.heap.get? b=some o->G.get? b=some o:=λb o e=>by rw [<- hG];exact yB _ e
 have kp:∀b o,s2.heap.get? b=some o->h1.get? b=some o:=λb o e=>E2.extBut b o (nq b (yH e)).1 (yB _ (kG b o e));have oD:∃n,h1.get? D=some { cls:=.type "list",data:=.seq ([]:List zz9).toArray n }:=⟨_,E2.extBut _ _ Ec (yB _ (by rw [<- hG,<- Iy];exact yN _ rfl))⟩
 have I4:=i6 L (tk:=s2.toks + ([]:List (Str×zz9)).length) I2 (C:=C) (by omega) f2 (by rw [Iy];exact Gf) kp ES;have Hf:tn 0 h1:=T.keep _ _ _ st λb _ o e=>kp b o e;have Jj:D∉(aw X scope N C s2 H2 fp).fs:=λz=>by
  have z':D∈Dq X.stack:=z
  rcases yF.mp (I2.stkSub D z') with q | q
  ·exact (nq _ I2.lt).2 q.symm
  ·exact I2.nofs (a:=D) (by omega) q
 have EG:∀x c,(aw X scope N C s2 H2 fp).env.cells.lookup x=some c->c≠D:=λx c e z=>by
  obtain⟨v,o,ho,_⟩:=I2.cell x c (cR e);exact (nq c (yH ho)).2 z
 have stat:∀{H':Hp}{pl:List (Addr×Obj)},(∀b∈fp,H' b=none)->(∀p∈pl,p.1=D)->∀b∈fp,bv (aw X scope N C s2 H2 fp) pl H' b:=λ{H' pl} hn hp b hb=>by
  have Dh:=Gf b hb;refine⟨hn b hb,(HW b hb).1,λz=>?_,.inl hb,λx c e=>(f2 b hb).2.2.2.2.1 x c (cR e),λp hq z=>?_⟩
  ·exact (yF.mp (I2.stkSub b z)).elim (f2 b hb).2.1 (f2 b hb).2.2.1
  ·have Em:p∈pl:=by simpa [aw] using hq
   exact (HW b hb).2 (z.symm.trans (hp p Em))
 have GF:∀{pl:List (Addr×Obj)}{σ':St}{H':Hp}{s':zz8}{o:Obj},Inv (aw X scope N C s2 H2 fp) pl σ' H' s'->s'.heap.get? D=some o->H' D=none->(∀v,o.data≠.cell v)->Inv (aw X scope N C s2 H2 fp) [(D,o)] σ' H' s' :=
  λ{pl σ' H' s' o} I' ho hn hd=>I'.pins_of λp hp=>by
   have e:p=(D,o):=by simpa using hp
   subst e;exact⟨ho,hn,Ec,Jj,hd⟩
 have loop:∀s4:zz8,s4={ s2 with heap:=h1,toks:=s2.toks + ([]:List (Str×zz9)).length } ->
   codeAny (model X.prog X.w) X.A (.compLoop (Ek elt tg iter Dy iter2 ifs Dd scope pos) 0 (.ref it) (.ref D) (aw X scope N C s2 H2 fp).env) (RR (.ref D) C) s4:=by
  rintro s4 rfl;refine sq (Ea C s2 H2 fp) (λn s'=>∃i σ' H' ys C1 k,Inv (aw X scope N C s2 H2 fp) [(D,{ cls:=.type "list",data:=.seq C1.toArray k })] σ' H' s'/\tn i s'.heap/\(∀b∈fp,H' b=none)/\aq ys C1/\W i n ys σ' H') ?_ m0 ?_
  ·rintro n s' ⟨i,σ',H',ys,C1,k,I',Dm,Gh,rv,w'⟩
   have T8:=I'.pin _ (yM _ yG)
   rcases turn i n ys σ' H' w' with ⟨stop,hz,qf⟩ | ⟨go,Nx,hN,step⟩
   ·refine C4 (T.done (aw X scope N C s2 H2 fp) rfl rfl rfl hc i _ s' σ' H' _ I' (stat Gh (by simp)) Dm stop) λr s5 ⟨hr,I5⟩=>?_
    subst hr;have IA:=I5.pin _ (yM _ yG);obtain⟨m5,Ki,_⟩:=I5.loc;refine KD D C s5 m5 ys H' Ki I5.os Ec (I2.fpOk (by omega) (by rw [ag (zP Ec)];exact I5.free)) (λh' DS=>?_) IA.2.1 qf;exact mB I2 f2 I5 (by omega) (by omega) Ec IA.2.1 IA.1 rv hz λb o hb e=>DS.extBut b o hb e
   ·refine C4 (T.item (aw X scope N C s2 H2 fp) rfl rfl rfl hc i _ s' σ' H' _ I' (stat Gh (by simp)) Dm go) λr s5 ⟨u,hr,h5⟩=>?_
    subst hr;refine C4 h5 λ_ s6 ⟨x,H6,I6,r6,y6,Es,ID⟩=>?_;have IH:=I6.pinned (stat ID (by simp)) (T.obj _ _ Es);refine C4 (hg C s2 H2 fp _ s6 σ' H6 x u _ IH r6 (step x H6 y6)) λ_ s7 ⟨σ7,H7,I7,q7⟩=>?_;refine C4 (ht C s2 H2 fp _ s7 σ7 H7 _ I7 q7) λok s8 ⟨H8,I8,q8⟩=>?_;have back:∀{H9:Hp}{s9:zz8},Inv (aw X scope N C s2 H2 fp) ([(D,{ cls:=.type "list",data:=.seq C1.toArray k })]++cH fp s6.heap) σ7 H9 s9->tn (i + 1) s9.heap/\∀b∈fp,H9 b=none:=λ{H9 s9} I9=>by
     refine⟨T.keep _ _ _ Es λb hb o e=>(I9.pin (b,o) (yM _ (yM _ (cy hb e)))).1,λb hb=>?_⟩;obtain⟨o,e,d⟩:=T.obj _ _ Es b hb;exact (I9.pin (b,o) (yM _ (yM _ (cy hb e)))).2.1
    cases ok with
    | false =>
     rw [if_neg yU] at q8 ⊢;obtain⟨m',hm,w8⟩:=hN _ _ _ q8;obtain⟨HR,IC⟩:=back I8;exact⟨m',hm,i + 1,σ7,H8,ys,C1,k,I8.unpinned,HR,IC,rv,w8⟩
    | true =>
     rw [if_pos rfl] at q8 ⊢;have hD8:=I8.pin _ (yM _ (yW _ yG));refine C4 (ET C s2 H2 fp _ s8 σ7 H8 _ I8 q8) λx2 s9 h9=>C4 h9 λMD Fq NR=>?_;obtain⟨i2,fp2,tn2,J2,DD,rfl,HJ,T2,JK,Ue,TQ⟩:=NR;have Of:Inv (aw X scope N C s2 H2 fp) ((D,FW C1 k)::cH fp s6.heap) σ7 DD Fq:=HJ;have NI:∀p∈cH fp s6.heap,p.1≠D:=λp hp=>(HW p.1 (jP hp).1).2;have inner:∀R:Result->zz8->Prop,(∀σ' H' s' DF its' k',Inv (aw X scope N C s2 H2 fp) ((D,FW its' k')::cH fp s6.heap) σ' H' s'->aq DF its'->DF.length<=sizeLine->Nx DF σ' H'->R (.ok .next) s') ->
       codeAny (model X.prog X.w) X.A (.compStart (Ek elt tg iter Dy iter2 ifs Dd scope pos) 1 (.ref i2) (.ref D) (aw X scope N C s2 H2 fp).env) R Fq:=λR hR=>by
      have q:=sP (Y:=aw X scope N C s2 H2 fp) (iter:=iter) (tg:=tg) (ifs:=ifs) (iter2:=iter2) (scope:=scope) (pos:=pos) (R:=R) hc Ec Jj (by show s2.heap.objs.size<=D;omega) EG rfl rfl (Kr C s2 H2 fp) (MT C s2 H2 fp) (he C s2 H2 fp) NI Of rv T2 JK Ue TQ hR;exact rJ q (T2.self _ 0 _ _ _ JK q)
     refine inner _ λσ' H' s' DF its' k' I' Rj D6 qn=>?_
     ·obtain⟨m',hm,w9⟩:=hN _ _ _ qn
      have II:Inv (aw X scope N C s2 H2 fp) ([(D,FW its' k')]++cH fp s6.heap) σ' H' s':=I';refine⟨m',hm,i + 1,σ',H',DF,its',k',II.unpinned,?_,?_,Rj,w9⟩
      ·exact T.keep _ _ _ Es λb hb o e=>(II.pin (b,o) (yM _ (yM _ (cy hb e)))).1
      ·intro b hb
       obtain⟨o,e,d⟩:=T.obj _ _ Es b hb;exact (II.pin (b,o) (yM _ (yM _ (cy hb e)))).2.1
  ·obtain⟨n,e⟩:=oD
   exact⟨0,Fe ix σ,H2,[],[],n,GF I4 e (I2.hok.fresh (by omega)) (λv z=>by cases z),Hf,λb hb=>(f2 b hb).1,.nil,w0⟩
 have q:=loop _ rfl;exact codeAny_compStart_list q (T.self _ 0 _ _ _ Hf q)
theorem vU (L:bD X scope N ix) (hc:X.calm=true) (hi:PI X tg iter wi) (hg:∀C s0 H0 fp,PG (aw X scope N C s0 H0 fp) tg g) (ht:∀C s0 H0 fp,FN (aw X scope N C s0 H0 fp) ifs tt)
  (ET:∀C s0 H0 fp,PI (aw X scope N C s0 H0 fp) Dy iter2 Hc) (Kr:∀C s0 H0 fp,PG (aw X scope N C s0 H0 fp) Dy g2) (MT:∀C s0 H0 fp,FN (aw X scope N C s0 H0 fp) Dd Hd) (he:∀C s0 H0 fp,PE (aw X scope N C s0 H0 fp) elt te)
  (hs:∀x,foldedSetIterable iter X.env x=pure x:=by intro _;rfl) (Ea:∀C s0 H0 fp x,foldedSetIterable iter2 (aw X scope N C s0 H0 fp).env x=pure x:=by intros;rfl):PE X (Ek elt tg iter Dy iter2 ifs Dd scope pos) (xj wi g tt Hc g2 Hd te ix):=by
 intro pins s σ H Q I h;show wpAny _ _ (eval (.ListComp elt [⟨tg,iter,ifs,0⟩,⟨Dy,iter2,Dd,0⟩] scope pos) _) _ _ _;rw [eval_ListComp];refine Ba (use:=none) rfl hs (L.clos I.ok) L.kind L.locals (C4 (hi pins s σ H _ I h) λv s1 h1=>C4 h1 λIS s2 h2=>?_);obtain⟨it,fp,tn,J,H2,rfl,I2,T,DW,f2,hW⟩:=h2;refine uL (RR:=λC5 C=>compPost (model X.prog X.w) X.A X.xe none (EP X pins σ Q) C5 C) L hc hg ht ET Ea Kr MT he I2 T DW f2 hW ?_;intro D C s' m ys H' hn ho Ec hC hI hD fin;exact⟨m,hn,λh' DS=>⟨.ref D,_,hI h' DS,rfl,fin D hD⟩⟩
end
end L2
namespace K53
open PySem L2
theorem vh (K:zz7) {X:Cx}{tg l:Expr}{tl:TE} (hl:PE X l tl) (h:X.K=K:=by rfl):PI X tg l (js K tl):=by subst h;exact bJ hl
theorem mG {ss:List Str}{i:Nat} (h:i < ss.length):(ss.map V.str)[i]?=some (.str ss[i]):=by rw [yR,yJ h];rfl
theorem rR {K:zz7}{a:Addr}{Ed:List EV}{te:TE}{f:Str->V}{σ':St}{fin:List V->Hp->Prop}{H1:Hp} (hq:H1 a=some (.lst (DA Ed))) (A:∀x∈Ed,H1 x.1=some (.tup (x.2.map V.str))) (hz:∀i,((Ed.take i).map (·.2)).flatten.length<=5000) (hl:∀x∈Ed,x.2.length<=200) {g1 g2 g3:Option V} (hσ:σ'=[g1,g2,g3])
  (Kc:∀(u:Option V) (x:Str) (Q:VK),Q (f x) H1->te [u,some (.str x),g3] H1 Q) (hd:fin (((Ed.map (·.2)).flatten).map f) H1) :
  jr (Gk K a) (bP 0) b6 (js K (jm 0)) (bP 1) b6 te σ' fin H1:=by
 subst hσ;have hsz:∀n:Nat,n<=6000->n < sizeLine:=λn hn=>by rw [zj];omega
 refine⟨λi m ys σ H=>m=Ed.length - i/\i<=Ed.length/\ys=(((Ed.take i).map (·.2)).flatten).map f/\H=H1/\∃x y,σ=[x,y,g3],⟨Ed.length,by simp,ze _,rfl,rfl,_,_,rfl⟩,?_⟩;rintro i m ys σ H ⟨rfl,hi,rfl,rfl,x,y,rfl⟩
 by_cases Dh:i < Ed.length
 ·refine .inr ⟨⟨DA Ed,.ref Ed[i].1,C3.of hq,by rw [yR,yJ Dh];rfl⟩,λDF σ' H'=>DF=(((Ed.take (i + 1)).map (·.2)).flatten).map f/\H'=H/\∃x y,σ'=[x,y,g3],λDF σ' H' q=>⟨Ed.length - (i + 1),by omega,rfl,Dh,q.1,q.2.1,q.2.2⟩,λz H' yl=>?_⟩
  obtain⟨rfl,yl⟩:=yl;have J6:=yl (DA Ed) (C3.of hq);obtain⟨t,ht,rfl⟩:=iF J6;have Pq:=yP ht;have t1:=A t Pq;unfold bP b6;refine aX ⟨_,rfl,t.1,rfl,⟨_,C2.of t1⟩,?_⟩;have Pj:=hz i;have PU:=hl t Pq;refine⟨λj n ys σ H2=>n=t.2.length - j/\j<=t.2.length/\ys=(((Ed.take i).map (·.2)).flatten++t.2.take j).map f/\H2=H'/\∃y,σ=[some (.ref t.1),y,g3],⟨t.2.length,by simp,ze _,by simp,rfl,_,rfl⟩,?_⟩;rintro j n ys σ H2 ⟨rfl,hj,rfl,rfl,y',rfl⟩;have Pl:((((Ed.take i).map (·.2)).flatten++t.2.take j).map f).length<=6000:=by rw [yA,zc,zF];omega
  by_cases D9:j < t.2.length
  ·refine .inr ⟨⟨t.2.map V.str,.str t.2[j],C2.of t1,mG D9⟩,hsz _ Pl,λDF σ' Oj=>DF=(((Ed.take i).map (·.2)).flatten++t.2.take (j + 1)).map f/\Oj=H2/\∃y,σ'=[some (.ref t.1),y,g3],λDF σ' Oj q=>⟨t.2.length - (j + 1),by omega,rfl,D9,q.1,q.2.1,q.2.2⟩,λz Oj yl=>?_⟩
   obtain⟨rfl,yl⟩:=yl;have Pk:=yl _ (C2.of t1);rw [mG D9] at Pk;cases Pk;refine aX (Kc _ _ _ ⟨?_,rfl,_,rfl⟩);have e:t.2.take (j + 1)=t.2.take j++[t.2[j]]:=by rw [zi,yJ D9];rfl
   rw [e,<- Aj,yL (l₂:=[t.2[j]])];rfl
  ·have ej:j=t.2.length:=by omega
   subst ej;refine .inl ⟨⟨_,C2.of t1,by simp⟩,Am (hsz _ Pl),?_,rfl,_,_,rfl⟩;rw [zi,ht];simp
 ·have ei:i=Ed.length:=by omega
  subst ei;have Pj:=hz Ed.length;rw [zU] at Pj ⊢;exact .inl ⟨⟨_,C3.of hq,by simp⟩,Am (hsz _ (by rw [yA];omega)),hd⟩
theorem k7 {n:Nat}:∀{l:List (List Str)},(∀x∈l,x.length<=n)->l.flatten.length<=l.length * n
 | [],_=>by simp
 | x::t,h=>by
  have:=k7 (l:=t) λy hy=>h y (yT _ hy);have hx:=h x yG;rw [List.flatten_cons,zc,zk,Nat.succ_mul];omega
def anew (fs:List Str) (ls:List EV) (t:T):Bool:=decide (t.2.2.1∈fs) && ((((ls.filter λx=>lead x.2 t).map (·.2)).flatten).map λy=>!decide (y∈fs)).all id
variable {P:Program}{w:World}{K:zz7}{mg:Str->Option zz9}{base:Heap}{f:Addr}{fd:FuncData}
def mq:Sp:=λvs H Q _=>∃(t:T) (fo la:Addr) (fs:List Str) (ls:List EV),vs=[.ref t.1,.ref fo,.ref la]/\dq H t.1 t.2/\H fo=some (.lst (fs.map V.str))/\H la=some (.lst (DA ls))/\(∀x∈ls,H x.1=some (.tup (x.2.map V.str)))/\ls.length<=300/\(∀x∈ls,x.2.length<=8) /\
 ∀H',ai H H'->Q (.bl (anew fs ls t)) H'
abbrev xp:List Str:=["row","found","lots","entered"]
theorem mW:aM xp ["row","found","lots"] (aC (top 29)):=⟨rfl,rfl,rfl,by decide +kernel,rfl,by decide +kernel,by decide +kernel⟩
theorem uQ (F:Dk K "leads_anew" "leads_anew" (top 29) f fd) (B:Bl mg) (F1:Fn P w K mg base 1 "leads_into" ["row","lot"] iQ):aG P w K mg base Dl 2 f fd ["row","found","lots"] mq:=by
 refine F.ok mW (λvs H Q E h=>?_) (λ_ _ _ _ H vs Q E hr h=>?_)
 ·obtain⟨t,fo,la,fs,ls,rfl,_⟩:=h
  rfl
 ·obtain⟨t,fo,la,fs,ls,rfl,F8,Iq,E7,FM,hz,h8,k⟩:=h
  refine⟨_,am (dX (i:=3) (N:=["lot","row"]) (ix:=[none,some 0]) mW.nd rfl (Or.inl rfl) ⟨rfl,rfl,rfl,by decide⟩ rfl (bE (pv 2)) (λ_ _ _ _=>aK 0 (by decide) rfl rfl)
    (λ_ _ _ _=>b7 (bM (ax F1 hr (aa (pv 1) (aa (pv 0) ae))))) (λ_ _ _ _=>pv 0))
   (av (aJ (cE (cT fh (aA aI (pv 0) ak (λ_ _=>rfl)) (pv 1) (by with_unfolding_all rfl)) (di (ay (eh rfl) rfl B.all eE (aa (vU (N:=["lot","place","found"]) (ix:=[none,none,some 1]) ⟨rfl,rfl,rfl,by decide⟩ rfl (bE (pv 3)) (λ_ _ _ _=>aK 0 (by decide) rfl rfl) (λ_ _ _ _=>bo)
    (λ_ _ _ _=>vh K (pv 0)) (λ_ _ _ _=>aK 1 (by decide) rfl rfl) (λ_ _ _ _=>bo) (λ_ _ _ _=>cT (fT K) (pv 1) (pv 2) (by with_unfolding_all rfl))) ae)))))),?_⟩
  refine⟨_,rfl,la,rfl,⟨_,C3.of E7⟩,dU (xs:=DA ls) (fits (by simp;omega)) (λi ys σ H3=>ys=DA ((ls.take i).filter λx=>lead x.2 t)/\H3=H/\∃x,σ=[x,some (.ref t.1)]) ⟨rfl,rfl,_,rfl⟩
   (λi ys σ H3 _ p=>⟨by rw [p.1];simp only [yA];exact y7 (yY _ _) (by simp;omega),by rw [p.2.1];exact C3.of E7⟩) ?_ ?_⟩
  ·rintro i y ys σ H3 hy ⟨rfl,rfl,x,rfl⟩
   obtain⟨z,D6,rfl⟩:=iF hy;have tf:=bT (λx:EV=>lead x.2 t) ls i z D6;refine⟨_,rfl,_,rfl,z.1,t,z.2,rfl,F8,FM z (yP D6),_,rfl,?_⟩;refine bc (λc=>⟨_,rfl,?_,rfl,_,rfl⟩) (λc=>⟨?_,rfl,_,rfl⟩)
   ·rw [tf,if_pos c,DA,DA,yL];rfl
   ·rw [tf,if_neg c,zt]
  ·rintro ys σ H3 ⟨rfl,rfl,x,rfl⟩ en Nv
   rw [take_all ls (by simp)];have E8:∀x∈ls.filter (λx=>lead x.2 t),x∈ls:=λx hx=>(yI.mp hx).1;have Tt:(ls.filter λx=>lead x.2 t).length<=300:=y7 (yY _ _) hz;have hk:∀b,b=anew fs ls t->∀H',ai H3 H'->Q (.bl b) H':=λb e H' s'=>e ▸ k H' s';unfold anew at hk;generalize (ls.filter λx=>lead x.2 t)=fl at E8 Tt hk ⊢;have s1:=au (o:=.lst (DA fl)) (ai.refl H3) Nv;have e1:upd H3 en (.lst (DA fl)) en=some (.lst (DA fl)):=aj;generalize upd H3 en (.lst (DA fl))=H1 at s1 e1 ⊢;have hS:Sq K H1 fo (fs.map V.str):=.inl (C3.of (s1 _ _ Iq));refine⟨_,rfl,aB (j:=1) (.inr (C2.of (s1 _ _ F8))) rfl rfl ⟨_,rfl,fo,fs.map V.str,rfl,hS,rfl,cA fs,?_⟩⟩;refine⟨FK (.str t.2.2.1) (fs.map V.str),rfl,?_⟩;rw [cD];refine bc (λc=>?_) (λc=>?_)
   ·refine⟨_,rfl,en,rfl,⟨_,C3.of e1⟩,rR (f:=λy=>.bl (!decide (y∈fs))) e1 (λx hx=>s1 _ _ (FM x (E8 x hx))) (λi=>?_) (λx hx=>by have:=h8 x (E8 x hx);omega) rfl (λu x Q' hq=>?_) λq hq=>?_⟩
    ·have:=k7 (n:=8) (l:=(fl.take i).map (·.2)) λy hy=>by
      obtain⟨z,D6,rfl⟩:=yD.mp hy;exact h8 z (E8 z (List.mem_of_mem_take D6))
     rw [yA,zF] at this;omega
    ·refine⟨_,rfl,_,rfl,fo,_,rfl,hS,rfl,cA fs,?_⟩
     rw [cD];exact hq
    ·refine⟨q,((fl.map (·.2)).flatten).map λy=>!decide (y∈fs),rfl,C3.of (by rw [aj,y8];rfl),?_⟩
     exact hk _ (by rw [c,Bool.true_and]) _ (au s1 hq)
   ·refine hk _ ?_ _ s1
    simp only [By] at c;rw [c,Bool.false_and]
structure HK (ms:List T) (ps:List Str) (root:Str) (F:List (List Str)):Prop where
 lam:CP.Lam F
 nd:∀L∈F,L.Nodup
 sc:∀L∈F,CP.SC (Rw ms) L
 nr:∀L∈F,root∉L
 ro:root∈ps
 pn:ps.Nodup
 en:∀r∈ms,r.2.2.2∈ps
 lo:∀r∈ms,r.2.2.1≠r.2.2.2
 gr:∀r∈ms,r.2.2.2≠root
 re:∀x∈ps,CP.Pth (Rw ms) root x
 one:∀y∈ps,y≠root->[y]∈F
structure Gw (ms:List T) (root:Str) (F:List (List Str)) (tr:List T):Prop where
 sub:∀t∈tr,t∈ms
 nd:(C8 root tr).Nodup
 st:∀t∈tr,t.2.2.1∈C8 root tr
 on:CP.fO F (C8 root tr) (Rw tr)
 rk:∃d:Str->Nat,d root=0/\∀r∈Rw tr,d r.2.2=d r.2.1 + 1
theorem gb (root:Str) (tr:List T) (t:T):C8 root (tr++[t])=C8 root tr++[t.2.2.2]:=by simp [C8]
theorem Gw.start {ms:List T}{ps:List Str}{root:Str}{F:List (List Str)} (A:HK ms ps root F):Gw ms root F [] :=
 ⟨by simp,by simp [C8],by simp,CP.fO.start A.nr,⟨λ_=>0,rfl,by simp⟩⟩
theorem kQ {fs:List Str}{ls:List EV}{t:T}:anew fs ls t=true ↔ t.2.2.1∈fs/\∀L∈ls.map (·.2),CP.ent L t.2=true->∀y∈L,y∉fs:=by
 unfold anew;rw [An,decide_eq_true_iff,zL];refine and_congr Iff.rfl ⟨λh L hL he y hy hf=>?_,λh b hb=>?_⟩
 ·obtain⟨x,hx,rfl⟩:=yD.mp hL
  have:=h _ (yD.mpr ⟨y,List.mem_flatten.mpr ⟨x.2,yD.mpr ⟨x,yI.mpr ⟨hx,he⟩,rfl⟩,hy⟩,rfl⟩);simp [hf] at this
 ·obtain⟨y,hy,rfl⟩:=yD.mp hb
  obtain⟨L,hL,SM⟩:=List.mem_flatten.mp hy;obtain⟨x,hx,rfl⟩:=yD.mp hL;obtain⟨h1,h2⟩:=yI.mp hx;have:=h x.2 (yE h1) h2 y SM;simp [this]
theorem Gw.next {ms:List T}{ps:List Str}{root:Str}{ls:List EV}{tr:List T} (A:HK ms ps root (ls.map (·.2))) (G:Gw ms root (ls.map (·.2)) tr) (hl:(C8 root tr).length < ps.length):∃t∈ms,anew (C8 root tr) ls t=true:=by
 have hx:∃x∈ps,x∉C8 root tr:=by
  cases Aq (∃x∈ps,x∉C8 root tr) with
  | inl h=>exact h
  | inr h =>
   have:=CP.iZ A.pn (b:=C8 root tr) λx hx=>Classical.byContradiction λz=>h ⟨x,hx,z⟩;omega
 obtain⟨x,hx,hn⟩:=hx;obtain⟨r,hr,h1,_,h3⟩:=CP.yk A.lam A.nd A.sc (W:=C8 root tr) (root:=root) (by simp [C8]) hn (A.re x hx);obtain⟨t,ht,rfl⟩:=yD.mp hr;exact⟨t,ht,kQ.mpr ⟨h1,h3⟩⟩
theorem Gw.add {ms:List T}{ps:List Str}{root:Str}{ls:List EV}{tr:List T}{t:T} (A:HK ms ps root (ls.map (·.2))) (G:Gw ms root (ls.map (·.2)) tr) (ht:t∈ms) (ha:anew (C8 root tr) ls t=true):Gw ms root (ls.map (·.2)) (tr++[t]):=by
 obtain⟨h1,h2⟩:=kQ.mp ha;have hg:t.2.2.2∉C8 root tr:=h2 _ (A.one _ (A.en t ht) (A.gr t ht)) (CP.de.mpr ⟨yK.mpr rfl,λz=>A.lo t ht (yK.mp z)⟩) _ (yK.mpr rfl);refine⟨λu hu=>(yQ.mp hu).elim (G.sub u) λz=>by rw [yK.mp z];exact ht,?_,λu hu=>?_,?_,?_⟩
 ·rw [gb];exact jJ G.nd hg
 ·rw [gb]
  refine yW _ ?_
  rcases yQ.mp hu with z | z
  ·exact G.st u z
  ·rw [yK.mp z];exact h1
 ·rw [gb,Rw,yL]
  exact G.on.add h1 h2
 ·obtain⟨d,d0,hd⟩:=G.rk
  have DU:∀r∈Rw tr,r.2.2∈C8 root tr/\r.2.1∈C8 root tr:=λr hr=>by
   obtain⟨u,hu,rfl⟩:=yD.mp hr;exact⟨yT _ (yE hu),G.st u hu⟩
  refine⟨λx=>if x=t.2.2.2 then d t.2.2.1 + 1 else d x,?_,λr hr=>?_⟩
  ·show (if root=t.2.2.2 then d t.2.2.1 + 1 else d root)=0
   rw [if_neg (λz:root=t.2.2.2=>A.gr t ht z.symm)];exact d0
  ·rw [Rw,yL] at hr
   rcases yQ.mp hr with z | z
   ·obtain⟨a,b⟩:=DU r z
    show (if r.2.2=t.2.2.2 then d t.2.2.1 + 1 else d r.2.2)=(if r.2.1=t.2.2.2 then d t.2.2.1 + 1 else d r.2.1) + 1;rw [if_neg (λe:r.2.2=t.2.2.2=>hg (e ▸ a)),if_neg (λe:r.2.1=t.2.2.2=>hg (e ▸ b))];exact hd r z
   ·rw [show r=t.2 from yK.mp z]
    show (if t.2.2.2=t.2.2.2 then d t.2.2.1 + 1 else d t.2.2.2)=(if t.2.2.1=t.2.2.2 then d t.2.2.1 + 1 else d t.2.2.1) + 1;rw [if_pos rfl,if_neg (λe:t.2.2.1=t.2.2.2=>hg (e ▸ h1))]
def i3 (fs:List Str) (F:List (List Str)) (t:T):Bool:=decide (t.2.2.1∈fs) && (((F.filter λL=>lead L t).flatten).map λy=>!decide (y∈fs)).all id
theorem ve (fs:List Str) (ls:List EV) (t:T):anew fs ls t=i3 fs (ls.map (·.2)) t:=by
 unfold anew i3;rw [Cm];rfl
inductive EH (ms:List T) (root:Str) (F:List (List Str)):List T->Prop
 | start:EH ms root F []
 | step {tr:List T}{t:T}{rest:List T}:EH ms root F tr->(ms.filter λt=>i3 (C8 root tr) F t)=t::rest->EH ms root F (tr++[t])
def k9:Sp:=λvs H Q _=>∃(ml pa la:Addr) (ms:List T) (ps:List Str) (root:Str) (ls:List EV),vs=[.ref ml,.str root,.ref pa,.ref la]/\H ml=some (.lst (ao ms))/\cJ H ms/\H pa=some (.tup (ps.map V.str))/\H la=some (.lst (DA ls))/\(∀x∈ls,H x.1=some (.tup (x.2.map V.str))) /\
 ls.length<=300/\(∀x∈ls,x.2.length<=8)/\ms.length<=60/\ps.length<=8/\HK ms ps root (ls.map (·.2)) /\
 ∀(q:Addr) (H':Hp) (tr:List T),ai H H'->H q=none->H' q=some (.lst (ao tr))->Gw ms root (ls.map (·.2)) tr->ps.length<=(C8 root tr).length->EH ms root (ls.map (·.2)) tr->Q (.ref q) H'
abbrev xu:List Str:=["met","root","places","lots","found","tree","row"]
theorem gD:aM xu ["met","root","places","lots"] (aC (top 30)):=⟨rfl,rfl,rfl,by decide +kernel,rfl,by decide +kernel,by decide +kernel⟩
theorem sm (F:Dk K "tree_along" "tree_along" (top 30) f fd) (B:Bl mg) (F1:Fn P w K mg base 2 "leads_anew" ["row","found","lots"] mq):aG P w K mg base Dl 3 f fd ["met","root","places","lots"] k9:=by
 refine F.ok gD (λvs H Q E h=>?_) (λ_ _ _ _ H vs Q E hr h=>?_)
 ·obtain⟨ml,pa,la,ms,ps,root,ls,rfl,_⟩:=h
  rfl
 ·obtain⟨ml,pa,la,ms,ps,root,ls,rfl,Gb,Dj,Ez,E7,FM,hz,h8,Tf,IZ,A',k⟩:=h
  refine⟨_,am (aH (i:=4) gD.nd rfl (Or.inr rfl) (bS (aa (pv 1) ae)))
   (am (aH (i:=5) gD.nd rfl (Or.inl rfl) (bS ae))
   (am (gg zG (aQ gE (ay bj rfl B.len zg (aa (pv 4) ae)) (ay bj rfl B.len zg (aa (pv 2) ae)) (aS _))
    (am (aH (i:=6) gD.nd rfl (Or.inl rfl) (aA aI (aY (N:=["one","found","lots"]) (ix:=[none,some 4,some 3]) ⟨rfl,rfl,rfl,by decide⟩ rfl (bE (pv 0)) (λ_ _ _ _=>aK 0 (by decide) rfl rfl)
     (λ_ _ _ _=>b7 (bM (ax F1 hr (aa (pv 0) (aa (pv 1) (aa (pv 2) ae)))))) (λ_ _ _ _=>pv 0)) ak (λ_ _=>rfl)))
    (am (bL (cK zI zQ zR dB (pv 4) (aa (aA aI (pv 6) ak (λ_ _=>rfl)) ae)))
    (av (bL (cK zI zQ zR dB (pv 5) (aa (pv 6) ae)))))))
   (av (aJ (pv 5))))),?_⟩
  refine⟨_,rfl,by show 1<=sizeLine;decide,λfo Iq=>?_⟩;have s1:=au (o:=.lst [.str root]) (ai.refl H) Iq;have f1:upd H fo (.lst [.str root]) fo=some (.lst ((C8 root []).map V.str)):=aj;generalize upd H fo (.lst [.str root])=H1 at s1 f1 ⊢;refine⟨ze _,λtk Eg=>?_⟩;have FZ:=s1.free Eg;have HY:fo≠tk:=ar f1 Eg;have s2:=au (o:=.lst []) s1 Eg;have f2:upd H1 tk (.lst []) fo=some (.lst ((C8 root []).map V.str)):=by rw [ag HY];exact f1
  have t2:upd H1 tk (.lst []) tk=some (.lst (ao [])):=aj;generalize upd H1 tk (.lst [])=H2 at s2 f2 t2 ⊢
  refine⟨λm σ H3=>∃(tr:List T) (g:Option V),σ=[some (.ref ml),some (.str root),some (.ref pa),some (.ref la),some (.ref fo),some (.ref tk),g]/\m=ps.length - tr.length/\Gw ms root (ls.map (·.2)) tr/\ai H H3/\H3 fo=some (.lst ((C8 root tr).map V.str))/\H3 tk=some (.lst (ao tr))/\EH ms root (ls.map (·.2)) tr,
   ⟨_,[],none,rfl,rfl,Gw.start A',s2,f2,t2,.start⟩,?_⟩
  rintro m σ H3 ⟨tr,g,rfl,rfl,G,s3,f3,t3,D3⟩;have FB:(C8 root tr).length=tr.length + 1:=by simp [C8]
  refine⟨_,rfl,fo,_,rfl,.inl (C3.of f3),_,rfl,pa,_,rfl,.inr (C2.of (s3 _ _ Ez)),_,_,rfl,rfl,_,rfl,bc (λc=>?_) (λc=>?_)⟩
  ·have Dh:(C8 root tr).length < ps.length:=by
    have:=of_decide_eq_true c;rw [yA,yA] at this;omega
   obtain⟨t0,SY,TN⟩:=G.next A' Dh;refine⟨λσ' H3=>∃m',m' < ps.length - tr.length/\∃(tr:List T) (g:Option V),σ'=[some (.ref ml),some (.str root),some (.ref pa),some (.ref la),some (.ref fo),some (.ref tk),g]/\m'=ps.length - tr.length/\Gw ms root (ls.map (·.2)) tr/\ai H H3/\H3 fo=some (.lst ((C8 root tr).map V.str))/\H3 tk=some (.lst (ao tr))/\EH ms root (ls.map (·.2)) tr,λ_ _ h=>h,?_⟩
   refine⟨_,rfl,ml,rfl,⟨_,C3.of (s3 _ _ Gb)⟩,dU (xs:=ao ms) (fits (by simp;omega)) (λi ys σ H4=>ys=ao ((ms.take i).filter λt=>anew (C8 root tr) ls t)/\ai H3 H4/\∃x,σ=[x,some (.ref fo),some (.ref la)]) ⟨rfl,ai.refl _,_,rfl⟩
    (λi ys σ H4 _ p=>⟨by rw [p.1];simp only [yA];exact y7 (yY _ _) (by simp;omega),C3.of (p.2.1 _ _ (s3 _ _ Gb))⟩) ?_ ?_⟩
   ·rintro i y ys σ H4 hy ⟨rfl,s4,x,rfl⟩
    obtain⟨t,Pt,rfl⟩:=bU hy;have Ma:=s3.trans s4;have tf:=bT (λt:T=>anew (C8 root tr) ls t) ms i t Pt;refine⟨_,rfl,_,rfl,_,rfl,t,fo,la,C8 root tr,ls,rfl,Ma _ _ (Dj.e t (yP Pt)),s4 _ _ f3,Ma _ _ E7,λx hx=>Ma _ _ (FM x hx),hz,h8,λH5 s5=>⟨_,rfl,?_⟩⟩;refine bc (λc=>⟨_,rfl,?_,s4.trans s5,_,rfl⟩) (λc=>⟨?_,s4.trans s5,_,rfl⟩)
    ·rw [tf,if_pos c,ao,ao,yL];rfl
    ·rw [tf,if_neg c,zt]
   ·rintro ys σ H4 ⟨rfl,s4,x,rfl⟩ q hq
    rw [take_all ms (by simp)];cases hF:ms.filter λt=>anew (C8 root tr) ls t with
    | nil =>
     have:=yI.mpr ⟨SY,TN⟩;rw [hF] at this;cases this
    | cons t rest =>
     have ht:=yI.mp (show t∈ms.filter λt=>anew (C8 root tr) ls t by rw [hF];exact yG);have s5:=au (o:=.lst (ao (t::rest))) s4 hq;have q5:upd H4 q (.lst (ao (t::rest))) q=some (.lst (ao (t::rest))):=aj;generalize upd H4 q (.lst (ao (t::rest)))=H5 at s5 q5 ⊢;have OH:=s3.trans s5;have E3:=OH _ _ (Dj.e t ht.1);have f5:=s5 _ _ f3;have t5:=s5 _ _ t3;refine aB (j:=0) (.inl (C3.of q5)) rfl rfl ?_;have G2:=G.add A' ht.1 ht.2
     have D4:EH ms root (ls.map (·.2)) (tr++[t]):=D3.step (rest:=rest) (by
      rw [<- hF]
      exact CK λu _=>(ve _ _ _).symm)
     refine⟨_,rfl,.inl ⟨rfl,_,C3.of f5⟩,_,rfl,aB (j:=2) (.inr (C2.of E3)) rfl rfl ⟨fo,_,_,rfl,rfl,f5,fits (by simp;omega),?_⟩⟩;have s6:=ai.upd0 OH (o:=.lst ((C8 root tr).map V.str++[.str t.2.2.2])) (q:=fo) Iq;have f6:upd H5 fo (.lst ((C8 root tr).map V.str++[.str t.2.2.2])) fo=some (.lst ((C8 root (tr++[t])).map V.str)):=by rw [aj,gb,yL];rfl
     have t6:upd H5 fo (.lst ((C8 root tr).map V.str++[.str t.2.2.2])) tk=some (.lst (ao tr)):=by rw [ag HY.symm];exact t5
     generalize upd H5 fo (.lst ((C8 root tr).map V.str++[.str t.2.2.2]))=H6 at s6 f6 t6 ⊢;refine⟨_,rfl,.inl ⟨rfl,_,C3.of t6⟩,_,rfl,tk,_,_,rfl,rfl,t6,fits (by simp;omega),_,?_,tr++[t],_,rfl,rfl,G2,ai.upd0 s6 FZ,by rw [ag HY];exact f6,by rw [aj];simp [ao],D4⟩;rw [zc,A1];omega
  ·refine⟨_,rfl,k tk H3 tr s3 FZ t3 G ?_ D3⟩
   have:=of_decide_eq_false (CI.mpr c);rw [yA,yA] at this;omega
theorem sR {R:List Row}{a:Str}:∀{n:Nat}{x:Str},Walk R a n x->CP.Pth R a x:=by
 intro n x h
 induction h with
 | nil=>exact .nil
 | snoc hw hr ih=>exact .snoc ih hr
abbrev bu (rs:List T) (root:Str):List T:=rs.filter λr=>decide (r.2.2.2≠root)
theorem uR {rs:List T}{root x:Str} (h:CP.Pth (Rw rs) root x):CP.Pth (Rw (bu rs root)) root x:=by
 induction h with
 | nil=>exact .nil
 | @snoc r hp hr ih =>
  by_cases e:r.2.2=root
  ·rw [e];exact .nil
  ·obtain⟨t,ht,rfl⟩:=yD.mp hr
   exact .snoc ih (yE (yI.mpr ⟨ht,decide_eq_true e⟩))
theorem uI {ps:List Str}{root:Str}{rs:List T} (so:ps.Pairwise Du) (ro:root∈ps) (nd:(nms rs).Nodup) (en:∀r∈rs,r.2.2.1∈ps/\r.2.2.2∈ps) (lo:∀r∈rs,r.2.2.1≠r.2.2.2) (re:∀x∈ps,CP.Pth (Rw rs) root x):G4 ps root (bu rs root) :=
 ⟨so,ro,AG (List.Sublist.map _ zh) nd,λr hr=>en r (yI.mp hr).1,λr hr=>lo r (yI.mp hr).1,λr hr=>of_decide_eq_true (yI.mp hr).2,λx hx=>uR (re x hx)⟩
theorem iR {ps:List Str}{root:Str}{rs:List T}{cost left:Str->Int}{Ps:List (List Str×Int)} (W:G4 ps root rs) (R:CP.Rf ps root (Rw rs) cost Ps left) (re:∀x∈ps,CP.Pth (CP.met (Rw rs) left) root x):HK (bz rs left) ps root (Ps.map (·.1)):=by
 have hm:∀r∈bz rs left,r∈rs:=λr hr=>(yI.mp hr).1;have ex:∀{L:List Str},L∈Ps.map (·.1)->∃x∈Ps,x.1=L:=λ{L} h=>yD.mp h;refine⟨R.lam,λL hL=>?_,λL hL=>?_,λL hL=>?_,W.ro,bA W.so,λr hr=>(W.en r (hm r hr)).2,λr hr=>W.lo r (hm r hr),λr hr=>W.nr r (hm r hr),λx hx=>by rw [iT];exact re x hx,R.one⟩
 ·obtain⟨x,hx,rfl⟩:=ex hL
  exact (bA W.so).sublist (R.sub x hx)
 ·obtain⟨x,hx,rfl⟩:=ex hL
  rw [iT];exact R.sc x hx
 ·obtain⟨x,hx,rfl⟩:=ex hL
  exact R.nr x hx
theorem Gw.all {ms:List T}{ps:List Str}{root:Str}{F:List (List Str)}{tr:List T} (A:HK ms ps root F) (G:Gw ms root F tr) (hl:ps.length<=(C8 root tr).length):∀x∈ps,x∈C8 root tr :=
 CP.wy G.nd A.pn (λx hx=>by
  rcases yF.mp hx with rfl | h
  ·exact A.ro
  ·obtain⟨t,ht,rfl⟩:=yD.mp h
   exact A.en t (G.sub t ht)) hl
theorem Gw.tree {ms:List T}{ps:List Str}{root:Str}{F:List (List Str)}{tr:List T} (A:HK ms ps root F) (G:Gw ms root F tr) (hl:ps.length<=(C8 root tr).length):Tree root ps (Rw tr):=by
 have e:root::(Rw tr).map (·.2.2)=C8 root tr:=by simp [C8,y8]
 exact⟨by rw [e];exact G.nd,λx hx=>by rw [e];exact G.all A hl x hx,G.rk⟩
theorem Gw.once {ms:List T}{ps:List Str}{root:Str}{F:List (List Str)}{tr:List T} (A:HK ms ps root F) (G:Gw ms root F tr) (hl:ps.length<=(C8 root tr).length) (hs:∀L∈F,L≠[]/\∀x∈L,x∈ps):∀L∈F,CP.ents L (Rw tr)=1:=λL hL=>by
 obtain⟨h0,h1⟩:=hs L hL;cases L with
 | nil=>exact absurd rfl h0
 | cons y t=>exact (G.on _ hL).1 ⟨y,yG,G.all A hl y (h1 y yG)⟩
theorem kR {ps:List Str}{root:Str}{rs:List T}{cost left:Str->Int}{Ps:List (List Str×Int)} (R:CP.Rf ps root (Rw rs) cost Ps left) {t:T} (h:t∈bz rs left):CP.cN Ps t.2=cost t.2.1:=by
 obtain⟨h1,h2⟩:=yI.mp h;have:=R.eq t.2 (yE h1);have h3:left t.2.1=0:=of_decide_eq_true h2;have h4:left t.2.1=cost t.2.1 - CP.cN Ps t.2:=this;omega
theorem pQ {ps:List Str}{root:Str}{rs:List T}{cost left:Str->Int}{Ps:List (List Str×Int)}{tr:List T} (W:G4 ps root rs) (R:CP.Rf ps root (Rw rs) cost Ps left) (re:∀x∈ps,CP.Pth (CP.met (Rw rs) left) root x)
  (G:Gw (bz rs left) root (Ps.map (·.1)) tr) (hl:ps.length<=(C8 root tr).length):(tr.map λt=>cost t.2.1).sum=(Ps.map (·.2)).sum:=by
 have A:=iR W R re;have ho:=G.once A hl λL hL=>by
  obtain⟨x,hx,rfl⟩:=yD.mp hL;exact⟨R.ne x hx,λy hy=>(R.sub x hx).subset hy⟩
 rw [<- CP.yi (T:=Rw tr) (P:=Ps) λx hx=>ho x.1 (yE hx),Rw,y8]
 congr 1
 exact Ay λt ht=>(kR R (G.sub t ht)).symm
theorem kI (r:Row):∀Ps:List (List Str×Int),CP.cN (Ps.filter λx=>decide (x.2≠0)) r=CP.cN Ps r
 | []=>rfl
 | x::t=>by
  have ih:=kI r t
  by_cases e:x.2=0
  ·rw [zD,if_neg (by simp [e]),ih,CP.fX,e];split <;> omega
  ·rw [zD,if_pos (by simp [e]),CP.fX,CP.fX,ih]
theorem lK:∀Ps:List (List Str×Int),((Ps.filter λx=>decide (x.2≠0)).map (·.2)).sum=(Ps.map (·.2)).sum
 | []=>rfl
 | x::t=>by
  have ih:=lK t
  by_cases e:x.2=0
  ·rw [zD,if_neg (by simp [e]),ih,y0,zX,e];omega
  ·rw [zD,if_pos (by simp [e]),y0,y0,zX,zX,ih]
end K53
namespace CP
section
variable {ν α:Type} [DecidableEq α] [DecidableEq ν]
theorem jG {β:Type}:∀{l:List β},l.Nodup->(∀x∈l,∀y∈l,x=y)->l.length<=1
 | [],_,_=>by simp
 | [_],_,_=>by simp
 | a::b::t,h,e=>by
  have Gg:=e a (by simp) b (by simp);subst Gg;have:=(zb.mp h).1;exact absurd yG this
theorem uV {β:Type} (p q r:β->Bool) (l:List β) (h:∀x∈l,p x=true\/q x=true\/r x=true):l.length<=(l.filter p).length + (l.filter q).length + (l.filter r).length:=by
 induction l with
 | nil=>simp
 | cons a t ih =>
  have ih:=ih λx hx=>h x (yT _ hx);have ha:=h a yG;rw [zD,zD,zD];have e:∀(b:Bool) (m:List β),m.length<=(if b=true then a::m else m).length:=λb m=>by cases b <;> simp
  have e1:∀(m:List β) {b:Bool},b=true->(if b=true then a::m else m).length=m.length + 1:=λm b h=>by rw [if_pos h,zk]
  have x1:=e (p a) (t.filter p);have x2:=e (q a) (t.filter q);have x3:=e (r a) (t.filter r);rw [zk]
  rcases ha with c | c | c
  ·have:=e1 (t.filter p) c;omega
  ·have:=e1 (t.filter q) c;omega
  ·have:=e1 (t.filter r) c;omega
theorem uq:∀(ps:List α),ps.Nodup->∀F:List (List α),F.Nodup->(∀A∈F,A.Sublist ps)->[]∉F->Lam F->F.length<=2 * ps.length
 | [],_,F,nd,hs,h0,_=>by
  cases F with
  | nil=>simp
  | cons A t =>
   have:=hs A yG;rw [List.sublist_nil.mp this] at h0;simp at h0
 | x::t,hn,F,nd,hs,h0,hl=>by
  obtain⟨hx,Ij⟩:=zb.mp hn;have ext:∀A B:List α,A.Sublist t->B.Sublist t->(∀y∈A,y∈B)->(∀y∈B,y∈A)->A=B:=by
   intro A B hA hB h1 h2;have key:∀{C:List α},C.Sublist t->C=t.filter λy=>decide (y∈C):=by
    intro C hC;clear hl hs h0 nd h1 h2 hA hB hn hx
    induction hC with
    | slnil=>rfl
    | @cons l1 l2 a h ih =>
     obtain⟨h1,h2⟩:=zb.mp Ij;rw [zD,if_neg (by simpa using λz=>h1 (h.subset z))];exact ih h2
    | @cons_cons l1 l2 a h ih =>
     obtain⟨h1,h2⟩:=zb.mp Ij;rw [zD,if_pos (by simp)]
     congr 1
     refine (ih h2).trans (CK λy hy=>?_);have:y≠a:=λe=>h1 (e ▸ hy);simp [this]
   rw [key hA,key hB];exact CK λy _=>by
    have:(y∈A)=(y∈B):=propext ⟨h1 y,h2 y⟩;simp [this]
  let F1:=F.filter λA=>!decide (x∈A)
  let F2:=(F.filter λA=>decide (x∈A)).map List.tail
  have KI:∀A∈F1,A∈F/\A.Sublist t:=λA hA=>by
   obtain⟨h1,h2⟩:=yI.mp hA;have h2:x∉A:=by simpa using h2
   exact⟨h1,by
    cases hs A h1 with
    | cons _ h=>exact h
    | cons_cons _ h=>exact absurd yG h2⟩
  have G3:∀A∈F2,x::A∈F/\A.Sublist t:=λA hA=>by
   obtain⟨B,hB,rfl⟩:=yD.mp hA;obtain⟨h1,h2⟩:=yI.mp hB;have h2:x∈B:=by simpa using h2
   cases hs B h1 with
   | cons _ h=>exact absurd (h.subset h2) hx
   | cons_cons _ h=>exact⟨h1,h⟩
  have n1:F1.Nodup:=AG zh nd;have n2:F2.Nodup:=by
   refine Ae.mpr ?_;refine (AG zh nd).imp_of_mem λ{A B} hA hB Di e=>Di ?_;obtain⟨a1,a2⟩:=yI.mp hA;obtain⟨b1,b2⟩:=yI.mp hB;have a2:x∈A:=by simpa using a2
   have b2:x∈B:=by simpa using b2
   have ca:∃A',A=x::A':=by
    cases hs A a1 with
    | cons _ h=>exact absurd (h.subset a2) hx
    | cons_cons _ h=>exact⟨_,rfl⟩
   have cb:∃A',B=x::A':=by
    cases hs B b1 with
    | cons _ h=>exact absurd (h.subset b2) hx
    | cons_cons _ h=>exact⟨_,rfl⟩
   obtain⟨A',rfl⟩:=ca;obtain⟨B',rfl⟩:=cb;have:A'=B':=e;rw [this]
  have C6:F.length=F1.length + F2.length:=by
   rw [yA];have:∀l:List (List α),l.length=(l.filter λA=>!decide (x∈A)).length + (l.filter λA=>decide (x∈A)).length:=by
    intro l
    induction l with
    | nil=>rfl
    | cons a t ih =>
     rw [zD,zD]
     by_cases c:x∈a <;> simp [c] at ih ⊢ <;> omega
   exact this F
  let G2:=F2.filter λA=>!decide (A=[]) && !decide (A∈F1)
  have e2:F2.length<=G2.length + 1 + 1:=by
   have h3:=uV (λA:List α=>!decide (A=[]) && !decide (A∈F1)) (λA=>decide (A=[])) (λA=>!decide (A=[]) && decide (A∈F1)) F2 λA _=>by
    by_cases c1:A=[] <;> by_cases c2:A∈F1 <;> simp [c1,c2]
   have h4:(F2.filter λA=>decide (A=[])).length<=1:=jG (AG zh n2) λA hA B hB=>by
    have a:=(yI.mp hA).2;have b:=(yI.mp hB).2;rw [of_decide_eq_true a,of_decide_eq_true b]
   have h5:(F2.filter λA=>!decide (A=[]) && decide (A∈F1)).length<=1:=jG (AG zh n2) λA hA B hB=>by
    obtain⟨a1,a2⟩:=yI.mp hA;obtain⟨b1,b2⟩:=yI.mp hB;have a2:A≠[]/\A∈F1:=by simpa using a2
    have b2:B≠[]/\B∈F1:=by simpa using b2
    have sub:∀{A B:List α},A∈F2->A≠[]->A∈F1->B∈F2->B∈F1->(∀y∈x::A,y∈x::B)->A=B:=by
     intro A B a1 a2 a3 b1 b3 Gg;have hB:x∉B:=λz=>hx ((G3 B b1).2.subset z);have hA:x∉A:=λz=>hx ((G3 A a1).2.subset z);have Qp:∀y∈A,y∈B:=λy hy=>by
      rcases yF.mp (Gg y (yT _ hy)) with e | e
      ·exact absurd (e ▸ hy) hA
      ·exact e
     refine ext A B (G3 A a1).2 (G3 B b1).2 Qp λy hy=>?_
     rcases hl (x::A) (G3 A a1).1 B (KI B b3).1 with c | c | c
     ·exact absurd (c x yG) hB
     ·rcases yF.mp (c y hy) with e | e
      ·exact absurd (e ▸ hy) hB
      ·exact e
     ·cases A with
      | nil=>exact absurd rfl a2
      | cons z u=>exact absurd (Qp z yG) (c z (by simp))
    rcases hl (x::A) (G3 A a1).1 (x::B) (G3 B b1).1 with c | c | c
    ·exact sub a1 a2.1 a2.2 b1 b2.2 c
    ·exact (sub b1 b2.1 b2.2 a1 a2.2 c).symm
    ·exact absurd yG (c x yG)
   have:G2.length=(F2.filter λA=>!decide (A=[]) && !decide (A∈F1)).length:=rfl;omega
  have KG:∀A∈G2,x::A∈F/\A.Sublist t/\A≠[]/\A∉F1:=λA hA=>by
   obtain⟨h1,h2⟩:=yI.mp hA;have h2:A≠[]/\A∉F1:=by simpa using h2
   exact⟨(G3 A h1).1,(G3 A h1).2,h2.1,h2.2⟩
  have ih:=uq t Ij (F1++G2) (Aa.mpr ⟨n1,AG zh n2,λa ha b hb e=>(KG b hb).2.2.2 (e ▸ ha)⟩) (λA hA=>by
   rcases yQ.mp hA with h | h
   ·exact (KI A h).2
   ·exact (KG A h).2.1) (λhA=>by
   rcases yQ.mp hA with h | h
   ·exact h0 (KI _ h).1
   ·exact (KG _ h).2.2.1 rfl) (by
   have up:∀A∈F1++G2,∃A'∈F,(∀y∈t,(y∈A' ↔ y∈A))/\∀y∈A,y∈t:=λA hA=>by
    rcases yQ.mp hA with h | h
    ·exact⟨A,(KI A h).1,λy _=>Iff.rfl,λy hy=>(KI A h).2.subset hy⟩
    ·refine⟨x::A,(KG A h).1,λy hy=>?_,λy hy=>(KG A h).2.1.subset hy⟩
     have:y≠x:=λe=>hx (e ▸ hy);simp [this]
   intro A hA B hB;obtain⟨A',a1,a2,a3⟩:=up A hA;obtain⟨B',b1,b2,b3⟩:=up B hB
   rcases hl A' a1 B' b1 with c | c | c
   ·exact .inl λy hy=>(b2 y (a3 y hy)).mp (c y ((a2 y (a3 y hy)).mpr hy))
   ·exact .inr (.inl λy hy=>(a2 y (b3 y hy)).mp (c y ((b2 y (b3 y hy)).mpr hy)))
   ·exact .inr (.inr λy hy hb=>c y ((a2 y (a3 y hy)).mpr hy) ((b2 y (a3 y hy)).mpr hb)))
  rw [zc] at ih;simp only [zk];omega
end
end CP
namespace K53
open PySem L2
def beyond (ps:List Str) (rs:List T) (x:Str):List Str:=ps.filter λp=>!decide (p∈C8 x (first rs x))
def bC (rs:List T) (cs:List Int) (x:Str):Int:=cs.getD ((nms rs).idxOf x) 0
theorem iu {rs:List T}{cs:List Int}{i:Nat}{r:T}{z:Int} (nd:(nms rs).Nodup) (hr:rs[i]?=some r) (hz:cs[i]?=some z):bC rs cs r.2.1=z:=by
 obtain⟨hi,e⟩:=yV.mp hr;have ET:i < (nms rs).length:=by simpa using hi
 have e2:(nms rs)[i]=r.2.1:=by rw [zY,e]
 have e3:(nms rs).idxOf r.2.1=i:=by rw [<- e2];exact nd.idxOf_getElem i ET
 unfold bC;rw [e3,zd,hz];rfl
theorem iz {a b:List Int} (h:a.Perm b):a.sum=b.sum:=by
 induction h with
 | nil=>rfl
 | cons x _ ih=>rw [zX,zX,ih]
 | swap x y l=>simp only [zX];omega
 | trans _ _ h1 h2=>exact h1.trans h2
structure b8 (ps:List Str) (root:Str) (rs:List T) (cost:Str->Int) (tr:List T) (Qs:List (List Str×Int)):Prop where
 tree:Tree root ps (Rw tr)
 sub:∀t∈tr,t∈rs
 len:tr.length + 1=ps.length
 le:∀r∈rs,r.2.2.2≠root->CP.cN Qs r.2<=cost r.2.1
 eq:∀t∈tr,CP.cN Qs t.2=cost t.2.1
 once:∀x∈Qs,CP.ents x.1 (Rw tr)=1
 sum:(tr.map λt=>cost t.2.1).sum=(Qs.map (·.2)).sum
 sl:∀x∈Qs,x.1.Sublist ps
 ne:∀x∈Qs,x.1≠[]
 nr:∀x∈Qs,root∉x.1
 lam:CP.Lam (Qs.map (·.1))
 pos:∀x∈Qs,0 < x.2\/(x.2 < 0/\x.1.length=1)
 so:(Qs.map (·.1)).Pairwise (λa b=>CP.br a b=true)
 few:Qs.length<=16
 det:∃s:PL,Fin ps root (bu rs root) cost s/\EH (bz (bu rs root) s.2) root (s.1.map (·.1)) tr/\Qs.Perm (s.1.filter λx=>decide (x.2≠0))
theorem rO {A B:List (List Str×Int)} (h:A.Perm B) (r:Row):CP.cN A r=CP.cN B r:=by
 unfold CP.cN;exact iz ((h.filter _).map _)
theorem sQ {ps:List Str}{root:Str}{rs:List T}{cost left:Str->Int}{Ps:List (List Str×Int)}{tr:List T}{Qs:List (List Str×Int)} (W:G4 ps root (bu rs root)) (R:CP.Rf ps root (Rw (bu rs root)) cost Ps left) (re:∀x∈ps,CP.Pth (CP.met (Rw (bu rs root)) left) root x)
  (Fi:Fin ps root (bu rs root) cost (Ps,left)) (G:Gw (bz (bu rs root) left) root (Ps.map (·.1)) tr) (hl:ps.length<=(C8 root tr).length) (D:EH (bz (bu rs root) left) root (Ps.map (·.1)) tr) (hp:Qs.Perm (Ps.filter λx=>decide (x.2≠0)))
  (so:(Qs.map (·.1)).Pairwise (λa b=>CP.br a b=true)) (h8:ps.length<=8):b8 ps root rs cost tr Qs:=by
 have A:=iR W R re;have mem:∀x∈Qs,x∈Ps/\x.2≠0:=λx hx=>by
  have:=yI.mp (hp.mem_iff.mp hx);exact⟨this.1,of_decide_eq_true this.2⟩
 have pd:∀r:Row,CP.cN Qs r=CP.cN Ps r:=λr=>(rO hp r).trans (kI r Ps);have JV:∀r∈rs,r.2.2.2≠root->r∈bu rs root:=λr hr h=>yI.mpr ⟨hr,decide_eq_true h⟩;refine⟨G.tree A hl,λt ht=>(yI.mp (yI.mp (G.sub t ht)).1).1,?_,λr hr hn=>?_,λt ht=>?_,λx hx=>?_,?_,λx hx=>R.sub x (mem x hx).1,λx hx=>R.ne x (mem x hx).1,λx hx=>R.nr x (mem x hx).1,?_,λx hx=>?_,so,?_,(Ps,left),Fi,D,hp⟩
 ·have h1:(C8 root tr).length=tr.length + 1:=by simp [C8]
  have h2:=CP.iZ G.nd (b:=ps) λx hx=>by
   rcases yF.mp hx with rfl | h
   ·exact A.ro
   ·obtain⟨t,ht,rfl⟩:=yD.mp h
    exact A.en t (G.sub t ht)
  omega
 ·have h1:=R.nn r.2 (yE (JV r hr hn))
  have h2:=R.eq r.2 (yE (JV r hr hn));rw [pd];have h3:0<=left r.2.1:=h1;have h4:left r.2.1=cost r.2.1 - CP.cN Ps r.2:=h2;omega
 ·rw [pd];exact kR R (G.sub t ht)
 ·have ho:=G.once A hl λL hL=>by
   obtain⟨x,hx,rfl⟩:=yD.mp hL;exact⟨R.ne x hx,λy hy=>(R.sub x hx).subset hy⟩
  exact ho x.1 (yE (mem x hx).1)
 ·rw [pQ W R re G hl,<- lK Ps]
  exact (iz (hp.map _)).symm
 ·intro A' hA B' hB
  obtain⟨x,hx,rfl⟩:=yD.mp hA;obtain⟨y,hy,rfl⟩:=yD.mp hB;exact R.lam x.1 (yE (mem x hx).1) y.1 (yE (mem y hy).1)
 ·obtain⟨h1,h2⟩:=mem x hx
  by_cases c:1 < x.1.length
  ·exact .inl (R.pos x h1 c)
  ·have h3:x.1.length≠0:=λz=>R.ne x h1 (AQ.mp z)
   rcases Int.lt_trichotomy x.2 0 with h | h | h
   ·exact .inr ⟨h,by omega⟩
   ·exact absurd h h2
   ·exact .inl h
 ·have h1:=CP.uq ps (bA W.so) (Ps.map (·.1)) R.nd (λA hA=>by
   obtain⟨x,hx,rfl⟩:=yD.mp hA
   exact R.sub x hx) (λz=>by
   obtain⟨x,hx,e⟩:=yD.mp z
   exact R.ne x hx e) R.lam
  have h2:=hp.length_eq;have h3:=yY (λx:List Str×Int=>decide (x.2≠0)) Ps;rw [yA] at h1;omega
end K53
namespace L2
open PySem
section
variable {X:Cx}{scope:Scope}{N:List Str}{ix:List (Option Nat)}
variable {tg iter kx vx:Expr}{ifs:List Expr}{pos:Pos}{g:TG}{tt:TT}{tk tv:TE}
end
theorem rV {g:TG}{tt:TT}{te:TE}{σ':St}{fin:List V->Hp->Prop}{H1:Hp}{a:Addr}{o:Obj}{kvs:List (List Key×V)} (hn:kvs.length < sizeLine) (Pv:Nat->List V->St->Hp->Prop) (h0:Pv 0 [] σ' H1) (hl:∀i ys σ H,i<=kvs.length->Pv i ys σ H->ys.length<=i/\H a=some (.frz o (.dT kvs)))
  (hs:∀i p b ys σ H,kvs[i]?=some p->H b=some (.tup (p.1.map kV))->Pv i ys σ H->g (.ref b) σ H λσ2 H2=>tt σ2 H2 λb H3=>if b=true then te σ2 H3 (λv H4=>Pv (i + 1) (ys++[v]) σ2 H4) else Pv (i + 1) ys σ2 H3) (hd:∀ys σ H,Pv kvs.length ys σ H->fin ys H) :
  EJ (Oe a o) g tt te σ' fin H1:=by
 refine⟨λi m ys σ H=>m=kvs.length - i/\i<=kvs.length/\Pv i ys σ H,⟨kvs.length,by simp,ze _,h0⟩,?_⟩;rintro i m ys σ H ⟨rfl,hi,p⟩;obtain⟨q0,q1⟩:=hl i ys σ H hi p
 by_cases h:i < kvs.length
 ·refine .inr ⟨⟨kvs,q1,h⟩,by omega,λDF σ2 H2=>Pv (i + 1) DF σ2 H2,λDF σ2 H2 q=>⟨kvs.length - (i + 1),by omega,rfl,h,q⟩,λv H' y=>?_⟩
  obtain⟨rfl,y⟩:=y;obtain⟨p',b,e1,rfl,e2⟩:=y kvs q1;exact hs i p' b ys σ H' e1 e2 p
 ·have e:i=kvs.length:=by omega
  subst e;exact .inl ⟨⟨kvs,q1,yO _⟩,by omega,hd ys σ H p⟩
end L2
namespace K53
open PySem L2
variable {P:Program}{w:World}{K:zz7}{mg:Str->Option zz9}{base:Heap}{f:Addr}{fd:FuncData}
def lA (C:Addr):Sp:=λvs H Q E=>∃(v c pa ra:Addr) (ps:List Str) (rs:List T) (cs:List Int) (root:Str),vs=[.ref v,.str root,.ref c]/\bF H v pa ra ps rs/\Good ps (rs.map (·.2))/\ps.length<=8/\root∈ps/\H c=some (.tup (cs.map V.int))/\cs.length=rs.length /\
 ∀H',ai H H'->cm rs root (first rs root) ->
  (beyond ps rs root=[]->∀(tr:List T) (ss:List Str) (prs:List CP.Pr) (t u1 u2:Addr),b8 ps root rs (bC rs cs) tr (prs.map λx=>x.2.2)->ss.Perm (nms tr)->PyProof.Rows.sortedS ss=true->H' t=some (.tup [.ref u1,.ref u2])->H' u1=some (.tup (ss.map V.str))->H' u2=some (.tup (CP.dn prs))->CP.jt H' prs->Q (.ref t) H') /\
  (beyond ps rs root≠[]->∀(dx u:Addr),H' dx=some (.xd [(Str.ofString "lot",.ref u)])->H' u=some (.tup ((beyond ps rs root).map V.str))->E (.ref C) (some dx) H')
abbrev UA:List Str:=["web","root","costs","places","beyond","rows","left","prices","tree","told"]
theorem ef:aM UA ["web","root","costs"] (aC (top 31)):=⟨rfl,rfl,rfl,by decide +kernel,rfl,by decide +kernel,by decide +kernel⟩
theorem qD {H H':Hp}{D:Addr}{o:HO} (s:ai H H') (hD:H D=none):ai H (upd H' D o):=λb ob e=>by rw [ag (ar e hD)];exact s b ob e
theorem lC:∀{Ps:List (List Str×Int)},(Ps.map (·.1)).Nodup->∀{x:List Str×Int},x∈Ps->aL (Dv Ps) (DN x.1)=some (V.int x.2)
 | y::t,nd,x,hx=>by
  obtain⟨h1,h2⟩:=zb.mp (show (y.1::t.map (·.1)).Nodup from nd);show aL ((DN y.1,V.int y.2)::Dv t) (DN x.1)=_
  by_cases e:y.1=x.1
  ·rw [cq (p:=(DN y.1,V.int y.2)) (by rw [e])]
   rcases yF.mp hx with rfl | q
   ·rfl
   ·exact absurd (yD.mpr ⟨x,q,e.symm⟩) h1
  ·rw [bW (p:=(DN y.1,V.int y.2)) (λz=>e (lw z))]
   rcases yF.mp hx with rfl | q
   ·exact absurd rfl e
   ·exact lC h2 q
theorem QU {A:Around}{k:Nat} (hr:aN k A):A.units + 8 < cLine:=by have:=hr.un;omega
theorem rB {all:List T}{cost:Str->Int}{r:T} (h:r.2.1∉nms all):putK (DX all cost) (Sum.inr r.2.1) (V.int (cost r.2.1))=DX (all++[r]) cost:=by
 have hn:aL (DX all cost) (Sum.inr r.2.1)=none:=by
  induction all with
  | nil=>rfl
  | cons q t ih =>
   show aL ((Sum.inr q.2.1,V.int (cost q.2.1))::DX t cost) (Sum.inr r.2.1)=none;rw [bW (p:=(Sum.inr q.2.1,V.int (cost q.2.1))) (λz=>h (by rw [nms,y0,<- BW z];exact yG))];exact ih λz=>h (yT _ z)
 rw [gh _ hn];unfold DX;rw [yL];rfl
theorem sr {f C fI:Addr}{fd Qx:FuncData} (F:Dk K "cheapest" "cheapest" (top 31) f fd) (B:Bl mg) (hx:mg "TooFew"=some (.ref C)) (hC:c8 dP base C fI) (FI:aG P w K mg base Dl 1 fI Qx ["self","lot"] (my C)) (bI:Binds K Qx ["self","lot"] [])
  (F1:Fn P w K mg base 4 "need_web" ["thing"] (gF .non)) (F2:Fn P w K mg base 2 "need_place" ["web","thing"] jB) (UK:Fn P w K mg base 2 "need_costs" ["web","thing"] jD) (F3:Fn P w K mg base 2 "come_to" ["rows","start"] iV) (F4:Fn P w K mg base 1 "places_beyond" ["web","found"] kz)
  (F5:Fn P w K mg base 4 "raised_prices" ["places","root","rows","left"] kD) (F6:Fn P w K mg base 3 "tree_along" ["met","root","places","lots"] k9) (F7:Fn P w K mg base 1 "met_rows" ["rows","left"] ja) :
  aG P w K mg base (Hb P w) 5 f fd ["web","root","costs"] (lA C):=by
 refine F.okX ef (λvs H Q E h=>?_) (λ_ _ _ _ H vs Q E hr h=>?_)
 ·obtain⟨v,c,pa,ra,ps,rs,cs,root,rfl,_⟩:=h
  rfl
 ·obtain⟨v,c,pa,ra,ps,rs,cs,root,rfl,W,G,h8,Hq,hc,Dp,k⟩:=h
  have DI:aN 1 _:=hr.mono (by decide);have IX:aN 2 _:=hr.mono (by decide);have M5:aN 3 _:=hr.mono (by decide)
  refine⟨_,am (bL (ax F1 hr (aa (pv 0) ae))) (am (bL (ax F2 IX (aa (pv 0) (aa (pv 1) ae)))) (am (bL (ax UK IX (aa (pv 0) (aa (pv 2) ae))))
   (am (aH (i:=3) ef.nd rfl (Or.inl rfl) (aA aI (pv 0) ak (λ_ _=>rfl)))
   (am (aH (i:=4) ef.nd rfl (Or.inl rfl) (ax F4 DI (aa (pv 0) (aa (ax F3 IX (aa (aA aI (pv 0) ak (λ_ _=>rfl)) (aa (pv 1) ae))) ae))))
   (am (bg (aQ jc (ay bj rfl B.len zg (aa (pv 4) ae)) ak (aS _)) (av (qG (W:=E) hx hC FI IX bI hr.hd (aa (pv 4) ae) (λpins σ H s ea oe vs a0 I h1 h2 h3 h4 h5 h6 hW=>vO I h1 h2 h3 h4 h5 h6 hW) rfl)) be)
   (am (dX (i:=5) (N:=["row","root"]) (ix:=[none,some 1]) ef.nd rfl (Or.inl rfl) ⟨rfl,rfl,rfl,by decide⟩ rfl (bJ (aA aI (pv 0) ak (λ_ _=>rfl))) (λ_ _ _ _=>aK 0 (by decide) rfl rfl) (λ_ _ _ _=>b7 (aQ cW (aA (bR K) (pv 0) ak (λ_ _=>rfl)) (pv 1) (aS _))) (λ_ _ _ _=>pv 0))
   (am (rm (i:=6) (N:=["row","cost"]) (ix:=[none,none]) ef.nd rfl (Or.inl rfl) ⟨rfl,rfl,rfl,by decide⟩ rfl (nh rfl B.zip (aa (aA aI (pv 0) ak (λ_ _=>rfl)) (aa (pv 2) ae)))
    (λ_ _ _ _=>gi K rfl (n:=2) (bH (aK 0 (by decide) rfl rfl) (bH (aK 1 (by decide) rfl rfl) d6))) (λ_ _ _ _=>bo) (λ_ _ _ _=>aA (bR K) (pv 0) ak (λ_ _=>rfl)) (λ_ _ _ _=>pv 1))
   (am (aH (i:=7) ef.nd rfl (Or.inr rfl) (ax F5 hr (aa (pv 3) (aa (pv 1) (aa (pv 5) (aa (pv 6) ae))))))
   (am (aH (i:=8) ef.nd rfl (Or.inl rfl) (ax F6 M5 (aa (ax F7 DI (aa (pv 5) (aa (pv 6) ae))) (aa (pv 1) (aa (pv 3) (aa (bV (qg rfl) rfl B.list mC (aa (pv 7) ae)) ae))))))
   (am (aH (i:=9) ef.nd rfl (Or.inl rfl) (ay (CP.ye (QU hr)) rfl B.sorted dY (aa (PE.nox (aY (N:=["lot","prices"]) (ix:=[none,some 7]) ⟨rfl,rfl,rfl,by decide⟩ rfl (uy (pv 7)) (λ_ _ _ _=>aK 0 (by decide) rfl rfl)
    (λ_ _ _ _=>b7 (aQ cW (er (cj hr) (pv 1) (pv 0) (λ_ _=>rfl)) ak (aS _))) (λ_ _ _ _=>cV (aa (pv 0) (aa (er (cj hr) (pv 1) (pv 0) (λ_ _=>rfl)) ae))))) ae)))
   (av (aJ (cV (aa (bV da rfl B.tuple bO (aa (ay fS rfl B.sorted dY (aa (PE.nox (aY (N:=["row"]) (ix:=[none]) ⟨rfl,rfl,rfl,by decide⟩ rfl (bE (pv 8)) (λ_ _ _ _=>aK 0 (by decide) rfl rfl) (λ_ _ _ _=>bo)
    (λ_ _ _ _=>aA (bR K) (pv 0) ak (λ_ _=>rfl)))) ae)) ae)) (aa (bV da rfl B.tuple bO (aa (pv 9) ae)) ae))))))))))))))),?_⟩
  have Ew:∀r∈rs,r.2.2.2∈ps:=λr hr=>(G.rn r.2 (yE hr)).2.2.1;have FL:rs.length<=60:=by have:=G.rz;simpa using this
  have Do:(nms rs).Nodup:=by
   have q:=bA G.rso
   rwa [y8] at q
  refine⟨_,rfl,v,pa,ra,ps,rs,rfl,W,G,λH1 s1=>?_⟩;have W1:=W.same s1;refine⟨_,rfl,_,rfl,v,pa,ra,ps,rs,root,rfl,W1,Hq,?_⟩;refine⟨_,rfl,_,rfl,v,c,pa,ra,ps,rs,cs,rfl,W1,by omega,s1 _ _ hc,Dp,λH1a OI=>?_⟩;have OK:=s1.trans OI;have W2:=W.same OK;refine⟨_,rfl,aB (j:=0) (.inr (C2.of W2.tp)) rfl rfl ?_⟩;refine⟨_,rfl,_,rfl,aB (j:=1) (.inr (C2.of W2.tp)) rfl rfl ⟨_,rfl,ra,root,rs,ps,rfl,.inr W2.rl,⟨W2.rows⟩,Hq,Ew,G.pz,FL,λq H2 s2 S9 q2 Fu=>?_⟩⟩;have W3:=W2.same s2;refine⟨v,pa,ra,q,ps,rs,_,rfl,W3,G.pz,q2,λu H3 s3 SV u3=>?_⟩;have C6:=gf Fu Hq Ew;have Lh:=OK.trans (s2.trans s3);have W4:=W.same Lh;have eb:(ps.filter λp=>!decide (p∈C8 root (first rs root)))=beyond ps rs root:=rfl;rw [eb] at u3;refine⟨_,rfl,u,_,rfl,.inr (C2.of u3),_,_,rfl,rfl,_,rfl,bc (λcc=>?_) (λcc=>?_)⟩
  ·have Di:beyond ps rs root≠[]:=λz=>by
    rw [z] at cc;simp at cc
   refine⟨_,rfl,by show 1<=sizeLine;decide,λe he=>⟨e,.ref u,rfl,aj,λdx h1 h2=>⟨rfl,some dx,?_,?_⟩⟩⟩
   ·rw [ag h2.symm,aj]
   ·have Kv:H3 dx=none:=by rw [ag h2] at h1;exact h1
    have nu:u≠e:=ar u3 he;have RM:u≠dx:=ar u3 Kv;refine (k _ (λb o eb=>?_) Fu).2 Di dx u ?_ ?_
    ·have b3:=Lh b o eb
     have n1:b≠e:=ar b3 he;have n2:b≠dx:=ar b3 Kv;rw [dh n1,ag n2,ag n1,ag n1];exact b3
    ·rw [dh h2,aj]
    ·rw [dh nu,ag RM,ag nu,ag nu]
     exact u3
  ·have Ge:beyond ps rs root=[]:=by
    cases hb:beyond ps rs root with
    | nil=>rfl
    | cons y r=>rw [hb] at cc;simp at cc
   clear cc u3 SV q2 S9 eb;have kq:=λ(H':Hp) (s':ai H H')=>(k H' s' Fu).1 Ge;clear k;have S7:∀x∈ps,CP.Pth (Rw rs) root x:=λx hx=>by
    have hm:x∈C8 root (first rs root):=by
     cases Aq (x∈C8 root (first rs root)) with
     | inl h=>exact h
     | inr h =>
      have:x∈beyond ps rs root:=yI.mpr ⟨hx,by simp [h]⟩;rw [Ge] at this;cases this
    obtain⟨n,hd⟩:=Fu.mem x hm;exact sR hd.1
   have hW:G4 ps root (bu rs root):=uI G.so Hq Do (λr hr=>let q:=G.rn r.2 (yE hr);⟨q.2.1,q.2.2.1⟩) (λr hr=>(G.rn r.2 (yE hr)).2.2.2) S7;have PD:(bu rs root).length<=60:=y7 (yY _ _) FL
   refine⟨_,rfl,aB (j:=1) (.inr (C2.of W4.tp)) rfl rfl ⟨ra,rfl,⟨_,C2.of W4.rl⟩,ik (xs:=ao rs) (fits (by simp;omega)) (λi ys σ H5=>ys=ao (bu (rs.take i) root)/\H5=H3/\∃x,σ=[x,some (.str root)]) ⟨rfl,rfl,_,rfl⟩
    (λi ys σ H5 hi p=>⟨by rw [p.1];simp only [yA];exact y7 (yY _ _) (by simp at hi ⊢;omega),by rw [p.2.1];exact C2.of W4.rl⟩) ?_ ?_⟩⟩
   ·rintro i y ys σ H5 hy ⟨rfl,rfl,x,rfl⟩
    obtain⟨r,Dw,rfl⟩:=bU hy;have tf:bu (rs.take (i + 1)) root=bu (rs.take i) root++(if decide (r.2.2.2≠root)=true then [r] else []):=bT (λr:T=>decide (r.2.2.2≠root)) rs i r Dw;refine⟨_,rfl,aB (j:=2) (.inr (C2.of (W4.rows r (yP Dw)))) rfl rfl ⟨_,rfl,rfl,_,rfl,?_⟩⟩;have e1:(!decide (V.str r.2.2.2=V.str root))=decide (r.2.2.2≠root):=by
     by_cases c:r.2.2.2=root
     ·rw [c];simp
     ·simp [c]
    rw [e1];refine bc (λc=>⟨_,rfl,?_,rfl,_,rfl⟩) (λc=>⟨?_,rfl,_,rfl⟩)
    ·rw [tf,if_pos c,ao,ao,yL];rfl
    ·rw [tf,if_neg c,zt]
   rintro ys σ H5 ⟨rfl,rfl,x,rfl⟩ rl E4;rw [take_all rs (by simp)];have s6:=au (o:=.lst (ao (bu rs root))) Lh E4;have l6:upd H5 rl (.lst (ao (bu rs root))) rl=some (.lst (ao (bu rs root))):=aj;generalize upd H5 rl (.lst (ao (bu rs root)))=H6 at s6 l6 ⊢;clear W4 Lh E4 s3 s2 W3 W2 OI s1 W1;have W6:=W.same s6;have c6:=s6 _ _ hc;refine⟨_,rfl,aB (j:=1) (.inr (C2.of W6.tp)) rfl rfl ⟨_,rfl,ra,_,_,_,rfl,C2.of W6.rl,C2.of c6,λD hD=>?_⟩⟩;have M4:(ao rs).length=rs.length:=by simp
   refine vZ (K:=K) (a:=ra) (b:=c) (xs:=ao rs) (ys:=cs.map V.int) (by simp [Dp]) (λi σ H7=>ai H6 H7/\(∃x y,σ=[x,y])/\H7 D=some (.dK (DX (rs.take i) (bC rs cs))))
    ⟨au (ai.refl _) hD,⟨_,_,rfl⟩,aj⟩ (λi σ H7 _ q=>⟨C2.of (q.1 _ _ W6.rl),C2.of (q.1 _ _ c6)⟩) ?_ ?_
   ·rintro i x y σ H7 T hx hy ⟨s7,⟨g1,g2,rfl⟩,d7⟩ hT
    obtain⟨r,C9,rfl⟩:=bU hx;obtain⟨z,SK,rfl⟩:=eQ hy;have hi:i < rs.length:=(yV.mp C9).1;have u7:=au (o:=.tup [.ref r.1,.int z]) (ai.refl H7) hT;have D6:z=bC rs cs r.2.1:=(iu Do C9 SK).symm;have GU:r.2.1∉nms (rs.take i):=λz=>by
     obtain⟨j,hj,e⟩:=Ad z;have Tp:j < i:=by simp at hj;omega
     have:=yZ.mp Do j i (by simp;omega) (by simp;omega) Tp;apply this;rw [zY,zY];rw [zY,CJ] at e;obtain⟨_,e2⟩:=yV.mp C9;rw [e,e2]
    refine⟨T,_,rfl,C2.of aj,rfl,_,_,rfl,_,_,rfl,rfl,aX ⟨_,rfl,aB (j:=0) (.inr (C2.of (u7 _ _ (s7 _ _ (W6.rows r (yP C9)))))) rfl rfl ⟨_,rfl,_,⟨_,.inr r.2.1,u7 _ _ d7,rfl,by rw [zj];simp [DX];omega,rfl⟩,qD (s7.trans u7) hD,⟨_,_,rfl⟩,?_⟩⟩⟩;rw [aj,D6,rB GU,zi,C9];rfl
   rintro σ0 H7 ⟨s7,_,d7⟩;rw [M4,zU] at d7;have Hj:=s6.trans s7;have l7:=s7 _ _ l6;have T7:=s6.free hD;clear c6 W6;have W7:=W.same Hj;refine⟨_,rfl,_,rfl,_,rfl,_,rfl,pa,rl,D,ps,root,bu rs root,rs,bC rs cs,rfl,W7.pl,l7,⟨λr hr=>W7.rows r (yI.mp hr).1⟩,λr hr=>yE (yI.mp hr).1,hW,h8,PD,by omega,d7,λpd H8 Ps left K8 Fx p8 d8 RF DM Fi=>?_⟩;have Lf:ai H H8:=λb o e=>K8 b o (Hj b o e) λz=>by
    rw [yK.mp z,T7] at e;cases e
   have l8:=K8 _ _ l7 λz=>by rw [yK.mp z,d7] at l7;cases l7
   have W8:=W.same Lf;have M8:=Hj.free Fx;have hM:(bz (bu rs root) left).length<=60:=y7 (yY _ _) PD;clear W7 Hj l7 d7 s7 l6 s6 K8;refine⟨_,rfl,_,rfl,rl,D,bu rs root,rs,left,rfl,l8,λr hr=>W8.rows r (yI.mp hr).1,λr hr=>yE (yI.mp hr).1,by omega,d8,λml H9 s9 Gb m9=>?_⟩;have GD:=Lf.trans s9;have p9:=s9 _ _ p8;have W9:=W.same GD;refine⟨_,rfl,_,rfl,_,rfl,pd,_,rfl,p9,λts la Kb GL E7=>?_⟩;have Fq:=au (o:=.lst (ts.map V.ref)) (ai.refl H9) E7;have HG:upd H9 la (.lst (ts.map V.ref)) la=some (.lst (ts.map V.ref)):=aj;generalize upd H9 la (.lst (ts.map V.ref))=DD at Fq HG ⊢;have Np:(Dv Ps).length=Ps.length:=by simp [Dv]
   have DK:Ps.length<=16:=by
    have h1:=CP.uq ps (bA G.so) (Ps.map (·.1)) RF.nd (λA hA=>by
     obtain⟨x,hx,rfl⟩:=yD.mp hA
     exact RF.sub x hx) (λz=>by
     obtain⟨x,hx,e⟩:=yD.mp z
     exact RF.ne x hx e) RF.lam
    rw [yA] at h1;omega
   have zl:(ts.zip (Ps.map (·.1))).map (·.2)=Ps.map (·.1):=by
    rw [List.map_snd_zip];rw [yA];omega
   have zf:DA (ts.zip (Ps.map (·.1)))=ts.map V.ref:=by
    unfold DA;rw [show (λx:EV=>V.ref x.1)=V.ref ∘ Prod.fst from rfl,<- y8,List.map_fst_zip];rw [yA];omega
   have zm:∀x∈ts.zip (Ps.map (·.1)),DD x.1=some (.tup (x.2.map V.str))/\x.2.length<=8:=λx hx=>by
    obtain⟨i,hi,e⟩:=Ad hx;have Kq:i < ts.length:=by simp at hi;omega
    have ET:i < Ps.length:=by simp at hi;omega
    have e1:x=(ts[i],Ps[i].1):=by rw [<- e];simp
    have q:=GL i (DN Ps[i].1,V.int Ps[i].2) ts[i] (by simp [Dv,yR,yJ ET]) (yJ Kq);rw [gx] at q;rw [e1];exact⟨Fq _ _ q,y7 (RF.sub _ (zx ET)).length_le h8⟩
   have OJ:=GD.trans Fq;have N9:=W.same OJ;refine⟨ml,pa,la,bz (bu rs root) left,ps,root,ts.zip (Ps.map (·.1)),rfl,Fq _ _ m9,⟨λr hr=>N9.rows r (yI.mp (yI.mp hr).1).1⟩,N9.pl,by rw [HG,zf],λx hx=>(zm x hx).1,by simp;omega,λx hx=>(zm x hx).2,hM,h8,by rw [zl];exact iR hW RF DM,λtl EW tr Hi SX L0 Gt FB Dt=>?_⟩;rw [zl] at Gt Dt;clear zm zl zf;have Rh:=OJ.trans Hi;have OS:=Hi _ _ (Fq _ _ p9);clear N9 HG W9 m9 GL Kb E7 W8 l8 d8;refine⟨_,rfl,pd,_,rfl,OS,λo=>?_⟩;have Om:upd EW pd (.frz o (.dT (Dv Ps))) pd=some (.frz o (.dT (Dv Ps))):=aj;have Md:ai H (upd EW pd (.frz o (.dT (Dv Ps)))):=λb ob e=>by rw [ag (ar e M8)];exact Rh b ob e
   have nt:tl≠pd:=λz=>by rw [z,OS] at L0;cases L0
   have OD:upd EW pd (.frz o (.dT (Dv Ps))) tl=some (.lst (ao tr)):=by rw [ag nt];exact L0
   generalize upd EW pd (.frz o (.dT (Dv Ps)))=QL at Om Md OD ⊢;refine rV (a:=pd) (o:=o) (kvs:=Dv Ps) (fits (by rw [Np];omega)) (λi ys σ H4=>(∃prs:List CP.Pr,ys=CP.dn prs/\prs.map (λx=>x.2.2)=(Ps.take i).filter (λx=>decide (x.2≠0))/\CP.jt H4 prs)/\ai QL H4/\∃v,σ=[v,some (.ref pd)])
    ⟨⟨[],rfl,rfl,λx hx=>nomatch hx⟩,ai.refl _,_,rfl⟩ (λi ys σ H4 hi q=>by
     obtain⟨⟨prs,rfl,hl,_⟩,s4,_⟩:=q;refine⟨?_,s4 _ _ Om⟩;have h1:=congrArg List.length hl;rw [yA] at h1;have h2:=yY (λx:List Str×Int=>decide (x.2≠0)) (Ps.take i);rw [zF] at h2
     rw [yA];omega) ?_ ?_
   ·rintro i kv b ys σ H4 Je hb ⟨⟨prs,rfl,hl,Gs⟩,s4,g,rfl⟩
    have hx:∃x,Ps[i]?=some x/\kv=(DN x.1,V.int x.2):=by
     unfold Dv at Je;rw [yR] at Je;cases e:Ps[i]? with
     | none=>rw [e] at Je;cases Je
     | some x=>rw [e] at Je;exact⟨x,rfl,(zy Je).symm⟩
    obtain⟨x,Pn,rfl⟩:=hx;have Gr:H4 b=some (.tup (x.1.map V.str)):=by rw [<- gx];exact hb
    have hv:aL (Dv Ps) (DN x.1)=some (V.int x.2):=lC RF.nd (yP Pn);have hg:∀{H5:Hp},ai H4 H5->bp H5 pd (.ref b) (V.int x.2):=λ{H5} s5=>.inr ⟨Dv Ps,DN x.1,b,.inr ⟨o,s5 _ _ (s4 _ _ Om)⟩,rfl,by rw [gx];exact s5 _ _ Gr,hv.symm⟩;have tf:=bT (λx:List Str×Int=>decide (x.2≠0)) Ps i x Pn;refine⟨_,rfl,_,rfl,pd,.int x.2,rfl,hg (ai.refl _),rfl,_,rfl,?_⟩;have e1:(!decide (V.int x.2=V.int 0))=decide (x.2≠0):=by
     by_cases c:x.2=0
     ·rw [c];simp
     ·simp [c]
    rw [e1];refine bc (λc=>?_) (λc=>?_)
    ·refine⟨_,rfl,_,rfl,_,rfl,pd,.int x.2,rfl,hg (ai.refl _),by show 2<=sizeLine;decide,λT hT=>?_⟩
     have u4:=au (o:=.tup [.ref b,.int x.2]) (ai.refl H4) hT;refine⟨⟨prs++[(T,b,x)],by simp,by rw [yL,hl,tf,if_pos c];rfl,λy hy=>?_⟩,s4.trans u4,_,rfl⟩
     rcases yQ.mp hy with q | q
     ·exact⟨u4 _ _ (Gs y q).1,u4 _ _ (Gs y q).2⟩
     ·have e:y=(T,b,x):=by simpa using q
      subst e;exact⟨aj,u4 _ _ Gr⟩
    ·exact⟨⟨prs,rfl,by rw [tf,if_neg c,zt];exact hl,Gs⟩,s4,_,rfl⟩
   rintro ys σ FO ⟨⟨prs,rfl,hl,Gs⟩,Rg,g,rfl⟩ q hq;rw [Np,zU] at hl;have GC:=au (o:=.lst (CP.dn prs)) Rg hq;have IQ:upd FO q (.lst (CP.dn prs)) q=some (.lst (CP.dn prs)):=aj;have Gi:CP.jt (upd FO q (.lst (CP.dn prs))) prs:=λx hx=>let z:=au (o:=.lst (CP.dn prs)) (ai.refl FO) hq;⟨z _ _ (Gs x hx).1,z _ _ (Gs x hx).2⟩;generalize upd FO q (.lst (CP.dn prs))=IJ at GC IQ Gi ⊢;have hpn:prs.length<=16:=by
    have h1:=congrArg List.length hl;rw [yA] at h1;have h2:=yY (λx:List Str×Int=>decide (x.2≠0)) Ps;omega
   have DT:prs.map (·.2.2.1)=(Ps.filter λx=>decide (x.2≠0)).map (·.1):=by rw [<- hl,y8];rfl
   refine⟨q,prs,rfl,C3.of IQ,Gi,by omega,?_,λDx sl M7 Eo F0=>?_⟩
   ·rw [DT]
    exact RF.nd.sublist (zh.map _)
   have Le:=au (o:=.lst (CP.dn Dx)) GC F0;have OO:upd IJ sl (.lst (CP.dn Dx)) sl=some (.lst (CP.dn Dx)):=aj;have IF:CP.jt (upd IJ sl (.lst (CP.dn Dx))) Dx:=λx hx=>let z:=au (o:=.lst (CP.dn Dx)) (ai.refl IJ) F0;⟨z _ _ (Gi x (M7.mem_iff.mp hx)).1,z _ _ (Gi x (M7.mem_iff.mp hx)).2⟩;generalize upd IJ sl (.lst (CP.dn Dx))=Ha at Le OO IF ⊢;have CH:b8 ps root rs (bC rs cs) tr (Dx.map λx=>x.2.2):=sQ hW RF DM Fi Gt FB Dt (by rw [<- hl];exact M7.map _) (by rw [y8];exact Eo) h8;have GM:tr.length<=8:=by have:=CH.len;omega
   clear hl Gs Gi IQ;have OC:=Le _ _ OD;have Rp:∀r∈tr,dq Ha r.1 r.2:=λr hr=>Le _ _ (Md _ _ (W.rows r (CH.sub r hr)))
   refine⟨_,rfl,tl,rfl,⟨_,C3.of OC⟩,dW (xs:=ao tr) (fits (by simp;omega)) (λi ys σ H5=>ys=((tr.take i).map (λt=>V.str t.2.1))/\ai Ha H5/\∃v,σ=[v]) ⟨rfl,ai.refl _,_,rfl⟩
    (λi ys σ H5 _ p=>⟨by rw [p.1];simp;omega,C3.of (p.2.1 _ _ OC)⟩) ?_ ?_⟩
   ·rintro i y ys σ H5 hy ⟨rfl,s5,g,rfl⟩
    obtain⟨r,Dw,rfl⟩:=bU hy;exact⟨_,rfl,aB (j:=0) (.inr (C2.of (s5 _ _ (Rp r (yP Dw))))) rfl rfl ⟨(dS _ _ _ _ Dw).symm,s5,_,rfl⟩⟩
   rintro ys σ KY ⟨rfl,Ld,g,rfl⟩ c Iu;rw [take_all tr (by simp)];have em:(tr.map λt=>V.str t.2.1)=(nms tr).map V.str:=by rw [y8];rfl
   rw [em];have IL:=au (o:=.lst ((nms tr).map V.str)) Ld Iu;have KN:upd KY c (.lst ((nms tr).map V.str)) c=some (.lst ((nms tr).map V.str)):=aj;generalize upd KY c (.lst ((nms tr).map V.str))=Oi at IL KN ⊢;refine⟨c,_,rfl,C3.of KN,by simp;omega,λss l hp MV hl=>?_⟩;have Lc:=au (o:=.lst (ss.map V.str)) IL hl;have Pe:upd Oi l (.lst (ss.map V.str)) l=some (.lst (ss.map V.str)):=aj;generalize upd Oi l (.lst (ss.map V.str))=Oh at Lc Pe ⊢;refine⟨l,_,rfl,.inl ⟨C3.of Pe,λu1 Ie=>?_⟩⟩;have Mc:=au (o:=.tup (ss.map V.str)) Lc Ie;have LW:upd Oh u1 (.tup (ss.map V.str)) u1=some (.tup (ss.map V.str)):=aj;generalize upd Oh u1 (.tup (ss.map V.str))=Og at Mc LW ⊢;refine⟨_,rfl,sl,_,rfl,.inl ⟨C3.of (Mc _ _ OO),λu2 GK=>?_⟩⟩;have Lb:=au (o:=.tup (CP.dn Dx)) Mc GK;have Ot:upd Og u2 (.tup (CP.dn Dx)) u2=some (.tup (CP.dn Dx)):=aj;have JH:upd Og u2 (.tup (CP.dn Dx)) u1=some (.tup (ss.map V.str)):=by rw [ag (ar LW GK)];exact LW
   generalize upd Og u2 (.tup (CP.dn Dx))=UH at Lb Ot JH ⊢;refine⟨by show 2<=sizeLine;decide,λt ht=>?_⟩;have JO:=au (o:=.tup [.ref u1,.ref u2]) (ai.refl UH) ht;exact kq _ (Md.trans (Le.trans (Lb.trans JO))) tr ss Dx t u1 u2 CH hp MV aj (JO _ _ JH) (JO _ _ Ot) λx hx=>⟨JO _ _ (Lb _ _ (IF x hx).1),JO _ _ (Lb _ _ (IF x hx).2)⟩
end K53
namespace L2
open PySem
end L2
namespace K53
open PySem L2
theorem gX {ps:List Str}{rs tr:List T}{ss:List Str} (nd:(nms rs).Nodup) (ht:(nms tr).Nodup) (hs:∀t∈tr,t∈rs) (hp:ss.Perm (nms tr)):(aD rs ss).Perm tr:=by
 have inj:∀{l:List T},(l.map (·.2.1)).Nodup->l.Nodup:=λ{l} h=>by
  refine (Ae.mp h).imp λh e=>h (by rw [e])
 refine (A5 (inj (nd.sublist (zh.map _))) (inj ht)).mpr λt=>?_;rw [yI,decide_eq_true_iff,hp.mem_iff];constructor
 ·rintro⟨h1,h2⟩
  obtain⟨u,hu,e⟩:=yD.mp h2;have GK:=hs u hu;obtain⟨i,hi,rfl⟩:=Ad h1;obtain⟨j,hj,e2⟩:=Ad GK;have DE:i=j:=by
   have hp:=yZ.mp nd
   rcases Nat.lt_trichotomy i j with c | c | c
   ·exact absurd (by rw [zY,zY,e2];exact e.symm) (hp i j (by simpa using hi) (by simpa using hj) c)
   ·exact c
   ·exact absurd (by rw [zY,zY,e2];exact e) (hp j i (by simpa using hj) (by simpa using hi) c)
  subst DE;rw [e2];exact hu
 ·intro h
  exact⟨hs t h,yE h⟩
theorem b8.nms {ps:List Str}{root:Str}{rs:List T}{cost:Str->Int}{tr:List T}{Qs:List (List Str×Int)} (h:b8 ps root rs cost tr Qs) (nd:(K53.nms rs).Nodup):(K53.nms tr).Nodup:=by
 have h1:(tr.map (·.2.2.2)).Nodup:=by
  have:=(zb.mp h.tree.nd).2
  rwa [Rw,y8] at this
 refine Ae.mpr ((Ae.mp h1).imp_of_mem λ{a b} ha hb Di e=>Di ?_);have:=mF nd a.2 (yE (h.sub a ha)) b.2 (yE (h.sub b hb)) e;rw [this]
variable {P:Program}{w:World}{K:zz7}{mg:Str->Option zz9}{base:Heap}{f:Addr}{fd:FuncData}
theorem sN {ps:List Str}{root:Str}{rs:List T}{cost:Str->Int}{tr:List T}{Qs:List (List Str×Int)}{ss:List Str} (h:b8 ps root rs cost tr Qs) (G:Good ps (rs.map (·.2))) (rt:root∈ps) (hp:ss.Perm (nms tr)) (hs:PyProof.Rows.sortedS ss=true) :
  ss.Pairwise Du/\cx root ps (aD rs ss)/\∀x∈ss,x∈nms rs:=by
 have Do:(nms rs).Nodup:=bA G.names;have GN:=h.nms Do;have so:ss.Pairwise Du:=eO hs (hp.nodup_iff.mpr GN);have DU:∀x∈ss,x∈nms rs:=λx hx=>by
  obtain⟨t,ht,e⟩:=yD.mp (hp.mem_iff.mp hx);exact yD.mpr ⟨t,h.sub t ht,e⟩
 have TO:gu root ps rs ss:=⟨so,DU,h.tree.perm ((gX (ps:=ps) Do GN h.sub hp).map _)⟩
 have W:=TO.treeW G rt;refine⟨so,⟨W.len2 (bA G.so),W.goals,λz=>?_,W.isTr⟩,DU⟩;obtain⟨t,ht,e⟩:=yD.mp z;have:=W.tr.nd;rw [y8] at this;exact (zb.mp this).1 (e ▸ yE (f:=λt:T=>t.2.2.2) ht)
theorem rE {root:Str}{ps:List Str}{rs more:List (Addr×Row)} (t:Tree root ps (more.map (·.2))) (hr:root∈ps) (G:GR ps (rs++more)):more.length + 1<=ps.length:=by
 have:=dZ t.nd (m:=ps) λx hx=>by
  rcases yF.mp hx with rfl | h
  ·exact hr
  ·rw [y8] at h
   obtain⟨r,h1,rfl⟩:=yD.mp h;exact (G.ok r (yM _ h1)).2.2.1
 simpa using this
def lM:Sp:=λvs H Q _=>∃(p:Addr),vs=[.ref p]/\Dn H p /\
 ∀(v u pa ra:Addr) (root:Str) (ps:List Str) (rs:List (Addr×Row)) (H':Hp),Dn H' p->H' v=some (.tup [.ref u,.str root])->bF H' u pa ra ps rs->Good ps (rs.map (·.2))->ps.length<=5->rs.length<=12->Kp [p] H H'->root∈ps->Q (.ref v) H'
abbrev Uv:List Str:=["_law_pot_here","_law_places_here","_law_root","_law_rows","_law_taken","_law_k"]
theorem fM:aM Uv ["_law_pot_here"] (aC (top 43)):=⟨rfl,rfl,rfl,by decide +kernel,rfl,by decide +kernel,by decide +kernel⟩
theorem sC (F:Dk K "_law_small_web" "_law_small_web" (top 43) f fd) (B:Bl mg) (Ft:Fn P w K mg base 1 "_law_take" ["_law_pot_here","_law_many"] dD) (Fp:Fn P w K mg base 3 "_law_places" ["_law_pot_here","_law_most"] kE)
  (Fg:Fn P w K mg base 3 "_law_grown" ["_law_pot_here","_law_places_here","_law_root","_law_rows","_law_taken"] lX) (Fm:Fn P w K mg base 3 "_law_more" ["_law_pot_here","_law_places_here","_law_rows","_law_taken","_law_many"] mx) :
  aG P w K mg base Dl 4 f fd ["_law_pot_here"] lM:=by
 refine F.ok fM (λvs H Q E h=>?_) (λ_ _ _ _ H vs Q E hr h=>?_)
 ·obtain⟨p,rfl,_⟩:=h
  rfl
 ·obtain⟨p,rfl,hp,k⟩:=h
  have DI:aN 1 _:=hr.mono (by decide)
  refine⟨_,am (aH (i:=1) fM.nd rfl (Or.inl rfl) (ax Fp hr (aa (pv 0) (aa ak ae))))
   (am (aH (i:=2) fM.nd rfl (Or.inl rfl) (aA aI (pv 1) (ax Ft DI (aa (pv 0) (aa (ay bj rfl B.len zg (aa (pv 1) ae)) ae))) (λ_ _=>rfl)))
   (am (v5 (i:=3) (j:=4) rfl fM.nd rfl rfl (by decide) rfl rfl (aa (bS ae) (aa (bS ae) ae)) rfl)
   (am (cv zG rfl (eN rfl B.range (aa (ax Ft DI (aa (pv 0) (aa ak ae))) ae)) (bw (i:=5) fM.nd rfl (Or.inl rfl))
    (av (bL (ax Fg hr (aa (pv 0) (aa (pv 1) (aa (pv 2) (aa (pv 3) (aa (pv 4) ae)))))))))
   (am (bL (ax Fm hr (aa (pv 0) (aa (pv 1) (aa (pv 3) (aa (pv 4) (aa (ax Ft DI (aa (pv 0) (aa (aE cF ak (ay bj rfl B.len zg (aa (pv 3) ae))) ae))) ae)))))))
   (av (aJ (cV (aa (cV (aa (bV da rfl B.tuple bO (aa (pv 1) ae)) (aa (bV da rfl B.tuple bO (aa (ay oU rfl B.sorted dY (aa (pv 3) ae)) ae)) ae))) (aa (pv 2) ae))))))))),?_⟩
  refine⟨_,rfl,p,5,rfl,hp,by decide,by decide,λpl ps H1 P1 l1 hlH Ll OQ p1 p5 K1=>?_⟩;have EL:pl≠p:=gn P1 l1;have Hk:=bA OQ;have C6:(ps.map V.str).length=ps.length:=by simp
  refine⟨_,rfl,_,rfl,_,rfl,pl,_,rfl,.inl (C3.of l1),p,_,rfl,P1,by omega,by omega,λi H2 i0 i1 P2 e2=>?_⟩;rw [C6] at i1;have l2:H2 pl=some (.lst (ps.map V.str)):=by rw [e2 pl EL];exact l1
  have K2:Kp [p] H H2:=K1.trans λb o e nb=>by rw [e2 b (by simpa using nb)];exact e
  have D1:i.toNat < ps.length:=by omega
  refine aB (j:=i.toNat) (.inl (C3.of l2)) (by omega) (strAt D1) ?_;have De:ps[i.toNat]∈ps:=zx D1;generalize ps[i.toNat]=root at De ⊢;refine⟨ze _,λrw IW=>?_⟩;refine⟨ze _,λtk Eg=>⟨_,_,rfl,?_⟩⟩;have EK:rw≠p:=λz=>by obtain⟨o,e⟩:=P2.some;rw [<- z,IW] at e;cases e
  have GI:pl≠rw:=ar l2 IW;have GH:rw≠tk:=λz=>by rw [z,aj] at Eg;cases Eg
  have Et:tk≠p:=λz=>by obtain⟨o,e⟩:=P2.some;rw [z,ag EK.symm,e] at Eg;cases Eg
  have DZ:pl≠tk:=λz=>by rw [<- z,ag GI,l2] at Eg;cases Eg
  have K3:Kp [p] H (upd (upd H2 rw (.lst [])) tk (.lst [])):=(K2.new IW).new Eg;have e3:∀b o,H2 b=some o->upd (upd H2 rw (.lst [])) tk (.lst []) b=some o:=((Kp.refl [] H2).new IW |>.new Eg) |> λq b o e=>q b o e (by simp)
  have R3:bq (upd (upd H2 rw (.lst [])) tk (.lst [])) rw tk []:=⟨by rw [ag GH,aj];rfl,by rw [aj];rfl,by simp⟩
  have P3:=P2.keep (e3 p);have l3:=e3 _ _ l2
  have M3:H rw=none:=K2.free (λb hb=>by
   have e:b=p:=by simpa using hb
   subst e;exact P2.some) IW
  have MR:H tk=none:=(K2.new (o:=.lst []) IW).free (λb hb=>by
   have e:b=p:=by simpa using hb
   subst e;rw [ag EK.symm];exact P2.some) Eg
  generalize upd (upd H2 rw (.lst [])) tk (.lst [])=H3 at K3 R3 P3 l3 ⊢;have UD:Kp [p,rw,tk] H H3:=K3.mono (by simp);refine⟨_,rfl,p,3,rfl,P3,by decide,by decide,λc H4 c0 c1 P4 e4=>⟨_,rfl,by omega,by omega,?_⟩⟩
  have R4:bq H4 rw tk []:=R3.kp (P:=[p]) (λb o e nb=>by rw [e4 b (by simpa using nb)];exact e) (λb hb=>by
   have e:b=p:=by simpa using hb
   subst e;exact P3.lst) (by simpa using EK) (by simpa using Et)
  have l4:H4 pl=some (.lst (ps.map V.str)):=by rw [e4 pl EL];exact l3
  have K4:Kp [p,rw,tk] H H4:=UD.trans λb o e nb=>by rw [e4 b (by simp at nb;exact nb.1)];exact e
  refine fW (λi σ H5=>(∃v,σ=[some (.ref p),some (.ref pl),some (.str root),some (.ref rw),some (.ref tk),v])/\Dn H5 p/\H5 pl=some (.lst (ps.map V.str))/\Kp [p,rw,tk] H H5/\∃rs,bq H5 rw tk rs/\GR ps rs/\rs.length<=4 * i)
   ⟨⟨_,rfl⟩,P4,l4,K4,[],R4,⟨Br,by simp⟩,by simp⟩ ?_ ?_
  ·rintro i σ H5 hi ⟨⟨v,rfl⟩,P5,l5,K5,rs,R5,G5,z5⟩
   refine⟨_,rfl,_,rfl,_,rfl,_,rfl,_,rfl,p,pl,rw,tk,root,ps,rs,rfl,P5,l5,De,Hk,Ll,by omega,R5,G5,by omega,EK,Et,GH,λq more ss H6 P6 R6 G6 m7 K6 q6 so6 pm6 QW=>?_⟩;have:=rE QW De G6;exact⟨⟨_,rfl⟩,P6,K6 _ _ l5 (by simp [EL,GI,DZ]),K5.trans K6,rs++more,R6,G6,by rw [zc];omega⟩
  rintro σ H6 ⟨⟨v,rfl⟩,P6,l6,K6,rs,R6,G6,z6⟩;have z8:rs.length<=8:=by omega
  have MF:(ao rs).length=rs.length:=by simp
  refine⟨_,rfl,_,rfl,_,rfl,_,rfl,_,rfl,_,rfl,rw,_,rfl,.inl (C3.of R6.rl),_,_,rfl,rfl,p,_,rfl,P6,by rw [MF];omega,by rw [MF];omega,λmn H8 Sn Sm P8 e8=>?_⟩;rw [MF] at Sm
  have R8:bq H8 rw tk rs:=R6.kp (P:=[p]) (λb o e nb=>by rw [e8 b (by simpa using nb)];exact e) (λb hb=>by
   have e:b=p:=by simpa using hb
   subst e;exact P6.lst) (by simpa using EK) (by simpa using Et)
  have l8:H8 pl=some (.lst (ps.map V.str)):=by rw [e8 pl EL];exact l6
  have K8:Kp [p,rw,tk] H H8:=K6.trans λb o e nb=>by rw [e8 b (by simp at nb;exact nb.1)];exact e
  refine⟨p,pl,rw,tk,_,ps,rs,rfl,P8,l8,Hk,by omega,R8,G6,by omega,Sn,by omega,EK,Et,GH,GI,DZ,λmore H9 P9 R9 G9 z9 K9=>?_⟩;have J8:(rs++more).length<=12:=by rw [zc];omega
  clear z9;have l9:H9 pl=some (.lst (ps.map V.str)):=K9 _ _ l8 (by simp [EL,GI,DZ])
  have KH:Kp [p] H H9:=λb o e nb=>(K8.trans K9) b o e (by
   simp at nb ⊢
   exact⟨nb,ar e M3,ar e MR⟩)
  generalize rs++more=Rl at R9 G9 J8;refine⟨_,rfl,pl,_,rfl,.inl ⟨C3.of l9,λpa Ez=>?_⟩⟩;have G7:=R9.new (o:=.tup (ps.map V.str)) Ez;have KW:=KH.new (o:=.tup (ps.map V.str)) Ez;have KR:Dn (upd H9 pa (.tup (ps.map V.str))) p:=P9.keep λo e=>by rw [ag (ar e Ez)];exact e
  have HG:upd H9 pa (.tup (ps.map V.str)) pa=some (.tup (ps.map V.str)):=aj;generalize upd H9 pa (.tup (ps.map V.str))=DD at G7 KW KR HG ⊢;refine⟨_,rfl,rw,Rl.map λr=>(r.1,r.2.1),rfl,.inl (C3.of (by rw [kX];exact G7.rl)),λy hy=>?_,by rw [yA];omega,?_,λRk q DT Ja hq=>?_⟩
  ·obtain⟨x,hx,rfl⟩:=yD.mp hy
   exact⟨_,G7.rows x hx⟩
  ·rw [y8];exact G9.nd
  obtain⟨Fs,Jb,Jm⟩:=jY (λr:Addr×Row=>(r.1,r.2.1)) Rk _ DT;subst Jm;rw [kX];have s1:=au (o:=.lst (ao Fs)) (ai.refl DD) hq;refine⟨q,_,rfl,.inl ⟨C3.of aj,λra Ke=>?_⟩⟩;have s2:=au (o:=.tup (ao Fs)) s1 Ke;refine⟨by show 2<=sizeLine;decide,λu hu=>?_⟩;have s3:=au (o:=.tup [.ref pa,.ref ra]) s2 hu;refine⟨_,rfl,by show 2<=sizeLine;decide,λv hv=>?_⟩;have s4:=au (o:=.tup [.ref u,.str root]) s3 hv;have Pp:ra≠u:=λz=>by rw [<- z,aj] at hu;cases hu
  have SS:u≠v:=λz=>by rw [<- z,aj] at hv;cases hv
  have SU:ra≠v:=λz=>by rw [<- z,ag Pp,aj] at hv;cases hv
  refine k v u pa ra root ps Fs _ (KR.keep λo e=>s4 _ _ e) aj ⟨?_,s4 _ _ HG,?_,λx hx=>s4 _ _ (G7.rows x (Jb.mem_iff.mp hx))⟩ ⟨?_,Ll,OQ,λr hr=>?_,?_,by omega,?_⟩ (by omega) (by rw [Jb.length_eq];exact J8) (KW.of_same s4) De
  ·rw [ag SS,aj]
  ·rw [ag SU,ag Pp,aj]
  ·intro z;rw [z] at p1;simp at p1
  ·obtain⟨x,hx,rfl⟩:=yD.mp hr
   exact G9.ok x (Jb.mem_iff.mp hx)
  ·rw [y8] at Ja ⊢;exact Ja
  ·rw [yA,Jb.length_eq];omega
theorem rW (K:zz7) {X:Cx} (h:X.K=K:=by rfl):Dz X (binaryOp .Add) (m4 K):=by subst h;exact vf
theorem sh (K:zz7) {X:Cx} (h:X.K=K:=by rfl):aZ X (.builtin "sorted") (λxs H Q=>∃(p:Addr) (ss:List Str),xs=[.ref p]/\C2 K H p (ss.map V.str)/\ss.length < 64/\∀(Dg:List Str) (q:Addr),Dg.Perm ss->PyProof.Rows.sortedS Dg=true->H q=none->Q (.ref q) (upd H q (.lst (Dg.map V.str)))):=by subst h;exact oV
abbrev Ch:=Addr×List Str
abbrev aR (cs:List Ch):List V:=cs.map λc=>V.ref c.1
def b5 (H:Hp) (cs:List Ch):Prop:=∀c∈cs,H c.1=some (.tup (c.2.map V.str))
theorem b5.same {H H':Hp}{cs:List Ch} (h:b5 H cs) (s:ai H H'):b5 H' cs:=λc hc=>s _ _ (h c hc)
theorem fF {cs:List Ch}{i:Nat}{x:V} (h:(aR cs)[i]?=some x):∃r,cs[i]?=some r/\x=.ref r.1:=by
 unfold aR at h;rw [yR] at h;cases e:cs[i]? with
 | none=>rw [e] at h;cases h
 | some r=>rw [e] at h;exact⟨r,rfl,(zy h).symm⟩
abbrev bQ (rs:List T) (x:Str):List Str:=(rs.filter λr=>decide (r.2.2.2=x)).map (·.2.1)
def EE (rs:List T) (O:List Str):List (List Str):=O.foldl (λC5 x=>C5.flatMap λc=>(bQ rs x).map λt=>c++[t]) [[]]
theorem gc (rs:List T) (O:List Str) (x:Str):EE rs (O++[x])=(EE rs O).flatMap λc=>(bQ rs x).map λt=>c++[t]:=by
 unfold EE;rw [CG];rfl
theorem snoc_ind {P:List Str->Prop} (h0:P []) (hs:∀O x,P O->P (O++[x])):∀O,P O:=λO=>by
 have h:∀l:List Str,P l.reverse:=by
  intro l
  induction l with
  | nil=>exact h0
  | cons a t ih=>rw [List.reverse_cons];exact hs _ _ ih
 have:=h O.reverse
 rwa [List.reverse_reverse] at this
theorem kJ {α β:Type} (l:List α) (f:α->List β) (n:Nat) (h:∀x∈l,(f x).length=n):(l.flatMap f).length=l.length * n:=by
 induction l with
 | nil=>simp
 | cons a t ih =>
  rw [List.flatMap_cons,zc,h a yG,ih λx hx=>h x (yT _ hx),zk,Nat.succ_mul];omega
theorem sO (rs:List T) (n:Nat) (hn:rs.length<=n):∀O,(EE rs O).length<=n ^ O.length:=by
 refine snoc_ind (yO _) λO x ih=>?_;rw [gc,kJ _ _ (bQ rs x).length (λx _=>by simp),zc,A1,Nat.pow_succ];exact Nat.mul_le_mul ih (by rw [yA];exact y7 (yY _ _) hn)
theorem lN (rs:List T):∀O,∀c∈EE rs O,c.length=O.length/\∀x∈c,x∈nms rs:=by
 refine snoc_ind (λc hc=>?_) λO x ih c hc=>?_
 ·have e:c=[]:=by simpa [EE] using hc
  subst e;exact⟨rfl,by simp⟩
 ·rw [gc] at hc
  obtain⟨d,hd,hc⟩:=List.mem_flatMap.mp hc;obtain⟨t,ht,rfl⟩:=yD.mp hc;obtain⟨h1,h2⟩:=ih d hd;refine⟨by simp [h1],λq hq=>?_⟩
  rcases yQ.mp hq with z | z
  ·exact h2 q z
  ·obtain⟨r,hr,e⟩:=yD.mp ht
   rw [yK.mp z,<- e];exact yE (yI.mp hr).1
theorem uM (rs:List T) (f:Str->T):∀O,(∀x∈O,f x∈rs/\(f x).2.2.2=x)->(O.map λx=>(f x).2.1)∈EE rs O:=by
 refine snoc_ind (λ_=>by simp [EE]) λO x ih h=>?_;rw [gc,yL];refine List.mem_flatMap.mpr ⟨_,ih λy hy=>h y (yW _ hy),yD.mpr ⟨(f x).2.1,?_,rfl⟩⟩;obtain⟨h1,h2⟩:=h x (by simp);exact yE (yI.mpr ⟨h1,decide_eq_true h2⟩)
abbrev others (ps:List Str) (root:Str):List Str:=ps.filter λx=>!decide (x=root)
def ke:Sp:=λvs H Q _=>∃(v pa ra:Addr) (root:Str) (ps:List Str) (rs:List T),vs=[.ref v,.str root]/\bF H v pa ra ps rs/\ps.length<=5/\rs.length<=12/\root∈ps /\
 ∀(fo:Addr) (cs:List Ch) (H':Hp),ai H H'->H' fo=some (.lst (aR cs))->b5 H' cs->cs.length<=20736->(∀c∈cs,∃d∈EE rs (others ps root),c.2.Perm d/\PyProof.Rows.sortedS c.2=true)->(∀d∈EE rs (others ps root),∃c∈cs,c.2.Perm d/\PyProof.Rows.sortedS c.2=true)->Q (.ref fo) H'
abbrev Uu:List Str:=["_law_web","_law_root","_law_found","_law_place","_law_into","_law_longer","_law_one"]
theorem eL:aM Uu ["_law_web","_law_root"] (aC (top 44)):=⟨rfl,rfl,rfl,by decide +kernel,rfl,by decide +kernel,by decide +kernel⟩
theorem pM (F:Dk K "_law_choices" "_law_choices" (top 44) f fd) (B:Bl mg):aG P w K mg base Dl 1 f fd ["_law_web","_law_root"] ke:=by
 refine F.ok eL (λvs H Q E h=>?_) (λ_ _ _ _ H vs Q E hr h=>?_)
 ·obtain⟨v,pa,ra,root,ps,rs,rfl,_⟩:=h
  rfl
 ·obtain⟨v,pa,ra,root,ps,rs,rfl,W,p5,Lj,De,k⟩:=h
  refine⟨_,am (aH (i:=2) eL.nd rfl (Or.inl rfl) (bS (aa (cV ae) ae)))
   (am (cv zG rfl (bJ (aA aI (pv 0) ak (λ_ _=>rfl))) (bw (i:=3) eL.nd rfl (Or.inr rfl))
    (av (bg (aQ cW (pv 3) (pv 1) (aS _))
     (am (dX (i:=4) (N:=["_law_row","_law_place"]) (ix:=[none,some 3]) eL.nd rfl (Or.inl rfl) ⟨rfl,rfl,rfl,by decide⟩ rfl (bJ (aA aI (pv 0) ak (λ_ _=>rfl))) (λ_ _ _ _=>aK 0 (by decide) rfl rfl)
      (λ_ _ _ _=>b7 (aQ eY (aA (bR K) (pv 0) ak (λ_ _=>rfl)) (pv 1) (aS _))) (λ_ _ _ _=>aA (bR K) (pv 0) ak (λ_ _=>rfl)))
     (am (aH (i:=5) eL.nd rfl (Or.inl rfl) (bS ae))
     (am (cv zG rfl (bE (pv 2)) (bw (i:=6) eL.nd rfl (Or.inr rfl))
      (av (bL (cK zI PySem.F.slot_list_extend PySem.F.type_list_extend rA (pv 5) (aa (aY (N:=["_law_tie","_law_one"]) (ix:=[none,some 6]) ⟨rfl,rfl,rfl,by decide⟩ rfl (bE (pv 4)) (λ_ _ _ _=>aK 0 (by decide) rfl rfl) (λ_ _ _ _=>bo) (λ_ _ _ _=>aE (rW K) (pv 1) (cV (aa (pv 0) ae)))) ae)))))
     (av (aH (i:=2) eL.nd rfl (Or.inl rfl) (pv 5)))))) be)))
   (av (aJ (aY (N:=["_law_one"]) (ix:=[none]) ⟨rfl,rfl,rfl,by decide⟩ rfl (bE (pv 2)) (λ_ _ _ _=>aK 0 (by decide) rfl rfl) (λ_ _ _ _=>bo)
    (λ_ _ _ _=>bV (jZ K) rfl B.tuple bO (aa (ay (sh K) rfl B.sorted dY (aa (pv 0) ae)) ae)))))),?_⟩
  have o4:(others ps root).length<=4:=by
   have q:(others ps root).length < ps.length:=BC.mpr ⟨root,De,by simp⟩;omega
  refine⟨ze _,λd0 Kx=>?_⟩;have s1:=au (o:=.tup []) (ai.refl H) Kx;have d1:upd H d0 (.tup []) d0=some (.tup []):=aj;generalize upd H d0 (.tup [])=H1 at s1 d1 ⊢;refine⟨by show 1<=sizeLine;decide,λf0 Tv=>?_⟩;have Mb:=au (o:=.lst [.ref d0]) (ai.refl H1) Tv;have s2:=s1.trans Mb;have d2:=Mb _ _ d1;have f2:upd H1 f0 (.lst [.ref d0]) f0=some (.lst (aR [(d0,[])])):=aj;generalize upd H1 f0 (.lst [.ref d0])=H2 at s2 Mb d2 f2 ⊢;have W2:=W.same s2;refine⟨_,rfl,aB (j:=0) (.inr (C2.of W2.tp)) rfl rfl ⟨pa,rfl,⟨_,C2.of W2.pl⟩,?_⟩⟩;have Mm:∀i,(others (ps.take i) root).length<=(others ps root).length:=λi=>((CA _ _).filter _).length_le
  have Qu:∀{i:Nat}{found:List Ch},found.map (·.2)=EE rs (others (ps.take i) root)->found.length<=12 ^ (others (ps.take i) root).length/\∀d∈found,d.2.length=(others (ps.take i) root).length:=λ{i found} e=>⟨by
   have:=sO rs 12 Lj (others (ps.take i) root)
   rw [<- e,yA] at this;exact this,λd hd=>(lN rs _ d.2 (by rw [<- e];exact yE hd)).1⟩
  refine eA (K:=K) (a:=pa) (xs:=ps.map V.str) (λi σ Hx=>∃(fo:Addr) (found:List Ch) (g3 g4 g5 g6:Option V),σ=[some (.ref v),some (.str root),some (.ref fo),g3,g4,g5,g6]/\ai H Hx/\Hx fo=some (.lst (aR found))/\found.map (·.2)=EE rs (others (ps.take i) root)/\b5 Hx found)
   ⟨f0,[(d0,[])],_,_,_,_,rfl,s2,f2,rfl,λd hd=>?_⟩ (λi σ Hx _ z=>by obtain⟨_,_,_,_,_,_,_,z,_⟩:=z;exact C2.of (z _ _ W.pl)) ?_ ?_
  ·have e:d=(d0,[]):=by simpa using hd
   subst e;exact d2
  ·rintro i x σ Hx hx ⟨fo,found,g3,g4,g5,g6,rfl,sx,fx,fm,fd⟩
   obtain⟨z,hz,rfl⟩:=eR hx;have Lm:=bT (λx:Str=>!decide (x=root)) ps i z hz;refine⟨_,rfl,_,rfl,rfl,_,rfl,?_⟩;have e:(!decide (V.str z=V.str root))=!decide (z=root):=by simp
   rw [e];refine bc (λc=>?_) (λc=>⟨fo,found,_,_,_,_,rfl,sx,fx,by rw [fm];show _=EE rs ((ps.take (i + 1)).filter _);rw [Lm,if_neg c,zt],fd⟩);rw [if_pos c] at Lm;have hO:=Mm (i + 1);have hO2:(others (ps.take (i + 1)) root).length=(others (ps.take i) root).length + 1:=by
    show ((ps.take (i + 1)).filter _).length=_;rw [Lm,zc];rfl
   obtain⟨Ud,ED⟩:=Qu fm;have fl:found.length<=12 ^ 3:=y7 Ud (A7 (by decide) (by omega));have Wx:=W.same sx
   refine⟨_,rfl,aB (j:=1) (.inr (C2.of Wx.tp)) rfl rfl ⟨ra,rfl,⟨_,C2.of Wx.rl⟩,ik (xs:=ao rs) (fits (by simp;omega)) (λm ys σ H3=>ys=(bQ (rs.take m) z).map V.str/\H3=Hx/\∃g,σ=[g,some (.str z)]) ⟨rfl,rfl,_,rfl⟩
    (λm ys σ H3 hm p=>⟨by rw [p.1,yA,yA];exact y7 (yY _ _) (by simp at hm ⊢;omega),by rw [p.2.1];exact C2.of Wx.rl⟩) ?_ ?_⟩⟩
   ·rintro m y ys σ H3 hy ⟨rfl,rfl,g,rfl⟩
    obtain⟨r,Dw,rfl⟩:=bU hy;have rr:=Wx.rows r (yP Dw);have tf:bQ (rs.take (m + 1)) z=((rs.take m).filter (λr:T=>decide (r.2.2.2=z))++if decide (r.2.2.2=z)=true then [r] else []).map (·.2.1):=by
     show List.map _ _=_;rw [bT (λr:T=>decide (r.2.2.2=z)) rs m r Dw]
    refine⟨_,rfl,aB (j:=2) (.inr (C2.of rr)) rfl rfl ⟨_,rfl,rfl,_,rfl,?_⟩⟩;have e:decide (V.str r.2.2.2=V.str z)=decide (r.2.2.2=z):=by simp
    rw [e];refine bc (λc=>⟨_,rfl,aB (j:=0) (.inr (C2.of rr)) rfl rfl ⟨?_,rfl,_,rfl⟩⟩) (λc=>⟨?_,rfl,_,rfl⟩)
    ·rw [tf,if_pos c,yL,yL];rfl
    ·rw [tf,if_neg c,zt]
   rintro ys σ H3 ⟨rfl,rfl,g,rfl⟩ il D1;rw [take_all rs (by simp)];have Ko:(bQ rs z).length<=12:=by rw [yA];exact y7 (yY _ _) Lj
   have s4:=au (o:=.lst ((bQ rs z).map V.str)) (ai.refl H3) D1;have i4:upd H3 il (.lst ((bQ rs z).map V.str)) il=some (.lst ((bQ rs z).map V.str)):=aj;have f4:=s4 _ _ fx;have Qy:=fd.same s4;have L1:=sx.trans s4;generalize upd H3 il (.lst ((bQ rs z).map V.str))=H4 at s4 i4 f4 Qy L1 ⊢;refine⟨ze _,λlo Hu=>?_⟩;have Ss:H lo=none:=L1.free Hu;have RK:fo≠lo:=ar f4 Hu;have Mu:il≠lo:=ar i4 Hu;have s5:=au (o:=.lst []) (ai.refl H4) Hu;have l5:upd H4 lo (.lst []) lo=some (.lst (aR [])):=aj;generalize upd H4 lo (.lst [])=H5 at s5 l5 ⊢;have f5:=s5 _ _ f4;refine⟨_,rfl,fo,rfl,⟨_,C3.of f5⟩,?_⟩
   refine ip (K:=K) (a:=fo) (xs:=aR found) (λm σ Hy=>∃(lg:List Ch) (g6:Option V),σ=[some (.ref v),some (.str root),some (.ref fo),some (.str z),some (.ref il),some (.ref lo),g6]/\ai H Hy/\Hy fo=some (.lst (aR found))/\Hy il=some (.lst ((bQ rs z).map V.str))/\b5 Hy found/\Hy lo=some (.lst (aR lg))/\b5 Hy lg /\
     lg.map (·.2)=((found.map (·.2)).take m).flatMap λc=>(bQ rs z).map λt=>c++[t])
    ⟨[],_,rfl,L1.trans s5,f5,s5 _ _ i4,Qy.same s5,l5,(λx hx=>nomatch hx),by simp⟩ (λm σ Hy _ z=>by obtain⟨_,_,_,_,z,_⟩:=z;exact C3.of z) ?_ ?_
   ·rintro m x σ Hy hx ⟨lg,g6,rfl,sy,fy,iy,NX,ly,MB,lm⟩
    obtain⟨d,hd,rfl⟩:=fF hx;have Jh:=yP hd;have Gb:m < found.length:=(yV.mp hd).1;have dl:=ED d Jh;have lgl:lg.length<=12 ^ 3 * 12:=by
     have h1:=congrArg List.length lm;rw [yA,kJ _ _ (bQ rs z).length (λx _=>by simp)] at h1;rw [h1];exact Nat.mul_le_mul (y7 (by rw [zF,yA];exact Nat.min_le_right _ _) fl) Ko
    refine⟨_,rfl,.inl ⟨rfl,_,C3.of ly⟩,_,rfl,il,rfl,⟨_,C3.of iy⟩,?_⟩;refine dW (K:=K) (a:=il) (xs:=(bQ rs z).map V.str) (fits (by simp only [yA];exact y7 (yY _ _) (by omega))) (λt ys σ Hz=>(∃nw:List Ch,ys=aR nw/\b5 Hz nw/\nw.map (·.2)=((bQ rs z).take t).map λt=>d.2++[t])/\ai Hy Hz/\∃g,σ=[g,some (.ref d.1)])
     ⟨⟨[],rfl,(λx hx=>nomatch hx),by simp⟩,ai.refl _,_,rfl⟩ (λt ys σ Hz ht q=>by
      obtain⟨⟨nw,rfl,_,e⟩,s,_⟩:=q;have:=congrArg List.length e;simp only [yA,zF] at this
      exact⟨by rw [yA];omega,C3.of (s _ _ iy)⟩) ?_ ?_
    ·rintro t x ys σ Hz hx ⟨⟨nw,rfl,hN,e⟩,sz,g,rfl⟩
     obtain⟨y,hy,rfl⟩:=eR hx;have dz:=sz _ _ (NX d Jh);have put:∀(q:Addr) (Hw:Hp),ai Hz Hw->Hw q=some (.tup ((d.2++[y]).map V.str))->(∃IR:List Ch,aR nw++[V.ref q]=aR IR/\b5 Hw IR/\IR.map (·.2)=((bQ rs z).take (t + 1)).map λt=>d.2++[t]):=λq Hw sw hq =>
      ⟨nw++[(q,d.2++[y])],by simp,λx hx=>by
       rcases yQ.mp hx with y | y
       ·exact sw _ _ (hN x y)
       ·rw [yK.mp y];exact hq,by rw [yL,e,dS _ _ _ _ hy];rfl⟩
     refine⟨_,rfl,_,rfl,by show 1<=sizeLine;decide,λn hn=>?_⟩;have s4:=au (o:=.tup [.str y]) (ai.refl Hz) hn;have n4:upd Hz n (.tup [.str y]) n=some (.tup [.str y]):=aj;generalize upd Hz n (.tup [.str y])=H4 at s4 n4 ⊢;refine⟨d.1,n,d.2.map V.str,[.str y],rfl,rfl,C2.of (s4 _ _ dz),C2.of n4,by simp;rw [zj];omega,λe0=>?_,(λe0=>nomatch e0),λp hp=>?_⟩
     ·have e1:d.2=[]:=by simpa using e0
      exact⟨put n _ s4 (by rw [e1];exact n4),sz.trans s4,_,rfl⟩
     ·have s5:=au (o:=.tup (d.2.map V.str++[.str y])) s4 hp
      exact⟨put p _ s5 (by rw [aj,yL];rfl),sz.trans s5,_,rfl⟩
    ·rintro ys σ Hz ⟨⟨nw,rfl,hN,e⟩,sz,g,rfl⟩ q hq
     rw [Bp (by simp)] at e;have nl:nw.length=(bQ rs z).length:=by have:=congrArg List.length e;simpa using this
     have s4:=au (o:=.lst (aR nw)) sz hq;have q4:upd Hz q (.lst (aR nw)) q=some (.lst (aR nw)):=aj;have N4:=hN.same (au (o:=.lst (aR nw)) (ai.refl Hz) hq);generalize upd Hz q (.lst (aR nw))=H4 at s4 q4 N4 ⊢;have l4:=s4 _ _ ly;refine⟨lo,q,_,_,rfl,rfl,l4,q4,by simp only [zc,yA];rw [zj];omega,?_⟩;have keep:∀cs:List Ch,b5 H4 cs->b5 (upd H4 lo (.lst (aR lg++aR nw))) cs:=λcs hc x hx=>by
      rw [ag (tup_ne (hc x hx) l4)];exact hc x hx
     refine⟨lg++nw,_,rfl,ai.upd0 (sy.trans s4) Ss,by rw [ag RK];exact s4 _ _ fy,by rw [ag Mu];exact s4 _ _ iy,keep _ (NX.same s4),by rw [aj,aR,aR,aR,yL],λx hx=>?_,?_⟩
     ·rcases yQ.mp hx with y | y
      ·exact keep _ (MB.same s4) x y
      ·exact keep _ N4 x y
     ·rw [yL,lm,e,zi,yR,hd,List.flatMap_append];simp
   ·rintro σ Hy ⟨lg,g6,rfl,sy,fy,iy,NX,ly,MB,lm⟩
    rw [Bp (by simp)] at lm;refine⟨_,rfl,lo,lg,_,_,_,_,rfl,sy,ly,?_,MB⟩;rw [lm,fm];show _=EE rs ((ps.take (i + 1)).filter _);rw [Lm,gc]
  ·rintro σ Hx ⟨fo,found,g3,g4,g5,g6,rfl,sx,fx,fm,fd⟩
   rw [take_all ps (by simp)] at fm;have NU:found.length<=20736/\∀d∈found,d.2.length<=4:=by
    have e:ps.take ps.length=ps:=zU;obtain⟨h1,h2⟩:=Qu (i:=ps.length) (found:=found) (by rw [e];exact fm);rw [e] at h1 h2;exact⟨y7 h1 (y7 (A7 (by decide) o4) (by decide)),λd hd=>by have:=h2 d hd;omega⟩
   obtain⟨fl,ED⟩:=NU
   refine⟨_,rfl,fo,rfl,⟨_,C3.of fx⟩,dW (xs:=aR found) (by rw [yA,zj];omega) (λt ys σ Hz=>(∃nw:List Ch,ys=aR nw/\b5 Hz nw/\nw.length=t/\(∀c∈nw,∃d∈EE rs (others ps root),c.2.Perm d/\PyProof.Rows.sortedS c.2=true)/\∀d∈(found.map (·.2)).take t,∃c∈nw,c.2.Perm d/\PyProof.Rows.sortedS c.2=true)/\ai Hx Hz/\∃g,σ=[g])
    ⟨⟨[],rfl,(λx hx=>nomatch hx),rfl,(λx hx=>nomatch hx),by simp⟩,ai.refl _,_,rfl⟩ (λt ys σ Hz ht q=>by
     obtain⟨⟨nw,rfl,_,rfl,_⟩,s,_⟩:=q
     exact⟨by rw [yA];exact yO _,C3.of (s _ _ fx)⟩) ?_ ?_⟩
   ·rintro t x ys σ Hz hx ⟨⟨nw,rfl,hN,rfl,h1,h2⟩,sz,g,rfl⟩
    obtain⟨d,hd,rfl⟩:=fF hx;have Jh:=yP hd;have:=ED d Jh;refine⟨_,rfl,d.1,d.2,rfl,C2.of (sz _ _ (fd d Jh)),by omega,λss q hp Eo hq=>?_⟩;have s4:=au (o:=.lst (ss.map V.str)) (ai.refl Hz) hq;have q4:upd Hz q (.lst (ss.map V.str)) q=some (.lst (ss.map V.str)):=aj;generalize upd Hz q (.lst (ss.map V.str))=H4 at s4 q4 ⊢;refine⟨q,_,rfl,.inl ⟨C3.of q4,λl hl=>?_⟩⟩;have s5:=au (o:=.tup (ss.map V.str)) s4 hl;have Tx:d.2∈EE rs (others ps root):=by rw [<- fm];exact yE Jh
    refine⟨⟨nw++[(l,ss)],by simp,λx hx=>?_,by simp,λc hc=>?_,λd' Ir=>?_⟩,sz.trans s5,_,rfl⟩
    ·rcases yQ.mp hx with y | y
     ·exact s5 _ _ (hN x y)
     ·rw [yK.mp y];exact aj
    ·rcases yQ.mp hc with y | y
     ·exact h1 c y
     ·rw [yK.mp y];exact⟨d.2,Tx,hp,Eo⟩
    ·rw [zi,yR,hd] at Ir
     rcases yQ.mp Ir with y | y
     ·obtain⟨c,hc,q⟩:=h2 d' y
      exact⟨c,yW _ hc,q⟩
     ·have e:d'=d.2:=by simpa using y
      rw [e];exact⟨(l,ss),by simp,hp,Eo⟩
   ·rintro ys σ Hz ⟨⟨nw,rfl,hN,hl,h1,h2⟩,sz,g,rfl⟩ q hq
    rw [Bp (by simp)] at h2;have s4:=au (o:=.lst (aR nw)) (ai.refl Hz) hq;refine k q nw _ (sx.trans (sz.trans s4)) aj (hN.same s4) (by rw [hl,yA];exact fl) h1 λd hd=>h2 d (by rw [fm];exact hd)
end K53
namespace L2
open PySem PySem.Spec PyProof.Rows
section
variable {prog:Program}{w:World}{A:Around}{E:zz9->zz8->Prop}{s:zz8}
theorem va {c t:Addr}{i:Nat}{C1:Array zz9}{v:zz9}{Q:zz9->zz8->Prop} (hi:s.heap.IsListIter c t i) (ht:s.heap.IsList t C1) (hv:C1[i]?=some v)
  (k:∀G,G.IsListIter c t (i + 1)->Heap.SameBut c s.heap G->Q v { s with heap:=G }):wpAny (model prog w) A (Builtin.SmallTypes.nextOf (.ref c)) Q E s:=wpAny_nextOf_list_item hi ht hv k
theorem vc {z TI TO i1 i2 l1 l2:Addr}{k:Nat}{xs ys:Array zz9}{x y a b:zz9}{Q:Option zz9->zz8->Prop} (D:ZipApart z TI TO i1 i2 l1 l2) (hz:IsZip s.heap z TI TO .none) (DJ:IsPair s.heap TI (.ref i1) (.ref i2)) (DO:IsPair s.heap TO a b)
  (h1:s.heap.IsTupleIter i1 l1 k) (h2:s.heap.IsListIter i2 l2 k) (t1:s.heap.IsTuple l1 xs) (t2:s.heap.IsList l2 ys) (hx:xs[k]?=some x) (hy:ys[k]?=some y)
  (q:∀G,IsZip G z TI TO (rawInt s.heap.objs.size)->IsPair G TO x y->G.IsTupleIter i1 l1 (k + 1)->G.IsListIter i2 l2 (k + 1)->IsPair G s.heap.objs.size x y->G.objs.size=s.heap.objs.size + 1 ->
   (∀c o,c≠z->c≠TO->c≠i1->c≠i2->s.heap.get? c=some o->G.get? c=some o)->Q (some (.ref s.heap.objs.size)) { s with heap:=G }):wpAny (model prog w) A (pyNext (.ref z)) Q E s:=by
 have ty:s.TypeIs (.ref z) "zip":=⟨_,hz,rfl⟩
 unfold pyNext;refine yz (AN (zH (name:=Str.ofString "__next__") ty Bk (zC Bk ty F.entry_zip_next ?_ (CC _))));refine (show wpAny _ _ (field (.ref z) 2 >>= _) _ _ _ from yz (zN hz rfl (x:=.bool false) rfl ?_));refine (show wpAny _ _ (field (.ref z) 3 >>= _) _ _ _ from yz (zN hz rfl (x:=.ref TI) rfl (yz (zE DJ rfl ?_))));refine (show wpAny _ _ (Builtin.SmallTypes.ownedTupleIsFree (.ref z) >>= _) _ _ _ from yz ?_);unfold Builtin.SmallTypes.ownedTupleIsFree;refine yz (zN hz rfl (x:=.none) rfl (yC ?_));simp only [if_true];refine yz (AV (yz (zN hz rfl (x:=.ref TO) rfl (yz (Ao hz (by simp) λg1 z1 s1=>?_)))));have JF:IsZip g1 z TI TO .ellipsis:=z1;refine yz ?_;simp only [CU,C0,BG,Co];refine yz (yz (B3 (show wpAny _ _ (Builtin.SmallTypes.nextOf (.ref i1) >>= _) _ _ _ from yz (iB (h1.extBut s1.extBut D.i1z) (t1.at λo e=>s1.extBut _ o D.l1z e) hx λg2 j2 s2=>yC ?_))));have o2:IsPair g2 TO a b:=s2.extBut _ _ D.TOi1 (s1.extBut _ _ D.TOz DO);refine yz (zE o2 rfl (yz (Bw o2 λg3 o3 s3=>?_)));have Mo:IsPair g3 TO x b:=o3
 refine yz (AB (yC (yz (yz (B3 (show wpAny _ _ (Builtin.SmallTypes.nextOf (.ref i2) >>= _) _ _ _ from yz (va (((h2.extBut s1.extBut D.i2z).extBut s2.extBut D.i12.symm).extBut s3.extBut D.TOi2.symm)
  (((t2.at λo e=>s1.extBut _ o D.l2z e).at λo e=>s2.extBut _ o D.l2i1 e).at λo e=>s3.extBut _ o D.l2TO e) hy λg4 j4 s4=>yC ?_)))))))
 have o4:IsPair g4 TO x b:=s4.extBut _ _ D.TOi2 Mo;refine yz (zE o4 rfl (yz (Bw o4 λg5 o5 s5=>?_)));have JT:IsPair g5 TO x y:=o5;refine yz (AB (yC (yC (yz (zE JT rfl (yz (Cn ?_)))))));have sz:g5.objs.size=s.heap.objs.size:=by rw [s5.1,s4.1,s3.1,s2.1,s1.1]
 have z5:IsZip g5 z TI TO .ellipsis:=s5.extBut _ _ D.TOz.symm (s4.extBut _ _ D.i2z.symm (s3.extBut _ _ D.TOz.symm (s2.extBut _ _ D.i1z.symm JF)));have kp:∀c o,c≠z->c≠TO->c≠i1->c≠i2->s.heap.get? c=some o->g5.get? c=some o:=λc o n1 n2 n3 n4 e=>s5.extBut _ _ n2 (s4.extBut _ _ n4 (s3.extBut _ _ n2 (s2.extBut _ _ n3 (s1.extBut _ _ n1 e))));have j1:g5.IsTupleIter i1 l1 (k + 1):=((j2.extBut s3.extBut D.TOi1.symm).extBut s4.extBut D.i12).extBut s5.extBut D.TOi1.symm;have MC:g5.IsListIter i2 l2 (k + 1):=j4.extBut s5.extBut D.TOi2.symm;have lz:z < g5.objs.size:=yH z5;refine (show wpAny _ _ (Builtin.SmallTypes.ownedTupleHandOut (.ref z) (.ref g5.objs.size) >>= _) _ _ _ from yz ?_);unfold Builtin.SmallTypes.ownedTupleHandOut;have z6:IsZip (g5.push { cls:=.type "tuple",data:=.seq #[x,y] }) z TI TO .ellipsis:=yB _ z5;refine yz (Ao z6 (by simp) λg7 z7 s7=>?_);have LS:IsZip g7 z TI TO (rawInt g5.objs.size):=z7;refine Ao LS (by simp) λg8 z8 s8=>?_;have JE:IsZip g8 z TI TO (rawInt g5.objs.size):=z8;have up:∀c o,c≠z->g5.get? c=some o->g8.get? c=some o:=λc o n e=>s8.extBut _ _ n (s7.extBut _ _ n (yB _ e));have pr:IsPair g8 g5.objs.size x y:=s8.extBut _ _ (AI lz) (s7.extBut _ _ (AI lz) (yN _ rfl));have JI:g8.objs.size=g5.objs.size + 1:=by rw [s8.1,s7.1,zo]
 rw [sz] at JE pr JI;refine yC ⟨_,rfl,yC (show Q (some (.ref g5.objs.size)) _ from ?_)⟩;rw [sz];exact q g8 JE (up _ _ D.TOz JT) (j1.at λo e=>up _ o D.i1z e) (MC.at λo e=>up _ o D.i2z e) pr JI λc o n1 n2 n3 n4 e=>up c o n1 (kp c o n1 n2 n3 n4 e)
theorem si (l1 l2:Addr) (xs ys:Array zz9) :
  Meets (Builtin.«zip.__new__» ⟨[.type "zip",.ref l1,.ref l2],[]⟩) (λ_ R s=>s.heap.IsTuple l1 xs/\s.heap.IsList l2 ys /\
   ∃G:Heap,G=(((((s.heap.push { cls:=.type "tuple_iterator",data:=.fields #[.ref l1,.int 0 0] }).push { cls:=.type "list_iterator",data:=.fields #[.ref l2,.int 0 0] }).push { cls:=.type "tuple",data:=.seq #[.ref s.heap.objs.size,.ref (s.heap.objs.size + 1)] }).push { cls:=.type "tuple",data:=.seq #[.none,.none] }).push
    { cls:=.type "zip",data:=.fields #[.none,.bool false,.bool false,.ref (s.heap.objs.size + 2),.ref (s.heap.objs.size + 3)] })/\R (.ok (.ret (.ref (s.heap.objs.size + 4)))) { s with heap:=G }) :=
 .of_wp λprog w A R s h=>by
  obtain⟨hp,g,d,tk,os⟩:=s;obtain⟨a1,a2,G,e,h⟩:=h;have El:=sub_zip;have b1:Heap.IsTuple (Shared.heap ⟨hp,g,d,tk,os⟩) l1 xs:=a1;have b2:Heap.IsList (Shared.heap ⟨hp.push { cls:=.type "tuple_iterator",data:=.fields #[.ref l1,.int 0 0] },g,d,tk,os⟩) l2 ys:=a2.at λo e=>yB _ e
  wp_walk using AE b1,AL b2
  subst e;refine⟨_,rfl,?_⟩;simp only [zo];exact h
theorem ut {l1 l2:Addr}{xs ys:Array zz9}{Q:zz9->zz8->Prop} (t1:s.heap.IsTuple l1 xs) (t2:s.heap.IsList l2 ys)
  (q:∀G,IsZip G (s.heap.objs.size + 4) (s.heap.objs.size + 2) (s.heap.objs.size + 3) .none->IsPair G (s.heap.objs.size + 2) (.ref s.heap.objs.size) (.ref (s.heap.objs.size + 1))->IsPair G (s.heap.objs.size + 3) .none .none ->
   G.IsTupleIter s.heap.objs.size l1 0->G.IsListIter (s.heap.objs.size + 1) l2 0->G.objs.size=s.heap.objs.size + 5->(∀c o,s.heap.get? c=some o->G.get? c=some o)->Q (.ref (s.heap.objs.size + 4)) { s with heap:=G }) :
  wpAny (model prog w) A (call (.type "zip") [.ref l1,.ref l2]) Q E s:=by
 refine callType_new F.called_zip (by decide) (F.typeCall_zip_2 _ _) (F.newCall_zip_2 _ _) (λobj=>F.args_object_init_3 obj _ _) F.entry_zip_new (si l1 l2 xs ys) ⟨t1,t2,_,rfl,?_⟩;have at':∀(h:Heap) (o:Obj) (n:Nat),h.objs.size=n->o.isFreed=false->(h.push o).get? n=some o:=λh o n e f=>by rw [<- e];exact yN _ f
 have kp:∀{h:Heap}{o:Obj}{c:Addr}{v:Obj},h.get? c=some v->(h.push o).get? c=some v:=λe=>yB _ e;have g5:=at' ((((s.heap.push { cls:=.type "tuple_iterator",data:=.fields #[.ref l1,.int 0 0] }).push { cls:=.type "list_iterator",data:=.fields #[.ref l2,.int 0 0] }).push { cls:=.type "tuple",data:=.seq #[.ref s.heap.objs.size,.ref (s.heap.objs.size + 1)] }).push { cls:=.type "tuple",data:=.seq #[.none,.none] })
  { cls:=.type "zip",data:=.fields #[.none,.bool false,.bool false,.ref (s.heap.objs.size + 2),.ref (s.heap.objs.size + 3)] } (s.heap.objs.size + 4) (by simp only [zo]) rfl
 have g4:=at' (((s.heap.push { cls:=.type "tuple_iterator",data:=.fields #[.ref l1,.int 0 0] }).push { cls:=.type "list_iterator",data:=.fields #[.ref l2,.int 0 0] }).push { cls:=.type "tuple",data:=.seq #[.ref s.heap.objs.size,.ref (s.heap.objs.size + 1)] }) { cls:=.type "tuple",data:=.seq #[.none,.none] } (s.heap.objs.size + 3) (by simp only [zo]) rfl;have g3:=at' ((s.heap.push { cls:=.type "tuple_iterator",data:=.fields #[.ref l1,.int 0 0] }).push { cls:=.type "list_iterator",data:=.fields #[.ref l2,.int 0 0] }) { cls:=.type "tuple",data:=.seq #[.ref s.heap.objs.size,.ref (s.heap.objs.size + 1)] } (s.heap.objs.size + 2) (by simp only [zo]) rfl;have g2:=at' (s.heap.push { cls:=.type "tuple_iterator",data:=.fields #[.ref l1,.int 0 0] }) { cls:=.type "list_iterator",data:=.fields #[.ref l2,.int 0 0] } (s.heap.objs.size + 1) (by simp only [zo]) rfl;have g1:=at' s.heap { cls:=.type "tuple_iterator",data:=.fields #[.ref l1,.int 0 0] } s.heap.objs.size rfl rfl;exact⟨⟨_,g5,rfl⟩,q _ g5 (kp (kp g3)) (kp g4) ⟨_,kp (kp (kp (kp g1))),rfl,rfl⟩ ⟨_,kp (kp (kp g2)),rfl,rfl⟩ (by simp only [zo]) λc o e=>kp (kp (kp (kp (kp e))))⟩
end
def Itm (K:zz7) (a b:Addr):It :=
 ⟨λi H=>∃xs ys x y,C2 K H a xs/\C3 K H b ys/\xs[i]?=some x/\ys[i]?=some y,
  λi H v H'=>∃T x y,v=.ref T/\H T=none/\H'=upd H T (.tup [x,y])/\(∀xs,C2 K H a xs->xs[i]?=some x)/\∀ys,C3 K H b ys->ys[i]?=some y,
  λi H=>∃xs,C2 K H a xs/\xs.length<=i⟩
def yb (z TI TO i1 i2 l1 l2:Addr) (i:Nat) (h:Heap):Prop:=IsZip h z TI TO .none/\IsPair h TI (.ref i1) (.ref i2)/\(∃a b,IsPair h TO a b)/\h.IsTupleIter i1 l1 i/\h.IsListIter i2 l2 i
theorem uO {P:Program}{w:World}{K:zz7}{elts:List Expr}{x1}{pos:Pos} (z TI TO i1 i2 l1 l2:Addr) (D:ZipApart z TI TO i1 i2 l1 l2) :
  Turn P w K (.Tuple elts x1 pos) (Itm K l1 l2) [z,TI,TO,i1,i2] z (yb z TI TO i1 i2 l1 l2) where
 mem:=by simp
 obj:=λi h st b hb=>by
  obtain⟨hz,DJ,⟨a,c,DO⟩,⟨o1,e1,c1,d1⟩,⟨o2,e2,c2,d2⟩⟩:=st;simp only [yF,zK,or_false] at hb
  rcases hb with rfl | rfl | rfl | rfl | rfl
  ·exact⟨_,hz,λv q=>by cases q⟩
  ·exact⟨_,DJ,λv q=>by cases q⟩
  ·exact⟨_,DO,λv q=>by cases q⟩
  ·exact⟨_,e1,λv q=>by rw [d1] at q;cases q⟩
  ·exact⟨_,e2,λv q=>by rw [d2] at q;cases q⟩
 keep:=λi h h' st k=>by
  obtain⟨hz,DJ,⟨a,c,DO⟩,h1,h2⟩:=st;exact⟨k z (by simp) _ hz,k TI (by simp) _ DJ,⟨a,c,k TO (by simp) _ DO⟩,h1.at λo e=>k i1 (by simp) o e,h2.at λo e=>k i2 (by simp) o e⟩
 item:=by
  intro X hP hw hK hc i pins s σ H E I hf st hg;subst hP hw hK;obtain⟨xs,ys,x,y,Fv,EN,hx,hy⟩:=hg;obtain⟨hz,DJ,⟨a,c,DO⟩,h1,h2⟩:=id st;obtain⟨D0,GE,p1,IT⟩:=I.tuple Fv;obtain⟨DC,JP,p2,J9⟩:=I.list EN;obtain⟨u1,Ie,Mg⟩:=GE.get hx;obtain⟨u2,GK,Mf⟩:=JP.get hy;refine vc D hz DJ DO h1 h2 (show s.heap.IsTuple l1 D0.toArray from p1) p2.isList (x:=u1) (y:=u2) (by simpa using Ie) (by simpa using GK) λh' a1 a2 a3 a4 a5 a6 a7=>?_;refine⟨_,rfl,wpAny_letOwnedTupleGo_zip (s:={ s with heap:=h' }) a1 λGZ z2 sb=>?_⟩;have Fo:=sb.extBut;generalize hT:s.heap.objs.size=T at *;have lt:∀{b:Addr}{o:Obj},s.heap.get? b=some o->b≠T:=λ{b o} e=>by rw [<- hT];exact y9 (yH e)
  have fresh:H T=none:=by rw [<- hT];exact I.hok.fresh (yO _)
  have Di:∀b∈[z,TI,TO,i1,i2],b≠T:=λb hb=>by
   obtain⟨o1,e1,_⟩:=h1;obtain⟨o2,e2,_⟩:=h2;simp only [yF,zK,or_false] at hb
   rcases hb with rfl | rfl | rfl | rfl | rfl
   ·exact lt hz
   ·exact lt DJ
   ·exact lt DO
   ·exact lt e1
   ·exact lt e2
  have I0:Inv X pins σ (upd H T (.tup [x,y])) { s with heap:=s.heap.push { cls:=.type "tuple",data:=.seq #[u1,u2] },toks:=s.toks }:=by
   subst hT;exact I.laid (t':=s.toks) (λb o q=>yB _ q) (yO _) ⟨by show 2<=sizeLine;decide,[u1,u2],.cons Mg (.cons Mf .nil),_,yN _ rfl,rfl,0,rfl⟩
  have up:∀b o,b∉[z,TI,TO,i1,i2]->(s.heap.push { cls:=.type "tuple",data:=.seq #[u1,u2] }).get? b=some o->GZ.get? b=some o:=λb o hb e=>by
   simp only [yF,zK,or_false,not_or] at hb
   rcases Heap.get?_push_cases e with ⟨e1,e2⟩ | e1
   ·subst e2
    rw [e1,hT];exact Fo _ _ (Di z (by simp)).symm a5
   ·exact Fo _ _ hb.1 (a7 b o hb.1 hb.2.2.1 hb.2.2.2.1 hb.2.2.2.2 e1)
  have I2:Inv X pins σ (upd H T (.tup [x,y])) { s with heap:=GZ,toks:=s.toks }:=Inv.turnedS (s:={ s with heap:=s.heap.push { cls:=.type "tuple",data:=.seq #[u1,u2] },toks:=s.toks }) (t':=s.toks) (ch:=[z,TI,TO,i1,i2]) I0 up λb hb=>by
   obtain⟨f0,f1⟩:=hf b hb;exact⟨by rw [ag (Di b hb)];exact f0,f1⟩
  exact⟨.ref T,upd H T (.tup [x,y]),I2,rfl,⟨T,x,y,rfl,fresh,rfl,λws hw=>by rw [I.tuple_inj hw Fv];exact hx,λws hw=>by rw [I.list_inj hw EN];exact hy⟩,
   ⟨z2,Fo _ _ D.TIz (a7 _ _ D.TIz D.TITO D.TIi1 D.TIi2 DJ),⟨_,_,Fo _ _ D.TOz a2⟩,a3.at λo e=>Fo _ _ D.i1z e,a4.at λo e=>Fo _ _ D.i2z e⟩,λb hb=>by rw [ag (Di b hb)];exact (hf b hb).1⟩
 done:=by
  intro X hP hw hK hc i pins s σ H E I hf st hg;subst hP hw hK;obtain⟨xs,Fv,hx⟩:=hg;obtain⟨hz,DJ,⟨a,c,DO⟩,h1,h2⟩:=id st;obtain⟨D0,GE,p1,IT⟩:=I.tuple Fv;have Io:=GE.length;refine mj (I.ok.hd hc) D hz DJ DO h1 (show s.heap.IsTuple l1 D0.toArray from p1) (by simp;omega) λh' hk=>⟨rfl,I.turnedS (t':=s.toks) (ch:=[z,TI,TO,i1,i2]) (λb o hb e=>?_) hf⟩
  simp only [yF,zK,or_false,not_or] at hb;exact hk b o hb.1 hb.2.2.1 hb.2.2.2.1 hb.2.2.2.2 e
 self:=λ_ _ _ _ _ st h=>B4 st.1 h
section
variable {X:Cx}
def SI (K:zz7) (ta:TA):TI:=λσ H R=>ta σ H λvs H1=>∃a b xs ys,vs=[.ref a,.ref b]/\C2 K H1 a xs/\C3 K H1 b ys/\R (Itm K a b) H1
theorem wB {a b:Expr}{elts:List Expr}{x1}{Fj:Pos}{ta:TA}{p pos:Pos} (hg:Gl X "zip") (hm:X.mg "zip"=none) (ha:PA X [a,b] ta) (hs:starEach [a,b] X.env=[(false,eval a X.env),(false,eval b X.env)]:=by rfl) (Ea:starEach [b] X.env=[(false,eval b X.env)]:=by rfl) :
  PI X (.Tuple elts x1 Fj) (.Call (.Name "zip" p) [a,b] [] pos) (SI X.K ta):=by
 intro pins s σ H R I h;refine Call_ (dE I hg hm boot_zip (Av (C4 (ha pos pins s σ H _ I h) λus s1 ⟨vs,H1,I1,r1,q1⟩=>?_) (by rw [hs,Ea]) (by rw [Ea];rfl)));obtain⟨a',b',xs,ys,rfl,Fv,EN,q⟩:=q1;obtain⟨u1,u2,rfl,ra,rb⟩:=vals2 r1;cases ra;cases rb;obtain⟨D0,GE,p1,IT⟩:=I1.tuple Fv;obtain⟨DC,JP,p2,J9⟩:=I1.list EN;have l1:a' < s1.heap.objs.size:=by obtain⟨o,e,_⟩:=p1;exact yH e
 have l2:b' < s1.heap.objs.size:=by obtain⟨o,n,e,_⟩:=p2;exact yH e
 refine ut (show s1.heap.IsTuple a' D0.toArray from p1) p2.isList λh' hz DJ DO Kq ET hsz hk=>?_;refine B4 hz ?_;refine⟨_,[s1.heap.objs.size + 4,s1.heap.objs.size + 2,s1.heap.objs.size + 3,s1.heap.objs.size,s1.heap.objs.size + 1],_,_,H1,rfl,I1.kept (t':=s1.toks) hk,uO _ _ _ _ _ _ _ (zipApart_new l1 l2),⟨hz,DJ,⟨_,_,DO⟩,Kq,ET⟩,λb hb=>?_,q⟩;have Im:s1.heap.objs.size<=b:=by
  simp only [yF,zK,or_false] at hb
  rcases hb with rfl | rfl | rfl | rfl | rfl
  ·exact AC _ _
  ·exact AC _ _
  ·exact AC _ _
  ·exact yO _
  ·exact AC _ _
 exact I1.fpOk Im (I1.hok.fresh Im)
end
section
theorem vt {K:zz7}{g:TG}{tt:TT}{te:TE}{σ':St}{fin:List V->Hp->Prop}{H1:Hp}{a b:Addr}{xs ys:List V} (Lx:xs.length<=ys.length) (hn:min xs.length ys.length < sizeLine) (Pv:Nat->List V->St->Hp->Prop) (h0:Pv 0 [] σ' H1)
  (hl:∀i zs σ H,i<=min xs.length ys.length->Pv i zs σ H->zs.length<=i/\C2 K H a xs/\C3 K H b ys)
  (hs:∀i x y zs σ H T,xs[i]?=some x->ys[i]?=some y->Pv i zs σ H->H T=none->g (.ref T) σ (upd H T (.tup [x,y])) λσ2 H2=>tt σ2 H2 λb H3=>if b=true then te σ2 H3 (λv H4=>Pv (i + 1) (zs++[v]) σ2 H4) else Pv (i + 1) zs σ2 H3)
  (hd:∀zs σ H,Pv (min xs.length ys.length) zs σ H->fin zs H):EJ (Itm K a b) g tt te σ' fin H1:=by
 refine⟨λi m zs σ H=>m=min xs.length ys.length - i/\i<=min xs.length ys.length/\Pv i zs σ H,⟨min xs.length ys.length,by simp,ze _,h0⟩,?_⟩;rintro i m zs σ H ⟨rfl,hi,p⟩;obtain⟨q0,q1,q2⟩:=hl i zs σ H hi p
 by_cases Dh:i < min xs.length ys.length
 ·have h1:i < xs.length:=by omega
  have h2:i < ys.length:=by omega
  refine .inr ⟨⟨xs,ys,xs[i],ys[i],q1,q2,by simp [h1],by simp [h2]⟩,by omega,λJr σ2 H2=>Pv (i + 1) Jr σ2 H2,λJr σ2 H2 q=>⟨min xs.length ys.length - (i + 1),by omega,rfl,Dh,q⟩,λv H' y=>?_⟩;obtain⟨T,x,y,rfl,hT,rfl,e1,e2⟩:=y;exact hs i x y zs σ H T (e1 xs q1) (e2 ys q2) p hT
 ·have e:i=min xs.length ys.length:=by omega
  subst e;exact .inl ⟨⟨xs,q1,by omega⟩,by omega,hd zs σ H p⟩
end
end L2
namespace L2
open PySem
theorem uB {K:zz7}{g:TG}{tt:TT}{te:TE}{σ':St}{fin:List V->Hp->Prop}{H1:Hp}{a b:Addr}{xs ys:List V} (Lx:xs.length<=ys.length) (hn:min xs.length ys.length < sizeLine) (Pv:Nat->List V->St->Hp->Prop) (h0:Pv 0 [] σ' H1)
  (hl:∀i zs σ H,i<=min xs.length ys.length->Pv i zs σ H->zs.length<=i/\C2 K H a xs/\C2 K H b ys)
  (hs:∀i x y zs σ H T,xs[i]?=some x->ys[i]?=some y->Pv i zs σ H->H T=none->g (.ref T) σ (upd H T (.tup [x,y])) λσ2 H2=>tt σ2 H2 λb H3=>if b=true then te σ2 H3 (λv H4=>Pv (i + 1) (zs++[v]) σ2 H4) else Pv (i + 1) zs σ2 H3)
  (hd:∀zs σ H,Pv (min xs.length ys.length) zs σ H->fin zs H):EJ (LQ K a b) g tt te σ' fin H1:=by
 refine⟨λi m zs σ H=>m=min xs.length ys.length - i/\i<=min xs.length ys.length/\Pv i zs σ H,⟨min xs.length ys.length,by simp,ze _,h0⟩,?_⟩;rintro i m zs σ H ⟨rfl,hi,p⟩;obtain⟨q0,q1,q2⟩:=hl i zs σ H hi p
 by_cases Dh:i < min xs.length ys.length
 ·have h1:i < xs.length:=by omega
  have h2:i < ys.length:=by omega
  refine .inr ⟨⟨xs,ys,xs[i],ys[i],q1,q2,by simp [h1],by simp [h2]⟩,by omega,λJr σ2 H2=>Pv (i + 1) Jr σ2 H2,λJr σ2 H2 q=>⟨min xs.length ys.length - (i + 1),by omega,rfl,Dh,q⟩,λv H' y=>?_⟩;obtain⟨T,x,y,rfl,hT,rfl,e1,e2⟩:=y;exact hs i x y zs σ H T (e1 xs q1) (e2 ys q2) p hT
 ·have e:i=min xs.length ys.length:=by omega
  subst e;exact .inl ⟨⟨xs,q1,by omega⟩,by omega,hd zs σ H p⟩
end L2
namespace K53
open PySem L2
def bx (rs:List T) (cs:List Int) (ss:List Str):Int:=((aD rs ss).map λr=>bC rs cs r.2.1).sum
variable {P:Program}{w:World}{K:zz7}{mg:Str->Option zz9}{base:Heap}{f:Addr}{fd:FuncData}
abbrev Ut:List Str:=["_law_web","_law_costs_here","_law_tree"]
theorem n0:aM Ut ["_law_web","_law_costs_here","_law_tree"] (aC (top 45)):=⟨rfl,rfl,rfl,by decide +kernel,rfl,by decide +kernel,by decide +kernel⟩
def iI:Sp:=λvs H Q _=>∃(v c th pa ra:Addr) (ps:List Str) (rs:List T) (cs:List Int) (ss:List Str),vs=[.ref v,.ref c,.ref th]/\bF H v pa ra ps rs/\(nms rs).Nodup/\rs.length<=60/\H c=some (.tup (cs.map V.int))/\cs.length=rs.length/\H th=some (.tup (ss.map V.str)) /\
 ∀H':Hp,ai H H'->Q (.int (bx rs cs ss)) H'
theorem tP (F:Dk K "_law_cost_of" "_law_cost_of" (top 45) f fd) (B:Bl mg):aG P w K mg base Dl 1 f fd ["_law_web","_law_costs_here","_law_tree"] iI:=by
 refine F.ok n0 (λvs H Q E h=>?_) (λ_ _ _ _ H vs Q E hr h=>?_)
 ·obtain⟨v,c,th,pa,ra,ps,rs,cs,ss,rfl,_⟩:=h
  rfl
 ·obtain⟨v,c,th,pa,ra,ps,rs,cs,ss,rfl,W,Do,FL,hc,Dp,E1,k⟩:=h
  refine⟨_,av (aJ (ay (jV rfl) rfl B.sum mX (aa (aY (N:=["_law_row","_law_cost_here","_law_tree"]) (ix:=[none,none,some 2]) ⟨rfl,rfl,rfl,by decide⟩ rfl (nh rfl B.zip (aa (aA aI (pv 0) ak (λ_ _=>rfl)) (aa (pv 1) ae)))
   (λ_ _ _ _=>gi K rfl (n:=2) (bH (aK 0 (by decide) rfl rfl) (bH (aK 1 (by decide) rfl rfl) d6))) (λ_ _ _ _=>b7 (aQ (lP K) (aA (bR K) (pv 0) ak (λ_ _=>rfl)) (pv 2) (by with_unfolding_all rfl))) (λ_ _ _ _=>pv 1)) ae))),?_⟩
  refine⟨_,rfl,aB (j:=1) (.inr (C2.of W.tp)) rfl rfl ⟨_,rfl,ra,c,_,_,rfl,C2.of W.rl,C2.of hc,?_⟩⟩;have DL:min (ao rs).length (cs.map V.int).length=rs.length:=by simp [Dp]
  refine uB (K:=K) (a:=ra) (b:=c) (xs:=ao rs) (ys:=cs.map V.int) (by simp [Dp]) (by rw [DL,zj];omega) (λi zs σ H4=>zs=((aD (rs.take i) ss).map λr=>bC rs cs r.2.1).map V.int/\ai H H4/\∃x1 x2,σ=[x1,x2,some (.ref th)])
   ⟨rfl,ai.refl _,_,_,rfl⟩ (λi zs σ H4 hi p=>by
    rw [DL] at hi
    exact⟨by rw [p.1,yA,yA];exact y7 (yY _ _) (by rw [zF];omega),C2.of (p.2.1 _ _ W.rl),C2.of (p.2.1 _ _ hc)⟩) ?_ ?_
  ·rintro i x y zs σ H4 U hx hy ⟨rfl,s4,x1,x2,rfl⟩ hU
   obtain⟨r,Dw,rfl⟩:=bU hx;obtain⟨z,J6,rfl⟩:=eQ hy;have s5:=au (o:=.tup [.ref r.1,.int z]) s4 hU;have u5:upd H4 U (.tup [.ref r.1,.int z]) U=some (.tup [.ref r.1,.int z]):=aj;generalize upd H4 U (.tup [.ref r.1,.int z])=H5 at s5 u5 ⊢;have rr:=s5 _ _ (W.rows r (yP Dw));have tf:aD (rs.take (i + 1)) ss=aD (rs.take i) ss++if decide (r.2.1∈ss)=true then [r] else []:=bT (λr:T=>decide (r.2.1∈ss)) rs i r Dw;refine⟨U,_,rfl,C2.of u5,rfl,_,_,rfl,_,_,rfl,rfl,?_⟩;refine⟨_,rfl,aB (j:=0) (.inr (C2.of rr)) rfl rfl ⟨_,rfl,th,_,rfl,.inr (C2.of (s5 _ _ E1)),rfl,cA _,_,rfl,?_⟩⟩;rw [cD];show if decide (r.2.1∈ss)=true then _ else _;refine bc (λcc=>⟨_,rfl,?_,s5,_,_,rfl⟩) (λcc=>⟨?_,s5,_,_,rfl⟩)
   ·rw [tf,if_pos cc,yL,yL,<- iu Do Dw J6];rfl
   ·rw [tf,if_neg cc,zt]
  rintro zs σ H4 ⟨rfl,s4,x1,x2,rfl⟩ q hq;rw [DL,zU];refine⟨q,_,rfl,.inl (C3.of aj),k _ (au s4 hq)⟩
def lE:Sp:=λvs H Q _=>∃(v c th pa ra:Addr) (ps:List Str) (rs:List T) (cs:List Int) (ss:List Str),vs=[.ref v,.ref c,.ref th]/\bF H v pa ra ps rs/\(nms rs).Nodup/\rs.length<=60/\H c=some (.lst (cs.map V.int))/\cs.length=rs.length/\H th=some (.tup (ss.map V.str)) /\
 ∀H':Hp,ai H H'->Q (.int (bx rs cs ss)) H'
theorem tV (F:Dk K "_law_cost_of" "_law_cost_of" (top 45) f fd) (B:Bl mg):aG P w K mg base Dl 1 f fd ["_law_web","_law_costs_here","_law_tree"] lE:=by
 refine F.ok n0 (λvs H Q E h=>?_) (λ_ _ _ _ H vs Q E hr h=>?_)
 ·obtain⟨v,c,th,pa,ra,ps,rs,cs,ss,rfl,_⟩:=h
  rfl
 ·obtain⟨v,c,th,pa,ra,ps,rs,cs,ss,rfl,W,Do,FL,hc,Dp,E1,k⟩:=h
  refine⟨_,av (aJ (ay (jV rfl) rfl B.sum mX (aa (aY (N:=["_law_row","_law_cost_here","_law_tree"]) (ix:=[none,none,some 2]) ⟨rfl,rfl,rfl,by decide⟩ rfl (wB rfl B.zip (aa (aA aI (pv 0) ak (λ_ _=>rfl)) (aa (pv 1) ae)))
   (λ_ _ _ _=>gi K rfl (n:=2) (bH (aK 0 (by decide) rfl rfl) (bH (aK 1 (by decide) rfl rfl) d6))) (λ_ _ _ _=>b7 (aQ (lP K) (aA (bR K) (pv 0) ak (λ_ _=>rfl)) (pv 2) (by with_unfolding_all rfl))) (λ_ _ _ _=>pv 1)) ae))),?_⟩
  refine⟨_,rfl,aB (j:=1) (.inr (C2.of W.tp)) rfl rfl ⟨_,rfl,ra,c,_,_,rfl,C2.of W.rl,C3.of hc,?_⟩⟩;have DL:min (ao rs).length (cs.map V.int).length=rs.length:=by simp [Dp]
  refine vt (K:=K) (a:=ra) (b:=c) (xs:=ao rs) (ys:=cs.map V.int) (by simp [Dp]) (by rw [DL,zj];omega) (λi zs σ H4=>zs=((aD (rs.take i) ss).map λr=>bC rs cs r.2.1).map V.int/\ai H H4/\∃x1 x2,σ=[x1,x2,some (.ref th)])
   ⟨rfl,ai.refl _,_,_,rfl⟩ (λi zs σ H4 hi p=>by
    rw [DL] at hi
    exact⟨by rw [p.1,yA,yA];exact y7 (yY _ _) (by rw [zF];omega),C2.of (p.2.1 _ _ W.rl),C3.of (p.2.1 _ _ hc)⟩) ?_ ?_
  ·rintro i x y zs σ H4 U hx hy ⟨rfl,s4,x1,x2,rfl⟩ hU
   obtain⟨r,Dw,rfl⟩:=bU hx;obtain⟨z,J6,rfl⟩:=eQ hy;have s5:=au (o:=.tup [.ref r.1,.int z]) s4 hU;have u5:upd H4 U (.tup [.ref r.1,.int z]) U=some (.tup [.ref r.1,.int z]):=aj;generalize upd H4 U (.tup [.ref r.1,.int z])=H5 at s5 u5 ⊢;have rr:=s5 _ _ (W.rows r (yP Dw));have tf:aD (rs.take (i + 1)) ss=aD (rs.take i) ss++if decide (r.2.1∈ss)=true then [r] else []:=bT (λr:T=>decide (r.2.1∈ss)) rs i r Dw;refine⟨U,_,rfl,C2.of u5,rfl,_,_,rfl,_,_,rfl,rfl,?_⟩;refine⟨_,rfl,aB (j:=0) (.inr (C2.of rr)) rfl rfl ⟨_,rfl,th,_,rfl,.inr (C2.of (s5 _ _ E1)),rfl,cA _,_,rfl,?_⟩⟩;rw [cD];show if decide (r.2.1∈ss)=true then _ else _;refine bc (λcc=>⟨_,rfl,?_,s5,_,_,rfl⟩) (λcc=>⟨?_,s5,_,_,rfl⟩)
   ·rw [tf,if_pos cc,yL,yL,<- iu Do Dw J6];rfl
   ·rw [tf,if_neg cc,zt]
  rintro zs σ H4 ⟨rfl,s4,x1,x2,rfl⟩ q hq;rw [DL,zU];refine⟨q,_,rfl,.inl (C3.of aj),k _ (au s4 hq)⟩
theorem mU (F:List T) (x:Str):∀n,CP.Pth (Rw F) (upN F n x) x
 | 0=>.nil
 | n + 1=>by
  have ih:=mU F x n;show CP.Pth (Rw F) (FQ F (upN F n x)) x;unfold FQ;cases e:F.find? λt=>decide (t.2.2.2=upN F n x) with
  | none=>exact ih
  | some t =>
   have h1:=AH e;have h2:t.2.2.2=upN F n x:=by simpa using BJ e
   refine CP.Pth.trans (b:=t.2.2.2) (CP.Pth.snoc (r:=t.2) CP.Pth.nil (yE h1)) ?_;rw [h2];exact ih
theorem cx.pth {root:Str}{ps:List Str}{F:List T} (h:cx root ps F) {x:Str} (hx:x∈ps):CP.Pth (Rw F) root x:=by
 have h4:=h.2.2.2;unfold isTr at h4;have:=of_decide_eq_true (zL.mp h4 x hx);have p:=mU F x ps.length
 rwa [this] at p
theorem cx.ents {root:Str}{ps:List Str}{F:List T} (h:cx root ps F) {L:List Str} (hs:L.Sublist ps) (h0:L≠[]) (hr:root∉L):1<=CP.ents L (Rw F):=by
 cases L with
 | nil=>exact absurd rfl h0
 | cons y t =>
  obtain⟨r,h1,h2⟩:=(h.pth (hs.subset yG)).enter hr yG;exact List.countP_pos_iff.mpr ⟨r,h1,h2⟩
theorem iS {α β:Type}{f:α->β}:∀{l:List α},(l.map f).Nodup->∀a∈l,∀b∈l,f a=f b->a=b
 | [],_,a,ha,_,_,_=>nomatch ha
 | x::t,nd,a,ha,b,hb,e=>by
  obtain⟨n1,n2⟩:=zb.mp (show (f x::t.map f).Nodup from nd)
  rcases yF.mp ha with e1 | h1
  ·rcases yF.mp hb with e2 | h2
   ·rw [e1,e2]
   ·exact absurd (by rw [<- e1,e];exact yE h2) n1
  ·rcases yF.mp hb with e2 | h2
   ·exact absurd (by rw [<- e2,<- e];exact yE h1) n1
   ·exact iS n2 a h1 b h2 e
theorem sv {F:List T} (nd:(F.map (·.2.2.2)).Nodup) (y:Str):CP.ents [y] (Rw F)<=1:=by
 unfold CP.ents;rw [List.countP_eq_length_filter];have HZ:((Rw F).map (·.2.2)).Nodup:=by rw [Rw,y8];exact nd
 refine CP.jG ?_ λa ha b hb=>?_
 ·have inj:(Rw F).Nodup:=(Ae.mp HZ).imp λh e=>h (by rw [e])
  exact inj.sublist zh
 ·obtain⟨a1,a2⟩:=yI.mp ha
  obtain⟨b1,b2⟩:=yI.mp hb;have ea:a.2.2=y:=by simpa using (CP.de.mp a2).1
  have eb:b.2.2=y:=by simpa using (CP.de.mp b2).1
  exact iS HZ a a1 b b1 (ea.trans eb.symm)
theorem mz {α:Type}{f g:α->Int}:∀{l:List α},(∀x∈l,f x<=g x)->(l.map f).sum<=(l.map g).sum
 | [],_=>Int.le_refl _
 | a::t,h=>by
  rw [y0,y0,zX,zX];have:=mz (l:=t) λx hx=>h x (yT _ hx);have:=h a yG;omega
theorem b8.least {ps:List Str}{root:Str}{rs:List T}{cost:Str->Int}{tr:List T}{Qs:List (List Str×Int)} (C:b8 ps root rs cost tr Qs) {F:List T} (hF:∀t∈F,t∈rs) (h:cx root ps F):(tr.map λt=>cost t.2.1).sum<=(F.map λt=>cost t.2.1).sum:=by
 rw [C.sum];have h1:=CP.yh (T:=Rw F) (P:=Qs) λx hx=>by
  have g1:=h.ents (C.sl x hx) (C.ne x hx) (C.nr x hx)
  rcases C.pos x hx with p | ⟨p1,p2⟩
  ·exact .inr ⟨g1,by omega⟩
  ·refine .inl ?_
   obtain⟨y,hy⟩:=List.length_eq_one_iff.mp p2;have:=sv h.2.1 y;rw [<- hy] at this;omega
 refine Int.le_trans h1 ?_;rw [Rw,y8];refine mz λt ht=>C.le t (hF t ht) λe=>h.2.2.1 ?_;rw [<- e];exact yE (f:=λt:T=>t.2.2.2) ht
theorem b8.cost {ps:List Str}{root:Str}{rs:List T}{cs:List Int}{tr:List T}{Qs:List (List Str×Int)}{ss:List Str} (C:b8 ps root rs (bC rs cs) tr Qs) (nd:(K53.nms rs).Nodup) (hp:ss.Perm (K53.nms tr)):bx rs cs ss=(tr.map λt=>bC rs cs t.2.1).sum:=by
 unfold bx;exact iz ((gX (ps:=ps) nd (C.nms nd) C.sub hp).map _)
theorem uF {ps:List Str}{root:Str}{rs:List T} (Fu:cm rs root (first rs root)) {ss:List Str} (h:cx root ps (aD rs ss)):beyond ps rs root=[]:=by
 refine BY.mpr λx hx=>?_;have:=h.pth hx;have key:∀{y:Str},CP.Pth (Rw (aD rs ss)) root y->∃n,Walk (rs.map (·.2)) root n y:=by
  intro y hp
  induction hp with
  | nil=>exact⟨0,.nil⟩
  | @snoc r _ hr ih =>
   obtain⟨n,hw⟩:=ih;obtain⟨t,ht,rfl⟩:=yD.mp hr;exact⟨n + 1,.snoc hw (yE (yI.mp ht).1)⟩
 obtain⟨n,hw⟩:=key this;simp [Fu.cl n x hw]
theorem pk {ps:List Str}{root:Str}{rs:List T}{ss:List Str} (G:Good ps (rs.map (·.2))) (ER:root∈ps) (so:ss.Pairwise Du) (nm:∀x∈ss,x∈nms rs) (h:cx root ps (aD rs ss)):∃d∈EE rs (others ps root),ss.Perm d:=by
 obtain⟨h1,h2,h3,h4⟩:=h;have Do:(nms rs).Nodup:=bA G.names;have DU:=G.inP (ss:=ss);have Qt:∀x∈(aD rs ss).map (·.2.2.2),x∈others ps root:=λx hx=>by
  obtain⟨t,ht,rfl⟩:=yD.mp hx;refine yI.mpr ⟨(DU.st t ht).2,?_⟩;simp;exact λe=>h3 (e ▸ yE (f:=λt:T=>t.2.2.2) ht)
 have Ru:(others ps root).Nodup:=(bA G.so).sublist zh;have Rv:(others ps root).length + 1<=ps.length:=by
  have q:(others ps root).length < ps.length:=BC.mpr ⟨root,ER,by simp⟩;omega
 have DM:=pH h2 Qt (by rw [yA];omega);have hex:∀x,∃t:T,x∈others ps root->t∈aD rs ss/\t.2.2.2=x:=λx=>by
  cases Aq (x∈others ps root) with
  | inl z =>
   obtain⟨t,ht,e⟩:=yD.mp (DM x z);exact⟨t,λ_=>⟨ht,e⟩⟩
  | inr z=>exact⟨(0,Str.empty,Str.empty,Str.empty),λq=>absurd q z⟩
 obtain⟨f,hf⟩:∃f:Str->T,∀x∈others ps root,f x∈aD rs ss/\(f x).2.2.2=x:=⟨λx=>Classical.choose (hex x),λx hx=>Classical.choose_spec (hex x) hx⟩
 refine⟨_,uM rs f (others ps root) λx hx=>⟨(yI.mp (hf x hx).1).1,(hf x hx).2⟩,?_⟩;have e1:=kP G so nm;have hp:(aD rs ss).Perm ((others ps root).map f):=by
  have n1:(aD rs ss).Nodup:=(Ae.mp h2).imp λh e=>h (by rw [e]);have n2:((others ps root).map f).Nodup:=Ae.mpr (Ru.imp_of_mem λ{a b} ha hb Di e=>Di (by rw [<- (hf a ha).2,<- (hf b hb).2,e]));refine (A5 n1 n2).mpr λt=>⟨λht=>?_,λht=>?_⟩
  ·have hg:=Qt _ (yE (f:=λt:T=>t.2.2.2) ht)
   refine yD.mpr ⟨t.2.2.2,hg,?_⟩;obtain⟨q1,q2⟩:=hf _ hg;exact iS h2 _ q1 _ ht q2
  ·obtain⟨x,hx,rfl⟩:=yD.mp ht
   exact (hf x hx).1
 have:=hp.map (λr:T=>r.2.1);rw [e1,y8] at this;exact this
structure dI (ps:List Str) (root:Str) (rs:List T) (Ls:List (List Str)):Prop where
 ok:∀ss∈Ls,ss.Pairwise Du/\cx root ps (aD rs ss)/\∀x∈ss,x∈nms rs
 all:∀ss:List Str,ss.Pairwise Du->cx root ps (aD rs ss)->(∀x∈ss,x∈nms rs)->ss∈Ls
theorem jN {ps:List Str}{root:Str}{rs:List T}{cost:Str->Int}{tr:List T}{Qs:List (List Str×Int)}{ss:List Str} (h:b8 ps root rs cost tr Qs) (G:Good ps (rs.map (·.2))) (rt:root∈ps) (hp:ss.Perm (nms tr)) (so:ss.Pairwise Du) :
  cx root ps (aD rs ss)/\∀x∈ss,x∈nms rs:=by
 have Do:(nms rs).Nodup:=bA G.names;have GN:=h.nms Do;have DU:∀x∈ss,x∈nms rs:=λx hx=>by
  obtain⟨t,ht,e⟩:=yD.mp (hp.mem_iff.mp hx);exact yD.mpr ⟨t,h.sub t ht,e⟩
 have TO:gu root ps rs ss:=⟨so,DU,h.tree.perm ((gX (ps:=ps) Do GN h.sub hp).map _)⟩
 have W:=TO.treeW G rt;refine⟨⟨W.len2 (bA G.so),W.goals,λz=>?_,W.isTr⟩,DU⟩;obtain⟨t,ht,e⟩:=yD.mp z;have:=W.tr.nd;rw [y8] at this;exact (zb.mp this).1 (e ▸ yE (f:=λt:T=>t.2.2.2) ht)
theorem dI.least {ps:List Str}{root:Str}{rs:List T}{Ls:List (List Str)}{cs:List Int}{tr:List T}{Qs:List (List Str×Int)} (L:dI ps root rs Ls) (G:Good ps (rs.map (·.2))) (ER:root∈ps) (C:b8 ps root rs (bC rs cs) tr Qs):bG (Ls.map (bx rs cs))=(tr.map λt=>bC rs cs t.2.1).sum:=by
 have Do:(nms rs).Nodup:=bA G.names;obtain⟨ss,hp,hs⟩:∃ss:List Str,ss.Perm (nms tr)/\ss.Pairwise Du:=by
  have GN:=C.nms Do;refine⟨(nms rs).filter λx=>decide (x∈nms tr),?_,?_⟩
  ·refine (A5 (Do.sublist zh) GN).mpr λx=>?_
   rw [yI,decide_eq_true_iff];refine⟨λh=>h.2,λh=>⟨?_,h⟩⟩;obtain⟨t,ht,e⟩:=yD.mp h;exact yD.mpr ⟨t,C.sub t ht,e⟩
  ·exact G.names.sublist zh
 obtain⟨h2,h3⟩:=jN C G ER hp hs;have hm:=L.all ss hs h2 h3;have e:=C.cost Do hp;refine Int.le_antisymm ?_ ?_
 ·rw [<- e];exact gj (yE hm)
 ·obtain⟨Dg,h',e'⟩:=yD.mp (f9 (ns:=Ls.map (bx rs cs)) (BP (yE hm)))
  rw [<- e'];exact C.least (λt ht=>(yI.mp ht).1) (L.ok Dg h').2.1
end K53
namespace L2
open PySem PySem.Spec PyProof.Rows PySem.W PySem.Calls
def oh (h:Heap) (C:Addr):Prop:=∃(nm q:Str) (N:Addr) (bs bm:List zz9) (hdct:Bool) (sn:List Str) (sub:List zz9) (ab:Bool) (col:Option Bool) (dd:Option Addr) (k0 k1 k2 k3 k5:Option zz9) (newId:String),
 h.get? C=some (excClassObj nm q C N bs bm hdct sn sub ab col dd k0 k1 k2 k3 k5 newId)/\bm.contains (Value.type "BaseException")=true
theorem bN.hasV {h:Heap}{S:List Str}{Dc tl:List zz9}{v:zz9} (x:bN h S Dc tl) (e:Dc.contains v=true):tl.contains v=true:=by
 induction x with
 | base=>exact e
 | own _ _ _ _ ih=>rw [Bm,ih,CW]
theorem c8.cat {S:List Str}{h:Heap}{C f:Addr} (x:c8 S h C f):oh h C:=by
 obtain⟨nm,q,N,bs,bm,Dc,sn,sub,ab,col,dd,k0,k1,k2,k3,k5,mN,B,newId,C7,sa,ow,I,_⟩:=x;exact⟨nm,q,N,bs,bm,true,sn,sub,ab,col,dd,k0,k1,k2,k3,k5,newId,I.at_,I.tail.hasV I.bf.hasBase⟩
theorem c8.under {S:List Str}{h:Heap}{C f:Addr} (x:c8 S h C f):Under h C C:=by
 obtain⟨nm,q,N,bs,bm,Dc,sn,sub,ab,col,dd,k0,k1,k2,k3,k5,mN,B,newId,C7,sa,ow,I,_⟩:=x;exact⟨nm,q,N,bs,bm,true,sn,sub,ab,col,dd,k0,k1,k2,k3,k5,newId,I.at_,by simp⟩
section
variable {X:Cx}{st b0:Stmt}{Ee:List Stmt}{tx:IG}{th:TS}{x n:Str}{R:Addr}{j:Nat}{np Ey pos:Pos}
end
section
variable {X:Cx}{e:Expr}{es:List Expr}{pos:Pos}
end
def xf (tx:IG) (th:TS) (U:Addr->Prop):TS:=λD σ H=>tx (λσ1 cls dx H'=>∃C,cls=.ref C/\U C/\th D σ1 H') D σ H
section
variable {X:Cx}{st b0:Stmt}{Ee:List Stmt}{tx:IG}{th:TS}{x:Str}{R:Addr}{np Ey pos:Pos}
theorem uS (Gp:QF X st tx) (hx:X.mg x=some (.ref R)) (hR:oh X.base R) (E1:∀ea,EO (X.held ea) (b0::Ee) th) (GO:X.stack=X.env::X.outer) (FA:X.env.frame=some X.env.locals) (hex:X.ex=[])
  (hg:Gl X x:=by rfl) (FC:(x == ("__debug__":Str))=false:=by decide) :
  PS X (.Try [st] [.ExceptHandler (some (.Name x np)) none (b0::Ee) Ey] [] [] pos) (xf tx th λC=>Under X.base C R):=by
 intro pins s σ H D I h;refine wpAny_Try_except (wpAny_execs_cons (zJ (Gp pins s σ H D _ I h) (λf s1 q=>?_) (λe s1 q=>?_)))
 ·cases f with
  | next=>exact Bg (Bg q)
  | ret v=>exact q
  | brk=>exact q
  | cont=>exact q
 ·obtain⟨σ1,H1,s2,I1,ea,T,cls,a0,dx,H',rfl,os,bare,un,hok,n1,n2,m1,m2,QV,C,rfl,hu,MS⟩:=q
  have I':Inv X pins σ1 H' s1:=I1.call' (ch:=[]) os un hok bare (by simp);have Qw:=I'.stack;rw [GO] at Qw;have Um:X.A.frames=some (X.env::X.outer):=by rw [<- GO];exact I'.ok.frames
  have there:∀b o,s2.heap.get? b=some o->∃o',s1.heap.get? b=some o':=λb o q=>un.there b o q (by simp);have Hm:∀b,s2.heap.get? b=none->X.s₀.heap.get? b=none/\b≠X.env.locals/\(∀x c,X.env.cells.lookup x=some c->c≠b)/\∀p∈X.pn++pins,p.1≠b:=λb q=>by
   refine⟨?_,λz=>?_,λy c e z=>?_,λp hp z=>?_⟩
   ·cases hc:X.s₀.heap.get? b with
    | none=>rfl
    | some o =>
     obtain⟨o',q'⟩:=I1.base.there b o hc (by rw [hex];simp);rw [q] at q';cases q'
   ·obtain⟨m,⟨o,_,_,ho,_⟩,_⟩:=I1.loc
    rw [<- z,q] at ho;cases ho
   ·obtain⟨v,o,ho,_⟩:=I1.cell y c e
    rw [z,q] at ho;cases ho
   ·have:=(I1.pin p hp).1
    rw [z,q] at this;cases this
  have RD:∀b,s1.heap.get? b=none->H' b=none:=λb q=>by
   cases hc:H' b with
   | none=>rfl
   | some o =>
    obtain⟨ob,q'⟩:=aF.got (hok b o hc);rw [q] at q';cases q'
  have mk:∀b,s2.heap.get? b=none->H' b=none->X.s₀.heap.get? b=none/\H' b=none/\b≠X.env.locals/\(∀x c,X.env.cells.lookup x=some c->c≠b)/\∀p∈X.pn++pins,p.1≠b:=λb q1 q2=>⟨(Hm b q1).1,q2,(Hm b q1).2⟩
  refine pw (Q:=λ_ s3=>wpAny (model X.prog X.w) X.A (handleBy (Value.ref ea) X.env [ExceptHandler.ExceptHandler (some (Expr.Name x np)) none (b0::Ee) Ey]) (SP X pins D) X.xe s3) (base:=X.base) Um FA Qw QV λh3 T3 O9 OT Ow=>?_;have OZ:s2.heap.get? T3=none/\H' T3=none:=by
   refine⟨?_,RD T3 OT⟩;cases hc:s2.heap.get? T3 with
   | none=>rfl
   | some o =>
    obtain⟨o',q'⟩:=there T3 o hc;rw [OT] at q';cases q'
  have I3:Inv X pins σ1 H' { s1 with heap:=h3 }:=I'.moved (G:=[ea,T]) (λb hb=>by
   simp at hb
   rcases hb with z | z
   ·rw [z];exact mk ea n1 m1
   ·rw [z];exact mk T n2 m2) (λb o q hb hg=>O9.keep b o q (by rw [<- GO];exact hb) hg) (λb o q hb=>O9.slot b o q (by rw [<- GO];exact hb))
  refine wpAny_handleBy_cons (codeAny_handlers_test ?_) (by intro z;cases z);refine fu (X:=X.held ea) (I3.held ea) hg hx ?_ FC;obtain⟨nm,q,N,bs,bm,hdct,sn,sub,ab,col,dd,k0,k1,k2,k3,k5,newId,a1,a5⟩:=hR;obtain⟨OV,q',N',QA,N7,HA,OG,JJ,QB,KL,Gx,l0,l1,l2,l3,l5,FU,c1,c2⟩:=hu;obtain⟨oe,vs,oT,ts,g1,g2,g3,g4,g5,g6,g7,g8,g9,Gu⟩:=id Ow;refine qw (I3.bk _ _ c1) (I3.bk _ _ a1) g1 g2 a5 ?_;rw [c2];show codeAny _ _ (Code.handlers (.ref ea) [ExceptHandler.ExceptHandler none none (b0::Ee) Ey] X.env) _ _;refine codeAny_handlers_suite (ground Ow λh4 Hh tr4=>?_)
  have I4:Inv X pins σ1 H' { s1 with heap:=h4 }:=Inv.moved (s:={ s1 with heap:=h3 }) (h':=h4) (G:=[T3]) I3 (λb hb=>by
   have z:b=T3:=by simpa using hb
   rw [z];exact mk T3 OZ.1 OZ.2) (λb o q hb hg=>(Hh b λz=>hg (by simp [z])).trans q) (λb o q hb=>⟨o.slots,(Hh b λz=>by
    obtain⟨o2,q2,nf⟩:=eV I3.stack b hb
    rw [z,g7] at q2;cases q2;exact nf _ g8).trans q⟩)
  refine zJ (E1 ea pins _ σ1 H' D (I4.held ea) MS) (λf s6 q6=>?_) (λ_ _ z=>False.elim z);cases f with
  | next =>
   obtain⟨σ2,H2,J,q⟩:=q6;exact⟨σ2,H2,J.unheld I.ok,q⟩
  | brk =>
   obtain⟨σ2,H2,J,q⟩:=q6;exact⟨σ2,H2,J.unheld I.ok,q⟩
  | cont =>
   obtain⟨σ2,H2,J,q⟩:=q6;exact⟨σ2,H2,J.unheld I.ok,q⟩
  | ret u =>
   obtain⟨v,σ2,H2,J,rv,q⟩:=q6;exact⟨v,σ2,H2,J.unheld I.ok,rv,q⟩
end
end L2
namespace L2
open PySem PySem.Spec PyProof.Rows
section
variable {X:Cx}{a b:Expr}{pos:Pos}
theorem xh {r:R2}{ta:KO}{tb:TE} (hr:Gj X.nox r) (ha:LO X a ta) (hb:PE X.nox b tb) (hs:lu b):LO X (.Subscript a b pos) (λEx σ H Q=>ta Ex σ H λx H1=>tb σ H1 λy H2=>r x y H2 Q):=by
 intro pins s σ H Q Ex I h;refine Subscript_ (C4 (ha pins s σ H _ Ex I h) λv s1 ⟨x,H1,I1,r1,q1⟩=>?_);refine zJ (hb pins s1 σ H1 _ I1.toNox q1) (λu s2 ⟨y,H2,I2,r2,q2⟩=>?_) λ_ _ z=>False.elim z;exact zJ (hr a b pins s2 σ H2 x y v u Q I2 r1 r2 q2 (hs _ _)) (λ_ _ ⟨v,H',I',r,q⟩=>⟨v,H',I'.ofNox,r,q⟩) λ_ _ z=>False.elim z
end
end L2
namespace K53
open PySem L2
variable {P:Program}{w:World}{K:zz7}{mg:Str->Option zz9}{base:Heap}{f:Addr}{fd:FuncData}
def mT:Sp:=λvs H Q _=>∃(v c pa ra:Addr) (ps:List Str) (rs:List T) (cs:List Int) (root:Str),vs=[.ref v,.str root,.ref c]/\bF H v pa ra ps rs/\Good ps (rs.map (·.2))/\ps.length<=8/\root∈ps/\H c=some (.tup (cs.map V.int))/\cs.length=rs.length /\
 ∀(x:V) (H':Hp),ai H H'->cm rs root (first rs root)->((beyond ps rs root=[]/\∃(tr:List T) (ss:List Str) (Qs:List (List Str×Int)) (u:Addr),b8 ps root rs (bC rs cs) tr Qs/\ss.Perm (nms tr)/\PyProof.Rows.sortedS ss=true/\x=.ref u/\H' u=some (.tup (ss.map V.str)))\/(beyond ps rs root≠[]/\x=.non))->Q x H'
abbrev Us:List Str:=["_law_web","_law_root","_law_costs_here","_law_told_here"]
theorem gM:aM Us ["_law_web","_law_root","_law_costs_here"] (aC (top 46)):=⟨rfl,rfl,rfl,by decide +kernel,rfl,by decide +kernel,by decide +kernel⟩
theorem uK {f C fI:Addr}{fd:FuncData} (F:Dk K "_law_told" "_law_told" (top 46) f fd) (B:Bl mg) (hx:mg "TooFew"=some (.ref C)) (hC:c8 dP base C fI) (F1:Ol P w K mg base 5 "cheapest" ["web","root","costs"] (lA C)):aG P w K mg base Dl 6 f fd ["_law_web","_law_root","_law_costs_here"] mT:=by
 refine F.ok gM (λvs H Q E h=>?_) (λ_ _ _ _ H vs Q E hr h=>?_)
 ·obtain⟨v,c,pa,ra,ps,rs,cs,root,rfl,_⟩:=h
  rfl
 ·obtain⟨v,c,pa,ra,ps,rs,cs,root,rfl,W,G,h8,ER,hc,Dp,k⟩:=h
  refine⟨_,am (aH (i:=3) gM.nd rfl (Or.inl rfl) dH)
   (am (uS (vL (i:=3) gM.nd rfl (Or.inl rfl) (xh aI (u0 F1 hr (aa (pv 0) (aa (pv 1) (aa (pv 2) ae)))) ak (λ_ _=>rfl))) hx hC.cat
    (λea=>av (aH (i:=3) gM.nd rfl (Or.inl rfl) dH)) rfl rfl rfl)
   (av (aJ (pv 3)))),?_⟩
  refine⟨_,rfl,_,rfl,_,rfl,v,c,pa,ra,ps,rs,cs,root,rfl,W,G,h8,ER,hc,Dp,λH3 s3 Fu=>⟨λGe tr ss prs u u1 u2 CH EM Eo hu Ie GK hpr=>?_,λDi dx u hdx hu=>⟨C,rfl,hC.under,?_⟩⟩⟩
  ·exact aB (j:=0) (.inr (C2.of hu)) rfl rfl ⟨_,rfl,k _ _ s3 Fu (.inl ⟨Ge,tr,ss,_,u1,CH,EM,Eo,rfl,Ie⟩)⟩
  ·exact⟨_,rfl,k _ _ s3 Fu (.inr ⟨Di,rfl⟩)⟩
def fc (ps:List Str) (root:Str) (rs:List T) (cs:List Int) (z:V):Prop:=(∀tr Qs,b8 ps root rs (bC rs cs) tr Qs->z=.int (tr.map λt=>bC rs cs t.2.1).sum)/\(beyond ps rs root≠[]->z=.non)
def lH:Sp:=λvs H Q _=>∃(v c pa ra:Addr) (ps:List Str) (rs:List T) (cs:List Int) (root:Str) (z:V),vs=[.ref v,.str root,.ref c,z]/\WP H v pa ra ps rs root/\H c=some (.tup (cs.map V.int))/\cs.length=rs.length /\
 (cm rs root (first rs root)->fc ps root rs cs z)/\∀H':Hp,ai H H'->cm rs root (first rs root)->Q (.bl true) H'
abbrev Ur:List Str:=["_law_web","_law_root","_law_costs_here","_law_lowest","_law_tree"]
theorem oa:aM Ur ["_law_web","_law_root","_law_costs_here","_law_lowest"] (aC (top 47)):=⟨rfl,rfl,rfl,by decide +kernel,rfl,by decide +kernel,by decide +kernel⟩
theorem sJ (F:Dk K "_law_right" "_law_right" (top 47) f fd) (B:Bl mg) (F1:Fn P w K mg base 6 "_law_told" ["_law_web","_law_root","_law_costs_here"] mT) (F2:Fn P w K mg base 1 "_law_is_tree" ["_law_web","_law_root","_law_thing"] iK) (F3:Fn P w K mg base 1 "_law_cost_of" ["_law_web","_law_costs_here","_law_tree"] iI) :
  aG P w K mg base Dl 7 f fd ["_law_web","_law_root","_law_costs_here","_law_lowest"] lH:=by
 refine F.ok oa (λvs H Q E h=>?_) (λ_ _ _ _ H vs Q E hr h=>?_)
 ·obtain⟨v,c,pa,ra,ps,rs,cs,root,z,rfl,_⟩:=h
  rfl
 ·obtain⟨v,c,pa,ra,ps,rs,cs,root,z,rfl,wp,hc,Dp,hz,k⟩:=h
  have DI:aN 1 _:=hr.mono (by decide)
  refine⟨_,am (aH (i:=4) oa.nd rfl (Or.inl rfl) (ax F1 hr (aa (pv 0) (aa (pv 1) (aa (pv 2) ae)))))
   (am (bg (PW.pt (dm (aQ gv (pv 4) dH (aS _)) (dG (aQ gv (pv 3) dH (aS _))))) (av (aJ (cE (cT gv (pv 4) dH (aS _)) (di (cT gv (pv 3) dH (aS _)))))) be)
   (av (aJ (cE (ax F2 DI (aa (pv 0) (aa (pv 1) (aa (pv 4) ae)))) (di (cT eY (ax F3 DI (aa (pv 0) (aa (pv 2) (aa (pv 4) ae)))) (pv 3) (aS _))))))),?_⟩
  obtain⟨W,G,IZ,FL,ER⟩:=id wp;have Do:(nms rs).Nodup:=bA G.names;refine⟨_,rfl,_,rfl,_,rfl,v,c,pa,ra,ps,rs,cs,root,rfl,W,G,IZ,ER,hc,Dp,λx H1 s1 Fu hx=>?_⟩
  rcases hx with ⟨Ge,tr,ss,Qs,u,CH,EM,Eo,rfl,hu⟩ | ⟨Di,rfl⟩
  ·have ez:=(hz Fu).1 tr Qs CH
   subst ez;refine⟨_,rfl,rfl,_,rfl,?_⟩;rw [decide_eq_false (show ¬ (V.ref u=V.non) from λz=>nomatch z)];refine bh ⟨_,rfl,rfl,_,rfl,?_⟩;rw [decide_eq_false (show ¬ (V.int _=V.non) from λz=>nomatch z)];obtain⟨so,hok,DU⟩:=sN CH G ER EM Eo;have F0:ss.length<=8:=by
    have h1:=EM.length_eq;have h2:=CH.len;rw [yA] at h1;omega
   refine bh ⟨_,rfl,_,rfl,_,rfl,v,pa,ra,u,ps,rs,root,ss,rfl,wp.same s1,hu,DU,by omega,λb H2 s2 hb=>?_⟩;rw [hb.mpr ⟨so,hok⟩];have Me:=s1.trans s2;refine⟨_,rfl,aX ⟨_,rfl,_,rfl,_,rfl,v,c,u,pa,ra,ps,rs,cs,ss,rfl,W.same Me,Do,by omega,Me _ _ hc,Dp,s2 _ _ hu,λH3 s3=>?_⟩⟩;refine⟨_,rfl,rfl,?_⟩;rw [CH.cost Do EM,decide_eq_true rfl];exact k H3 (Me.trans s3) Fu
  ·have ez:=(hz Fu).2 Di
   subst ez;exact⟨_,rfl,rfl,_,rfl,aX (aX ⟨_,rfl,rfl,_,rfl,aX ⟨_,rfl,rfl,k H1 s1 Fu⟩⟩)⟩
theorem vv {v:V}{i:Nat}{b:TS}{D:Ends}{σ:L2.St}{H:Hp} (h:b D (σ.set i (some v)) H):jq (ji (tC v) (bP i)) b D σ H:=h
theorem qV {rs:List T}{cs:List Int} (g:Int->Int) (Dp:cs.length=rs.length) {r:T} (hr:r∈rs):bC rs (cs.map g) r.2.1=g (bC rs cs r.2.1):=by
 unfold bC;have hi:(nms rs).idxOf r.2.1 < cs.length:=by
  have:=List.idxOf_lt_length_iff.mpr (show r.2.1∈nms rs from yE hr);rw [yA] at this;omega
 rw [zd,zd,yR,yJ hi];rfl
theorem lY (m d:Int) (f:T->Int):∀l:List T,(l.map λr=>f r * m + d).sum=(l.map f).sum * m + d * l.length
 | []=>by simp
 | a::t=>by
  rw [y0,zX,lY m d f t,y0,zX,zk]
  grind
theorem rL {rs:List T}{cs:List Int} (m d:Int) (Dp:cs.length=rs.length) (ss:List Str):bx rs (cs.map λc=>c * m + d) ss=bx rs cs ss * m + d * (aD rs ss).length:=by
 unfold bx;rw [<- lY m d (λr=>bC rs cs r.2.1)];exact congrArg List.sum (Ay λr hr=>qV _ Dp (yI.mp hr).1)
theorem sL {ns:List Int}{m d:Int} (hm:0 < m) (h0:ns≠[]):bG (ns.map λn=>n * m + d)=bG ns * m + d:=by
 refine Int.le_antisymm ?_ ?_
 ·exact gj (yD.mpr ⟨_,f9 h0,rfl⟩)
 ·obtain⟨n,hn,e⟩:=yD.mp (f9 (ns:=ns.map λn=>n * m + d) (by simpa using h0))
  rw [<- e];have:=gj hn;have:=Ck this (Int.le_of_lt hm);omega
theorem dI.low {ps:List Str}{root:Str}{rs:List T}{Ls:List (List Str)}{cs:List Int} (L:dI ps root rs Ls) (G:Good ps (rs.map (·.2))) (ER:root∈ps) (h0:Ls≠[]) (Fu:cm rs root (first rs root)):fc ps root rs cs (.int (bG (Ls.map (bx rs cs)))) :=
 ⟨λtr Qs C=>by rw [L.least G ER C],λhb=>by
  obtain⟨ss,hs⟩:=List.exists_mem_of_ne_nil _ h0
  exact absurd (uF Fu (L.ok ss hs).2.1) hb⟩
theorem dI.none {ps:List Str}{root:Str}{rs:List T}{cs:List Int} (L:dI ps root rs []) (G:Good ps (rs.map (·.2))) (ER:root∈ps):fc ps root rs cs .non :=
 ⟨λtr Qs C=>by
  have Do:(nms rs).Nodup:=bA G.names;have hp:((nms rs).filter λx=>decide (x∈nms tr)).Perm (nms tr):=by
   refine (A5 (Do.sublist zh) (C.nms Do)).mpr λx=>?_;rw [yI,decide_eq_true_iff];refine⟨λh=>h.2,λh=>⟨?_,h⟩⟩;obtain⟨t,ht,e⟩:=yD.mp h;exact yD.mpr ⟨t,C.sub t ht,e⟩
  obtain⟨h2,h3⟩:=jN C G ER hp (G.names.sublist zh)
  exact absurd (L.all _ (G.names.sublist zh) h2 h3) (by simp),λ_=>rfl⟩
theorem dI.low2 {ps:List Str}{root:Str}{rs:List T}{Ls:List (List Str)}{cs:List Int}{m d:Int} (L:dI ps root rs Ls) (G:Good ps (rs.map (·.2))) (ER:root∈ps) (h0:Ls≠[]) (Dp:cs.length=rs.length) (hm:0 < m) (Fu:cm rs root (first rs root)) :
  fc ps root rs (cs.map λc=>c * m + d) (.int (bG (Ls.map (bx rs cs)) * m + d * ((ps.length:Int) - 1))):=by
 have e:bG (Ls.map (bx rs (cs.map λc=>c * m + d)))=bG (Ls.map (bx rs cs)) * m + d * ((ps.length:Int) - 1):=by
  rw [<- sL (d:=d * ((ps.length:Int) - 1)) hm (by simpa using h0),y8]
  congr 1
  refine Ay λss hs=>?_;rw [rL m d Dp];have:=(L.ok ss hs).2.1.1;show _=bx rs cs ss * m + d * ((ps.length:Int) - 1)
  congr 2
  omega
 rw [<- e];exact L.low G ER h0 Fu
abbrev gI (ts:List Str):PyData:=.tuple (ts.map PyData.str)
abbrev HQ (tl:List (List Str)):PyData:=.list (tl.map gI)
theorem nk {H:Hp}:∀{LX:List Ch},b5 H LX->Er H (aR LX) ((LX.map (·.2)).map gI)
 | [],_=>.nil
 | r::t,h=>.cons (.tup (h r yG) (Er.strs _)) (nk λx hx=>h x (yT _ hx))
theorem lU:∀{tl:List (List Str)},(∀ts∈tl,∀y∈ts,aV y)->PyData.canLayAll0 (tl.map gI)=true/\PyData.depthAll (tl.map gI)<=1
 | [],_=>⟨rfl,ze _⟩
 | ts::t,h=>by
  have ih:=lU (tl:=t) λx hx=>h x (yT _ hx);have q:=kH (h ts yG);rw [y0];have i2:=ih.2;simp only [PyData.canLayAll0,PyData.canLay0,PyData.depthAll,PyData.depth,q.1,q.2,ih.1];exact⟨rfl,by omega⟩
theorem Q8 {tl:List (List Str)} (h:∀ts∈tl,∀y∈ts,aV y):SeqAt.shaped (HQ tl)=true:=by
 have q:=lU h;have i2:=q.2;have hc:(HQ tl).canLay0=true:=by simp only [HQ,PyData.canLay0,q.1]
 have hd:(HQ tl).depth<=2:=by simp only [HQ,PyData.depth];omega
 unfold SeqAt.shaped;rw [hc,decide_eq_true (by omega)];rfl
theorem sT (tl:List (List Str)):PyData.eqv (HQ tl) (.list [])=decide (tl=[]):=by
 cases tl with
 | nil=>simp [PyData.eqv,PyData.eqvAll]
 | cons x r=>simp [PyData.eqv,PyData.eqvAll]
def gG (K:zz7):Sp:=λvs H Q _=>∃(a:Addr) (ns:List Int),vs=[.ref a]/\C3 K H a (ns.map V.int)/\ns.length<=63/\∀H',Q (.bl true) H'
abbrev Uq:List Str:=["_law_script","_law_k","_law_pot_here","_law_web","_law_root","_law_costs_here","_law_trees","_law_lowest","_law_near","_law_more_here","_law_times"]
theorem cg:aM Uq ["_law_script"] (aC (top 48)):=⟨rfl,rfl,rfl,by decide +kernel,rfl,by decide +kernel,by decide +kernel⟩
theorem vQ (F:Dk K "law" "law" (top 48) f fd) (B:Bl mg) (Fp:Fn P w K mg base 2 "_law_pot" ["_law_script","_law_k"] (ng K)) (Ft:Fn P w K mg base 1 "_law_take" ["_law_pot_here","_law_many"] dD) (Fw:Fn P w K mg base 4 "_law_small_web" ["_law_pot_here"] lM)
  (Fc:Fn P w K mg base 3 "_law_costs" ["_law_pot_here","_law_web"] lS) (Fh:Fn P w K mg base 1 "_law_choices" ["_law_web","_law_root"] ke) (Fi:Fn P w K mg base 1 "_law_is_tree" ["_law_web","_law_root","_law_thing"] iK) (UI:Fn P w K mg base 1 "_law_cost_of" ["_law_web","_law_costs_here","_law_tree"] iI) (UJ:Fn P w K mg base 1 "_law_cost_of" ["_law_web","_law_costs_here","_law_tree"] lE)
  (Fr:Fn P w K mg base 7 "_law_right" ["_law_web","_law_root","_law_costs_here","_law_lowest"] lH):aG P w K mg base Dl 8 f fd ["_law_script"] (gG K):=by
 refine F.ok cg (λvs H Q E h=>?_) (λ_ _ _ _ H vs Q E hr h=>?_)
 ·obtain⟨a,ns,rfl,_⟩:=h
  rfl
 ·obtain⟨a,ns,rfl,hS,C6,k⟩:=h
  have DI:aN 1 _:=hr.mono (by decide);have IX:aN 2 _:=hr.mono (by decide);have M5:aN 3 _:=hr.mono (by decide);have S8:aN 4 _:=hr.mono (by decide)
  refine⟨_,am (cv zG rfl (eN rfl B.range (aa (ay (kh rfl) rfl B.max mY (aa ak (aa (ay (rC rfl) rfl B.min gA (aa (ay bj rfl B.len zg (aa (pv 0) ae)) (aa ak ae))) ae))) ae)) (bw (i:=1) cg.nd rfl (Or.inl rfl))
    (am (aH (i:=2) cg.nd rfl (Or.inl rfl) (ax Fp IX (aa (pv 0) (aa (pv 1) ae))))
    (am (fE (ax Fw S8 (aa (pv 2) ae)) (fG rfl (n:=2) (bH (bw (i:=3) cg.nd rfl (Or.inr rfl)) (bH (bw (i:=4) cg.nd rfl (Or.inr rfl)) d6))))
    (am (aH (i:=5) cg.nd rfl (Or.inr rfl) (ax Fc M5 (aa (pv 2) (aa (pv 3) ae))))
    (am (dX (i:=6) (N:=["_law_tree","_law_web","_law_root"]) (ix:=[none,some 3,some 4]) cg.nd rfl (Or.inl rfl) ⟨rfl,rfl,rfl,by decide⟩ rfl (bE (ax Fh DI (aa (pv 3) (aa (pv 4) ae)))) (λ_ _ _ _=>aK 0 (by decide) rfl rfl) (λ_ _ _ _=>b7 (bM (ax Fi DI (aa (pv 1) (aa (pv 2) (aa (pv 0) ae)))))) (λ_ _ _ _=>pv 0))
    (am (aH (i:=7) cg.nd rfl (Or.inl rfl) dH)
    (am (bg (aQ (iU hr) (pv 6) (bS ae) (aS _)) (av (aH (i:=7) cg.nd rfl (Or.inl rfl) (ay (hV rfl) rfl B.min gA (aa (aY (N:=["_law_tree","_law_web","_law_costs_here"]) (ix:=[none,some 3,some 5]) ⟨rfl,rfl,rfl,by decide⟩ rfl (bE (pv 6)) (λ_ _ _ _=>aK 0 (by decide) rfl rfl) (λ_ _ _ _=>bo) (λ_ _ _ _=>ax UI DI (aa (pv 1) (aa (pv 2) (aa (pv 0) ae))))) ae)))) be)
    (am (bg (bY (bM (ax Fr hr (aa (pv 3) (aa (pv 4) (aa (pv 5) (aa (pv 7) ae))))))) eg be)
    (am (aH (i:=8) cg.nd rfl (Or.inr rfl) (aY (N:=["_law_cost_here"]) (ix:=[none]) ⟨rfl,rfl,rfl,by decide⟩ rfl (bJ (pv 5)) (λ_ _ _ _=>aK 0 (by decide) rfl rfl) (λ_ _ _ _=>bo) (λ_ _ _ _=>aE df (pv 0) (aE fA ak ak))))
    (am (aH (i:=9) cg.nd rfl (Or.inr rfl) (aE cF (ax Ft DI (aa (pv 2) (aa ak ae))) ak))
    (am (aH (i:=10) cg.nd rfl (Or.inr rfl) (aE cG ak (ax Ft DI (aa (pv 2) (aa ak ae)))))
    (am (bg (aQ lR (pv 7) dH (aS _))
     (am (aH (i:=7) cg.nd rfl (Or.inl rfl) (ay (hV rfl) rfl B.min gA (aa (aY (N:=["_law_tree","_law_web","_law_near"]) (ix:=[none,some 3,some 8]) ⟨rfl,rfl,rfl,by decide⟩ rfl (bE (pv 6)) (λ_ _ _ _=>aK 0 (by decide) rfl rfl) (λ_ _ _ _=>bo) (λ_ _ _ _=>ax UJ DI (aa (pv 1) (aa (pv 2) (aa (pv 0) ae))))) ae)))
     (av (aH (i:=7) cg.nd rfl (Or.inl rfl) (aE cG (aE dF (pv 7) (pv 10)) (aE dF (pv 9) (aE cF (ay bj rfl B.len zg (aa (aA aI (pv 3) ak (λ_ _=>rfl)) ae)) ak)))))) be)
    (av (bg (bY (bM (ax Fr hr (aa (pv 3) (aa (pv 4) (aa (bV da rfl B.tuple bO (aa (aY (N:=["_law_cost_here","_law_times","_law_more_here"]) (ix:=[none,some 10,some 9]) ⟨rfl,rfl,rfl,by decide⟩ rfl (bE (pv 8)) (λ_ _ _ _=>aK 0 (by decide) rfl rfl) (λ_ _ _ _=>bo) (λ_ _ _ _=>aE cG (aE dF (pv 0) (pv 1)) (pv 2))) ae)) (aa (pv 7) ae))))))) eg be))))))))))))))
   (av (aJ dj)),?_⟩
  refine⟨_,rfl,a,_,rfl,.inl hS,_,_,rfl,_,_,rfl,_,rfl,?_,?_,?_⟩
  ·repeat' split
   all_goals omega
  ·repeat' split
   all_goals omega
  have Te:∀x:Int,x=(if (if (4:Int) < ((ns.map V.int).length:Int) then 4 else ((ns.map V.int).length:Int)) > 1 then (if (4:Int) < ((ns.map V.int).length:Int) then 4 else ((ns.map V.int).length:Int)) else 1)->x.toNat<=8:=λx hx=>by
   subst hx
   repeat' split
   all_goals omega
  refine fW (λi σ H1=>(∃g1 g2 g3 g4 g5 g6 g7 g8 g9 Gu,σ=[some (.ref a),g1,g2,g3,g4,g5,g6,g7,g8,g9,Gu])/\ai H H1) ⟨⟨_,_,_,_,_,_,_,_,_,_,rfl⟩,ai.refl _⟩ ?_ (λσ H1 _=>k H1);rintro i σ H1 hi ⟨⟨g1,g2,g3,g4,g5,g6,g7,g8,g9,Gu,rfl⟩,s1⟩;have hi8:i < 8:=za hi (Te _ rfl);refine⟨_,rfl,_,rfl,a,ns,_,rfl,s1.seq hS,by omega,by omega,λp H2 s2 p0 P2=>?_⟩;refine⟨_,rfl,p,rfl,P2,λw0 v pa ra root ps rs H3 P3 w3 W3 G p5 Lj K3 De=>?_⟩;have Rb:ai H1 H3:=λb o e=>K3 b o (s2 b o e) (by simp;exact ar e p0);refine⟨w0,_,rfl,C2.of w3,rfl,_,_,rfl,_,_,rfl,rfl,?_⟩;have Do:(nms rs).Nodup:=bA G.names;refine⟨_,rfl,_,rfl,p,v,pa,ra,ps,rs,rfl,P3,W3,by omega,λc cs H4 P4 c4 Dp Nz K4=>?_⟩;have W4:=W3.kp P3 K4;have Oq:WP H4 v pa ra ps rs root:=⟨W4,G,by omega,by omega,De⟩
  refine⟨_,rfl,_,rfl,v,pa,ra,root,ps,rs,rfl,W4,p5,Lj,De,λfo ch H5 s5 f5 N3 En Qg FF=>?_⟩;have GV:∀c∈ch,(∀x∈c.2,x∈nms rs)/\c.2.length<=8:=λc hc=>by
   obtain⟨d,hd,hp,_⟩:=Qg c hc;obtain⟨e1,e2⟩:=lN rs _ d hd;have:(others ps root).length<=ps.length:=yY _ _;exact⟨λx hx=>e2 x (hp.mem_iff.mp hx),by rw [hp.length_eq,e1];omega⟩
  refine⟨fo,rfl,⟨_,C3.of f5⟩,dU (xs:=aR ch) (by rw [yA,zj];omega) (λm ys σ H6=>(∃tl:List Ch,ys=aR tl/\tl.Sublist (ch.take m)/\∀t∈ch.take m,t∈tl ↔ (t.2.Pairwise Du/\cx root ps (aD rs t.2)))/\ai H5 H6/\∃g,σ=[g,some (.ref v),some (.str root)])
   ⟨⟨[],rfl,.slnil,λt ht=>nomatch ht⟩,ai.refl _,_,rfl⟩ (λm ys σ H6 hm q=>by
    obtain⟨⟨tl,rfl,hs,_⟩,s6,_⟩:=q;have:=hs.length_le;rw [zF] at this
    exact⟨by rw [yA];omega,C3.of (s6 _ _ f5)⟩) ?_ ?_⟩
  ·rintro m y ys σ H6 hy ⟨⟨tl,rfl,hs,hm⟩,s6,g,rfl⟩
   obtain⟨c,hc,rfl⟩:=fF hy;have NA:=yP hc;obtain⟨q1,q2⟩:=GV c NA;have Re:=s5.trans s6;refine⟨_,rfl,_,rfl,_,rfl,v,pa,ra,c.1,ps,rs,root,c.2,rfl,Oq.same Re,s6 _ _ (N3 c NA),q1,by omega,λb H7 s7 hb=>⟨_,rfl,?_⟩⟩;have tk:ch.take (m + 1)=ch.take m++[c]:=by rw [zi,hc];rfl
   refine bc (λcc=>⟨_,rfl,⟨tl++[c],by simp,by rw [tk];exact hs.append (List.Sublist.refl _),λt ht=>?_⟩,s6.trans s7,_,rfl⟩) (λcc=>⟨⟨tl,rfl,by rw [tk];exact hs.trans (List.sublist_append_left _ _),λt ht=>?_⟩,s6.trans s7,_,rfl⟩)
   ·rw [tk] at ht
    rcases yQ.mp ht with z | z
    ·refine⟨λh=>?_,λh=>yW _ ((hm t z).mpr h)⟩
     rcases yQ.mp h with h | h
     ·exact (hm t z).mp h
     ·rw [yK.mp h];exact hb.mp cc
    ·rw [yK.mp z]
     exact⟨λ_=>hb.mp cc,λ_=>by simp⟩
   ·rw [tk] at ht
    rcases yQ.mp ht with z | z
    ·exact hm t z
    ·rw [yK.mp z]
     refine⟨λh=>?_,λh=>absurd (hb.mpr h) cc⟩;exact (hm c (hs.subset h)).mp h
  rintro ys σ H6 ⟨⟨tl,rfl,hs,hm⟩,s6,g,rfl⟩ tq Ly;rw [Bp (by simp)] at hs hm;have QX:tq≠p:=λz=>by
   obtain⟨o,e⟩:=(P4.keep (H':=H6) λo e=>(s5.trans s6) _ _ e).some;rw [<- z,Ly] at e;cases e
  have L:dI ps root rs (tl.map (·.2)):=by
   refine⟨λss SZ=>?_,λss so ok nm=>?_⟩
   ·obtain⟨t,ht,rfl⟩:=yD.mp SZ
    obtain⟨h1,h2⟩:=(hm t (hs.subset ht)).mp ht;exact⟨h1,h2,(GV t (hs.subset ht)).1⟩
   ·obtain⟨d,hd,hp⟩:=pk G De so nm ok
    obtain⟨c,hc,Nz,Eo⟩:=FF d hd;have e:c.2=ss:=fD (eO Eo ((Nz.trans hp.symm).nodup_iff.mpr (bA so))) so λx=>(Nz.trans hp.symm).mem_iff;rw [<- e];exact yE ((hm c hc).mpr (by rw [e];exact⟨so,ok⟩))
  have Kb:tl.length<=20736:=y7 hs.length_le En;have OA:b5 H6 tl:=λt ht=>s6 _ _ (N3 t (hs.subset ht));clear hs hm Qg FF GV En N3 f5;have s7:=au (o:=.lst (aR tl)) (s5.trans s6) Ly;have q7:upd H6 tq (.lst (aR tl)) tq=some (.lst (aR tl)):=aj;have LJ:=OA.same (au (o:=.lst (aR tl)) (ai.refl H6) Ly);generalize upd H6 tq (.lst (aR tl))=H7 at s7 q7 LJ ⊢;clear OA s6 s5 Ly;have RG:∀ts∈tl.map (·.2),∀y∈ts,aV y:=λts GL y hy=>by
   obtain⟨r,hr,e⟩:=yD.mp ((L.ok ts GL).2.2 y hy);rw [<- e];exact (G.rn r.2 (yE hr)).1
  have So:∀(Jn:List Int) (xs:List Int),xs=(tl.map (·.2)).map (bx rs Jn)->xs.length=tl.length:=λ_ _ e=>by rw [e];simp
  dsimp only
  let M:St->Hp->Prop:=λσ H'=>∃z:V,σ=[some (.ref a),some (.int (0 + (i:Int))),some (.ref p),some (.ref v),some (.str root),some (.ref c),some (.ref tq),some z,g8,g9,Gu]/\ai H7 H'/\((tl.map (·.2)=[]/\z=.non)\/(tl.map (·.2)≠[]/\z=.int (bG ((tl.map (·.2)).map (bx rs cs)))))
  refine vv ?_;refine nJ M (λN hN=>?_) ?_
  ·refine⟨_,rfl,ze _,λe he=>?_⟩
   have s8:=au (o:=.lst []) (ai.refl H7) he;have e8:upd H7 e (.lst []) e=some (.lst []):=aj;have N2:=LJ.same s8;have q8:=s8 _ _ q7;generalize upd H7 e (.lst [])=H8 at s8 e8 N2 q8 ⊢;refine⟨HQ (tl.map (·.2)),.list [],.lst q8 (nk N2),.lst e8 .nil,Q8 RG,(fe (ss:=[]) (by simp)).1,_,rfl,?_⟩;rw [sT];refine bc (λcc=>?_) (λcc=>hN _ _ ⟨_,rfl,s8,.inl ⟨by simpa using cc,rfl⟩⟩);have Di:tl.map (·.2)≠[]:=by simpa using cc
   have Rc:=s7.trans s8
   refine⟨_,rfl,tq,rfl,⟨_,C3.of q8⟩,dW (xs:=aR tl) (by rw [yA,zj];omega) (λm ys σ H9=>ys=(((tl.take m).map (·.2)).map (bx rs cs)).map V.int/\ai H8 H9/\∃g,σ=[g,some (.ref v),some (.ref c)]) ⟨rfl,ai.refl _,_,rfl⟩
    (λm ys σ H9 hm q=>⟨by rw [q.1];simp;omega,C3.of (q.2.1 _ _ q8)⟩) ?_ ?_⟩
   ·rintro m y ys σ H9 hy ⟨rfl,s9,g,rfl⟩
    obtain⟨t,ht,rfl⟩:=fF hy;have IK:=Rc.trans s9;refine⟨_,rfl,_,rfl,_,rfl,v,c,t.1,pa,ra,ps,rs,cs,t.2,rfl,W4.same IK,Do,by omega,IK _ _ c4,Dp,s9 _ _ (N2 t (yP ht)),λDD Fq=>⟨?_,s9.trans Fq,_,rfl⟩⟩;rw [dS _ _ _ _ ht,yL,yL];rfl
   rintro ys σ H9 ⟨rfl,s9,g,rfl⟩ q hq;rw [take_all tl (by simp)];refine⟨q,_,rfl,C3.of aj,by simpa using Di,hN _ _ ⟨_,rfl,s8.trans (au s9 hq),.inr ⟨Di,rfl⟩⟩⟩
  rintro σ H8 ⟨z,rfl,s8,hz⟩;have L9:=s7.trans s8;have J4:cm rs root (first rs root)->fc ps root rs cs z:=λFu=>by
   rcases hz with ⟨h0,rfl⟩ | ⟨h0,rfl⟩
   ·rw [h0] at L;exact L.none G De
   ·exact L.low G De h0 Fu
  refine⟨_,rfl,_,rfl,_,rfl,_,rfl,v,c,pa,ra,ps,rs,cs,root,z,rfl,Oq.same L9,L9 _ _ c4,Dp,J4,λH9 s9 _=>⟨_,rfl,bh ?_⟩⟩;clear J4;have IK:=L9.trans s9;have c9:=IK _ _ c4
  refine⟨_,rfl,c,rfl,⟨_,C2.of c9⟩,dC (xs:=cs.map V.int) (fits (by simp;omega)) (λm ys σ DD=>ys=((cs.take m).map λx=>x % 10 ^ 20).map V.int/\DD=H9/\∃g,σ=[g]) ⟨rfl,rfl,_,rfl⟩
   (λm ys σ DD hm q=>⟨by rw [q.1];simp;omega,by rw [q.2.1];exact C2.of c9⟩) ?_ ?_⟩
  ·rintro m y ys σ DD hy ⟨rfl,rfl,g,rfl⟩
   obtain⟨n,hn,rfl⟩:=eQ hy;refine⟨_,rfl,_,_,rfl,rfl,⟨by decide,by decide,by decide⟩,_,_,rfl,rfl,by show (0:Int) < 10 ^ Int.toNat 20;decide,?_,rfl,_,rfl⟩;rw [dS _ _ _ _ hn,yL];rfl
  rintro ys σ DD ⟨rfl,rfl,g,rfl⟩ nq PK;rw [take_all cs (by simp)];obtain⟨nr,Nd⟩:∃nr:List Int,nr=cs.map λx=>x % 10 ^ 20:=⟨_,rfl⟩
  rw [<- Nd];have Nf:nr.length=rs.length:=by rw [Nd,yA];exact Dp
  have Hi:=au (o:=.lst (nr.map V.int)) (ai.refl DD) PK;have J1:upd DD nq (.lst (nr.map V.int)) nq=some (.lst (nr.map V.int)):=aj;generalize upd DD nq (.lst (nr.map V.int))=EW at Hi J1 ⊢;clear Nd;have JN:=IK.trans Hi;have KQ:=P4.keep λo e=>JN _ _ e;have Lk:=(s8.trans (s9.trans Hi)) _ _ q7;have KJ:=LJ.same (s8.trans (s9.trans Hi));refine⟨_,rfl,p,199,rfl,KQ,by decide,by decide,λm1 QL m0 m1' Up N1=>⟨_,_,rfl,rfl,?_⟩⟩;refine⟨_,rfl,p,9,rfl,Up,by decide,by decide,λt1 FO t0 t1' P13 LI=>⟨_,_,rfl,rfl,?_⟩⟩;have LP:Kp [p] EW FO:=λb o e nb=>by
   rw [LI b (by simpa using nb),N1 b (by simpa using nb)];exact e
  have KU:Kp [p] H4 FO:=λb o e nb=>LP b o (JN b o e) nb;have N8:=W4.kp P4 KU
  have HX:∀{b:Addr}{xs:List V},EW b=some (.tup xs)->FO b=some (.tup xs):=λ{b xs} e=>LP _ _ e (by
   obtain⟨ys,ep⟩:=KQ.lst;have:=tup_ne e ep
   simpa using this)
  have Rz:nq≠p:=λz=>by
   have:=P4.keep (H':=DD) λo e=>IK _ _ e;obtain⟨o,e⟩:=this.some;rw [<- z,PK] at e;cases e
  have OP:=LP _ _ Lk (by simpa using QX);have Lq:=LP _ _ J1 (by simpa using Rz);have N5:b5 FO tl:=λx hx=>HX (KJ x hx);have LU:WP FO v pa ra ps rs root:=⟨N8,G,by omega,by omega,De⟩
  clear KJ Lk J1 LJ q7 HX;have Tg:(0:Int) < 1 + t1:=by omega
  dsimp only
  let M2:St->Hp->Prop:=λσ H'=>∃z:V,σ=[some (.ref a),some (.int (0 + (i:Int))),some (.ref p),some (.ref v),some (.str root),some (.ref c),some (.ref tq),some z,some (.ref nq),some (.int (m1 - 99)),some (.int (1 + t1))]/\ai FO H'/\((tl.map (·.2)=[]/\z=.non)\/(tl.map (·.2)≠[]/\z=.int (bG ((tl.map (·.2)).map (bx rs nr)) * (1 + t1) + (m1 - 99) * ((ps.length:Int) - 1))))
  refine nJ M2 (λN hN=>?_) ?_
  ·refine⟨_,rfl,rfl,_,rfl,?_⟩
   rcases hz with ⟨h0,rfl⟩ | ⟨h0,rfl⟩
   ·rw [show (!decide (V.non=V.non))=false by simp]
    exact bh (hN _ _ ⟨_,rfl,ai.refl _,.inl ⟨h0,rfl⟩⟩)
   rw [decide_eq_false (show ¬ (V.int _=V.non) from λz=>nomatch z)]
   refine aX ⟨_,rfl,tq,rfl,⟨_,C3.of OP⟩,dW (xs:=aR tl) (by rw [yA,zj];omega) (λm ys σ H9=>ys=(((tl.take m).map (·.2)).map (bx rs nr)).map V.int/\ai FO H9/\∃g,σ=[g,some (.ref v),some (.ref nq)]) ⟨rfl,ai.refl _,_,rfl⟩
    (λm ys σ H9 hm q=>⟨by rw [q.1];simp;omega,C3.of (q.2.1 _ _ OP)⟩) ?_ ?_⟩
   ·rintro m y ys σ H9 hy ⟨rfl,s9,g,rfl⟩
    obtain⟨t,ht,rfl⟩:=fF hy;refine⟨_,rfl,_,rfl,_,rfl,v,nq,t.1,pa,ra,ps,rs,nr,t.2,rfl,N8.same s9,Do,by omega,s9 _ _ Lq,Nf,s9 _ _ (N5 t (yP ht)),λDD Fq=>⟨?_,s9.trans Fq,_,rfl⟩⟩;rw [dS _ _ _ _ ht,yL,yL];rfl
   rintro ys σ H9 ⟨rfl,s9,g,rfl⟩ q hq;rw [take_all tl (by simp)];have GC:=au (o:=.lst (((tl.map (·.2)).map (bx rs nr)).map V.int)) s9 hq;have IQ:upd H9 q (.lst (((tl.map (·.2)).map (bx rs nr)).map V.int)) q=some (.lst (((tl.map (·.2)).map (bx rs nr)).map V.int)):=aj;generalize upd H9 q (.lst (((tl.map (·.2)).map (bx rs nr)).map V.int))=IJ at GC IQ ⊢;refine⟨q,_,rfl,C3.of IQ,by simpa using h0,?_⟩;have QC:=N8.same GC;refine⟨_,rfl,_,rfl,_,_,rfl,rfl,.inr ⟨by omega,by omega⟩,_,rfl,_,rfl,aB (j:=0) (.inr (C2.of QC.tp)) rfl rfl ⟨pa,_,rfl,.inr (C2.of QC.pl),_,_,rfl,rfl,_,_,rfl,rfl,.inl ⟨by omega,by omega⟩,_,_,rfl,rfl,hN _ _ ⟨_,rfl,GC,.inr ⟨h0,?_⟩⟩⟩⟩;rw [yA]
  rintro σ IJ ⟨z2,rfl,GC,J9⟩;have Lp:=GC _ _ Lq
  refine⟨_,rfl,_,rfl,_,rfl,nq,rfl,⟨_,C3.of Lp⟩,dW (xs:=nr.map V.int) (fits (by simp;omega)) (λm ys σ Ha=>ys=((nr.take m).map λx=>x * (1 + t1) + (m1 - 99)).map V.int/\Ha=IJ/\∃g,σ=[g,some (.int (1 + t1)),some (.int (m1 - 99))]) ⟨rfl,rfl,_,rfl⟩
   (λm ys σ Ha hm q=>⟨by rw [q.1];simp;omega,by rw [q.2.1];exact C3.of Lp⟩) ?_ ?_⟩
  ·rintro m y ys σ Ha hy ⟨rfl,rfl,g,rfl⟩
   obtain⟨n,hn,rfl⟩:=eQ hy;refine⟨_,rfl,_,rfl,_,_,rfl,rfl,.inr ⟨by omega,by omega⟩,_,rfl,_,_,rfl,rfl,?_,rfl,_,rfl⟩;rw [dS _ _ _ _ hn,yL];rfl
  rintro ys σ Ha ⟨rfl,rfl,g,rfl⟩ q hq;rw [take_all nr (by simp)];have Ld:=au (o:=.lst ((nr.map λx=>x * (1 + t1) + (m1 - 99)).map V.int)) GC hq;have ON:upd Ha q (.lst ((nr.map λx=>x * (1 + t1) + (m1 - 99)).map V.int)) q=some (.lst ((nr.map λx=>x * (1 + t1) + (m1 - 99)).map V.int)):=aj;generalize upd Ha q (.lst ((nr.map λx=>x * (1 + t1) + (m1 - 99)).map V.int))=KY at Ld ON ⊢;refine⟨q,_,rfl,.inl ⟨C3.of ON,λc2 FF=>?_⟩⟩;have IL:=au (o:=.tup ((nr.map λx=>x * (1 + t1) + (m1 - 99)).map V.int)) Ld FF;have KN:upd KY c2 (.tup ((nr.map λx=>x * (1 + t1) + (m1 - 99)).map V.int)) c2=some (.tup ((nr.map λx=>x * (1 + t1) + (m1 - 99)).map V.int)):=aj;generalize upd KY c2 (.tup ((nr.map λx=>x * (1 + t1) + (m1 - 99)).map V.int))=Oi at IL KN ⊢;have low2:cm rs root (first rs root)->fc ps root rs (nr.map λx=>x * (1 + t1) + (m1 - 99)) z2:=λFu=>by
   rcases J9 with ⟨h0,rfl⟩ | ⟨h0,rfl⟩
   ·rw [h0] at L;exact L.none G De
   ·exact L.low2 G De h0 Nf Tg Fu
  refine⟨_,rfl,v,c2,pa,ra,ps,rs,_,root,z2,rfl,LU.same IL,KN,by rw [yA];exact Nf,low2,λOh Lc _=>⟨_,rfl,bh ?_⟩⟩;refine⟨⟨_,_,_,_,_,_,_,_,_,_,rfl⟩,s1.trans λb o e=>?_⟩;have nb:b∉[p]:=by simp;exact ar e p0
  exact Lc _ _ (IL _ _ (KU b o (K4 b o (Rb b o e) nb) nb))
def aO (K:zz7) (x:Str) (st:Stmt):Prop:=∃(f:Addr) (oc:zz9) (od:Option Addr) (kV doc pm:zz9) (an:Option Addr) (cd ct:zz9) (sl:Array (Option zz9)),
 PySem.W.nsIn K mainGlobals x=some (some (.ref f))/\K.lookup f=some ⟨oc,od,.func (PySem.W.fnOf x x (cU st) (cu st) (aC st) .none kV doc pm an cd ct),sl⟩/\PySem.W.codeIn K cd x=true/\PySem.W.keepIn K (.ref f)=true
theorem yp {K:zz7}{x:Str}{st:Stmt}{f:Addr}{oc:zz9}{od:Option Addr}{kV doc pm:zz9}{an:Option Addr}{cd ct:zz9}{sl:Array (Option zz9)} (a:PySem.W.nsIn K mainGlobals x=some (some (.ref f)))
  (l:K.lookup f=some ⟨oc,od,.func (PySem.W.fnOf x x (cU st) (cu st) (aC st) .none kV doc pm an cd ct),sl⟩) (c:PySem.W.codeIn K cd x=true) (k:PySem.W.keepIn K (.ref f)=true):aO K x st :=
 ⟨f,oc,od,kV,doc,pm,an,cd,ct,sl,a,l,c,k⟩
theorem aP {P:Program}{w:World}{K:zz7}{mg:Str->Option zz9}{base h:Heap}{x:Str}{st:Stmt}{k:Nat}{ps:List Str}{sp:Sp} (D:aO K x st) (X:K.In h) (G:h.Ns mainGlobals mg)
  (hb:∀(kV doc pm:zz9) (an:Option Addr) (DB ct:zz9) (us:List zz9),us.length=ps.length->bindArgs (PySem.W.fnOf x x (cU st) (cu st) (aC st) .none kV doc pm an DB ct) ⟨us,[]⟩=pure (ps.zip us))
  (ok:∀(f:Addr) (fd:FuncData),Dk K x x st f fd->aG P w K mg base Dl k f fd ps sp):Fn P w K mg base k x ps sp:=by
 obtain⟨f,oc,od,kV,doc,pm,an,cd,ct,sl,a,l,c,kk⟩:=D;have F:=gq (st:=st) l c kk;exact⟨f,_,BB X G a,kk,F.binds hb,ok f _ F⟩
theorem uG {P:Program}{w:World}{K:zz7}{mg:Str->Option zz9}{base h:Heap}{x:Str}{st:Stmt}{k:Nat}{ps:List Str}{sp:Sp} (D:aO K x st) (X:K.In h) (G:h.Ns mainGlobals mg)
  (hb:∀(kV doc pm:zz9) (an:Option Addr) (DB ct:zz9) (us:List zz9),us.length=ps.length->bindArgs (PySem.W.fnOf x x (cU st) (cu st) (aC st) .none kV doc pm an DB ct) ⟨us,[]⟩=pure (ps.zip us))
  (ok:∀(f:Addr) (fd:FuncData),Dk K x x st f fd->aG P w K mg base (Hb P w) k f fd ps sp):Ol P w K mg base k x ps sp:=by
 obtain⟨f,oc,od,kV,doc,pm,an,cd,ct,sl,a,l,c,kk⟩:=D;have F:=gq (st:=st) l c kk;exact⟨f,_,BB X G a,kk,F.binds hb,ok f _ F⟩
def m8 (K:zz7) (x q:Str) (st:Stmt) (C f:Addr):Prop:=∃(oc:zz9) (od:Option Addr) (kV doc pm:zz9) (an:Option Addr) (cd ct:zz9) (sl:Array (Option zz9)),
 PySem.W.nsIn K mainGlobals x=some (some (.ref C))/\fC K dP C f LV "ValueError.__new__"=true/\K.lookup f=some ⟨oc,od,.func (PySem.W.fnOf "__init__" q (cU st) (cu st) (aC st) .none kV doc pm an cd ct),sl⟩/\PySem.W.codeIn K cd q=true/\PySem.W.keepIn K (.ref f)=true
theorem yq {K:zz7}{x q:Str}{st:Stmt}{C f:Addr}{oc:zz9}{od:Option Addr}{kV doc pm:zz9}{an:Option Addr}{cd ct:zz9}{sl:Array (Option zz9)} (a:PySem.W.nsIn K mainGlobals x=some (some (.ref C))) (i:PySem.W.findIn K (.ref C) "__init__"=some (some (.ref f)))
  (l:K.lookup f=some ⟨oc,od,.func (PySem.W.fnOf "__init__" q (cU st) (cu st) (aC st) .none kV doc pm an cd ct),sl⟩) (c:PySem.W.codeIn K cd q=true) (k:PySem.W.keepIn K (.ref f)=true) (e:fC K dP C f LV "ValueError.__new__"=true):m8 K x q st C f :=
 ⟨oc,od,kV,doc,pm,an,cd,ct,sl,a,e,l,c,k⟩
theorem zz1 {P:zz9->zz9->zz9->Option Addr->zz9->zz9->List zz9->Prop} (h:∀a b c d e f x0,P a b c d e f [x0]) a b c d e f:∀us:List zz9,us.length=1->P a b c d e f us
 | [_],_=>h _ _ _ _ _ _ _
theorem zz2 {P:zz9->zz9->zz9->Option Addr->zz9->zz9->List zz9->Prop} (h:∀a b c d e f x0 x1,P a b c d e f [x0,x1]) a b c d e f:∀us:List zz9,us.length=2->P a b c d e f us
 | [_,_],_=>h _ _ _ _ _ _ _ _
theorem zz3 {P:zz9->zz9->zz9->Option Addr->zz9->zz9->List zz9->Prop} (h:∀a b c d e f x0 x1 x2,P a b c d e f [x0,x1,x2]) a b c d e f:∀us:List zz9,us.length=3->P a b c d e f us
 | [_,_,_],_=>h _ _ _ _ _ _ _ _ _
theorem zz4 {P:zz9->zz9->zz9->Option Addr->zz9->zz9->List zz9->Prop} (h:∀a b c d e f x0 x1 x2 x3,P a b c d e f [x0,x1,x2,x3]) a b c d e f:∀us:List zz9,us.length=4->P a b c d e f us
 | [_,_,_,_],_=>h _ _ _ _ _ _ _ _ _ _
theorem zz5 {P:zz9->zz9->zz9->Option Addr->zz9->zz9->List zz9->Prop} (h:∀a b c d e f x0 x1 x2 x3 x4,P a b c d e f [x0,x1,x2,x3,x4]) a b c d e f:∀us:List zz9,us.length=5->P a b c d e f us
 | [_,_,_,_,_],_=>h _ _ _ _ _ _ _ _ _ _ _
theorem yo {l:PySem.W.OpenLaw}{w:World}{K:zz7}{h:Heap}{mg:Str->Option zz9}{fa:Addr} (X:K.In h) (G:h.Ns mainGlobals mg) (LA:mg "law"=some (.ref fa)) (B:Bl mg) {C fI:Addr}
  (tC:m8 K "TooFew" "TooFew.__init__" (Lr (top 5) 0) C fI)
  (d8:aO K "is_name" (top 8))
  (d9:aO K "is_whole" (top 9))
  (d10:aO K "is_rising" (top 10))
  (d11:aO K "is_sorted_names" (top 11))
  (d12:aO K "is_among" (top 12))
  (d13:aO K "is_tie_row" (top 13))
  (d14:aO K "is_web" (top 14))
  (d15:aO K "need_web" (top 15))
  (d16:aO K "need_place" (top 16))
  (d17:aO K "leads_into" (top 17))
  (d18:aO K "first_rows" (top 18))
  (d19:aO K "come_to" (top 19))
  (d21:aO K "need_costs" (top 21))
  (d23:aO K "places_beyond" (top 23))
  (d25:aO K "raise_price" (top 25))
  (d26:aO K "met_rows" (top 26))
  (d27:aO K "unmet_lot" (top 27))
  (d28:aO K "raised_prices" (top 28))
  (d29:aO K "leads_anew" (top 29))
  (d30:aO K "tree_along" (top 30))
  (d31:aO K "cheapest" (top 31))
  (d33:aO K "_law_at" (top 33))
  (d34:aO K "_law_pot" (top 34))
  (d35:aO K "_law_take" (top 35))
  (d36:aO K "_law_name" (top 36))
  (d37:aO K "_law_grown" (top 37))
  (d38:aO K "_law_more" (top 38))
  (d39:aO K "_law_places" (top 39))
  (d40:aO K "_law_is_tree" (top 40))
  (d41:aO K "_law_cost" (top 41))
  (d42:aO K "_law_costs" (top 42))
  (d43:aO K "_law_small_web" (top 43))
  (d44:aO K "_law_choices" (top 44))
  (d45:aO K "_law_cost_of" (top 45))
  (d46:aO K "_law_told" (top 46))
  (d47:aO K "_law_right" (top 47))
  (d48:aO K "law" (top 48)) :
  ∃fd:FuncData,(∀(s:zz8) (v:zz9),BindsTo s fd ⟨[v],[]⟩ [("_law_script",v)])/\∀base:Heap,K.In base->base.Ns mainGlobals mg->aG l.prog w K mg base Dl 8 fa fd ["_law_script"] (gG K):=by
 obtain⟨f,oc,od,kV,doc,pm,an,cd,ct,sl,a,lk,c,kk⟩:=d48;have e:=LA.symm.trans (BB X G a);cases e;refine⟨PySem.W.fnOf "law" "law" (cU (top 48)) (cu (top 48)) (aC (top 48)) .none kV doc pm an cd ct,λs v=>.of_eq rfl,λbase KB _=>?_⟩;obtain⟨ocI,odI,kVI,Uh,pmI,anI,cdI,ctI,slI,a1,a2,a3,a4,a5⟩:=tC;have gC:=BB X G a1;have xC:=tK KB a2;have FI:=gq (st:=Lr (top 5) 0) a3 a4 a5;have bI:=FI.binds (ps:=["self","lot"]) (zz2 (by intros;rfl));have nI:=ue (P:=l.prog) (w:=w) (mg:=mg) FI xC;have FD:=@aP l.prog w K mg base h;have n8:=FD d8 X G (ps:=["thing"]) (zz1 (by intros;rfl)) λf fd F=>qd F B;have n9:=FD d9 X G (ps:=["thing"]) (zz1 (by intros;rfl)) λf fd F=>pb F B;have O8:=FD d10 X G (ps:=["names"]) (zz1 (by intros;rfl)) λf fd F=>oS F B;have J1:=FD d11 X G (ps:=["thing"]) (zz1 (by intros;rfl)) λf fd F=>o9 F B n8 O8;have O5:=FD d12 X G (ps:=["thing","names"]) (zz2 (by intros;rfl)) λf fd F=>pC F B;have Lq:=FD d13 X G (ps:=["thing","places"]) (zz2 (by intros;rfl)) λf fd F=>oO F B n8 O5;have Lp:=FD d14 X G (ps:=["thing"]) (zz1 (by intros;rfl)) λf fd F=>rF F B J1 Lq O8;have Sj:=FD d15 X G (ps:=["thing"]) (zz1 (by intros;rfl)) λf fd F=>pD F Lp;have Si:=FD d16 X G (ps:=["web","thing"]) (zz2 (by intros;rfl)) λf fd F=>oP F O5;have O4:=FD d17 X G (ps:=["row","lot"]) (zz2 (by intros;rfl)) λf fd F=>oK F;have Sh:=FD d18 X G (ps:=["rows","start"]) (zz2 (by intros;rfl)) λf fd F=>oM F B;have O3:=FD d19 X G (ps:=["rows","start"]) (zz2 (by intros;rfl)) λf fd F=>pJ F Sh;have Sg:=FD d21 X G (ps:=["web","thing"]) (zz2 (by intros;rfl)) λf fd F=>oH F B n9;have Sf:=FD d23 X G (ps:=["web","found"]) (zz2 (by intros;rfl)) λf fd F=>qY F B;have Se:=FD d25 X G (ps:=["prices","left","rows","lot"]) (zz4 (by intros;rfl)) λf fd F=>sI F B O4;have O2:=FD d26 X G (ps:=["rows","left"]) (zz2 (by intros;rfl)) λf fd F=>vH F;have Sd:=FD d27 X G (ps:=["places","root","met"]) (zz3 (by intros;rfl)) λf fd F=>rX F B O3;have Sb:=FD d28 X G (ps:=["places","root","rows","left"]) (zz4 (by intros;rfl)) λf fd F=>rh F B Se O2 Sd;have Sa:=FD d29 X G (ps:=["row","found","lots"]) (zz3 (by intros;rfl)) λf fd F=>uQ F B O4;have R7:=FD d30 X G (ps:=["met","root","places","lots"]) (zz4 (by intros;rfl)) λf fd F=>sm F B Sa;have R0:=uG (P:=l.prog) (w:=w) (base:=base) d31 X G (ps:=["web","root","costs"]) (zz3 (by intros;rfl)) λf fd F=>sr F B gC xC nI bI Sj Si Sg O3 Sf Sb R7 O2;have RZ:=FD d33 X G (ps:=["_law_script","_law_k"]) (zz2 (by intros;rfl)) λf fd F=>wI F B;have RY:=FD d34 X G (ps:=["_law_script","_law_k"]) (zz2 (by intros;rfl)) λf fd F=>vR F B RZ;have Hn:=FD d35 X G (ps:=["_law_pot_here","_law_many"]) (zz2 (by intros;rfl)) λf fd F=>uT F;have Mw:=FD d36 X G (ps:=["_law_pot_here","_law_taken"]) (zz2 (by intros;rfl)) λf fd F=>vb F B Hn;have RX:=FD d37 X G (ps:=["_law_pot_here","_law_places_here","_law_root","_law_rows","_law_taken"]) (zz5 (by intros;rfl)) λf fd F=>sH F B Hn Mw;have RW:=FD d38 X G (ps:=["_law_pot_here","_law_places_here","_law_rows","_law_taken","_law_many"]) (zz5 (by intros;rfl)) λf fd F=>ug F B Hn Mw;have RV:=FD d39 X G (ps:=["_law_pot_here","_law_most"]) (zz2 (by intros;rfl)) λf fd F=>qM F B Hn Mw;have O1:=FD d40 X G (ps:=["_law_web","_law_root","_law_thing"]) (zz3 (by intros;rfl)) λf fd F=>sV F B;have RU:=FD d41 X G (ps:=["_law_pot_here"]) (zz1 (by intros;rfl)) λf fd F=>ur F B Hn;have RT:=FD d42 X G (ps:=["_law_pot_here","_law_web"]) (zz2 (by intros;rfl)) λf fd F=>tY F B Hn RU;have RS:=FD d43 X G (ps:=["_law_pot_here"]) (zz1 (by intros;rfl)) λf fd F=>sC F B Hn RV RX RW;have RQ:=FD d44 X G (ps:=["_law_web","_law_root"]) (zz2 (by intros;rfl)) λf fd F=>pM F B;have O0:=FD d45 X G (ps:=["_law_web","_law_costs_here","_law_tree"]) (zz3 (by intros;rfl)) λf fd F=>tP F B;have Mv:=FD d45 X G (ps:=["_law_web","_law_costs_here","_law_tree"]) (zz3 (by intros;rfl)) λf fd F=>tV F B;have RP:=FD d46 X G (ps:=["_law_web","_law_root","_law_costs_here"]) (zz3 (by intros;rfl)) λf fd F=>uK F B gC xC R0;have RO:=FD d47 X G (ps:=["_law_web","_law_root","_law_costs_here","_law_lowest"]) (zz4 (by intros;rfl)) λf fd F=>sJ F B RP O1 O0;exact vQ (gq (st:=top 48) lk c kk) B RY Hn RS RT RQ O1 O0 Mv RO
theorem yw {K:zz7}{h:Heap}{mg:Str->Option zz9} (X:K.In h) (G:h.Ns mainGlobals mg) {He:Tok}
  (Jz:PySem.W.nsIn K mainGlobals "len"=some none)
  (Ej:PySem.W.nsIn K mainGlobals "isinstance"=some none)
  (JC:PySem.W.nsIn K mainGlobals "all"=some none)
  (GB:PySem.W.nsIn K mainGlobals "range"=some none)
  (FP:PySem.W.nsIn K mainGlobals "sorted"=some none)
  (HL:PySem.W.nsIn K mainGlobals "repr"=some none)
  (Jx:PySem.W.nsIn K mainGlobals "max"=some none)
  (Jw:PySem.W.nsIn K mainGlobals "min"=some none)
  (Ju:PySem.W.nsIn K mainGlobals "str"=some none)
  (GA:PySem.W.nsIn K mainGlobals "tuple"=some none)
  (HM:PySem.W.nsIn K mainGlobals "list"=some none)
  (JA:PySem.W.nsIn K mainGlobals "int"=some none)
  (Jv:PySem.W.nsIn K mainGlobals "set"=some none)
  (HP:PySem.W.nsIn K mainGlobals "bool"=some none)
  (Js:PySem.W.nsIn K mainGlobals "zip"=some none)
  (Jt:PySem.W.nsIn K mainGlobals "sum"=some none)
  (JD:PySem.W.nsIn K mainGlobals "abs"=some none)
  (HN:PySem.W.nsIn K mainGlobals "dict"=some none)
  (JB:PySem.W.nsIn K mainGlobals "any"=some none)
  (Jy:PySem.W.nsIn K mainGlobals "LONGEST_NAME"=some (some (.int 8 He)))
  : Bl mg :=
 ⟨zq X G Jz,zq X G Ej,zq X G JC,zq X G GB,zq X G FP,zq X G HL,zq X G Jx,zq X G Jw,zq X G Ju,zq X G GA,zq X G HM,zq X G JA,zq X G Jv,zq X G HP,zq X G Js,zq X G Jt,zq X G JD,zq X G HN,zq X G JB,⟨He,BB X G Jy⟩⟩
theorem walk {l:PySem.W.OpenLaw}{q:Program}{loose:List Str}{XP:(Str->Option zz9)->Heap->Prop}{YP:World->Heap->Prop}{d:DefRec}{K:Params->zz7} (hn:l.most=some 63) (Kw:d.params.defaults=[])
  (hY:∀(w:World) (h:Heap),YP w h->(K w.params).In h)
  (F:∀(w:World) (mg:Str->Option zz9) (fa:Addr) (h:Heap),(K w.params).In h->h.Ns mainGlobals mg->mg d.name=some (.ref fa) ->
   ∃fd:FuncData,(∀(s:zz8) (u:zz9),BindsTo s fd ⟨[u],[]⟩ [("_law_script",u)])/\∀base:Heap,(K w.params).In base->base.Ns mainGlobals mg->aG l.prog w (K w.params) mg base Dl 8 fa fd ["_law_script"] (gG (K w.params))) :
  PySem.W.WalkO q loose XP YP l.row.toRowW d [] (λf vs=>PySem.call f vs) :=
 L2.yn (n:=63) (k:=8) (x:="_law_script") (CX:=λ_=>Dl) (sp:=λw=>gG (K w.params)) hn (by decide) Kw ⟨rfl,by decide,by decide,rfl⟩ hY F (λ_ _ a ns hl _ hS=>⟨a,ns,rfl,hS,hl,λ_=>rfl⟩) λ_ _ _ _ _ z=>z
end K53
namespace PySem.W.Fast
def tw72092397819930271:=0
def tw9875257190444469649:=0
def tw11927529490083971770:=0
def tw6588245077732397910:=0
def tw2522515268516561659:=0
def tw17240173283176233631:=0
def tw12899690373086085109:=0
def tw8134096212766840316:=0
def tw13309167513069078832:=0
def tw15316995843194379967:=0
def tw6675783074503774791:=0
def tw1563391645452902953:=0
def tw3992081131376563890:=0
def tw1124557806570853136:=0
def tw811341690315615530:=0
def tw1517406597698257002:=0
def tw8207171564823755017:=0
def tw6335693901673112921:=0
def tw9633934062757811650:=0
def tw12049754296019721758:=0
def tw6498117123898361127:=0
def tw13465342674343094152:=0
def tw10930491405572755971:=0
def tw18273378419722157679:=0
def tw3417978263041031447:=0
def tw11253897283610159268:=0
def tw4383174286987794153:=0
def tw8420771482485257571:=0
def tw6796524724170132766:=0
def tw12615227925946842287:=0
def tw17124999493313870747:=0
def tw10337281489909135169:=0
def tw12545655627621870084:=0
def tw16742713011488989740:=0
def tw12157971074527318678:=0
def tw4829035125368276660:=0
def tw15211722001836751393:=0
def tw5296965944095843210:=0
def tw8288256402463984996:=0
def tw3370460926658047498:=0
def tw16433084879556106239:=0
def tw921585908504817368:=0
def tw16678237180125725605:=0
def tw15361021134348244675:=0
def tw6989117059984099273:=0
def tw12796480407479427243:=0
def tw14575499296364658100:=0
def tw11300795901693404502:=0
def tw7923555202933082819:=0
def tw17368115622304615391:=0
def tw8309581585684739592:=0
def tw16473628861271249487:=0
def tw3296884641985961730:=0
def tw12200410683217250088:=0
def tw15645441589994672378:=0
def tw13837393735038594417:=0
def tw11612845893534995798:=0
def tw5390064769855977624:=0
def tw14062735789715509863:=0
def tw8208548766311091657:=0
def tw13091651417572914924:=0
def tw11885223405817458903:=0
def tw17292829545202911333:=0
def tw519918714306924574:=0
def tw12233856494858780458:=0
def tw7040648516528084274:=0
def tw3874434869480943833:=0
def tw14028510469411089015:=0
def tw18240433956175240970:=0
def tw11996537439595143221:=0
def tw9838571271318745668:=0
def tw15472182661995382696:=0
def tw6574357426798669099:=0
def tw14180486459088735172:=0
def tw3718863316539169743:=0
def tw1037873243016166069:=0
def tw12106947267621781323:=0
def tw3380538336604981937:=0
def tw1936876781569452483:=0
def tw2073478878138399768:=0
def tw8278946525755906040:=0
def tw2418486818027077918:=0
def tw5412931025114853972:=0
def tw17373640282118763806:=0
def tw5211736074516971144:=0
def tw16101789185203363399:=0
def tw4446008279400255051:=0
def tw17146853918856232339:=0
def tw16621056242288707234:=0
def tw7256913339133718241:=0
def tw10289862401768259085:=0
def tw3593883216082702112:=0
def tw13454279625684806226:=0
def tw2350595189147711231:=0
def tw7696229800415603974:=0
def tw15636902730005442572:=0
def tw3038991603588586121:=0
def tw10936507718588253603:=0
def tw9161305160073394551:=0
def tw6808137119365518655:=0
def tw18023372620061320690:=0
def tw9526479353557900915:=0
def tw18163873824372237703:=0
def tw14121399329421710706:=0
def tw5617096372788032783:=0
def tw15379056099073020801:=0
def tw10167487478094885129:=0
def tw13263176063844784900:=0
def tw10701660577451388443:=0
def tw3833988985573834052:=0
def tw1691725510826648132:=0
def tw13088761646271368593:=0
def tw5382730289507852116:=0
def tw12185936655395041193:=0
def tw15904528483184248454:=0
def tw11252844790397480155:=0
def tw7652923433378746134:=0
def tw9163939691632104303:=0
def tw13028831785170478682:=0
def tw1240632118365606205:=0
def tw3497296773883538350:=0
def tw2144414161596705268:=0
def tw3388705246000339991:=0
def tw2470408766271163651:=0
def tw10955128600549155934:=0
def tw3380636614107302402:=0
def tw13383591479078270790:=0
def tw12854828697488196895:=0
def tw5942982090289300236:=0
def tw5468483033837680832:=0
def tw8820710509481825966:=0
def tw4460316805552292252:=0
def tw16099711691410502398:=0
def tw16720907566201077434:=0
def tw142894484784514797:=0
def tw1055654385268302270:=0
def tw2571020290611618460:=0
def tw15236723115249095216:=0
def tw10778523495680906115:=0
def tw17149164459497894947:=0
def tw1603113544630972588:=0
def tw12577125422861184437:=0
def tw9944246341220650927:=0
def tw4207768204230392443:=0
def tw15753892199161857264:=0
def tw5076524320660850841:=0
def tw17780389983347586980:=0
def tw10540835849821388242:=0
def tw1961521902102163301:=0
def tw3653790464051746645:=0
def tw18255253753679088965:=0
def tw7525007152084560760:=0
def tw10675463482208179096:=0
def tw17387841788197913374:=0
def tw9242725993923897937:=0
def tw10637552637171293395:=0
def tw3355006885831806119:=0
def tw5053180426581747196:=0
def tw5410278175788993770:=0
def tw15649754020097303323:=0
def tw3972504747746326834:=0
def tw12682459297085319025:=0
def tw11422230994729230287:=0
def tw13305003457223889129:=0
def tw17643443420703114919:=0
def tw11148052643943961528:=0
def tw8567956241782941624:=0
def tw896216334066820625:=0
def tw1542601171884755765:=0
def tw1840753833916924712:=0
def tw2274065736153751010:=0
def tw17261487160502841723:=0
def tw17797156331430172552:=0
def tw15150669466890540914:=0
def tw6309248308429754250:=0
end PySem.W.Fast
open PySem PySem.W PyProof.Rows
set_option maxRecDepth 100000 in
set_option maxHeartbeats 0 in
theorem PySem.Challenge.cw_rootshares_k53_whole_cheapest_of_all_holds : PySem.Challenge.rw_rootshares_k53_whole_cheapest_of_all.Holds := by
 w_on;o_law;k_head;(case hw=>w_witness2)
 k_fill
 refine K53.walk (l:=PySem.Challenge.rw_rootshares_k53_whole_cheapest_of_all) rfl rfl (λw h Y=>PySem.W.kIn_of Y) ?F
 case F =>
  intro w mg fa h KX G Ik;have B:K53.Bl mg:=by
   refine' K53.yw KX G ?len ?isinstance ?all ?range ?sorted ?repr ?max ?min ?str ?tuple ?list ?int ?set ?bool ?zip ?sum ?abs ?dict ?any ?lng
   (case len=>k_is)
   (case isinstance=>k_is)
   (case all=>k_is)
   (case range=>k_is)
   (case sorted=>k_is)
   (case repr=>k_is)
   (case max=>k_is)
   (case min=>k_is)
   (case str=>k_is)
   (case tuple=>k_is)
   (case list=>k_is)
   (case int=>k_is)
   (case set=>k_is)
   (case bool=>k_is)
   (case zip=>k_is)
   (case sum=>k_is)
   (case abs=>k_is)
   (case dict=>k_is)
   (case any=>k_is)
   (case lng=>k_is)
  refine' K53.yo KX G Ik B ?tC ?d8 ?d9 ?d10 ?d11 ?d12 ?d13 ?d14 ?d15 ?d16 ?d17 ?d18 ?d19 ?d21 ?d23 ?d25 ?d26 ?d27 ?d28 ?d29 ?d30 ?d31 ?d33 ?d34 ?d35 ?d36 ?d37 ?d38 ?d39 ?d40 ?d41 ?d42 ?d43 ?d44 ?d45 ?d46 ?d47 ?d48
  (case tC=>(refine' K53.yq ?a ?i ?l ?c ?k ?e;(case a=>k_is);(case i=>k_is);(case l=>k_is);(case c=>k_is);(case k=>k_is);(case e=>kernel_rfl)))
  (case d8=>(refine' K53.yp ?a ?l ?c ?k;(case a=>k_is);(case l=>k_is);(case c=>k_is);(case k=>k_is)))
  (case d9=>(refine' K53.yp ?a ?l ?c ?k;(case a=>k_is);(case l=>k_is);(case c=>k_is);(case k=>k_is)))
  (case d10=>(refine' K53.yp ?a ?l ?c ?k;(case a=>k_is);(case l=>k_is);(case c=>k_is);(case k=>k_is)))
  (case d11=>(refine' K53.yp ?a ?l ?c ?k;(case a=>k_is);(case l=>k_is);(case c=>k_is);(case k=>k_is)))
  (case d12=>(refine' K53.yp ?a ?l ?c ?k;(case a=>k_is);(case l=>k_is);(case c=>k_is);(case k=>k_is)))
  (case d13=>(refine' K53.yp ?a ?l ?c ?k;(case a=>k_is);(case l=>k_is);(case c=>k_is);(case k=>k_is)))
  (case d14=>(refine' K53.yp ?a ?l ?c ?k;(case a=>k_is);(case l=>k_is);(case c=>k_is);(case k=>k_is)))
  (case d15=>(refine' K53.yp ?a ?l ?c ?k;(case a=>k_is);(case l=>k_is);(case c=>k_is);(case k=>k_is)))
  (case d16=>(refine' K53.yp ?a ?l ?c ?k;(case a=>k_is);(case l=>k_is);(case c=>k_is);(case k=>k_is)))
  (case d17=>(refine' K53.yp ?a ?l ?c ?k;(case a=>k_is);(case l=>k_is);(case c=>k_is);(case k=>k_is)))
  (case d18=>(refine' K53.yp ?a ?l ?c ?k;(case a=>k_is);(case l=>k_is);(case c=>k_is);(case k=>k_is)))
  (case d19=>(refine' K53.yp ?a ?l ?c ?k;(case a=>k_is);(case l=>k_is);(case c=>k_is);(case k=>k_is)))
  (case d21=>(refine' K53.yp ?a ?l ?c ?k;(case a=>k_is);(case l=>k_is);(case c=>k_is);(case k=>k_is)))
  (case d23=>(refine' K53.yp ?a ?l ?c ?k;(case a=>k_is);(case l=>k_is);(case c=>k_is);(case k=>k_is)))
  (case d25=>(refine' K53.yp ?a ?l ?c ?k;(case a=>k_is);(case l=>k_is);(case c=>k_is);(case k=>k_is)))
  (case d26=>(refine' K53.yp ?a ?l ?c ?k;(case a=>k_is);(case l=>k_is);(case c=>k_is);(case k=>k_is)))
  (case d27=>(refine' K53.yp ?a ?l ?c ?k;(case a=>k_is);(case l=>k_is);(case c=>k_is);(case k=>k_is)))
  (case d28=>(refine' K53.yp ?a ?l ?c ?k;(case a=>k_is);(case l=>k_is);(case c=>k_is);(case k=>k_is)))
  (case d29=>(refine' K53.yp ?a ?l ?c ?k;(case a=>k_is);(case l=>k_is);(case c=>k_is);(case k=>k_is)))
  (case d30=>(refine' K53.yp ?a ?l ?c ?k;(case a=>k_is);(case l=>k_is);(case c=>k_is);(case k=>k_is)))
  (case d31=>(refine' K53.yp ?a ?l ?c ?k;(case a=>k_is);(case l=>k_is);(case c=>k_is);(case k=>k_is)))
  (case d33=>(refine' K53.yp ?a ?l ?c ?k;(case a=>k_is);(case l=>k_is);(case c=>k_is);(case k=>k_is)))
  (case d34=>(refine' K53.yp ?a ?l ?c ?k;(case a=>k_is);(case l=>k_is);(case c=>k_is);(case k=>k_is)))
  (case d35=>(refine' K53.yp ?a ?l ?c ?k;(case a=>k_is);(case l=>k_is);(case c=>k_is);(case k=>k_is)))
  (case d36=>(refine' K53.yp ?a ?l ?c ?k;(case a=>k_is);(case l=>k_is);(case c=>k_is);(case k=>k_is)))
  (case d37=>(refine' K53.yp ?a ?l ?c ?k;(case a=>k_is);(case l=>k_is);(case c=>k_is);(case k=>k_is)))
  (case d38=>(refine' K53.yp ?a ?l ?c ?k;(case a=>k_is);(case l=>k_is);(case c=>k_is);(case k=>k_is)))
  (case d39=>(refine' K53.yp ?a ?l ?c ?k;(case a=>k_is);(case l=>k_is);(case c=>k_is);(case k=>k_is)))
  (case d40=>(refine' K53.yp ?a ?l ?c ?k;(case a=>k_is);(case l=>k_is);(case c=>k_is);(case k=>k_is)))
  (case d41=>(refine' K53.yp ?a ?l ?c ?k;(case a=>k_is);(case l=>k_is);(case c=>k_is);(case k=>k_is)))
  (case d42=>(refine' K53.yp ?a ?l ?c ?k;(case a=>k_is);(case l=>k_is);(case c=>k_is);(case k=>k_is)))
  (case d43=>(refine' K53.yp ?a ?l ?c ?k;(case a=>k_is);(case l=>k_is);(case c=>k_is);(case k=>k_is)))
  (case d44=>(refine' K53.yp ?a ?l ?c ?k;(case a=>k_is);(case l=>k_is);(case c=>k_is);(case k=>k_is)))
  (case d45=>(refine' K53.yp ?a ?l ?c ?k;(case a=>k_is);(case l=>k_is);(case c=>k_is);(case k=>k_is)))
  (case d46=>(refine' K53.yp ?a ?l ?c ?k;(case a=>k_is);(case l=>k_is);(case c=>k_is);(case k=>k_is)))
  (case d47=>(refine' K53.yp ?a ?l ?c ?k;(case a=>k_is);(case l=>k_is);(case c=>k_is);(case k=>k_is)))
  (case d48=>(refine' K53.yp ?a ?l ?c ?k;(case a=>k_is);(case l=>k_is);(case c=>k_is);(case k=>k_is)))
