import PyProof.Rows.All
import Wide.All
import OpenK.AllK
import Wide.FinOn
import Lean
import PyProof.EqAt
import PyProof.EqKinds
import PyProof.TupleCall
import KE.KSortTup
import KE.KDictSum
import KE.KDictOf
import PyProof.AttrMissHeap
import PyProof.WalksEnum
import PyProof.EnumMake
import PyProof.Draws
import PyProof.Rows.SetFrom
import KE.KTryOn
import KE.KTryDeep
import PySem.Challenge.RW_rootshares_k52_whole_cheapest_shown
set_option Elab.async false
set_option linter.all false
set_option maxRecDepth 100000
noncomputable section
open PySem.W renaming Frag→zz7
open PySem renaming Shared→zz8,Value→zz9
open PySem renaming wpAny_bind→AF,wpAny_pure→AI,boot_len→Bb,wpAny_holding→Bo,sizeLine_eq→Bw,codeAny_builtin→BF,wpAny_newObj_type→BG,wpAny_call_entry→BH,wpAny_mono→BK,wpAny_seqItems→BP,wpAny_callSpecial?_slot→BQ,wpAny_truthy_bool→BU,wpAny_loadPart_at→BV,plainId_quiet→B4,wpAny_setState_of→B7,wpAny_standAt→Cb,wpAny_setField→Cc,wpAny_field→Ce,wpAny_tryCatch→Cg,wpAny_pyIter_list→Cn,mem_of_lookup→Cw,codeAny_mono→Cy,wpAny_of_eq→Cz,wpAny_updateSeq→CJ,wpAny_typeNameOfWhole_keyiter→CL,wpAny_isSubtype_exc→CN,wpAny_fieldsOf→CO,wpAny_askSetting→CQ,isSubtype_type→CS,wpAny_letGo→CV,wpAny_pyIter_tuple→CY,wpAny_passesOwn→C3,builtinLookup_eq_fast→C5,wpAny_attempt→C8,wpAny_rule→Dc,wpAny_comprehension_free→Df,wpAny_typeNameOf_keyiter→Dg,wpAny_setEntries_of→Di,wpAny_getItem_str_slice→Dk,wpAny_execs_nil→Dm,wpAny_Call_Name_kw→Do,wpAny_setField_rec→Dr,wpAny_typeOf→Dy,wpAny_isInstance→DE,codeAny_call_builtin→DF,typeLookup_type→DN,codeAny_of_tree→DO,tupleKind_room_in1→DR,wpAny_storeSet_of→DZ,wpAny_newList→Ea,strKind_is→Ed,wpAny_forIn_list→Ee,wpAny_isOneOf_keyiter→Eh,wpAny_call→Em,wpAny_newFunctionEnv→Ep,post_val_or_str→Ew,wpAny_runValue→EF,wpAny_eqBool_tuple→EN,wpAny_onRaise→EY,wpAny_assign_Name→E2,wpAny_dictEntries→E4,wpAny_pyIter_slot→E5,wpAny_load→Fb,codeAny_loop→Fh
open List renaming length_map→AG,getElem?_eq_getElem→AJ,mem_cons_self→AK,mem_map→AL,mem_map_of_mem→AM,mem_cons→AO,mem_singleton→AQ,mem_cons_of_mem→AR,mem_filter→AS,mem_append_right→AV,mem_of_getElem?→AW,map_append→AX,getElem?_map→AZ,size_toArray→A0,mem_append→A1,getElem?_eq_some_iff→A3,pairwise_iff_getElem→A5,map_map→A6,mem_append_left→A7,map_cons→A8,length_cons→Bd,getD_eq_getElem?_getD→Bf,length_filter_le→Bg,nodup_cons→Bj,getElem_mem→Bk,take_add_one→Br,filter_cons→Bs,length_append→Bu,append_nil→BA,filter_sublist→BJ,all_eq_true→BL,mem_range→BO,getElem_map→BS,nodup_append→BW,length_take→B0,take_length→B3,pairwise_map→B6,replicate_succ'→B8,getElem_of_mem→Ca,map_replicate→Cd,not_mem_nil→Cm,append_assoc→Co,getElem?_append_left→Cp,length_eq_zero_iff→Ct,filterMap_cons→Cv,sum_cons→CB,map_congr_left→CM,filter_eq_nil_iff→CW,contains_cons→C1,getElem?_eq_none→C6,mem_of_find?_eq_some→Dd,lookup_cons→De,find?_cons→Dq,find?_some→Du,getElem?_set_self→Dv,length_range→Dw,length_singleton→Dx,nodup_nil→Dz,getElem?_of_mem→DH,filter_map→DP,pairwise_cons→DT,lt_irrefl→DW,ext_getElem?→D0,getElem_take→D5,filter_congr→D6,any_cons→D9,any_eq_true→Ef,mem_reverse→Eg,getElem?_toArray→Ej,getElem?_set_ne→El,forIn_cons→Eo,mem_iff_getElem→Er,length_nil→Es,length_eraseIdx→EC,filter_eq_self→ED,mem_filterMap→EJ,zip_nil_right→EL,zip_cons_cons→EM,filter_append→EO,append_of_mem→ER,find?_eq_none→ES,ne_nil_of_mem→ET,set_cons_succ→EU,lt_trans→EX,foldl_append→E6,zip_nil_left→E8,map_nil→Ff,nodup_range→Fj,cons_append→Fk,perm_middle→Fq,of_mem_zip→Fx,nil_append→Fy,range_succ→Fz,forIn_nil→FB
open PySem.Heap renaming get?_push_of_some→AH,lt_size→AN,get?_push_size→AU,get?_update_other→Ba,get?_update_self→By,size_push→Bz,get?_none_of_le→DC,get?_update_ne→DL
open Nat renaming le_refl→AY,ne_of_lt→A4,lt_of_lt_of_le→Bc,le_trans→Be,zero_le→Bi,lt_irrefl→Bt,lt_succ_of_lt→B5,le_of_lt→Cq,lt_succ_self→CC,ne_of_gt→CG,le_succ→CT,lt_or_gt_of_ne→C0,lt_or_ge→DB,pow_le_pow_right→DG,le_add_right→Ec,not_lt_zero→Et,mod_lt→EB,lt_of_le_of_lt→EK,zero_add→Fs,succ_pos→Fv
open Bool renaming false_ne_true→A2,false_eq_true→Bm,and_eq_true→B9,not_eq_true→Cf,eq_iff_iff→CI,not_true→Eb,true_and→E1,eq_false_iff→E9,or_true→Fl,false_and→FA
open Array renaming length_toList→Bh,getElem?_eq_getElem→Bp,getElem?_toList→BD,getD_eq_getD_getElem?→BY,getElem?_eq_some_iff→CA,getElem?_eq_none→CU,toList_setIfInBounds→C9,toList_append→Dj,mem_toList_iff→DD,getElem?_setIfInBounds_ne→Ek,getElem_toList→Eu,size_map→EE,perm_iff_toList_perm→EW,toList_push→E7
open PySem.W renaming mg_none_of→Bv,kia_one→Cj,mg_of→DJ
open Option.some renaming inj→Bx
open PySem.Around renaming under_plainId→BB
open PySem.PassesOwn renaming never→BC
open PySem.F renaming called_set→BE,plainAttrs_list→BI,slot_list_append→BM,type_list_append→BN,plain_min_loop→BR,slot_dict_keyiterator_next→Cr,slot_tuple_iterator_next→C7,entry_min_loop→Dh,slot_list_getattribute→DS,slot_dict_get→Ei,slot_zip_next→Ez,args_dict_keyiterator_next_1→EA,plain_extend_loop→Fd
open Ne renaming symm→BX
open PySem.Heap.SameBut renaming update→BZ,refl→E3
open Classical renaming em→Ci,byContradiction→DQ
open PySem.Obj renaming data_mapFields→Ck,isFreed_of_fields→CD,cls_mapFields→DY
open PyProof.Rows.F renaming plain_set_update_loop→Cs,entry_set_update_loop→Dl
open PySem.Str renaming length_append→Cu,cps_append→EH
open List.Nodup renaming sublist→CF
open Int renaming toNat_natCast→CK,emod_lt_of_pos→C2,emod_nonneg→Ds,fdiv_eq_ediv_of_nonneg→EV
open PyProof.Rows renaming callWith_type1→CZ
open Option renaming map_some→C4,isSome_iff_exists→Fe
open PySem.Calls renaming spliced_cons→Dn,spliced_nil→DX,evalArgs_plain→En
open PySem.Code renaming quiet_builtin→Dp
open PySem.Paired renaming length→DI
open Sum.inr renaming inj→DK
open PySem.W.KasT renaming kasWp_bind→DM
open PySem.Walks renaming list→DU
open PySem.Txt renaming slice_le→Ey
open List.Perm renaming refl→EG
open List.cons renaming inj→EZ
namespace L2
open PySem PySem.Spec PyProof.Rows
abbrev Key:=Sum Int Str
def fP:Key->zz9->Bool
 | .inl k,v=>Value.isInt k v
 | .inr x,v=>Value.isStrOf x v
def zk (w:World):Key->Int
 | .inl k=>hashInt k
 | .inr x=>hashStr w x
theorem dU:∀{k:Key}{v:zz9},fP k v=true->(∃i t,k=Sum.inl i/\v=Value.int i t)\/(∃x t,k=Sum.inr x/\v=Value.str x t)
 | .inl i,v,h=>by
  obtain⟨t,e⟩:=Value.isInt_shape (k:=i) (v:=v) h;exact .inl ⟨i,t,rfl,e⟩
 | .inr x,v,h=>by
  obtain⟨t,e⟩:=Value.isStrOf_shape (x:=x) (v:=v) h;exact .inr ⟨x,t,rfl,e⟩
theorem tV (i:Int) (t:Tok):fP (.inl i) (.int i t)=true:=by simp[fP,Value.isInt]
theorem tH (x:Str) (t:Tok):fP (.inr x) (.str x t)=true:=by simp[fP,Value.isStrOf]
theorem xI (a b:Int):decide ((Sum.inl a:Key)=Sum.inl b)=(a==b):=by
 by_cases e:a=b
 .subst e;simp
 .have h:¬ (Sum.inl a:Key)=Sum.inl b:=λq=>e (Sum.inl.inj q)
  rw[decide_eq_false h];exact(beq_eq_false_iff_ne.mpr e).symm
theorem x8 (a b:Str):decide ((Sum.inr a:Key)=Sum.inr b)=decide (a=b):=by
 by_cases e:a=b
 .subst e;simp
 .have h:¬ (Sum.inr a:Key)=Sum.inr b:=λq=>e (DK q)
  rw[decide_eq_false h,decide_eq_false e]
theorem ya (a:Int) (b:Str):decide ((Sum.inl a:Key)=Sum.inr b)=false:=decide_eq_false (λq=>nomatch q)
theorem xJ (a:Str) (b:Int):decide ((Sum.inr a:Key)=Sum.inl b)=false:=decide_eq_false (λq=>nomatch q)
def bR (prog:Program) (w:World):PySem.KeyKind prog w Key where
 is:=fP
 hash:=zk w
 inj:=λv a b ha hb=>by
  rcases dU ha with ⟨i,t,rfl,rfl⟩|⟨x,t,rfl,rfl⟩
  .rcases dU hb with ⟨j,u,rfl,e⟩|⟨y,u,rfl,e⟩
   .injection e with e1 _;rw[e1]
   .exact nomatch e
  .rcases dU hb with ⟨j,u,rfl,e⟩|⟨y,u,rfl,e⟩
   .exact nomatch e
   .injection e with e1 _;rw[e1]
 byValue:=λk v h=>by
  rcases dU h with ⟨i,t,rfl,rfl⟩|⟨x,t,rfl,rfl⟩<;>rfl
 pyHash:=λhv h=>by
  rcases dU hv with ⟨i,t,rfl,rfl⟩|⟨x,t,rfl,rfl⟩
  .exact wpAny_pyHash_int h
  .exact wpAny_pyHash_str h
 eqBool:=λhu hv h=>by
  rcases dU hu with ⟨i,t,rfl,rfl⟩|⟨x,t,rfl,rfl⟩
  .rcases dU hv with ⟨j,u,rfl,rfl⟩|⟨y,u,rfl,rfl⟩
   .rw [xI]at h;exact wpAny_eqBool_int h
   .rw [ya]at h;exact SeqAt.EqAt.int_str i t y u _ _ _ _ h
  .rcases dU hv with ⟨j,u,rfl,rfl⟩|⟨y,u,rfl,rfl⟩
   .rw [xJ]at h;exact SeqAt.EqAt.str_int x t j u _ _ _ _ h
   .rw [x8]at h;exact wpAny_eqBool_str h
 «strs»:=λk x t v h=>by
  rcases dU h with ⟨i,u,rfl,e⟩|⟨y,u,rfl,e⟩
  .exact nomatch e
  .injection e with e1 _
   subst e1;cases v<;>rfl
theorem rL (prog:Program) (w:World) (i:Int) (t:Tok):(bR prog w).is (.inl i) (.int i t)=true:=tV i t
theorem kH (prog:Program) (w:World) (x:Str) (t:Tok):(bR prog w).is (.inr x) (.str x t)=true:=tH x t
inductive V where
 | non|bl (b:Bool)|int (i:Int)|str (x:Str)|byt (b:Array UInt8)|flt (b:UInt64)|ref (a:Addr)|ty (n:String)
 deriving DecidableEq
def RelV:V->zz9->Prop
 | .non,u=>u=Value.none
 | .bl b,u=>u=Value.bool b
 | .int i,u=>∃t,u=Value.int i t
 | .str x,u=>∃t,u=Value.str x t
 | .byt b,u=>∃t,u=Value.bytes b t
 | .flt b,u=>∃t,u=Value.float b t
 | .ref a,u=>u=Value.ref a
 | .ty n,u=>u=Value.type n
abbrev ar:List V->List zz9->Prop:=Paired RelV
theorem ar.length {xs:List V}{us:List zz9} (r:ar xs us):xs.length=us.length:=DI r
theorem ar.get:∀{xs:List V}{us:List zz9}{i:Nat}{x:V},ar xs us->xs[i]?=some x->∃u,us[i]?=some u/\RelV x u
 | _,_,_,_,.nil,e=>by simp at e
 | _,_,0,_,.cons r _,e=>by simp at e;subst e;exact⟨_,rfl,r⟩
 | _,_,i+1,x,.cons _ t,e=>by
  obtain⟨u,h1,h2⟩:=ar.get (i:=i) (x:=x) t (by simpa using e);exact⟨u,by simpa using h1,h2⟩
theorem ar.set {x:V}{u:zz9} (r:RelV x u):∀{xs:List V}{us:List zz9} (i:Nat),ar xs us->ar (xs.set i x) (us.set i u)
 | _,_,_,.nil=>.nil
 | _,_,0,.cons _ t=>.cons r t
 | _,_,i+1,.cons q t=>.cons q (ar.set r i t)
theorem ar.append:∀{xs ys:List V}{us ws:List zz9},ar xs us->ar ys ws->ar (xs++ys) (us++ws)
 | _,_,_,_,.nil,s=>s
 | _,_,_,_,.cons r t,s=>.cons r (ar.append t s)
def cy:Option V->Option zz9->Prop
 | some v,some u=>RelV v u
 | none,none=>True
 | _,_=>False
def KV {κ:Type}:List (κ×V)->List (κ×zz9)->Prop:=Paired λ(p:κ×V) (q:κ×zz9)=>p.1=q.1/\RelV p.2 q.2
def kV:Key->V
 | .inl i=>.int i
 | .inr x=>.str x
inductive HO where
  | lst (xs:List V)
  | tup (xs:List V)
  | dK (kvs:List (Key×V))|dT (kvs:List (List Key×V))
  | set (S:Int->Bool) (n:Nat)
  | ins (C dx:Addr) (fs:List (Str×V))
  | own (x:Addr)
  | xd (fs:List (Str×V))
  | met (f x:Addr)
  | rng (lo hi:Int)
  | frz (o:Obj) (u:HO)
  | tbl (ps:Array zz9)
  | ext (φ:Heap->Prop)
abbrev Hp:=Addr->Option HO
def upd (H:Hp) (a:Addr) (o:HO):Hp:=λb=>if b=a then some o else H b
theorem ak {H:Hp}{a:Addr}{o:HO}:upd H a o a=some o:=by unfold upd;rw[if_pos rfl]
theorem ag {H:Hp}{a b:Addr}{o:HO} (h:b≠a):upd H a o b=H b:=by unfold upd;rw[if_neg h]
theorem jZ {H:Hp}{a b:Addr}{o u:HO} (h:H a=some o) (h':H b=some u) (d:o≠u):a≠b:=by
 intro e;subst e;rw[h]at h';exact d (Bx h')
theorem aq {H:Hp}{a b:Addr}{o:HO} (h:H a=some o) (h':H b=none):a≠b:=by
 intro e;subst e;rw[h]at h';cases h'
section
variable (P:Program) (w:World)
def aD (H:Hp) (h:Heap) (a:Addr):HO->Prop
 | .lst xs=>xs.length<=sizeLine/\∃(FC:List zz9) (n:Nat),ar xs FC/\h.get? a=some { cls:=.type "list",data:=.seq FC.toArray n }
 | .tup xs=>xs.length<=sizeLine/\∃FC:List zz9,ar xs FC/\IsTup h a FC.toArray
 | .dK kvs=>kvs.length<=sizeLine/\(a==sysModules)=false/\∃vs,KV kvs vs/\h.DictOf (bR P w) a vs
 | .dT kvs=>kvs.length<=sizeLine/\(a==sysModules)=false/\∃xs:List (List Key×Addr×zz9),
   Paired (λ(p:List Key×V) (q:List Key×Addr×zz9)=>p.1=q.1/\H q.2.1=some (.tup (p.1.map kV))/\RelV p.2 q.2.2) kvs xs /\
   ∃o es ep,h.get? a=some o/\o.ExactDict/\o.data=.dict es ep/\es.toList=xs.map (entryOfKey (tupleKind (bR P w)))/\(xs.map (·.1)).Nodup
 | .set S n=>h.SetOf (intKind P w) a S n
 | .ins C dx fs=>H dx=some (.own a)/\fs.length<=1000/\dx≠a/\h.get? a=some (PySem.W.instObj C dx) /\
   ∃mA,h.Ns1 dx mA/\(∀f,cy (fs.lookup f) (mA f))/\PySem.Within mA (fs.map (·.1))
 | .own _=>∃o,h.get? a=some o
 | .xd fs=>∃mA,h.Ns1 a mA/\∀f,cy (fs.lookup f) (mA f)
 | .rng lo hi=>∃t u v,h.get? a=some { cls:=.type "range",data:=.fields #[.int lo t,.int hi u,.int 1 v] }
 | .frz o u=>h.get? a=some o/\aD H h a u
 | .tbl ps=>h.get? a=some { cls:=.none,data:=.fields ps }
 | .met f x=>h.get? a=some (PySem.W.methodObj (.ref f) (.ref x))
 | .ext φ=>φ h/\(∃o,h.get? a=some o)/\∀h1 h2:Heap,φ h1->(∀o,h1.get? a=some o->h2.get? a=some o)->φ h2
def F0 (H:Hp) (h:Heap):Prop:=∀a o,H a=some o->aD P w H h a o
end
section
variable {P:Program}{w:World}{H H':Hp}{h h':Heap}{a:Addr}{o:HO}
theorem aD.lt (x:aD P w H h a o):a<h.objs.size:=by
 cases o with
 | lst xs=>obtain⟨_,_,_,_,e⟩:=x;exact AN e
 | tup xs=>obtain⟨_,_,_,p⟩:=x;exact p.lt
 | dK kvs=>obtain⟨_,_,_,_,o,_,_,e,_⟩:=x;exact AN e
 | dT kvs=>obtain⟨_,_,_,_,o,_,_,e,_⟩:=x;exact AN e
 | set S n=>obtain⟨o,_,_,_,e,_⟩:=x;exact AN e
 | ins C dx fs=>obtain⟨_,_,_,e,_⟩:=x;exact AN e
 | own y=>obtain⟨_,e⟩:=x;exact AN e
 | xd fs=>obtain⟨_,⟨_,_,_,e,_⟩,_⟩:=x;exact AN e
 | rng lo hi=>obtain⟨_,_,_,e⟩:=x;exact AN e
 | frz ob u=>obtain⟨e,_⟩:=x;exact AN e
 | tbl ps=>exact AN (show h.get? a=some _ from x)
 | met f y=>exact AN (show h.get? a=some _ from x)
 | ext φ=>obtain⟨_,⟨_,e⟩,_⟩:=x;exact AN e
theorem Paired.mapP {α β:Type}{F G:α->β->Prop}:∀{l₁:List α}{l₂:List β},Paired F l₁ l₂->(∀a b,F a b->G a b)->Paired G l₁ l₂
 | _,_,.nil,_=>.nil
 | _,_,.cons r t,f=>.cons (f _ _ r) (Paired.mapP t f)
theorem aD.stay (x:aD P w H h a o) (k:∀b u,(b=a\/H b=some (.own a))->h.get? b=some u->h'.get? b=some u)
  (ho:∀b,H b=some (.own a)->H' b=some (.own a)) (ht:∀b xs,H b=some (.tup xs)->H' b=some (.tup xs)):aD P w H' h' a o:=by
 induction o with
 | lst xs=>obtain⟨z,FC,n,r,e⟩:=x;exact⟨z,FC,n,r,k _ _ (.inl rfl) e⟩
 | tup xs=>obtain⟨z,FC,r,ob,e,c⟩:=x;exact⟨z,FC,r,ob,k _ _ (.inl rfl) e,c⟩
 | dK kvs=>obtain⟨z,y,vs,r,ob,es,ep,e,c⟩:=x;exact⟨z,y,vs,r,ob,es,ep,k _ _ (.inl rfl) e,c⟩
 | dT kvs =>
  obtain⟨z,y,xs,r,ob,es,ep,e,c⟩:=x;exact⟨z,y,xs,Paired.mapP r λp q z=>⟨z.1,ht _ _ z.2.1,z.2.2⟩,ob,es,ep,k _ _ (.inl rfl) e,c⟩
 | set S n=>obtain⟨ob,es,ep,t,e,c⟩:=x;exact⟨ob,es,ep,t,k _ _ (.inl rfl) e,c⟩
 | ins C dx fs =>
  obtain⟨d,z,ne,e,mA,⟨od,es,ep,e2,c⟩,r⟩:=x;exact⟨ho _ d,z,ne,k _ _ (.inl rfl) e,mA,⟨od,es,ep,k _ _ (.inr d) e2,c⟩,r⟩
 | own y=>obtain⟨ob,e⟩:=x;exact⟨ob,k _ _ (.inl rfl) e⟩
 | xd fs=>obtain⟨mA,⟨od,es,ep,e,c⟩,r⟩:=x;exact⟨mA,⟨od,es,ep,k _ _ (.inl rfl) e,c⟩,r⟩
 | rng lo hi=>obtain⟨t,u,v,e⟩:=x;exact⟨t,u,v,k _ _ (.inl rfl) e⟩
 | frz ob u ih=>obtain⟨e,q⟩:=x;exact⟨k _ _ (.inl rfl) e,ih q⟩
 | tbl ps =>
  have e:h.get? a=some { cls:=.none,data:=.fields ps }:=x;show h'.get? a=some { cls:=.none,data:=.fields ps };exact k a _ (.inl rfl) e
 | met f y =>
  have e:h.get? a=some (PySem.W.methodObj (.ref f) (.ref y)):=x;show h'.get? a=some (PySem.W.methodObj (.ref f) (.ref y));exact k a _ (.inl rfl) e
 | ext φ=>obtain⟨p,⟨o,e⟩,st⟩:=x;exact⟨st _ _ p λo q=>k _ _ (.inl rfl) q,⟨o,k _ _ (.inl rfl) e⟩,st⟩
theorem F0.lt (x:F0 P w H h) (e:H a=some o):a<h.objs.size:=(x a o e).lt
theorem F0.fresh (x:F0 P w H h) (e:h.objs.size<=a):H a=none:=by
 cases q:H a with
 | none=>rfl
 | some u=>exact absurd (Bc (x.lt q) e) (Bt _)
theorem F0.kept (x:F0 P w H h) (k:∀b u,h.get? b=some u->h'.get? b=some u):F0 P w H h':=λa o e =>
 (x a o e).stay (λb u _ q=>k b u q) (λ_ q=>q) λ_ _ q=>q
theorem F0.laid (x:F0 P w H h) (k:∀b u,h.get? b=some u->h'.get? b=some u) (hp:h.objs.size<=a) (new:aD P w (upd H a o) h' a o):F0 P w (upd H a o) h':=λb u e=>by
 have hn:=x.fresh hp
 by_cases hb:b=a
 .subst hb;rw[ak]at e;cases e;exact new
 .rw [ag hb]at e
  exact(x b u e).stay (λc v _ q=>k c v q) (λc q=>by rw[ag (aq q hn)];exact q) λc xs q=>by rw[ag (aq q hn)];exact q
end
def Rd (H:Hp) (a:Addr) (u:HO):Prop:=H a=some u\/∃o,H a=some (.frz o u)
theorem Rd.ok {P:Program}{w:World}{H:Hp}{h:Heap}{a:Addr}{u:HO} (r:Rd H a u) (x:F0 P w H h):aD P w H h a u:=by
 rcases r with r|⟨o,r⟩
 .exact x a u r
 .obtain⟨_,q⟩:=x a _ r
  exact q
def N2:Option HO->Prop
 | some (.lst _)=>True
 | some (.dK _)=>True
 | some (.dT _)=>True
 | some (.set _ _)=>True
 | some (.ins _ _ _)=>True
 | some (.ext _)=>True
 | _=>False
section
variable {P:Program}{w:World}{H:Hp}{h h':Heap}{x e:Addr}{o':HO}
theorem F0.write (ok:F0 P w H h) (mu:N2 (H x)) (he:e=x\/H e=some (.own x)) (k:∀b u,b≠e->h.get? b=some u->h'.get? b=some u) (Me:∃u,h'.get? e=some u)
  (new:aD P w (upd H x o') h' x o'):F0 P w (upd H x o') h':=λb u q=>by
 have MX:∀c y,H c=some (.own y)->c≠x:=λc y r z=>by subst z;rw[r]at mu;exact mu
 have Po:∀c xs,H c=some (.tup xs)->c≠x:=λc xs r z=>by subst z;rw[r]at mu;exact mu
 by_cases hb:b=x
 .subst hb;rw[ak]at q;cases q;exact new
 .rw [ag hb]at q
  by_cases Ka:b=e
  .have q':H b=some (.own x):=by
    rcases he with z|z
    .exact absurd (Ka.trans z) hb
    .rw [Ka];exact z
   rw[q]at q';cases q';obtain⟨v,hv⟩:=Me;exact⟨v,by rw[Ka];exact hv⟩
  .refine (ok b u q).stay (λc v hc r=>k c v ?_ r) (λc r=>by rw[ag (MX c b r)];exact r) λc xs r=>by rw[ag (Po c xs r)];exact r
   rcases hc with rfl|hc
   .exact Ka
   .rintro rfl
    rcases he with z|z
    .exact MX c b hc z
    .rw [hc]at z;cases z;exact hb rfl
end
structure Un (fs ex:List Addr) (H H':Hp) (h h':Heap):Prop where
 keep:∀b o,h.get? b=some o->H b=none->b∉fs->b∉ex->h'.get? b=some o
 slot:∀b o,h.get? b=some o->H b=none->b∈fs->b∉ex->∃sl,h'.get? b=some { o with slots:=sl }
 free:∀b o,h.get? b=some o->H b=none->b∉ex->H' b=none
 there:∀b o,h.get? b=some o->b∉ex->∃o',h'.get? b=some o'
 tups:∀b xs,H b=some (.tup xs)->H' b=some (.tup xs)
 frzs:∀b o u,H b=some (.frz o u)->H' b=some (.frz o u)
 tbls:∀b ps,H b=some (.tbl ps)->∃more,H' b=some (.tbl (ps++more))
section
variable {fs X7 ex ex':List Addr}{H H1 H2:Hp}{h h1 h2 h':Heap}{a x e:Addr}{o:HO}
theorem Un.any (u:Un fs ex H H1 h h1) {b:Addr}{ob:Obj} (q:h.get? b=some ob) (n:H b=none) (hx:b∉ex):∃sl,h1.get? b=some { ob with slots:=sl }:=by
 by_cases hb:b∈fs
 .exact u.slot b ob q n hb hx
 .exact⟨ob.slots,u.keep b ob q n hb hx⟩
theorem Un.kept (k:∀b u,h.get? b=some u->h'.get? b=some u):Un fs ex H H h h' :=
 ⟨λb ob q _ _ _=>k b ob q,λb ob q _ _ _=>⟨ob.slots,k b ob q⟩,λ_ _ _ n _=>n,λb ob q _=>⟨ob,k b ob q⟩,λ_ _ q=>q,λ_ _ _ q=>q,λ_ ps q=>⟨#[],by rw[q];simp⟩⟩
theorem Un.refl:Un fs ex H H h h:=Un.kept λ_ _ q=>q
theorem Un.laid (k:∀b u,h.get? b=some u->h'.get? b=some u) (hp:h.objs.size<=a) (hn:H a=none):Un fs ex H (upd H a o) h h' where
 keep:=λb u q _ _ _=>k b u q
 slot:=λb u q _ _ _=>⟨u.slots,k b u q⟩
 free:=λb u q n _=>by rw[ag (A4 (Bc (AN q) hp))];exact n
 there:=λb u q _=>⟨u,k b u q⟩
 tups:=λb xs q=>by rw[ag (aq q hn)];exact q
 frzs:=λb u xs q=>by rw[ag (aq q hn)];exact q
 tbls:=λb ps q=>⟨#[],by rw[ag (aq q hn),q];simp⟩
theorem Un.write (mu:N2 (H x)) (he:e=x\/H e=some (.own x)) (k:∀b u,b≠e->h.get? b=some u->h'.get? b=some u) (Me:∃u,h'.get? e=some u):Un fs ex H (upd H x o) h h':=by
 have hx:∀b,H b=none->b≠x:=λb n z=>by subst z;rw[n]at mu;exact mu
 have hb:∀b,H b=none->b≠e:=λb n z=>by
  subst z
  rcases he with r|r
  .exact hx b n r
  .rw [n]at r;cases r
 have hm:∀b u,H b=some u->¬ N2 (some u)->b≠x:=λb u q nm z=>by subst z;rw[q]at mu;exact nm mu
 refine⟨λb u q n _ _=>k b u (hb b n) q,λb u q n _ _=>⟨u.slots,k b u (hb b n) q⟩,λb u q n _=>by rw[ag (hx b n)];exact n,λb u q _=>?_,
  λb xs q=>by rw[ag (hm b _ q λz=>z)];exact q,λb u xs q=>by rw[ag (hm b _ q λz=>z)];exact q,λb ps q=>⟨#[],by rw[ag (hm b _ q λz=>z),q];simp⟩⟩
 by_cases Ka:b=e
 .subst Ka;exact Me
 .exact⟨u,k b u Ka q⟩
end
def N5 (h:Heap) (H:Hp):List Addr:=(List.range h.objs.size).filter λa=>(H a).isSome
def eE (h:Heap) (H:Hp):Heap:=PySem.W.hideAll h (N5 h H)
theorem tN (h:Heap) (H:Hp):(eE h H).objs.size=h.objs.size:=PySem.W.hideAll_size _ _
theorem uV {h:Heap}{H:Hp}{b:Addr}{o:Obj} (e:h.get? b=some o) (n:H b=none):(eE h H).get? b=some o :=
 PySem.W.hideAll_get _ e λhm=>by
  have q:(H b).isSome=true:=(AS.mp hm).2;rw[n]at q;simp at q
theorem xb {h:Heap}{H:Hp}{b:Addr}{o:Obj} (e:(eE h H).get? b=some o):h.get? b=some o/\H b=none:=by
 have e':h.get? b=some o:=PySem.W.of_hideAll (N5 h H) e;refine⟨e',?_⟩;cases q:H b with
 | none=>rfl
 | some x =>
  have hm:b∈N5 h H:=AS.mpr ⟨BO.mpr (AN e'),by simp[q]⟩;have z:(eE h H).get? b=none:=PySem.W.hideAll_none (N5 h H) hm;rw[z]at e;cases e
def wI (g h:Heap) (L:Addr):List (Addr×Obj):=(List.range h.objs.size).filterMap λa=>if a=L\/(g.get? a).isSome=true then none else (h.get? a).map λo=>(a,o)
def rest (g h:Heap) (L d:Addr):List (Addr×Obj):=(wI g h L).filter λp=>decide (p.1≠d)
structure Mod (K:zz7) (mg:Str->Option zz9) (base:Heap):Prop where
 kin:K.In base
 glob:base.Ns mainGlobals mg
 blt:∃mb,base.Ns builtinsNs mb/\∀x:Str,x≠"__name__"->mb x=bootBuiltins x
 nolimit:base.NoLimit
structure Cx where
 prog:Program
 w:World
 K:zz7
 mg:Str->Option zz9
 base:Heap
 A:Around
 N:List Str
 s₀:zz8
 H₀:Hp
 env:Env
 outer:List Env
 stack:List Env
 ex:List Addr
 fn:Str->Bool
 calm:Bool
 pn:List (Addr×Obj)
 xe:zz9->zz8->Prop
def Gc (l:List Env):List Addr:=l.filterMap (·.frame)
abbrev Cx.fs (X:Cx):List Addr:=Gc X.outer
def OL (sc:Scope) (x:Str):Prop:=sc.names.lookup x=some .local\/sc.names.lookup x=some .cell\/sc.names.lookup x=some .free
def Loc (sc:Scope) (x:Str):Prop:=sc.names.lookup x=some .local\/sc.names.lookup x=some .cell
def Look (env:Env) (h:Heap) (m:Str->Option zz9) (x:Str) (u:zz9):Prop :=
 (env.kindOf x=some .local/\m x=some u)\/((env.kindOf x=some .cell\/env.kindOf x=some .free)/\∃c,env.cells.lookup x=some c/\h.IsCell c (some u))
structure Cx.Ok (X:Cx):Prop where
 mod:Mod X.K X.mg X.base
 kind:X.env.scope.kind=.function
 glob:X.env.globals=mainGlobals
 blt:X.env.builtins=builtinsNs
 above:X.s₀.heap.objs.size<=X.env.locals
 inj:∀x y c,X.env.cells.lookup x=some c->X.env.cells.lookup y=some c->x=y
 has:∀x,(X.env.kindOf x=some .cell\/X.env.kindOf x=some .free)->∃c,X.env.cells.lookup x=some c
 cab:∀x c,X.fn x=true->X.env.cells.lookup x=some c->X.s₀.heap.objs.size<=c
 hd:X.calm=true->X.A.handled=none
 frames:X.A.frames=some X.stack
 stk:X.stack=X.outer\/(X.stack=X.env::X.outer/\X.env.frame=some X.env.locals)
 exf:∀b∈X.ex,b≠X.env.locals/\∀x c,X.env.cells.lookup x=some c->c≠b
 bs:∀b o,X.base.get? b=some o->X.s₀.heap.get? b=some o/\X.H₀ b=none
 bsz:X.base.objs.size<=X.s₀.heap.objs.size
 noex:∀b o,X.base.get? b=some o->b∉X.ex
 exfs:∀b∈X.ex,b∉X.fs
 funs:X.s₀.heap.FunFrames X.base X.outer
 frf:∀b∈X.fs,X.H₀ b=none
structure Inv (X:Cx) (pins:List (Addr×Obj)) (σ:List (Option V)) (H:Hp) (s:zz8):Prop where
 ok:X.Ok
 os:s.os=X.s₀.os
 bare:AllBare s.gens
 base:Un X.fs X.ex X.H₀ H X.s₀.heap s.heap
 loc:∃m,s.heap.Ns X.env.locals m/\∀(i:Nat) (x:Str) (v:V),X.N[i]?=some x->σ[i]?=some (some v)->OL X.env.scope x->∃u,RelV v u/\Look X.env s.heap m x u
 cell:∀x c,X.env.cells.lookup x=some c->∃v,s.heap.IsCell c v
 free:H X.env.locals=none
 freeC:∀x c,X.env.cells.lookup x=some c->H c=none
 pin:∀p∈X.pn++pins,s.heap.get? p.1=some p.2/\H p.1=none/\p.1≠X.env.locals/\p.1∉X.fs/\∀v,p.2.data≠.cell v
 hok:F0 X.prog X.w H s.heap
 len:σ.length=X.N.length
section
variable {X:Cx}{pins:List (Addr×Obj)}{σ:List (Option V)}{H H':Hp}{s:zz8}{h':Heap}
theorem Cx.Ok.nofr (ok:X.Ok) {b:Addr}{o:Obj} (e:X.base.get? b=some o):b∉X.fs:=λhb=>by
 have:=(ok.funs.mem hb).1;rw[e]at this;cases this
theorem Inv.bs (I:Inv X pins σ H s):∀b o,X.base.get? b=some o->s.heap.get? b=some o/\H b=none:=λb o e =>
 ⟨I.base.keep b o (I.ok.bs b o e).1 (I.ok.bs b o e).2 (I.ok.nofr e) (I.ok.noex b o e),I.base.free b o (I.ok.bs b o e).1 (I.ok.bs b o e).2 (I.ok.noex b o e)⟩
theorem Inv.bk (I:Inv X pins σ H s):∀b o,X.base.get? b=some o->s.heap.get? b=some o:=λb o e=>(I.bs b o e).1
theorem Inv.mod (I:Inv X pins σ H s):Mod X.K X.mg X.base:=I.ok.mod
theorem Inv.kIn (I:Inv X pins σ H s):X.K.In s.heap:=I.ok.mod.kin.keeps I.bk
theorem Inv.lt (I:Inv X pins σ H s):X.env.locals<s.heap.objs.size:=let ⟨_,hn,_⟩:=I.loc;hn.lt
theorem Inv.sz (I:Inv X pins σ H s):X.s₀.heap.objs.size<=s.heap.objs.size:=Be I.ok.above (Cq I.lt)
theorem Inv.nofs (I:Inv X pins σ H s) {a:Addr} (h:s.heap.objs.size<=a):a∉X.fs:=λhb=>by
 obtain⟨_,o,ho,_⟩:=I.ok.funs.mem hb;exact absurd (Bc (AN ho) (Be I.sz h)) (Bt _)
theorem Inv.cne (I:Inv X pins σ H s):∀x c,X.env.cells.lookup x=some c->c≠X.env.locals:=λx c e z=>by
 obtain⟨v,o,ho,hd⟩:=I.cell x c e;obtain⟨m,⟨o',es,ep,GZ,OB,_⟩,_⟩:=I.loc;rw[z,GZ]at ho;cases ho;rw[OB]at hd;cases hd
theorem Inv.funs (I:Inv X pins σ H s):s.heap.FunFrames X.base X.outer:=by
 have all:∀(l:List Env),(∀b∈Gc l,b∈X.fs)->X.s₀.heap.FunFrames X.base l->s.heap.FunFrames X.base l:=by
  intro l
  induction l with
  | nil=>intro _ _;trivial
  | cons env r ih =>
   intro hs hl;obtain⟨hk,⟨L,o,hf,hn,ho,hd⟩,hr⟩:=hl;have hL:L∈X.fs:=hs L (by unfold Gc;rw[Cv,hf];exact AK);obtain⟨sl,e⟩:=I.base.slot L o ho (I.ok.frf L hL) hL λz=>I.ok.exfs L z hL;exact⟨hk,⟨L,_,hf,hn,e,hd⟩,ih (λb hb=>hs b (by unfold Gc;rw[Cv,hf];exact AR _ hb)) hr⟩
 exact all X.outer (λ_ hb=>hb) I.ok.funs
theorem Inv.stack (I:Inv X pins σ H s):s.heap.FunFrames X.base X.stack:=by
 rcases I.ok.stk with e|⟨e,hf⟩
 .rw [e];exact I.funs
 .rw [e]
  obtain⟨m,hn,_⟩:=I.loc;refine .cons (by rw[I.ok.kind];decide) hf hn ?_ I.funs;exact DC (Be I.ok.bsz I.ok.above)
theorem Inv.stkSub (I:Inv X pins σ H s):∀b∈Gc X.stack,b∈X.env.locals::X.fs:=λb hb=>by
 rcases I.ok.stk with e|⟨e,hf⟩
 .rw [e]at hb;exact AR _ hb
 .rw [e]at hb
  unfold Gc at hb;rw[Cv,hf]at hb;exact hb
theorem Inv.stkFree (I:Inv X pins σ H s):∀b∈Gc X.stack,H b=none:=λb hb=>by
 rcases AO.mp (I.stkSub b hb)with e|hb
 .rw [e];exact I.free
 .obtain⟨_,o,ho,_⟩:=I.ok.funs.mem hb
  exact I.base.free b o ho (I.ok.frf b hb) λz=>I.ok.exfs b z hb
theorem Inv.step {g':Array GenState}{t':Nat}{d':Drawn}{ch:List Addr} (I:Inv X pins σ H s)
  (HQ:∀b∈ch,(b∈X.ex\/X.s₀.heap.objs.size<=b)/\b≠X.env.locals/\(∀x c,X.env.cells.lookup x=some c->c≠b)/\∀p∈X.pn++pins,p.1≠b)
  (keep:∀b o,b≠X.env.locals->b∉X.fs->b∉ch->s.heap.get? b=some o->H b=none->h'.get? b=some o)
  (slot:∀b o,b≠X.env.locals->b∈X.fs->b∉ch->s.heap.get? b=some o->H b=none->∃sl,h'.get? b=some { o with slots:=sl }) (free:∀b o,b∉ch->s.heap.get? b=some o->H b=none->H' b=none)
  (there:∀b o,b∉ch->s.heap.get? b=some o->∃o',h'.get? b=some o')
  (tups:∀b xs,H b=some (.tup xs)->H' b=some (.tup xs)) (frzs:∀b o u,H b=some (.frz o u)->H' b=some (.frz o u)) (tbls:∀b ps,H b=some (.tbl ps)->∃more,H' b=some (.tbl (ps++more)))
  (ns:∀m,s.heap.Ns X.env.locals m->h'.Ns X.env.locals m) (hok:F0 X.prog X.w H' h') (hg:AllBare g') :
  Inv X pins σ H' { s with heap:=h',gens:=g',drawn:=d',toks:=t' }:=by
 have M0:∀b o,X.s₀.heap.get? b=some o->b≠X.env.locals:=λb o e=>A4 (Bc (AN e) I.ok.above);have HA:∀b o,X.s₀.heap.get? b=some o->b∉X.ex->b∉ch:=λb o e hx hb=>by
  rcases(HQ b hb).1 with z|z
  .exact hx z
  .exact absurd (Bc (AN e) z) (Bt _)
 have cellK:∀x c,X.env.cells.lookup x=some c->∀v,s.heap.IsCell c v->h'.IsCell c v:=λx c e v ⟨o,ho,hd⟩=>by
  have Jl:c∉ch:=λz=>(HQ c z).2.2.1 x c e rfl
  by_cases hc:c∈X.fs
  .obtain⟨sl,q⟩:=slot c o (I.cne x c e) hc Jl ho (I.freeC x c e)
   exact⟨_,q,hd⟩
  .exact⟨o,keep c o (I.cne x c e) hc Jl ho (I.freeC x c e),hd⟩
 refine⟨I.ok,I.os,hg,⟨λb o e n hb hx=>?_,λb o e n hb hx=>?_,λb o e n hx=>?_,λb o e hx=>?_,λb xs e=>tups b xs (I.base.tups b xs e),λb o xs e=>frzs b o xs (I.base.frzs b o xs e),λb ps e=>?_⟩,?_,λx c e=>?_,?_,λx c e=>?_,λp hp=>?_,hok,I.len⟩
 .exact keep b o (M0 b o e) hb (HA b o e hx) (I.base.keep b o e n hb hx) (I.base.free b o e n hx)
 .obtain⟨sl,e1⟩:=I.base.slot b o e n hb hx
  obtain⟨Pd,e2⟩:=slot b _ (M0 b o e) hb (HA b o e hx) e1 (I.base.free b o e n hx);exact⟨Pd,e2⟩
 .obtain⟨o',e1⟩:=I.base.there b o e hx
  exact free b o' (HA b o e hx) e1 (I.base.free b o e n hx)
 .obtain⟨o',e1⟩:=I.base.there b o e hx
  exact there b o' (HA b o e hx) e1
 .obtain⟨m1,e1⟩:=I.base.tbls b ps e
  obtain⟨m2,e2⟩:=tbls b _ e1;exact⟨m1++m2,by rw[e2,Array.append_assoc]⟩
 .obtain⟨m,hn,hl⟩:=I.loc
  refine⟨m,ns m hn,λi x v e1 e2 e3=>?_⟩;obtain⟨u,r,l⟩:=hl i x v e1 e2 e3;refine⟨u,r,?_⟩
  rcases l with l|⟨k,c,e,z⟩
  .exact .inl l
  .exact .inr ⟨k,c,e,cellK x c e _ z⟩
 .obtain⟨v,z⟩:=I.cell x c e
  exact⟨v,cellK x c e v z⟩
 .obtain⟨m,⟨o,_,_,ho,_⟩,_⟩:=I.loc
  exact free _ o (λz=>(HQ _ z).2.1 rfl) ho I.free
 .obtain⟨v,o,ho,hd⟩:=I.cell x c e
  exact free c o (λz=>(HQ c z).2.2.1 x c e rfl) ho (I.freeC x c e)
 .obtain⟨e,n,ne,nf,d⟩:=I.pin p hp
  have Jl:p.1∉ch:=λz=>(HQ p.1 z).2.2.2 p hp rfl;exact⟨keep p.1 p.2 ne nf Jl e n,free p.1 p.2 Jl e n,ne,nf,d⟩
theorem Inv.un {t':Nat} (I:Inv X pins σ H s) (u:Un X.fs [] H H' s.heap h') (hok:F0 X.prog X.w H' h'):Inv X pins σ H' { s with heap:=h',toks:=t' }:=by
 obtain⟨m,⟨o,es,ep,ho,r⟩,_⟩:=id I.loc;obtain⟨sl,hL⟩:=u.any ho I.free (by simp)
 exact I.step (g':=s.gens) (d':=s.drawn) (ch:=[]) (λ_ z=>nomatch z) (λb o _ hb _ e n=>u.keep b o e n hb (by simp)) (λb o _ hb _ e n=>u.slot b o e n hb (by simp)) (λb o _ e n=>u.free b o e n (by simp)) (λb o _ e=>u.there b o e (by simp)) u.tups u.frzs u.tbls (λm' hm=>by
  obtain⟨o',es',FX,GZ,r'⟩:=hm;rw[ho]at GZ;cases GZ
  exact⟨_,es',FX,hL,r'⟩) hok I.bare
theorem Inv.call {g':Array GenState}{t':Nat}{d':Drawn}{ch:List Addr} (I:Inv X pins σ H s) (u:Un (Gc X.stack) ch H H' s.heap h') (hok:F0 X.prog X.w H' h') (hg:AllBare g')
  (HQ:∀b∈ch,(b∈X.ex\/X.s₀.heap.objs.size<=b)/\b≠X.env.locals/\(∀x c,X.env.cells.lookup x=some c->c≠b)/\∀p∈X.pn++pins,p.1≠b) :
  Inv X pins σ H' { s with heap:=h',gens:=g',drawn:=d',toks:=t' }:=by
 obtain⟨m,⟨o,es,ep,ho,r⟩,_⟩:=id I.loc;obtain⟨sl,hL⟩:=u.any ho I.free λz=>(HQ _ z).2.1 rfl
 exact I.step (ch:=ch) HQ (λb o hL hb hc e n=>u.keep b o e n (λz=>(AO.mp (I.stkSub b z)).elim hL hb) hc) (λb o _ _ hc e n=>u.any e n hc) (λb o hc e n=>u.free b o e n hc) (λb o hc e=>u.there b o e hc) u.tups u.frzs u.tbls (λm' hm=>by
  obtain⟨o',es',FX,GZ,r'⟩:=hm;rw[ho]at GZ;cases GZ
  exact⟨_,es',FX,hL,r'⟩) hok hg
theorem Inv.turned {t':Nat}{it:Addr} (I:Inv X pins σ H s) (k:∀b o,b≠it->s.heap.get? b=some o->h'.get? b=some o) (hn:H it=none) (hL:it≠X.env.locals)
  (h1:it∈X.ex\/X.s₀.heap.objs.size<=it) (h2:∀x c,X.env.cells.lookup x=some c->c≠it) (h3:∀p∈X.pn++pins,p.1≠it):Inv X pins σ H { s with heap:=h',toks:=t' }:=by
 have MZ:∀b u,H b=some u->b≠it:=λb u e z=>by rw[z,hn]at e;cases e
 refine I.step (g':=s.gens) (d':=s.drawn) (ch:=[it]) (λb hb=>?_) (λb o _ _ hc e _=>k b o (λz=>hc (by simp[z])) e) (λb o _ _ hc e _=>⟨o.slots,k b o (λz=>hc (by simp[z])) e⟩) (λ_ _ _ _ n=>n)
  (λb o hc e=>⟨o,k b o (λz=>hc (by simp[z])) e⟩) (λ_ _ e=>e) (λ_ _ _ e=>e) (λb ps e=>⟨#[],by rw[e];simp⟩) (λm hm=>?_) (λb u e=>?_) I.bare
 .have e:b=it:=by simpa using hb
  subst e;exact⟨h1,hL,h2,h3⟩
 .obtain⟨o,es,ep,ho,r⟩:=hm
  exact⟨o,es,ep,k _ o (BX hL) ho,r⟩
 .refine (I.hok b u e).stay (λc v hc q=>k c v ?_ q) (λ_ q=>q) λ_ _ q=>q
  rcases hc with z|z
  .rw [z];exact MZ b u e
  .exact MZ c _ z
theorem Inv.tok (I:Inv X pins σ H s) (t:Nat):Inv X pins σ H { s with toks:=t }:=I.un (h':=s.heap) (t':=t) Un.refl I.hok
theorem Inv.kept {t':Nat} (I:Inv X pins σ H s) (k:∀b u,s.heap.get? b=some u->h'.get? b=some u):Inv X pins σ H { s with heap:=h',toks:=t' }:=I.un (Un.kept k) (I.hok.kept k)
theorem Inv.laid {a:Addr}{o:HO}{t':Nat} (I:Inv X pins σ H s) (k:∀b u,s.heap.get? b=some u->h'.get? b=some u) (hp:s.heap.objs.size<=a) (new:aD X.prog X.w (upd H a o) h' a o) :
  Inv X pins σ (upd H a o) { s with heap:=h',toks:=t' }:=I.un (Un.laid k hp (I.hok.fresh hp)) (I.hok.laid k hp new)
theorem Inv.write {x e:Addr}{o:HO}{t':Nat} (I:Inv X pins σ H s) (mu:N2 (H x)) (he:e=x\/H e=some (.own x)) (k:∀b u,b≠e->s.heap.get? b=some u->h'.get? b=some u) (Me:∃u,h'.get? e=some u)
  (new:aD X.prog X.w (upd H x o) h' x o):Inv X pins σ (upd H x o) { s with heap:=h',toks:=t' }:=I.un (Un.write mu he k Me) (I.hok.write mu he k Me new)
theorem Inv.pins_of {pins':List (Addr×Obj)} (I:Inv X pins σ H s) (h:∀p∈pins',s.heap.get? p.1=some p.2/\H p.1=none/\p.1≠X.env.locals/\p.1∉X.fs/\∀v,p.2.data≠.cell v):Inv X pins' σ H s :=
 ⟨I.ok,I.os,I.bare,I.base,I.loc,I.cell,I.free,I.freeC,λp hp=>(A1.mp hp).elim (λz=>I.pin p (A7 _ z)) (h p),I.hok,I.len⟩
theorem ji {N:List Str} (hN:N.Nodup) {i j:Nat}{x:Str} (a:N[i]?=some x) (b:N[j]?=some x):i=j:=by
 obtain⟨h1,e1⟩:=A3.mp a;obtain⟨h2,e2⟩:=A3.mp b;exact(List.getElem_inj hN).mp (e1.trans e2.symm)
theorem i8 {M:Model}{A:Around}{E:zz9->zz8->Prop}{i:Nat}{x:Str}{v:V}{u:zz9}{Q:Unit->zz8->Prop} (I:Inv X pins σ H s) (hN:X.N.Nodup) (hi:X.N[i]?=some x) (hx:Loc X.env.scope x) (r:RelV v u)
  (h:∀s',Inv X pins (σ.set i (some v)) H s'->(∃a,Heap.SameBut a s.heap s'.heap/\(a=X.env.locals\/X.env.cells.lookup x=some a))->Q () s') (hf:X.fn x=true\/X.env.scope.names.lookup x=some .local:=by first|exact .inl rfl|exact .inr rfl|assumption):wpAny M A (storeName X.env x u) Q E s:=by
 obtain⟨m,hn,hl⟩:=id I.loc;have LC:(X.env.scope.kind==.class||(X.env.scope.kind==.module&&X.env.locals != X.env.globals))=false:=by rw[I.ok.kind];rfl
 have TN:i<σ.length:=by rw[I.len];exact(A3.mp hi).1
 have cne:=I.cne;have tracked:∀{a:Addr}{h':Heap},(∃o,s.heap.get? a=some o/\H a=none)->Heap.SameBut a s.heap h'->F0 X.prog X.w H h':=λ{a h'} ha hs b ob e=>by
  obtain⟨_,_,KD⟩:=ha;refine(I.hok b ob e).stay (λc w' hc q=>(hs.2 c ?_).trans q) (λ_ q=>q) λ_ _ q=>q;rintro rfl
  rcases hc with rfl|hc
  .rw [KD]at e;cases e
  .rw [KD]at hc;cases hc
 rcases hx with hk|hk
 .refine wpAny_storeName_local hk hn (λh' Hm hs=>?_) LC
  obtain⟨oL,_,_,Jc,_⟩:=id hn;refine h _ ⟨I.ok,I.os,I.bare,⟨λb o e n hb hx=>?_,λb o e n hb hx=>?_,I.base.free,λb o e hx=>?_,I.base.tups,I.base.frzs,I.base.tbls⟩,⟨_,Hm,λj y v' e1 e2 e3=>?_⟩,λy c e=>?_,I.free,I.freeC,λp hp=>?_,tracked ⟨oL,Jc,I.free⟩ hs,by simpa using I.len⟩ ⟨_,hs,.inl rfl⟩
  .exact (hs.2 b (A4 (Bc (AN e) I.ok.above))).trans (I.base.keep b o e n hb hx)
  .obtain⟨sl,e1⟩:=I.base.slot b o e n hb hx
   exact⟨sl,(hs.2 b (A4 (Bc (AN e) I.ok.above))).trans e1⟩
  .obtain⟨o',e1⟩:=I.base.there b o e hx
   exact⟨o',(hs.2 b (A4 (Bc (AN e) I.ok.above))).trans e1⟩
  .by_cases hj:j=i
   .subst hj
    rw[hi]at e1;cases e1;rw[Dv TN]at e2;cases e2;exact⟨u,r,.inl ⟨hk,by simp⟩⟩
   .rw [El (BX hj)]at e2
    obtain⟨u',r',q⟩:=hl j y v' e1 e2 e3;refine⟨u',r',?_⟩
    rcases q with ⟨k,e⟩|⟨k,c,e,z⟩
    .refine .inl ⟨k,?_⟩
     have:y≠x:=λe=>hj (ji hN e1 (e ▸ hi));simp[this,e]
    .exact .inr ⟨k,c,e,z.sameBut hs (cne y c e)⟩
  .obtain⟨w',z⟩:=I.cell y c e
   exact⟨w',z.sameBut hs (cne y c e)⟩
  .obtain⟨e,n,ne,nf,d⟩:=I.pin p hp
   exact⟨(hs.2 p.1 ne).trans e,n,ne,nf,d⟩
 .have KG:X.fn x=true:=by
   rcases hf with z|z
   .exact z
   .rw [z]at hk;cases hk
  obtain⟨c,hc⟩:=I.ok.has x (.inl hk);obtain⟨w',z⟩:=I.cell x c hc;refine wpAny_storeName_cell I.ok.kind hk hc z (λh' LD hs=>?_);obtain⟨oc,KA,Qz⟩:=id z;refine h { s with heap:=h' } ⟨I.ok,I.os,I.bare,⟨λb o e n hb hx=>?_,λb o e n hb hx=>?_,I.base.free,λb o e hx=>?_,I.base.tups,I.base.frzs,I.base.tbls⟩,⟨m,hn.sameBut hs (BX (cne x c hc)),λj y v' e1 e2 e3=>?_⟩,λy c' e=>?_,I.free,I.freeC,λp hp=>?_,tracked ⟨oc,KA,I.freeC x c hc⟩ hs,by simpa using I.len⟩ ⟨c,hs,.inr hc⟩
  .exact (hs.2 b (A4 (Bc (AN e) (I.ok.cab x c KG hc)))).trans (I.base.keep b o e n hb hx)
  .obtain⟨sl,e1⟩:=I.base.slot b o e n hb hx
   exact⟨sl,(hs.2 b (A4 (Bc (AN e) (I.ok.cab x c KG hc)))).trans e1⟩
  .obtain⟨o',e1⟩:=I.base.there b o e hx
   exact⟨o',(hs.2 b (A4 (Bc (AN e) (I.ok.cab x c KG hc)))).trans e1⟩
  .by_cases hj:j=i
   .subst hj
    rw[hi]at e1;cases e1;rw[Dv TN]at e2;cases e2;exact⟨u,r,.inr ⟨.inl hk,c,hc,LD⟩⟩
   .rw [El (BX hj)]at e2
    obtain⟨u',r',q⟩:=hl j y v' e1 e2 e3;refine⟨u',r',?_⟩
    rcases q with q|⟨k,c',e,z'⟩
    .exact .inl q
    .refine .inr ⟨k,c',e,z'.sameBut hs ?_⟩
     rintro rfl;exact hj (ji hN e1 (I.ok.inj _ _ _ e hc ▸ hi))
  .by_cases Ua:c'=c
   .subst Ua;exact⟨_,LD⟩
   .obtain⟨w2,z2⟩:=I.cell y c' e
    exact⟨w2,z2.sameBut hs Ua⟩
  .obtain⟨e,n,ne,nf,d⟩:=I.pin p hp
   refine⟨(hs.2 p.1 ?_).trans e,n,ne,nf,d⟩;intro q;rw[q,KA]at e;have q':oc=p.2:=Bx e;exact d w' (by rw[<- q'];exact Qz)
theorem fG {M:Model}{A:Around}{E:zz9->zz8->Prop}{i:Nat}{x:Str}{v:V}{u:zz9}{Q:Unit->zz8->Prop} (I:Inv X pins σ H s) (hN:X.N.Nodup) (hi:X.N[i]?=some x) (hx:Loc X.env.scope x) (r:RelV v u)
  (h:∀s',Inv X pins (σ.set i (some v)) H s'->Q () s') (hf:X.fn x=true\/X.env.scope.names.lookup x=some .local:=by first|exact .inl rfl|exact .inr rfl|assumption):wpAny M A (storeName X.env x u) Q E s :=
 i8 I hN hi hx r (λs' I' _=>h s' I') hf
theorem Inv.call' {s':zz8}{ch:List Addr} (I:Inv X pins σ H s) (ho:s'.os=s.os) (u:Un (Gc X.stack) ch H H' s.heap s'.heap) (hok:F0 X.prog X.w H' s'.heap) (hg:AllBare s'.gens)
  (HQ:∀b∈ch,(b∈X.ex\/X.s₀.heap.objs.size<=b)/\b≠X.env.locals/\(∀x c,X.env.cells.lookup x=some c->c≠b)/\∀p∈X.pn++pins,p.1≠b):Inv X pins σ H' s':=by
 obtain⟨h',g',d',t',o'⟩:=s';have e:o'=s.os:=ho;subst e;exact I.call (g':=g') (t':=t') (d':=d') u hok hg HQ
end
abbrev XK:=zz9->Option Addr->Hp->Prop
abbrev St:=List (Option V)
abbrev VK:=V->Hp->Prop
abbrev TE:=St->Hp->VK->Prop
abbrev TT:=St->Hp->(Bool->Hp->Prop)->Prop
abbrev TA:=St->Hp->(List V->Hp->Prop)->Prop
structure Ends where
 nx:St->Hp->Prop
 rt:VK
 bk:St->Hp->Prop:=λ_ _=>False
 ct:St->Hp->Prop:=λ_ _=>False
abbrev TS:=Ends->St->Hp->Prop
def EP (X:Cx) (pins:List (Addr×Obj)) (σ:St) (Q:VK) (u:zz9) (s':zz8):Prop:=∃v H',Inv X pins σ H' s'/\RelV v u/\Q v H'
def TP (X:Cx) (pins:List (Addr×Obj)) (σ:St) (Q:Bool->Hp->Prop) (b:Bool) (s':zz8):Prop:=∃H',Inv X pins σ H' s'/\Q b H'
def AP (X:Cx) (pins:List (Addr×Obj)) (σ:St) (Q:List V->Hp->Prop) (us:List zz9) (s':zz8):Prop:=∃vs H',Inv X pins σ H' s'/\ar vs us/\Q vs H'
def SP (X:Cx) (pins:List (Addr×Obj)) (D:Ends) (f:Flow) (s':zz8):Prop :=
 match f with
 | .next=>∃σ' H',Inv X pins σ' H' s'/\D.nx σ' H'
 | .brk=>∃σ' H',Inv X pins σ' H' s'/\D.bk σ' H'
 | .cont=>∃σ' H',Inv X pins σ' H' s'/\D.ct σ' H'
 | .ret u=>∃v σ' H',Inv X pins σ' H' s'/\RelV v u/\D.rt v H'
def PE (X:Cx) (e:Expr) (t:TE):Prop :=
 ∀(pins:List (Addr×Obj)) (s:zz8) (σ:St) (H:Hp) (Q:VK),Inv X pins σ H s->t σ H Q->wpAny (model X.prog X.w) X.A (eval e X.env) (EP X pins σ Q) X.xe s
def PT (X:Cx) (e:Expr) (t:TT):Prop :=
 ∀(pins:List (Addr×Obj)) (s:zz8) (σ:St) (H:Hp) (Q:Bool->Hp->Prop),Inv X pins σ H s->t σ H Q->wpAny (model X.prog X.w) X.A (isTrue e X.env (eval e X.env)) (TP X pins σ Q) X.xe s
def PW (X:Cx) (e:Expr) (t:TT):Prop :=
 ∀(whole:Sem zz9) (pins:List (Addr×Obj)) (s:zz8) (σ:St) (H:Hp) (Q:Bool->Hp->Prop),Inv X pins σ H s->t σ H Q->wpAny (model X.prog X.w) X.A (isTrue e X.env whole) (TP X pins σ Q) X.xe s
theorem PW.pt {X:Cx}{e:Expr}{t:TT} (h:PW X e t):PT X e t:=h _
def PA (X:Cx) (es:List Expr) (t:TA):Prop :=
 ∀(pos:Pos) (pins:List (Addr×Obj)) (s:zz8) (σ:St) (H:Hp) (Q:List V->Hp->Prop),Inv X pins σ H s->t σ H Q->wpAny (model X.prog X.w) X.A (spliced (backTo pos (starEach es X.env))) (AP X pins σ Q) X.xe s
def PS (X:Cx) (st:Stmt) (t:TS):Prop :=
 ∀(pins:List (Addr×Obj)) (s:zz8) (σ:St) (H:Hp) (D:Ends),Inv X pins σ H s->t D σ H->wpAny (model X.prog X.w) X.A (exec st X.env) (SP X pins D) X.xe s
def HR (X:Cx) (st:List Stmt) (t:TS):Prop :=
 ∀(pins:List (Addr×Obj)) (s:zz8) (σ:St) (H:Hp) (D:Ends),Inv X pins σ H s->t D σ H->wpAny (model X.prog X.w) X.A (execs st X.env) (SP X pins D) X.xe s
theorem FG {α:Type}{t:Sem α}{Q Q':α->zz8->Prop}{M:Model}{A:Around}{E:zz9->zz8->Prop}{s:zz8} (h:wpAny M A t Q E s) (hQ:∀a s,Q a s->Q' a s):wpAny M A t Q' E s:=BK h hQ λ_ _ x=>x
section
variable {X:Cx}
def kj (i:Nat):TE:=λσ H Q=>∃v,σ[i]?=some (some v)/\Q v H
def tC (v:V):TE:=λ_ H Q=>Q v H
theorem xo {i:Nat}{x:Str}{pos:Pos} (hN:X.N[i]?=some x) (hv:OL X.env.scope x) (hd:(x==("__debug__":Str))=false:=by decide) (IV:(x==("__classdict__":Str))=false:=by decide):PE X (.Name x pos) (kj i):=by
 intro pins s σ H Q I h;obtain⟨v,e,h⟩:=h;obtain⟨m,hn,hl⟩:=I.loc;obtain⟨u,r,l⟩:=hl i x v hN e hv;have fin:EP X pins σ Q u s:=⟨v,H,I,r,h⟩
 rcases l with ⟨hk,hm⟩|⟨hk,c,hc,Iw⟩
 .exact wpAny_Name (wpAny_loadName_local I.ok.kind hk hn hm fin) hd
 .rcases hk with hk|hk
  .exact wpAny_Name (wpAny_loadName_cell I.ok.kind hk hc Iw fin) hd
  .exact wpAny_Name (wpAny_loadName_free I.ok.kind hk hc Iw fin IV) hd
theorem ai {i j pos}:PE X (.Constant (.int i) j pos) (tC (.int i)):=λ_ _ _ H _ I h=>wpAny_Constant_int ⟨.int i,H,I.tok _,⟨_,rfl⟩,h⟩
theorem cY {b j pos}:PE X (.Constant (.bool b) j pos) (tC (.bl b)):=λ_ _ _ H _ I h=>Constant_bool ⟨.bl b,H,I,rfl,h⟩
theorem oS {j pos}:PE X (.Constant .none j pos) (tC .non):=λ_ _ _ H _ I h=>Constant_none ⟨.non,H,I,rfl,h⟩
theorem eO {x j pos}:PE X (.Constant (.str x) j pos) (tC (.str x)):=λ_ _ _ H _ I h=>Calls.Constant_str ⟨.str x,H,I.tok _,⟨_,rfl⟩,h⟩
def Gl (X:Cx) (x:Str):Prop:=X.env.kindOf x=some .globalImplicit
theorem gb {E:zz9->zz8->Prop}{pins:List (Addr×Obj)}{s:zz8}{σ:St}{H:Hp}{x:Str}{u:zz9}{pos:Pos}{Q:zz9->zz8->Prop} (I:Inv X pins σ H s) (hg:Gl X x) (hm:X.mg x=some u) (h:Q u s)
  (hd:(x==("__debug__":Str))=false:=by decide):wpAny (model X.prog X.w) X.A (eval (.Name x pos) X.env) Q E s :=
 Calls.Name_function_global I.ok.kind hg (Calls.loadGlobal_global (by rw[I.ok.glob];exact I.mod.glob.keeps I.bk) hm h) hd
theorem eP {E:zz9->zz8->Prop}{pins:List (Addr×Obj)}{s:zz8}{σ:St}{H:Hp}{x:Str}{u:zz9}{pos:Pos}{Q:zz9->zz8->Prop} (I:Inv X pins σ H s) (hg:Gl X x) (hm:X.mg x=none) (hv:bootBuiltins x=some u) (h:Q u s)
  (hn:x≠"__name__":=by decide) (hd:(x==("__debug__":Str))=false:=by decide):wpAny (model X.prog X.w) X.A (eval (.Name x pos) X.env) Q E s:=by
 obtain⟨mb,h1,h2⟩:=I.mod.blt;exact Calls.Name_function_global I.ok.kind hg (Calls.loadGlobal_builtin (by rw[I.ok.glob];exact I.mod.glob.keeps I.bk) hm (by rw[I.ok.blt];exact h1.keeps I.bk) ((h2 x hn).trans hv) h) hd
theorem wz {x:Str}{v:V}{u:zz9}{pos:Pos} (hg:Gl X x) (hm:X.mg x=some u) (r:RelV v u) (hd:(x==("__debug__":Str))=false:=by decide):PE X (.Name x pos) (tC v):=
 λ_ _ _ H _ I h=>gb I hg hm ⟨v,H,I,r,h⟩ hd
theorem bS {x:Str}{v:V}{u:zz9}{pos:Pos} (hg:Gl X x) (hm:X.mg x=none) (hv:bootBuiltins x=some u) (r:RelV v u) (hn:x≠"__name__":=by decide) (hd:(x==("__debug__":Str))=false:=by decide):PE X (.Name x pos) (tC v):=
 λ_ _ _ H _ I h=>eP I hg hm hv ⟨v,H,I,r,h⟩ hn hd
variable {a b:Expr}{ta tb:TE}{pos:Pos}
def PC (X:Cx) (op:CmpOp) (a b:Expr) (t:TE):Prop :=
 ∀(pins:List (Addr×Obj)) (s:zz8) (σ:St) (H:Hp) (Q:VK),Inv X pins σ H s->t σ H Q ->
  wpAny (model X.prog X.w) X.A (eval a X.env) (λv s₁=>wpAny (model X.prog X.w) X.A (eval b X.env) (λu s₂=>wpAny (model X.prog X.w) X.A (compareOp op v u) (EP X pins σ Q) X.xe s₂) X.xe s₁) X.xe s
def tB (t:TE):TT:=λσ H Q=>t σ H λx H1=>∃c,x=.bl c/\Q c H1
theorem xT {op:CmpOp}{t:TE} (h:PC X op a b t) (h1:behindInMarks op b=false:=by first|exact Jj _ (by decide) (by decide)|rfl):PE X (.Compare a [op] [b] pos) t:=λpins s σ H Q I hw=>wpAny_Compare1 (h pins s σ H Q I hw) h1
theorem ye {op:CmpOp}{t:TE} (h:PC X op a b t) (h1:behindInMarks op b=false:=by first|exact Jj _ (by decide) (by decide)|rfl):PT X (.Compare a [op] [b] pos) (tB t):=by
 intro pins s σ H Q I hw;refine wpAny_isTrue_Compare1 (FG (h pins s σ H _ I hw) λv s1 h1=>FG h1 λu s2 h2=>FG h2 λc s3 ⟨x,H1,I1,r1,q1⟩=>?_) h1;obtain⟨d,rfl,q⟩:=q1;cases r1;exact BU ⟨H1,I1,q⟩
theorem bg {e:Expr}{t:TE} (h:PE X e t) (he:∀whole,isTrue e X.env whole=(do let v <- whole;standAt e.pos;holding [v] (truthy v)):=by intro _;rfl):PT X e (tB t):=by
 intro pins s σ H Q I hw;refine isTrue_plain (FG (h pins s σ H _ I hw) λv s1 ⟨x,H1,I1,r1,q1⟩=>?_) (he _);obtain⟨d,rfl,q⟩:=q1;cases r1;exact BU ⟨H1,I1,q⟩
variable {tA N9:TT}{rest:List Expr}
def zM (t u:TT):TT:=λσ H Q=>t σ H λc H1=>if c=true then u σ H1 Q else Q false H1
def U9 (t u:TT):TT:=λσ H Q=>t σ H λc H1=>if c=true then Q true H1 else u σ H1 Q
def zo (t:TT):TT:=λσ H Q=>t σ H λc H1=>Q (!c) H1
theorem fJ (ha:PT X a tA):PW X (.BoolOp .And [a] pos) tA:=by
 intro wh pins s σ H Q I h;refine isTrue_and (FG (ha pins s σ H Q I h) λc s1 e=>?_);cases c with
 | true=>exact isTrue_and_nil e
 | false=>exact e
theorem cf (ha:PT X a tA):PW X (.BoolOp .Or [a] pos) tA:=by
 intro wh pins s σ H Q I h;refine isTrue_or (FG (ha pins s σ H Q I h) λc s1 e=>?_);cases c with
 | false=>exact isTrue_or_nil e
 | true=>exact e
theorem fL (ha:PT X a tA) (hb:PW X (.BoolOp .And (b::rest) pos) N9):PW X (.BoolOp .And (a::b::rest) pos) (zM tA N9):=by
 intro wh pins s σ H Q I h;refine isTrue_and (FG (ha pins s σ H _ I h) λc s1 ⟨H1,I1,q1⟩=>?_);cases c with
 | true=>exact hb wh pins s1 σ H1 Q I1 q1
 | false=>exact⟨H1,I1,q1⟩
theorem bG (ha:PT X a tA) (hb:PW X (.BoolOp .Or (b::rest) pos) N9):PW X (.BoolOp .Or (a::b::rest) pos) (U9 tA N9):=by
 intro wh pins s σ H Q I h;refine isTrue_or (FG (ha pins s σ H _ I h) λc s1 ⟨H1,I1,q1⟩=>?_);cases c with
 | true=>exact⟨H1,I1,q1⟩
 | false=>exact hb wh pins s1 σ H1 Q I1 q1
theorem bu (ha:PT X a tA):PT X (.UnaryOp .Not a pos) (zo tA):=by
 intro pins s σ H Q I h;exact isTrue_not (ha pins s σ H (λc H1=>Q (!c) H1) I h)
def zc (ta tb:TE):TE:=λσ H Q=>ta σ H λx H1=>∃c,x=.bl c/\if c=true then tb σ H1 Q else Q (.bl false) H1
def zE (ta tb:TE):TE:=λσ H Q=>ta σ H λx H1=>∃c,x=.bl c/\if c=true then Q (.bl true) H1 else tb σ H1 Q
def yN (ta:TE):TE:=λσ H Q=>ta σ H λx H1=>∃c,x=.bl c/\Q (.bl (!c)) H1
theorem cq {op}{t:TE} (h:PE X a t):PE X (.BoolOp op [a] pos) t:=λpins s σ H Q I hw=>BoolOp_one (h pins s σ H Q I hw)
theorem b8 (ha:PE X a ta) (hb:PE X (.BoolOp .And (b::rest) pos) tb):PE X (.BoolOp .And (a::b::rest) pos) (zc ta tb):=by
 intro pins s σ H Q I h;refine BoolOp_and (FG (ha pins s σ H _ I h) λv s1 ⟨x,H1,I1,r1,q1⟩=>?_);obtain⟨c,rfl,q1⟩:=q1;cases r1;refine BU ?_;cases c with
 | true=>exact hb pins s1 σ H1 Q I1 q1
 | false=>exact⟨.bl false,H1,I1,rfl,q1⟩
theorem yT (ha:PE X a ta) (hb:PE X (.BoolOp .Or (b::rest) pos) tb):PE X (.BoolOp .Or (a::b::rest) pos) (zE ta tb):=by
 intro pins s σ H Q I h;refine BoolOp_or (FG (ha pins s σ H _ I h) λv s1 ⟨x,H1,I1,r1,q1⟩=>?_);obtain⟨c,rfl,q1⟩:=q1;cases r1;refine BU ?_;cases c with
 | false=>exact hb pins s1 σ H1 Q I1 q1
 | true=>exact⟨.bl true,H1,I1,rfl,q1⟩
theorem ph (ha:PE X a ta):PE X (.UnaryOp .Not a pos) (yN ta):=by
 intro pins s σ H Q I h;refine UnaryOp_ (FG (ha pins s σ H _ I h) λv s1 ⟨x,H1,I1,r1,q1⟩=>?_);obtain⟨c,rfl,q1⟩:=q1;cases r1;exact not_of (BU ⟨.bl (!c),H1,I1,rfl,q1⟩)
end
def FF (K:zz7) (H:Hp) (a:Addr) (xs:List V):Prop :=
 Rd H a (.lst xs) \/
  ∃(o:Obj) (FC:Array zz9) (n:Nat),K.lookup a=some o/\o.cls=.type "list"/\o.dict=none/\o.data=.seq FC n/\FC.size<=sizeLine/\ar xs FC.toList
def FE (K:zz7) (H:Hp) (a:Addr) (xs:List V):Prop :=
 Rd H a (.tup xs) \/
  ∃(o:Obj) (FC:Array zz9) (n:Nat),K.lookup a=some o/\o.cls=.type "tuple"/\o.data=.seq FC n/\FC.size<=sizeLine/\ar xs FC.toList
def Ac:zz9->Option V
 | .none=>some .non
 | .bool b=>some (.bl b)
 | .int i _=>some (.int i)
 | .str x _=>some (.str x)
 | .bytes b _=>some (.byt b)
 | .float b _=>some (.flt b)
 | .ref a=>some (.ref a)
 | .type n=>some (.ty n)
 | _=>none
theorem RelV.abs {x:V}{u:zz9} (r:RelV x u):Ac u=some x:=by
 cases x with
 | non=>cases r;rfl
 | bl _=>cases r;rfl
 | int _=>obtain⟨t,rfl⟩:=r;rfl
 | str _=>obtain⟨t,rfl⟩:=r;rfl
 | byt _=>obtain⟨t,rfl⟩:=r;rfl
 | flt _=>obtain⟨t,rfl⟩:=r;rfl
 | ref _=>cases r;rfl
 | ty _=>cases r;rfl
theorem RelV.inj {x y:V}{u:zz9} (r:RelV x u) (q:RelV y u):x=y:=Bx (r.abs.symm.trans q.abs)
theorem ar.inj:∀{xs ys:List V}{us:List zz9},ar xs us->ar ys us->xs=ys
 | _,_,_,.nil,.nil=>rfl
 | _,_,_,.cons r t,.cons r' t'=>by rw[r.inj r',ar.inj t t']
section
variable {X:Cx}{pins:List (Addr×Obj)}{σ:St}{H:Hp}{s:zz8}{a:Addr}{xs ys:List V}
theorem FF.of {K:zz7} (h:H a=some (.lst xs)):FF K H a xs:=.inl (.inl h)
theorem FE.of {K:zz7} (h:H a=some (.tup xs)):FE K H a xs:=.inl (.inl h)
theorem Inv.list (I:Inv X pins σ H s) (h:FF X.K H a xs):∃FC:List zz9,ar xs FC/\PlainL s.heap a FC.toArray/\xs.length<=sizeLine:=by
 rcases h with h|⟨o,FC,n,hk,hc,hd,hs,hz,r⟩
 .obtain⟨z,FC,n,r,e⟩:=h.ok I.hok
  exact⟨FC,r,⟨_,n,e,rfl,rfl,rfl⟩,z⟩
 .refine⟨FC.toList,r,⟨o,n,I.kIn a o hk,hc,hd,by simpa using hs⟩,?_⟩
  have e:=r.length;simp only[Bh]at e;omega
theorem Inv.tuple (I:Inv X pins σ H s) (h:FE X.K H a xs):∃FC:List zz9,ar xs FC/\IsTup s.heap a FC.toArray/\xs.length<=sizeLine:=by
 rcases h with h|⟨o,FC,n,hk,hc,hs,hz,r⟩
 .obtain⟨z,FC,r,p⟩:=h.ok I.hok
  exact⟨FC,r,p,z⟩
 .refine⟨FC.toList,r,⟨o,I.kIn a o hk,hc,n,by simpa using hs⟩,?_⟩
  have e:=r.length;simp only[Bh]at e;omega
theorem Inv.list_inj (I:Inv X pins σ H s) (h:FF X.K H a xs) (h':FF X.K H a ys):xs=ys:=by
 obtain⟨FC,r,⟨o,n,e,_,_,d⟩,_⟩:=I.list h;obtain⟨its',r',⟨o',n',e',_,_,d'⟩,_⟩:=I.list h';rw[e]at e';cases e';rw[d]at d'
 injection d' with d1 _
 have:FC=its':=by simpa using congrArg Array.toList d1
 subst this;exact r.inj r'
theorem Inv.tuple_inj (I:Inv X pins σ H s) (h:FE X.K H a xs) (h':FE X.K H a ys):xs=ys:=by
 obtain⟨FC,r,⟨o,e,_,n,d⟩,_⟩:=I.tuple h;obtain⟨its',r',⟨o',e',_,n',d'⟩,_⟩:=I.tuple h';rw[e]at e';cases e';rw[d]at d'
 injection d' with d1 _
 have:FC=its':=by simpa using congrArg Array.toList d1
 subst this;exact r.inj r'
end
abbrev Cx.wish (X:Cx) (E:zz9->zz8->Prop):Cx:={ X with xe:=E }
abbrev Cx.nox (X:Cx):Cx:=X.wish λ_ _=>False
theorem Cx.Ok.wish {X:Cx} (ok:X.Ok) (E:zz9->zz8->Prop):(X.wish E).Ok :=
 ⟨ok.mod,ok.kind,ok.glob,ok.blt,ok.above,ok.inj,ok.has,ok.cab,ok.hd,ok.frames,ok.stk,ok.exf,ok.bs,ok.bsz,ok.noex,ok.exfs,ok.funs,ok.frf⟩
theorem Cx.Ok.unwish {X:Cx}{E:zz9->zz8->Prop} (ok:(X.wish E).Ok):X.Ok :=
 ⟨ok.mod,ok.kind,ok.glob,ok.blt,ok.above,ok.inj,ok.has,ok.cab,ok.hd,ok.frames,ok.stk,ok.exf,ok.bs,ok.bsz,ok.noex,ok.exfs,ok.funs,ok.frf⟩
section
variable {X:Cx}{pins:List (Addr×Obj)}{σ:St}{H:Hp}{s:zz8}{E:zz9->zz8->Prop}
theorem Inv.wish (I:Inv X pins σ H s) (E:zz9->zz8->Prop):Inv (X.wish E) pins σ H s:=⟨I.ok.wish E,I.os,I.bare,I.base,I.loc,I.cell,I.free,I.freeC,I.pin,I.hok,I.len⟩
theorem Inv.unwish (I:Inv (X.wish E) pins σ H s):Inv X pins σ H s:=⟨I.ok.unwish,I.os,I.bare,I.base,I.loc,I.cell,I.free,I.freeC,I.pin,I.hok,I.len⟩
theorem SP.unwish {D:Ends}{f:Flow}{s':zz8} (h:SP (X.wish E) pins D f s'):SP X pins D f s':=by
 cases f with
 | next=>obtain⟨σ',H',I,q⟩:=h;exact⟨σ',H',I.unwish,q⟩
 | brk=>obtain⟨σ',H',I,q⟩:=h;exact⟨σ',H',I.unwish,q⟩
 | cont=>obtain⟨σ',H',I,q⟩:=h;exact⟨σ',H',I.unwish,q⟩
 | ret u=>obtain⟨v,σ',H',I,r,q⟩:=h;exact⟨v,σ',H',I.unwish,r,q⟩
theorem PE.nox {e:Expr}{t:TE} (h:PE X.nox e t):PE X e t:=λpins s σ H Q I hw =>
 BK (h pins s σ H Q (I.wish _) hw) (λ_ _ ⟨v,H',I',r,q⟩=>⟨v,H',I'.unwish,r,q⟩) λ_ _ z=>False.elim z
theorem HR.nox {st:List Stmt}{t:TS} (h:HR X.nox st t):HR X st t:=λpins s σ H D I hw =>
 BK (h pins s σ H D (I.wish _) hw) (λ_ _ q=>q.unwish) λ_ _ z=>False.elim z
end
section
variable {X:Cx}{st:Stmt}{rest:List Stmt}{t u:TS}{e:Expr}{te:TE}{pos:Pos}
def yO:TS:=λD σ H=>D.nx σ H
def qk (t u:TS):TS:=λD σ H=>t { D with nx:=u D } σ H
theorem aU:HR X [] yO:=λ_ _ σ H _ I h=>Dm ⟨σ,H,I,h⟩
theorem am (h1:PS X st t) (h2:HR X rest u):HR X (st::rest) (qk t u):=by
 intro pins s σ H D I h;refine wpAny_execs_cons (FG (h1 pins s σ H { D with nx:=u D } I h) λf s1 q=>?_);cases f with
 | next =>
  obtain⟨σ',H',I',q⟩:=q;exact h2 pins s1 σ' H' D I' q
 | ret v=>exact q
 | brk=>exact q
 | cont=>exact q
theorem aw (h1:PS X st t):HR X [st] t:=by
 intro pins s σ H D I h;refine wpAny_execs_cons (FG (h1 pins s σ H D I h) λf s1 q=>?_);cases f with
 | next=>exact Dm q
 | ret v=>exact q
 | brk=>exact q
 | cont=>exact q
theorem Inv.quiet {pins:List (Addr×Obj)}{σ:St}{H:Hp}{s:zz8} (I:Inv X pins σ H s):interactive X.env=false:=by simp[interactive,I.ok.kind]
def y8 (te:TE):TS:=λD σ H=>te σ H λ_ H1=>D.nx σ H1
theorem b7 (he:PE X e te) (hs:swapsWith e none pos.line X.env=pure false:=by rfl):PS X (.Expr e pos) (y8 te):=by
 intro pins s σ H D I h;exact wpAny_Expr_any (FG (he pins s σ H _ I h) λv s1 ⟨x,H1,I1,r1,q1⟩=>⟨σ,H1,I1,q1⟩) I.quiet hs
def zh (te:TE):TS:=λD σ H=>te σ H D.rt
theorem aJ (he:PE X e te):PS X (.Return (some e) pos) (zh te):=by
 intro pins s σ H D I h;exact wpAny_Return_some (FG (he pins s σ H _ I h) λv s1 ⟨x,H1,I1,r1,q1⟩=>⟨x,σ,H1,I1,r1,q1⟩)
def kg (c:TT) (t u:TS):TS:=λD σ H=>c σ H λb H1=>if b=true then t D σ H1 else u D σ H1
theorem aV {c:Expr}{a b:List Stmt}{tc:TT} (hc:PT X c tc) (ha:HR X a t) (hb:HR X b u):PS X (.If c a b pos) (kg tc t u):=by
 intro pins s σ H D I h;refine wpAny_If (FG (hc pins s σ H _ I h) λd s1 ⟨H1,I1,q1⟩=>?_);cases d with
 | true=>exact ha pins s1 σ H1 D I1 q1
 | false=>exact hb pins s1 σ H1 D I1 q1
def yx:TS:=λ_ _ _=>False
theorem bP {Vd:List Stmt}:HR X Vd yx:=λ_ _ _ _ _ _ h=>h.elim
end
abbrev TG:=V->St->Hp->(St->Hp->Prop)->Prop
abbrev KO:=List V->St->Hp->(St->Hp->Prop)->Prop
def PG (X:Cx) (target:Expr) (t:TG):Prop :=
 ∀(pins:List (Addr×Obj)) (s:zz8) (σ:St) (H:Hp) (v:V) (u:zz9) (Q:St->Hp->Prop),Inv X pins σ H s->RelV v u->t v σ H Q ->
  wpAny (model X.prog X.w) X.A (assign target X.env u) (λ_ s'=>∃σ' H',Inv X pins σ' H' s'/\Q σ' H') X.xe s
def NZ (X:Cx) (ts:List Expr) (t:KO):Prop :=
 ∀(pins:List (Addr×Obj)) (s:zz8) (σ:St) (H:Hp) (vs:List V) (us:List zz9) (Q:St->Hp->Prop),Inv X pins σ H s->ar vs us->t vs σ H Q ->
  wpAny (model X.prog X.w) X.A (assignInOrder ((assignEach ts X.env).map (·.2)) us) (λ_ s'=>∃σ' H',Inv X pins σ' H' s'/\Q σ' H') X.xe s
abbrev j9:=V->V->V->Hp->(Hp->Prop)->Prop
def pZ (X:Cx) (t:j9):Prop :=
 ∀(pins:List (Addr×Obj)) (s:zz8) (σ:St) (H:Hp) (o i v:V) (ov iv u:zz9) (Q:Hp->Prop),Inv X pins σ H s->RelV o ov->RelV i iv->RelV v u->t o i v H Q ->
  wpAny (model X.prog X.w) X.A (setItem ov iv u) (λ_ s'=>∃H',Inv X pins σ H' s'/\Q H') X.xe s
abbrev OM:=V->V->Hp->VK->Prop
def Uz (X:Cx) (op:Operator) (t:OM):Prop :=
 ∀(pins:List (Addr×Obj)) (s:zz8) (σ:St) (H:Hp) (x y:V) (v u:zz9) (Q:VK),Inv X pins σ H s->RelV x v->RelV y u->t x y H Q ->
  wpAny (model X.prog X.w) X.A (inplaceOp op v u) (EP X pins σ Q) X.xe s
section
variable {X:Cx}{pos:Pos}
def ck (i:Nat):TG:=λv σ H Q=>Q (σ.set i (some v)) H
theorem aY {i:Nat}{x:Str} (hN:X.N.Nodup) (hi:X.N[i]?=some x) (hx:Loc X.env.scope x) (hf:X.fn x=true\/X.env.scope.names.lookup x=some .local:=by first|exact .inl rfl|exact .inr rfl|assumption):PG X (.Name x pos) (ck i):=by
 intro pins s σ H v u Q I r h;exact E2 (fG I hN hi hx r (λs' I'=>⟨_,H,I',h⟩) hf)
def zD:KO:=λvs σ H Q=>vs=[]/\Q σ H
def za (t:TG) (u:KO):KO:=λvs σ H Q=>∃v r,vs=v::r/\t v σ H λσ' H'=>u r σ' H' Q
theorem cH:NZ X [] zD:=by
 intro pins s σ H vs us Q I r h;obtain⟨e,h⟩:=h;subst e;cases r;exact assignInOrder_nil ⟨σ,H,I,h⟩
theorem ba {e:Expr}{es:List Expr}{t:TG}{u:KO} (h1:PG X e t) (h2:NZ X es u)
  (hs:(assignEach (e::es) X.env).map (·.2)=assign e X.env::(assignEach es X.env).map (·.2):=by rfl):NZ X (e::es) (za t u):=by
 intro pins s σ H vs us Q I r h;obtain⟨v,vr,e1,h⟩:=h;subst e1;cases r with
 | cons r rr =>
  rw[hs];refine assignInOrder_cons (FG (h1 pins s σ H _ _ _ I r h) λ_ s1 ⟨σ1,H1,I1,q1⟩=>?_);exact h2 pins s1 σ1 H1 _ _ Q I1 rr q1
def qb (K:zz7) (n:Nat) (t:KO):TG:=λv σ H Q=>∃a xs,v=.ref a/\FE K H a xs/\xs.length=n/\t xs σ H Q
theorem dI {es:List Expr}{k:Nat}{t:KO}{n:Nat} (hc:X.calm=true) (h:NZ X es t)
  (hn:(assignEach es X.env).length=n:=by rfl) (GW:(assignEach es X.env).findIdx? (·.1)=none:=by rfl):PG X (.Tuple es k pos) (qb X.K n t):=by
 intro pins s σ H v u Q I r hw;obtain⟨a,xs,e1,hq,hl,hw⟩:=hw;subst e1;cases r;obtain⟨FC,rv,ht,hz⟩:=I.tuple hq;refine assign_Tuple_tuple (I.ok.hd hc) ht (by simp[hn,<- hl,rv.length]) GW λh' hx=>?_;have I1:Inv X pins σ H { s with heap:=h' }:=I.kept (t':=s.toks) λb o e=>hx b o (A4 (AN e)) e;exact h pins _ σ H xs _ Q I1 (by simpa using rv) hw
def zL (to ti:TE) (t:j9):TG:=λv σ H Q=>to σ H λo H1=>ti σ H1 λi H2=>t o i v H2 λH3=>Q σ H3
theorem oN {o i:Expr}{to ti:TE}{t:j9} (ho:PE X o to) (hi:PE X i ti) (hs:pZ X t)
  (ha:∀v,assign (.Subscript o i pos) X.env v=(do
   let ov <- holding [v] (eval o X.env)
   let iv <- holding [v,ov] (eval i X.env)
   standAt pos
   holding [v,ov,iv] (setItem ov iv v)
   release [v,ov,iv] []):=by intro _;rfl):PG X (.Subscript o i pos) (zL to ti t):=by
 intro pins s σ H v u Q I r h;rw[ha];refine AF (Bo (FG (ho pins s σ H _ I h) λov s1 ⟨x,H1,I1,r1,q1⟩=>?_));refine AF (Bo (FG (hi pins s1 σ H1 _ I1 q1) λiv s2 ⟨y,H2,I2,r2,q2⟩=>?_));refine AF (Cb (AF (Bo (FG (hs pins s2 σ H2 x y v ov iv u _ I2 r1 r2 r q2) λ_ s3 ⟨H3,I3,q3⟩=>?_))));exact wpAny_release ⟨σ,H3,I3,q3⟩
def qh (te:TE) (g:TG):TS:=λD σ H=>te σ H λx H1=>g x σ H1 D.nx
theorem eM {tg e:Expr}{te:TE}{g:TG} (he:PE X e te) (hg:PG X tg g) (hs:swapsWithSole [tg] e pos.line X.env=pure false:=by rfl) (hw:swappedStores [tg] e X.env=pure none:=by rfl)
  (h1:(assignEach [tg] X.env).map (·.2)=[assign tg X.env]:=by rfl):PS X (.Assign [tg] e pos) (qh te g):=by
 intro pins s σ H D I h;refine wpAny_Assign_stores (FG (he pins s σ H _ I h) λv s1 ⟨x,H1,I1,r1,q1⟩=>?_) hs hw;rw[h1];exact FG (hg pins s1 σ H1 x v _ I1 r1 q1) λ_ s2 q=>q
theorem aN {i:Nat}{x:Str}{e:Expr}{te:TE}{GA:Pos} (hN:X.N.Nodup) (hi:X.N[i]?=some x) (hx:Loc X.env.scope x) (he:PE X e te) (hs:swapsWith e (some (.Name x GA)) pos.line X.env=pure false:=by rfl) (hf:X.fn x=true\/X.env.scope.names.lookup x=some .local:=by first|exact .inl rfl|exact .inr rfl|assumption) :
  PS X (.Assign [.Name x GA] e pos) (qh te (ck i)):=by
 intro pins s σ H D I h;refine wpAny_Assign_Name (FG (he pins s σ H _ I h) λv s1 ⟨y,H1,I1,r1,q1⟩=>?_) hs;exact fG I1 hN hi hx r1 (λs2 I2=>⟨_,H1,I2,q1⟩) hf
def zA (i:Nat) (te:TE) (ti:OM):TS:=λD σ H=>∃x,σ[i]?=some (some x)/\te σ H λy H1=>ti x y H1 λz H2=>D.nx (σ.set i (some z)) H2
theorem xp {i:Nat}{x:Str}{e:Expr}{te:TE}{op:Operator}{ti:OM}{GA:Pos} (hN:X.N.Nodup) (hi:X.N[i]?=some x) (hx:Loc X.env.scope x) (he:PE X e te) (ho:Uz X op ti) (hf:X.fn x=true\/X.env.scope.names.lookup x=some .local:=by first|exact .inl rfl|exact .inr rfl|assumption) :
  PS X (.AugAssign (.Name x GA) op e pos) (zA i te ti):=by
 intro pins s σ H D I h;obtain⟨v,e1,h⟩:=h;obtain⟨m,hn,hl⟩:=I.loc;have UU:OL X.env.scope x:=by rcases hx with k|k;exact .inl k;exact .inr (.inl k)
 obtain⟨u,r,l⟩:=hl i x v hi e1 UU;refine wpAny_AugAssign_Name ?_;have go:wpAny (model X.prog X.w) X.A (eval e X.env) (λw s₂=>wpAny (model X.prog X.w) X.A (inplaceOp op u w) (λr s₃=>wpAny (model X.prog X.w) X.A (storeName X.env x r) (λ_=>SP X pins D .next) X.xe s₃) X.xe s₂) X.xe s:=by
  refine FG (he pins s σ H _ I h) λw s1 ⟨y,H1,I1,r1,q1⟩=>?_;refine FG (ho pins s1 σ H1 v y u w _ I1 r r1 q1) λz s2 ⟨zv,H2,I2,r2,q2⟩=>?_;exact fG I2 hN hi hx r2 (λs3 I3=>⟨_,H2,I3,q2⟩) hf
 rcases l with ⟨hk,hm⟩|⟨hk,c,hc,Iw⟩
 .exact wpAny_loadName_local I.ok.kind hk hn hm go
 .rcases hk with hk|hk
  .exact wpAny_loadName_cell I.ok.kind hk hc Iw go
  .rcases hx with k|k
   .have:X.env.scope.names.lookup x=some .free:=hk
    rw[k]at this;cases this
   .have:X.env.scope.names.lookup x=some .free:=hk
    rw[k]at this;cases this
def Wv (f:Int->Int->Int):OM:=λx y H Q=>∃i j,x=.int i/\y=.int j/\Q (.int (f i j)) H
theorem xt:Uz X .Add (Wv λi j=>i+j):=by
 intro pins s σ H x y v u Q I r1 r2 h;obtain⟨i,j,e1,e2,q⟩:=h;subst e1;subst e2;obtain⟨t,rfl⟩:=r1;obtain⟨t',rfl⟩:=r2;exact iadd_int ⟨.int _,H,I.tok _,⟨_,rfl⟩,q⟩
end
section
variable {X:Cx}{pos:Pos}
def xY (c:TT) (tb:TS):TS:=λD σ H=>∃W:Nat->St->Hp->Prop,(∃m,W m σ H)/\∀m σ H,W m σ H ->
 c σ H λb H1=>if b=true then ∃N:St->Hp->Prop,(∀σ' H',N σ' H'->∃m',m'<m/\W m' σ' H')/\tb { D with nx:=N,ct:=N,bk:=D.nx } σ H1 else D.nx σ H1
theorem gS {c:Expr}{body:List Stmt}{tc:TT}{tb:TS} (hp:PassesOwn (model X.prog X.w) X.A X.env X.xe) (hc:PT X c tc) (hb:HR X body tb):PS X (.While c body [] pos) (xY tc tb):=by
 intro pins s σ H D I h;obtain⟨W,⟨m0,w0⟩,turn⟩:=h;refine wpAny_While (codeAny_whileLoop (λn s'=>∃σ' H',Inv X pins σ' H' s'/\W n σ' H') ?_ m0 ⟨σ,H,I,w0⟩);rintro n s1 ⟨σ1,H1,I1,w1⟩;refine C3 hp (FG (hc pins s1 σ1 H1 _ I1 (turn n σ1 H1 w1)) λb s2 ⟨H2,I2,q2⟩=>?_);cases b with
 | true =>
  obtain⟨N,hN,q2⟩:=q2;rw[if_pos rfl];refine C3 hp (FG (hb pins s2 σ1 H2 _ I2 q2) λf s3 q3=>?_);cases f with
  | next =>
   obtain⟨σ3,H3,I3,n3⟩:=q3;obtain⟨m',hm,w3⟩:=hN σ3 H3 n3;exact⟨m',hm,σ3,H3,I3,w3⟩
  | cont =>
   obtain⟨σ3,H3,I3,n3⟩:=q3;obtain⟨m',hm,w3⟩:=hN σ3 H3 n3;exact⟨m',hm,σ3,H3,I3,w3⟩
  | brk=>exact q3
  | ret v=>exact q3
 | false =>
  rw[if_neg A2];exact Dm ⟨σ1,H2,I2,q2⟩
end
structure It where
 go:Nat->Hp->Prop
 yld:Nat->Hp->V->Hp->Prop
 stop:Nat->Hp->Prop
def bD (X:Cx) (pins:List (Addr×Obj)) (H:Hp) (b:Addr):Prop :=
 H b=none/\b≠X.env.locals/\b∉X.fs/\(b∈X.ex\/X.s₀.heap.objs.size<=b)/\(∀x c,X.env.cells.lookup x=some c->c≠b)/\∀p∈X.pn++pins,p.1≠b
theorem Inv.fpOk {X:Cx}{pins:List (Addr×Obj)}{σ:St}{H H':Hp}{s:zz8}{b:Addr} (I:Inv X pins σ H s) (hb:s.heap.objs.size<=b) (hn:H' b=none):bD X pins H' b:=by
 refine⟨hn,CG (Bc I.lt hb),I.nofs hb,.inr (Be I.sz hb),λx c e z=>?_,λp hp z=>?_⟩
 .obtain⟨v,q⟩:=I.cell x c e
  exact absurd (Bc q.lt (by rw[z];exact hb)) (Bt _)
 .exact absurd (Bc (AN (I.pin p hp).1) (by rw[z];exact hb)) (Bt _)
structure Turn (P:Program) (w:World) (K:zz7) (tg:Expr) (J:It) (fp:List Addr) (it:Addr) (tn:Nat->Heap->Prop):Prop where
 mem:it∈fp
 obj:∀i h,tn i h->∀b∈fp,∃o,h.get? b=some o/\∀v,o.data≠.cell v
 keep:∀i h h',tn i h->(∀b∈fp,∀o,h.get? b=some o->h'.get? b=some o)->tn i h'
 item:∀(X:Cx),X.prog=P->X.w=w->X.K=K->X.calm=true->∀(i:Nat) (pins:List (Addr×Obj)) (s:zz8) (σ:St) (H:Hp) (E:zz9->zz8->Prop),Inv X pins σ H s->(∀b∈fp,bD X pins H b)->tn i s.heap->J.go i H ->
  wpAny (model P w) X.A (pyNext (.ref it)) (λr s1=>∃u,r=some u /\
   wpAny (model P w) X.A (letOwnedTupleGo tg (.ref it) u) (λ_ s2=>∃x H',Inv X pins σ H' s2/\RelV x u/\J.yld i H x H'/\tn (i+1) s2.heap/\∀b∈fp,H' b=none) E s1) E s
 done:∀(X:Cx),X.prog=P->X.w=w->X.K=K->X.calm=true->∀(i:Nat) (pins:List (Addr×Obj)) (s:zz8) (σ:St) (H:Hp) (E:zz9->zz8->Prop),Inv X pins σ H s->(∀b∈fp,bD X pins H b)->tn i s.heap->J.stop i H ->
  wpAny (model P w) X.A (pyNext (.ref it)) (λr s1=>r=none/\Inv X pins σ H s1) E s
 self:∀(A:Around) (i:Nat) (s:zz8) (Q:zz9->zz8->Prop) (E:zz9->zz8->Prop),tn i s.heap->Q (.ref it) s->wpAny (model P w) A (pyIter (.ref it)) Q E s
abbrev TI:=St->Hp->(It->Hp->Prop)->Prop
def UA (X:Cx) (pins:List (Addr×Obj)) (σ:St) (tg:Expr) (R:It->Hp->Prop) (LY:zz9) (s2:zz8):Prop :=
 ∃(it:Addr) (fp:List Addr) (tn:Nat->Heap->Prop) (J:It) (H':Hp),LY=.ref it/\Inv X pins σ H' s2/\Turn X.prog X.w X.K tg J fp it tn/\tn 0 s2.heap/\(∀b∈fp,bD X pins H' b)/\R J H'
def PI (X:Cx) (tg iter:Expr) (wi:TI):Prop :=
 ∀(pins:List (Addr×Obj)) (s:zz8) (σ:St) (H:Hp) (R:It->Hp->Prop),Inv X pins σ H s->wi σ H R ->
  wpAny (model X.prog X.w) X.A (eval iter X.env) (λv s1=>wpAny (model X.prog X.w) X.A (pyIter v) (UA X pins σ tg R) X.xe s1) X.xe s
theorem gv {M:Model}{A:Around}{E:zz9->zz8->Prop}{s:zz8}{tg:Expr}{it:Addr}{u:zz9}{o:Obj}{n:String}{vs:Array zz9}{Q:Unit->zz8->Prop} (ho:s.heap.get? it=some o) (hc:o.cls=.type n) (hd:o.data=.fields vs)
  (hn:["enumerate","zip","dict_itemiterator","dict_reverseitemiterator","odict_iterator","itertools.zip_longest","itertools.pairwise"].contains n=false) (hQ:Q () s):wpAny M A (letOwnedTupleGo tg (.ref it) u) Q E s:=by
 unfold letOwnedTupleGo;cases tg<;>first
  | exact AI hQ
  | (cases u<;>first
    | exact AI hQ
    | (refine AF (Fb ho ?_)
       rw[hc,hd];show wpAny M A (if (["enumerate","zip","dict_itemiterator","dict_reverseitemiterator","odict_iterator","itertools.zip_longest","itertools.pairwise"].contains n&&vs[0]?==some (rawInt _))=true then _ else _) Q E s;rw[if_neg (by intro h;rw[hn,FA]at h;cases h)]
       exact AI hQ))
def JE (K:zz7) (a:Addr):It :=
 ⟨λi H=>∃xs x,FF K H a xs/\xs[i]?=some x,λi H x H'=>H'=H/\∀xs,FF K H a xs->xs[i]?=some x,λi H=>∃xs,FF K H a xs/\xs.length<=i⟩
def JS (K:zz7) (a:Addr):It :=
 ⟨λi H=>∃xs x,FE K H a xs/\xs[i]?=some x,λi H x H'=>H'=H/\∀xs,FE K H a xs->xs[i]?=some x,λi H=>∃xs,FE K H a xs/\xs.length<=i⟩
def Ki (lo:Int) (n:Nat):It:=⟨λi _=>i<n,λi H x H'=>H'=H/\x=.int (lo+i),λi _=>n<=i⟩
theorem lb {P:Program}{w:World}{K:zz7}{tg:Expr} (a it:Addr):Turn P w K tg (JE K a) [it] it (λi h=>h.IsListIter it a i) where
 mem:=by simp
 obj:=λi h st b hb=>by
  have e:b=it:=by simpa using hb
  subst e;obtain⟨o,e,c,d⟩:=st;exact⟨o,e,λv z=>by rw[d]at z;cases z⟩
 keep:=λi h h' st k=>st.at λo e=>k it (by simp) o e
 item:=by
  intro X hP hw hK hc i pins s σ H E I hf st hg;subst hP hw hK;obtain⟨xs,x,hq,hx⟩:=hg;obtain⟨FC,rv,p,hz⟩:=I.list hq;obtain⟨u,hu,ru⟩:=rv.get hx;obtain⟨f0,f1,f2,f3,f4,f5⟩:=hf it (by simp);refine wpAny_pyNext_list_item st p.isList (x:=u) (by simpa using hu) λh' F8 sb=>?_;have I1:Inv X pins σ H { s with heap:=h' }:=I.turned (t':=s.toks) (λb o hb e=>(sb.2 b hb).trans e) f0 f1 f3 f4 f5;obtain⟨o,e,c,d⟩:=id F8;exact⟨u,rfl,gv (s:={ s with heap:=h' }) e c d (by decide) ⟨x,H,I1,ru,⟨rfl,λys hy=>by rw[I.list_inj hy hq];exact hx⟩,F8,λb hb=>(hf b hb).1⟩⟩
 done:=by
  intro X hP hw hK hc i pins s σ H E I hf st hg;subst hP hw hK;obtain⟨xs,hq,hx⟩:=hg;obtain⟨FC,rv,p,hz⟩:=I.list hq;obtain⟨f0,f1,f2,f3,f4,f5⟩:=hf it (by simp);have hl:=rv.length;exact wpAny_pyNext_list_end (I.ok.hd hc) st p.isList (by simp;omega) λh' eb=>⟨rfl,I.turned (t':=s.toks) (λb o hb e=>eb b o hb e) f0 f1 f3 f4 f5⟩
 self:=λ_ _ _ _ _ st h=>wpAny_pyIter_listiter st h
theorem kJ {P:Program}{w:World}{K:zz7}{tg:Expr} (a it:Addr):Turn P w K tg (JS K a) [it] it (λi h=>h.IsTupleIter it a i) where
 mem:=by simp
 obj:=λi h st b hb=>by
  have e:b=it:=by simpa using hb
  subst e;obtain⟨o,e,c,d⟩:=st;exact⟨o,e,λv z=>by rw[d]at z;cases z⟩
 keep:=λi h h' st k=>st.at λo e=>k it (by simp) o e
 item:=by
  intro X hP hw hK hc i pins s σ H E I hf st hg;subst hP hw hK;obtain⟨xs,x,hq,hx⟩:=hg;obtain⟨FC,rv,p,hz⟩:=I.tuple hq;obtain⟨u,hu,ru⟩:=rv.get hx;obtain⟨f0,f1,f2,f3,f4,f5⟩:=hf it (by simp);refine wpAny_pyNext_tuple_item st (show s.heap.IsTuple a FC.toArray from p) (x:=u) (by simpa using hu) λh' F8 sb=>?_;have I1:Inv X pins σ H { s with heap:=h' }:=I.turned (t':=s.toks) (λb o hb e=>(sb.2 b hb).trans e) f0 f1 f3 f4 f5;obtain⟨o,e,c,d⟩:=id F8;exact⟨u,rfl,gv (s:={ s with heap:=h' }) e c d (by decide) ⟨x,H,I1,ru,⟨rfl,λys hy=>by rw[I.tuple_inj hy hq];exact hx⟩,F8,λb hb=>(hf b hb).1⟩⟩
 done:=by
  intro X hP hw hK hc i pins s σ H E I hf st hg;subst hP hw hK;obtain⟨xs,hq,hx⟩:=hg;obtain⟨FC,rv,p,hz⟩:=I.tuple hq;obtain⟨f0,f1,f2,f3,f4,f5⟩:=hf it (by simp);have hl:=rv.length;exact wpAny_pyNext_tuple_end (I.ok.hd hc) st (show s.heap.IsTuple a FC.toArray from p) (by simp;omega) λh' eb=>⟨rfl,I.turned (t':=s.toks) (λb o hb e=>eb b o hb e) f0 f1 f3 f4 f5⟩
 self:=λ_ _ _ _ _ st h=>wpAny_pyIter_tupleiter st h
theorem sx {P:Program}{w:World}{K:zz7}{tg:Expr} (it:Addr) (lo:Int) (n:Nat):Turn P w K tg (Ki lo n) [it] it (λi h=>IsRangeIter h it (lo+(i:Nat)*1) ((n:Int)-(i:Nat)) 1) where
 mem:=by simp
 obj:=λi h st b hb=>by
  have e:b=it:=by simpa using hb
  subst e
  exact⟨_,st,λv z=>by
   have z':Data.fields _=Data.cell v:=z
   cases z'⟩
 keep:=λi h h' st k=>k it (by simp) _ st
 item:=by
  intro X hP hw hK hc i pins s σ H E I hf st hg;subst hP hw hK;obtain⟨f0,f1,f2,f3,f4,f5⟩:=hf it (by simp);have W:=Walks.range (prog:=X.prog) (w:=X.w) (I.ok.hd hc) it lo 1 n;refine W.item i s _ _ hg st λv h' tk hv F8 kk=>?_;obtain⟨t,rfl⟩:=hv;have I1:Inv X pins σ H { s with heap:=h',toks:=tk }:=I.turned (λb o hb e=>kk b o (by simpa using hb) e) f0 f1 f3 f4 f5;refine⟨_,rfl,gv (s:={ s with heap:=h',toks:=tk }) (n:="range_iterator") F8 rfl rfl (by decide) ⟨.int (lo+i),H,I1,⟨t,?_⟩,⟨rfl,rfl⟩,F8,λb hb=>(hf b hb).1⟩⟩;rw[Int.mul_one]
 done:=by
  intro X hP hw hK hc i pins s σ H E I hf st hg;subst hP hw hK;obtain⟨f0,f1,f2,f3,f4,f5⟩:=hf it (by simp);exact wpAny_pyNext_range_end (I.ok.hd hc) st (by have:n<=i:=hg;omega) λh' eb=>⟨rfl,I.turned (t':=s.toks) (λb o hb e=>eb b o hb e) f0 f1 f3 f4 f5⟩
 self:=λ_ _ _ _ _ st h=>wpAny_pyIter_rangeiter st h
section
variable {X:Cx}{tg:Expr}
def yK (K:zz7) (tl:TE):TI:=λσ H R=>tl σ H λx H1=>∃a,x=.ref a/\(∃xs,FF K H1 a xs)/\R (JE K a) H1
def kr (K:zz7) (tl:TE):TI:=λσ H R=>tl σ H λx H1=>∃a,x=.ref a/\(∃xs,FE K H1 a xs)/\R (JS K a) H1
theorem cn {l:Expr}{tl:TE} (hl:PE X l tl):PI X tg l (yK X.K tl):=by
 intro pins s σ H R I h;refine FG (hl pins s σ H _ I h) λv s1 ⟨x,H1,I1,r1,q1⟩=>?_;obtain⟨a,e,⟨xs,hq⟩,q⟩:=q1;subst e;cases r1;obtain⟨FC,rv,p,hz⟩:=I1.list hq;refine Cn p.isList ?_;refine⟨s1.heap.objs.size,[s1.heap.objs.size],_,_,H1,rfl,I1.kept (t':=s1.toks) λb o e=>AH _ e,lb a _,⟨_,AU _ rfl,rfl,rfl⟩,λb hb=>?_,q⟩;have e:b=s1.heap.objs.size:=by simpa using hb
 subst e;exact I1.fpOk (AY _) (I1.hok.fresh (AY _))
theorem bj {l:Expr}{tl:TE} (hl:PE X l tl):PI X tg l (kr X.K tl):=by
 intro pins s σ H R I h;refine FG (hl pins s σ H _ I h) λv s1 ⟨x,H1,I1,r1,q1⟩=>?_;obtain⟨a,e,⟨xs,hq⟩,q⟩:=q1;subst e;cases r1;obtain⟨FC,rv,p,hz⟩:=I1.tuple hq;refine CY (show s1.heap.IsTuple a FC.toArray from p) ?_;refine⟨s1.heap.objs.size,[s1.heap.objs.size],_,_,H1,rfl,I1.kept (t':=s1.toks) λb o e=>AH _ e,kJ a _,⟨_,AU _ rfl,rfl,rfl⟩,λb hb=>?_,q⟩;have e:b=s1.heap.objs.size:=by simpa using hb
 subst e;exact I1.fpOk (AY _) (I1.hok.fresh (AY _))
theorem lS {pins:List (Addr×Obj)}{σ:St}{H:Hp}{s:zz8}{R:It->Hp->Prop}{E:zz9->zz8->Prop}{lo hi:Int}{t u v:Tok}{tk:Nat} (I:Inv X pins σ H s) (h1:-(2^62)<=lo) (h2:lo<2^62) (h3:-(2^62)<=hi) (h4:hi<2^62)
  (q:R (Ki lo (hi-lo).toNat) H):wpAny (model X.prog X.w) X.A (pyIter (.ref s.heap.objs.size)) (UA X pins σ tg R) E { s with heap:=s.heap.push { cls:=.type "range",data:=.fields #[.int lo t,.int hi u,.int 1 v] },toks:=tk }:=by
 refine wpAny_pyIter_range (IsRange.new ..) (small_one h1 h2 h3 h4) ?_;have I1:Inv X pins σ H { s with heap:=s.heap.push { cls:=.type "range",data:=.fields #[.int lo t,.int hi u,.int 1 v] },toks:=tk }:=I.kept λb o e=>AH _ e
 refine⟨(s.heap.push { cls:=.type "range",data:=.fields #[.int lo t,.int hi u,.int 1 v] }).objs.size,[(s.heap.push { cls:=.type "range",data:=.fields #[.int lo t,.int hi u,.int 1 v] }).objs.size],_,_,H,rfl,
  I1.kept (t':=tk) λb o e=>AH _ e,sx _ lo (hi-lo).toNat,?_,λb hb=>?_,q⟩
 .have e1:lo+((0:Nat):Int)*1=lo:=by simp
  have e2:(((hi-lo).toNat:Nat):Int)-((0:Nat):Int)=Builtin.Range.rangeSize lo hi 1:=by rw[rangeSize_one];split<;>omega
  show IsRangeIter _ _ (lo+((0:Nat):Int)*1) ((((hi-lo).toNat:Nat):Int)-((0:Nat):Int)) 1;rw[e1,e2];exact AU _ rfl
 .have e:b=(s.heap.push { cls:=.type "range",data:=.fields #[.int lo t,.int hi u,.int 1 v] }).objs.size:=by simpa using hb
  subst e;exact I1.fpOk (AY _) (I1.hok.fresh (AY _))
def yJ (ta:TA):TI:=λσ H R=>ta σ H λvs H1=>∃j:Int,vs=[.int j]/\-(2^62)<=j/\j<2^62/\R (Ki 0 j.toNat) H1
def yS (ta:TA):TI:=λσ H R=>ta σ H λvs H1=>∃i j:Int,vs=[.int i,.int j]/\(-(2^62)<=i/\i<2^62/\-(2^62)<=j/\j<2^62)/\R (Ki i (j-i).toNat) H1
theorem fC {a:Expr}{ta:TA}{p pos:Pos} (hg:Gl X "range") (hm:X.mg "range"=none) (ha:PA X [a] ta) (hs:starEach [a] X.env=[(false,eval a X.env)]:=by rfl):PI X tg (.Call (.Name "range" p) [a] [] pos) (yJ ta):=by
 intro pins s σ H R I h;refine Call_ (eP I hg hm boot_range (CZ (FG (ha pos pins s σ H _ I h) λus s1 ⟨vs,H1,I1,r1,q1⟩=>?_) hs rfl));obtain⟨j,e,q1,q2,q⟩:=q1;subst e;cases r1 with
 | cons r rr =>
  cases rr;obtain⟨t,rfl⟩:=r;exact call_range_1 (lS I1 (by omega) (by omega) q1 q2 (by simpa using q))
theorem uc {a b:Expr}{ta:TA}{p pos:Pos} (hg:Gl X "range") (hm:X.mg "range"=none) (ha:PA X [a,b] ta) (hs:starEach [a,b] X.env=[(false,eval a X.env),(false,eval b X.env)]:=by rfl) (He:starEach [b] X.env=[(false,eval b X.env)]:=by rfl) :
  PI X tg (.Call (.Name "range" p) [a,b] [] pos) (yS ta):=by
 intro pins s σ H R I h;refine Call_ (eP I hg hm boot_range (CZ (FG (ha pos pins s σ H _ I h) λus s1 ⟨vs,H1,I1,r1,q1⟩=>?_) (by rw[hs,He]) (by rw[He];rfl)));obtain⟨i,j,e,⟨q1,q2,q3,q4⟩,q⟩:=q1;subst e;cases r1 with
 | cons r rr =>
  cases rr with
  | cons r' rr =>
   cases rr;obtain⟨t,rfl⟩:=r;obtain⟨t',rfl⟩:=r';exact call_range_2 (lS I1 q1 q2 q3 q4 q)
def Ad (wi:TI) (g:TG) (tb:TS):TS:=λD σ H=>wi σ H λJ H1=>∃W:Nat->Nat->St->Hp->Prop,(∃m,W 0 m σ H1)/\∀i m σ H,W i m σ H ->
 (J.stop i H/\D.nx σ H)\/(J.go i H/\∃N:St->Hp->Prop,(∀σ' H',N σ' H'->∃m',m'<m/\W (i+1) m' σ' H')/\∀x H',J.yld i H x H'->g x σ H' λσ2 H2=>tb { D with nx:=N,ct:=N,bk:=D.nx } σ2 H2)
def cW (fp:List Addr) (h:Heap):List (Addr×Obj):=fp.filterMap λb=>(h.get? b).map λo=>(b,o)
theorem cU {fp:List Addr}{h:Heap}{b:Addr}{o:Obj} (hb:b∈fp) (e:h.get? b=some o):(b,o)∈cW fp h:=EJ.mpr ⟨b,hb,by rw[e];rfl⟩
theorem lL {fp:List Addr}{h:Heap}{p:Addr×Obj} (hp:p∈cW fp h):p.1∈fp/\h.get? p.1=some p.2:=by
 obtain⟨b,hb,e⟩:=EJ.mp hp;cases q:h.get? b with
 | none=>rw[q]at e;cases e
 | some o =>
  rw[q]at e;have e':(b,o)=p:=Bx e;subst e';exact⟨hb,q⟩
theorem Inv.pinned {pins:List (Addr×Obj)}{σ:St}{H:Hp}{s:zz8}{fp:List Addr} (I:Inv X pins σ H s) (hf:∀b∈fp,bD X pins H b) (ho:∀b∈fp,∃o,s.heap.get? b=some o/\∀v,o.data≠.cell v):Inv X (pins++cW fp s.heap) σ H s :=
 I.pins_of λp hp=>(A1.mp hp).elim (λz=>I.pin p (AV _ z)) λz=>by
  obtain⟨hb,e⟩:=lL z;obtain⟨f0,f1,f2,_⟩:=hf p.1 hb;obtain⟨o,e',d⟩:=ho p.1 hb;rw[e]at e';cases e';exact⟨e,f0,f1,f2,d⟩
theorem Inv.unpinned {pins pl:List (Addr×Obj)}{σ:St}{H:Hp}{s:zz8} (I:Inv X (pins++pl) σ H s):Inv X pins σ H s:=I.pins_of λp hp=>I.pin p (AV _ (A7 _ hp))
theorem cj {iter:Expr}{body:List Stmt}{wi:TI}{g:TG}{tb:TS}{pos:Pos} (hp:PassesOwn (model X.prog X.w) X.A X.env X.xe) (hc:X.calm=true) (hi:PI X tg iter wi) (hg:PG X tg g) (hb:HR X body tb)
  (hs:∀x,foldedSetIterable iter X.env x=pure x:=by intro _;rfl):PS X (.For tg iter body [] pos) (Ad wi g tb):=by
 intro pins s σ H D I h;refine wpAny_For (FG (hi pins s σ H _ I h) λv s1 h1=>FG h1 λLY s2 h2=>?_) hs;obtain⟨it,fp,tn,J,H2,e,I2,T,GL,f2,W,⟨m0,w0⟩,turn⟩:=h2;subst e;have stat:∀{H':Hp},(∀b∈fp,H' b=none)->∀b∈fp,bD X pins H' b:=λhn b hb=>⟨hn b hb,(f2 b hb).2⟩
 refine codeAny_forLoop_any (λn s'=>∃i σ' H',Inv X pins σ' H' s'/\tn i s'.heap/\(∀b∈fp,H' b=none)/\W i n σ' H') ?_ m0 ⟨0,σ,H2,I2,GL,λb hb=>(f2 b hb).1,w0⟩;rintro n s3 ⟨i,σ3,H3,I3,Sj,Uj,w3⟩
 rcases turn i n σ3 H3 w3 with ⟨stop,qn⟩|⟨go,N,hN,step⟩
 .refine C3 hp (FG (T.done X rfl rfl rfl hc i pins s3 σ3 H3 X.xe I3 (stat Uj) Sj stop) λr s4 ⟨hr,I4⟩=>?_)
  subst hr;exact Dm ⟨σ3,H3,I4,qn⟩
 .refine C3 hp (FG (T.item X rfl rfl rfl hc i pins s3 σ3 H3 X.xe I3 (stat Uj) Sj go) λr s4 ⟨u,hr,h4⟩=>?_)
  subst hr;refine C3 hp (FG h4 λ_ s5 ⟨x,H5,I5,r5,y5,O1,X8⟩=>?_);have Yx:=I5.pinned (stat X8) (T.obj _ _ O1);refine C3 hp (FG (hg _ s5 σ3 H5 x u _ Yx r5 (step x H5 y5)) λ_ s6 ⟨σ6,H6,I6,q6⟩=>?_);refine C3 hp (FG (hb _ s6 σ6 H6 _ I6 q6) λf s7 q7=>?_);have again:∀{σ7:St}{H7:Hp},Inv X (pins++cW fp s5.heap) σ7 H7 s7->N σ7 H7->∃m,m<n/\∃i σ' H',Inv X pins σ' H' s7/\tn i s7.heap/\(∀b∈fp,H' b=none)/\W i m σ' H':=λ{σ7 H7} I7 n7=>by
   obtain⟨m',hm,w7⟩:=hN σ7 H7 n7;refine⟨m',hm,i+1,σ7,H7,I7.unpinned,T.keep _ _ _ O1 λb hb o e=>(I7.pin (b,o) (AV _ (AV _ (cU hb e)))).1,λb hb=>?_,w7⟩;obtain⟨o,e,d⟩:=T.obj _ _ O1 b hb;exact(I7.pin (b,o) (AV _ (AV _ (cU hb e)))).2.1
  cases f with
  | next=>obtain⟨σ7,H7,I7,n7⟩:=q7;exact again I7 n7
  | cont=>obtain⟨σ7,H7,I7,n7⟩:=q7;exact again I7 n7
  | brk=>obtain⟨σ7,H7,I7,q7⟩:=q7;exact⟨σ7,H7,I7.unpinned,q7⟩
  | ret v=>obtain⟨x7,σ7,H7,I7,r7,q7⟩:=q7;exact⟨x7,σ7,H7,I7.unpinned,r7,q7⟩
end
theorem gW {K:zz7}{a:Addr}{xs:List V}{g:TG}{tb:TS}{D:Ends}{σ:St}{H:Hp} (Pv:Nat->St->Hp->Prop) (h0:Pv 0 σ H) (hl:∀i σ H,i<=xs.length->Pv i σ H->FF K H a xs)
  (hs:∀i x σ H,xs[i]?=some x->Pv i σ H->g x σ H λσ2 H2=>tb { D with nx:=Pv (i+1),ct:=Pv (i+1),bk:=D.nx } σ2 H2) (hd:∀σ H,Pv xs.length σ H->D.nx σ H) :
  ∃W:Nat->Nat->St->Hp->Prop,(∃m,W 0 m σ H)/\∀i m σ H,W i m σ H ->
   ((JE K a).stop i H/\D.nx σ H)\/((JE K a).go i H/\∃N:St->Hp->Prop,(∀σ' H',N σ' H'->∃m',m'<m/\W (i+1) m' σ' H')/\∀x H',(JE K a).yld i H x H'->g x σ H' λσ2 H2=>tb { D with nx:=N,ct:=N,bk:=D.nx } σ2 H2):=by
 refine⟨λi m σ H=>m=xs.length-i/\i<=xs.length/\Pv i σ H,⟨xs.length,by simp,Bi _,h0⟩,?_⟩;rintro i m σ H ⟨rfl,hi,p⟩;have q:=hl i σ H hi p
 by_cases FM:i<xs.length
 .refine .inr ⟨⟨xs,xs[i],q,by simp[FM]⟩,Pv (i+1),λσ' H' p'=>⟨xs.length-(i+1),by omega,rfl,FM,p'⟩,λx H' y=>?_⟩
  obtain⟨e,y⟩:=y;subst e;exact hs i x σ _ (y xs q) p
 .have e:i=xs.length:=by omega
  subst e;exact .inl ⟨⟨xs,q,AY _⟩,hd σ H p⟩
theorem dY {K:zz7}{a:Addr}{xs:List V}{g:TG}{tb:TS}{D:Ends}{σ:St}{H:Hp} (Pv:Nat->St->Hp->Prop) (h0:Pv 0 σ H) (hl:∀i σ H,i<=xs.length->Pv i σ H->FE K H a xs)
  (hs:∀i x σ H,xs[i]?=some x->Pv i σ H->g x σ H λσ2 H2=>tb { D with nx:=Pv (i+1),ct:=Pv (i+1),bk:=D.nx } σ2 H2) (hd:∀σ H,Pv xs.length σ H->D.nx σ H) :
  ∃W:Nat->Nat->St->Hp->Prop,(∃m,W 0 m σ H)/\∀i m σ H,W i m σ H ->
   ((JS K a).stop i H/\D.nx σ H)\/((JS K a).go i H/\∃N:St->Hp->Prop,(∀σ' H',N σ' H'->∃m',m'<m/\W (i+1) m' σ' H')/\∀x H',(JS K a).yld i H x H'->g x σ H' λσ2 H2=>tb { D with nx:=N,ct:=N,bk:=D.nx } σ2 H2):=by
 refine⟨λi m σ H=>m=xs.length-i/\i<=xs.length/\Pv i σ H,⟨xs.length,by simp,Bi _,h0⟩,?_⟩;rintro i m σ H ⟨rfl,hi,p⟩;have q:=hl i σ H hi p
 by_cases FM:i<xs.length
 .refine .inr ⟨⟨xs,xs[i],q,by simp[FM]⟩,Pv (i+1),λσ' H' p'=>⟨xs.length-(i+1),by omega,rfl,FM,p'⟩,λx H' y=>?_⟩
  obtain⟨e,y⟩:=y;subst e;exact hs i x σ _ (y xs q) p
 .have e:i=xs.length:=by omega
  subst e;exact .inl ⟨⟨xs,q,AY _⟩,hd σ H p⟩
theorem i7 {lo:Int}{n:Nat}{g:TG}{tb:TS}{D:Ends}{σ:St}{H:Hp} (Pv:Nat->St->Hp->Prop) (h0:Pv 0 σ H)
  (hs:∀i σ H,i<n->Pv i σ H->g (.int (lo+i)) σ H λσ2 H2=>tb { D with nx:=Pv (i+1),ct:=Pv (i+1),bk:=D.nx } σ2 H2) (hd:∀σ H,Pv n σ H->D.nx σ H) :
  ∃W:Nat->Nat->St->Hp->Prop,(∃m,W 0 m σ H)/\∀i m σ H,W i m σ H ->
   ((Ki lo n).stop i H/\D.nx σ H)\/((Ki lo n).go i H/\∃N:St->Hp->Prop,(∀σ' H',N σ' H'->∃m',m'<m/\W (i+1) m' σ' H')/\∀x H',(Ki lo n).yld i H x H'->g x σ H' λσ2 H2=>tb { D with nx:=N,ct:=N,bk:=D.nx } σ2 H2):=by
 refine⟨λi m σ H=>m=n-i/\i<=n/\Pv i σ H,⟨n,by simp,Bi _,h0⟩,?_⟩;rintro i m σ H ⟨rfl,hi,p⟩
 by_cases FM:i<n
 .refine .inr ⟨FM,Pv (i+1),λσ' H' p'=>⟨n-(i+1),by omega,rfl,FM,p'⟩,λx H' y=>?_⟩
  obtain⟨e,y⟩:=y;subst e y;exact hs i σ _ FM p
 .have e:i=n:=by omega
  subst e;exact .inl ⟨AY _,hd σ H p⟩
abbrev R2:=V->V->Hp->VK->Prop
def Gs (X:Cx) (f:zz9->zz9->Sem zz9) (r:R2):Prop :=
 ∀(pins:List (Addr×Obj)) (s:zz8) (σ:St) (H:Hp) (x y:V) (v u:zz9) (Q:VK),Inv X pins σ H s->RelV x v->RelV y u->r x y H Q ->
  wpAny (model X.prog X.w) X.A (f v u) (EP X pins σ Q) X.xe s
def RI (X:Cx) (f:zz9->Sem zz9) (r:V->Hp->VK->Prop):Prop :=
 ∀(pins:List (Addr×Obj)) (s:zz8) (σ:St) (H:Hp) (x:V) (v:zz9) (Q:VK),Inv X pins σ H s->RelV x v->r x H Q ->
  wpAny (model X.prog X.w) X.A (f v) (EP X pins σ Q) X.xe s
def bh (X:Cx) (f:zz9) (r:List V->Hp->VK->Prop):Prop :=
 ∀(pins:List (Addr×Obj)) (s:zz8) (σ:St) (H:Hp) (xs:List V) (us:List zz9) (Q:VK),Inv X pins σ H s->ar xs us->r xs H Q ->
  wpAny (model X.prog X.w) X.A (call f us) (EP X pins σ Q) X.xe s
def N8 (r:R2) (ta tb:TE):TE:=λσ H Q=>ta σ H λx H1=>tb σ H1 λy H2=>r x y H2 Q
def U7 (r:V->Hp->VK->Prop) (ta:TE):TE:=λσ H Q=>ta σ H λx H1=>r x H1 Q
def rI (C:Int->Int->Prop) (g:Int->Int->V):R2:=λx y H Q=>∃i j,x=.int i/\y=.int j/\C i j/\Q (g i j) H
def Lb (g:Int->Int->V):R2:=λx y H Q=>∃i j,x=.int i/\y=.int j/\Q (g i j) H
def rU (g:Int->V):V->Hp->VK->Prop:=λx H Q=>∃i,x=.int i/\Q (g i) H
section
variable {X:Cx}{a b c:Expr}{ta tb tc:TE}{pos:Pos}
theorem kn (ha:PE X a ta) (hb:PE X b tb) {pins:List (Addr×Obj)}{s:zz8}{σ:St}{H:Hp}{R:V->V->Hp->Prop} (I:Inv X pins σ H s)
  (h:ta σ H λx H1=>tb σ H1 λy H2=>R x y H2) {Q:zz9->zz8->Prop}{f:zz9->zz9->Sem zz9}
  (hf:∀v u s2 x y H2,Inv X pins σ H2 s2->RelV x v->RelV y u->R x y H2->wpAny (model X.prog X.w) X.A (f v u) Q X.xe s2) :
  wpAny (model X.prog X.w) X.A (eval a X.env) (λv s₁=>wpAny (model X.prog X.w) X.A (eval b X.env) (λu s₂=>wpAny (model X.prog X.w) X.A (f v u) Q X.xe s₂) X.xe s₁) X.xe s:=by
 refine FG (ha pins s σ H _ I h) λv s1 ⟨x,H1,I1,r1,q1⟩=>?_;refine FG (hb pins s1 σ H1 _ I1 q1) λu s2 ⟨y,H2,I2,r2,q2⟩=>?_;exact hf v u s2 x y H2 I2 r1 r2 q2
theorem aP {op:Operator}{r:R2} (ho:Gs X (binaryOp op) r) (ha:PE X a ta) (hb:PE X b tb):PE X (.BinOp a op b pos) (N8 r ta tb):=by
 intro pins s σ H Q I h;exact wpAny_BinOp (kn ha hb I h λv u s2 x y H2 I2 rx ry q=>ho pins s2 σ H2 x y v u Q I2 rx ry q)
theorem yz {op:UnaryOp}{r:V->Hp->VK->Prop} (ho:RI X (unaryOp op) r) (ha:PE X a ta):PE X (.UnaryOp op a pos) (U7 r ta):=by
 intro pins s σ H Q I h;exact UnaryOp_ (FG (ha pins s σ H _ I h) λv s1 ⟨x,H1,I1,r1,q1⟩=>ho pins s1 σ H1 x v Q I1 r1 q1)
theorem MU {f:zz9->zz9->Sem zz9}{C:Int->Int->Prop}{g:Int->Int->Int}
  (rule:∀(i j:Int) (t u:Tok) (s:zz8) (Q:zz9->zz8->Prop) (E:zz9->zz8->Prop),C i j->Q (.int (g i j) s.toks) { s with toks:=s.toks+1 }->wpAny (model X.prog X.w) X.A (f (.int i t) (.int j u)) Q E s) :
  Gs X f (rI C λi j=>.int (g i j)):=by
 intro pins s σ H x y v u Q I rx ry h;obtain⟨i,j,rfl,rfl,hc,q⟩:=h;obtain⟨t,rfl⟩:=rx;obtain⟨t',rfl⟩:=ry;exact rule i j t t' s _ _ hc ⟨.int (g i j),H,I.tok _,⟨_,rfl⟩,q⟩
theorem pT {f:zz9->zz9->Sem zz9}{g:Int->Int->Int}
  (rule:∀(i j:Int) (t u:Tok) (s:zz8) (Q:zz9->zz8->Prop) (E:zz9->zz8->Prop),Q (.int (g i j) s.toks) { s with toks:=s.toks+1 }->wpAny (model X.prog X.w) X.A (f (.int i t) (.int j u)) Q E s) :
  Gs X f (Lb λi j=>.int (g i j)):=by
 intro pins s σ H x y v u Q I rx ry h;obtain⟨i,j,rfl,rfl,q⟩:=h;obtain⟨t,rfl⟩:=rx;obtain⟨t',rfl⟩:=ry;exact rule i j t t' s _ _ ⟨.int (g i j),H,I.tok _,⟨_,rfl⟩,q⟩
theorem ko {f:zz9->zz9->Sem zz9}{g:Int->Int->Bool}
  (rule:∀(i j:Int) (t u:Tok) (s:zz8) (Q:zz9->zz8->Prop) (E:zz9->zz8->Prop),Q (.bool (g i j)) s->wpAny (model X.prog X.w) X.A (f (.int i t) (.int j u)) Q E s) :
  Gs X f (Lb λi j=>.bl (g i j)):=by
 intro pins s σ H x y v u Q I rx ry h;obtain⟨i,j,rfl,rfl,q⟩:=h;obtain⟨t,rfl⟩:=rx;obtain⟨t',rfl⟩:=ry;exact rule i j t t' s _ _ ⟨.bl (g i j),H,I,rfl,q⟩
def Aj (i j:Int):Prop:=0<j/\j<1073741824
def pX (i j:Int):Prop:=0<=j/\j<=1000000/\i.natAbs<2^64
def ke (i j:Int):Prop:=(-(2^64)<i/\i<2^64)\/(-(2^64)<j/\j<2^64)
theorem ke.ok {i j:Int} (h:ke i j):IntMulOk i j:=by
 rcases h with ⟨h1,h2⟩|⟨h1,h2⟩
 .exact .of_left (intBits_le_64 h1 h2)
 .exact .of_right (intBits_le_64 h1 h2)
theorem dG:Gs X (binaryOp .Add) (Lb λi j=>.int (i+j)):=pT λ_ _ _ _ _ _ _ q=>add_int q
theorem dH:Gs X (binaryOp .Sub) (Lb λi j=>.int (i-j)):=pT λ_ _ _ _ _ _ _ q=>sub_int q
theorem fM:Gs X (binaryOp .Mult) (rI ke λi j=>.int (i*j)):=MU λ_ _ _ _ _ _ _ hc q=>mul_int q hc.ok
theorem m4:Gs X (binaryOp .FloorDiv) (rI Aj λi j=>.int (i / j)):=MU λi j _ _ _ _ _ hc q=>by
 have h1:(0:Int)<j:=hc.1;have h2:j<1073741824:=hc.2;exact floordiv_int (by omega) (by rw[EV i (by omega)];exact q) (.inl (PyProof.noPylong_small (by omega)))
theorem d5:Gs X (binaryOp .Mod) (rI (λ_ j=>0<j) λi j=>.int (i%j)):=MU λi j _ _ _ _ _ hc q=>by
 have h1:(0:Int)<j:=hc;exact mod_int' (by omega) (by rw[Int.fmod_eq_emod_of_nonneg i (by omega)];exact q)
theorem ik:Gs X (binaryOp .Pow) (rI pX λi j=>.int (i^j.toNat)):=MU λ_ _ _ _ _ _ _ hc q=>pow_int_small hc.1 hc.2.1 hc.2.2 q
theorem UV {f:zz9->Sem zz9}{g:Int->Int}
  (rule:∀(i:Int) (t:Tok) (s:zz8) (Q:zz9->zz8->Prop) (E:zz9->zz8->Prop),Q (.int (g i) s.toks) { s with toks:=s.toks+1 }->wpAny (model X.prog X.w) X.A (f (.int i t)) Q E s) :
  RI X f (rU λi=>.int (g i)):=by
 intro pins s σ H x v Q I rx h;obtain⟨i,rfl,q⟩:=h;obtain⟨t,rfl⟩:=rx;exact rule i t s _ _ ⟨.int (g i),H,I.tok _,⟨_,rfl⟩,q⟩
theorem xK:RI X (unaryOp .USub) (rU λi=>.int (-i)):=UV λ_ _ _ _ _ q=>neg_int q
end
def qa:V->V->Bool
 | .non,.non=>true | .non,.int _=>true | .int _,.non=>true | .non,.bl _=>true | .bl _,.non=>true | .non,.str _=>true | .str _,.non=>true
 | .int _,.int _=>true | .bl _,.bl _=>true | .str _,.str _=>true | .byt _,.byt _=>true
 | .int _,.str _=>true | .str _,.int _=>true | .bl _,.str _=>true | .str _,.bl _=>true
 | _,_=>false
def Vr:R2:=λx y H Q=>qa x y=true/\Q (.bl (decide (x=y))) H
def Vq:R2:=λx y H Q=>qa x y=true/\Q (.bl (!decide (x=y))) H
theorem jx {i j:Int}:decide (V.int i=V.int j)=(i==j):=by
 rw[CI];simp
theorem pk {i j:Bool}:decide (V.bl i=V.bl j)=(i==j):=by
 rw[CI];simp
theorem nR {i j:Str}:decide (V.str i=V.str j)=(i==j):=by
 rw[CI];simp
theorem nQ {i j:Array UInt8}:decide (V.byt i=V.byt j)=(i.toList==j.toList):=by
 rw[CI];cases i;cases j;simp
section
variable {X:Cx}{a b c:Expr}{ta tb tc:TE}{pos:Pos}
theorem bc {pins:List (Addr×Obj)}{σ:St}{H:Hp}{s:zz8}{Q:VK}{k k':Bool} (I:Inv X pins σ H s) (q:Q (.bl k) H) (e:k=k'):EP X pins σ Q (.bool k') s:=by
 subst e;exact⟨.bl k,H,I,rfl,q⟩
theorem ef:Gs X (compareOp .Eq) Vr:=by
 intro pins s σ H x y v u Q I rx ry h;obtain⟨hs,q⟩:=h;cases x with
 | non =>
  cases rx;cases y with
  | non=>cases ry;exact PySem.EqNone.eq_none_none (bc I q (by simp))
  | bl j=>cases ry;exact PySem.EqNone.eq_none_bool (bc I q (by simp))
  | int j=>obtain⟨t',rfl⟩:=ry;exact PySem.EqNone.eq_none_int (bc I q (by simp))
  | str j=>obtain⟨t',rfl⟩:=ry;exact PySem.EqNone.eq_none_str (bc I q (by simp))
  | _=>exact absurd (show false=true from hs) A2
 | bl i =>
  cases rx;cases y with
  | non=>cases ry;exact PySem.EqNone.eq_bool_none (bc I q (by simp))
  | bl j=>cases ry;exact eq_bool (bc I q pk)
  | str j=>obtain⟨t',rfl⟩:=ry;exact PySem.EqMixed.eq_bool_str (bc I q (by simp))
  | _=>exact absurd (show false=true from hs) A2
 | int i =>
  obtain⟨t,rfl⟩:=rx;cases y with
  | non=>cases ry;exact PySem.EqNone.eq_int_none (bc I q (by simp))
  | int j=>obtain⟨t',rfl⟩:=ry;exact eq_int (bc I q jx)
  | str j=>obtain⟨t',rfl⟩:=ry;exact PySem.EqMixed.eq_int_str (bc I q (by simp))
  | _=>exact absurd (show false=true from hs) A2
 | str i =>
  obtain⟨t,rfl⟩:=rx;cases y with
  | non=>cases ry;exact PySem.EqNone.eq_str_none (bc I q (by simp))
  | bl j=>cases ry;exact PySem.EqMixed.eq_str_bool (bc I q (by simp))
  | int j=>obtain⟨t',rfl⟩:=ry;exact PySem.EqMixed.eq_str_int (bc I q (by simp))
  | str j=>obtain⟨t',rfl⟩:=ry;exact eq_str (bc I q nR)
  | _=>exact absurd (show false=true from hs) A2
 | byt i =>
  obtain⟨t,rfl⟩:=rx;cases y with
  | byt j=>obtain⟨t',rfl⟩:=ry;exact PySem.W.eq_bytes (bc I q nQ)
  | _=>exact absurd (show false=true from hs) A2
 | _=>cases y<;>exact absurd (show false=true from hs) A2
theorem bT:Gs X (compareOp .NotEq) Vq:=by
 intro pins s σ H x y v u Q I rx ry h;obtain⟨hs,q⟩:=h;cases x with
 | non =>
  cases rx;cases y with
  | non=>cases ry;exact PySem.EqNone.ne_none_none (bc I q (by simp))
  | bl j=>cases ry;exact PySem.EqNone.ne_none_bool (bc I q (by simp))
  | int j=>obtain⟨t',rfl⟩:=ry;exact PySem.EqNone.ne_none_int (bc I q (by simp))
  | str j=>obtain⟨t',rfl⟩:=ry;exact PySem.EqNone.ne_none_str (bc I q (by simp))
  | _=>exact absurd (show false=true from hs) A2
 | bl i =>
  cases rx;cases y with
  | non=>cases ry;exact PySem.EqNone.ne_bool_none (bc I q (by simp))
  | bl j=>cases ry;exact ne_bool (bc I q (congrArg not pk))
  | str j=>obtain⟨t',rfl⟩:=ry;exact PySem.EqMixed.ne_bool_str (bc I q (by simp))
  | _=>exact absurd (show false=true from hs) A2
 | int i =>
  obtain⟨t,rfl⟩:=rx;cases y with
  | non=>cases ry;exact PySem.EqNone.ne_int_none (bc I q (by simp))
  | int j=>obtain⟨t',rfl⟩:=ry;exact ne_int (bc I q (congrArg not jx))
  | str j=>obtain⟨t',rfl⟩:=ry;exact PySem.EqMixed.ne_int_str (bc I q (by simp))
  | _=>exact absurd (show false=true from hs) A2
 | str i =>
  obtain⟨t,rfl⟩:=rx;cases y with
  | non=>cases ry;exact PySem.EqNone.ne_str_none (bc I q (by simp))
  | bl j=>cases ry;exact PySem.EqMixed.ne_str_bool (bc I q (by simp))
  | int j=>obtain⟨t',rfl⟩:=ry;exact PySem.EqMixed.ne_str_int (bc I q (by simp))
  | str j=>obtain⟨t',rfl⟩:=ry;exact ne_str (bc I q (congrArg not nR))
  | _=>exact absurd (show false=true from hs) A2
 | byt i =>
  obtain⟨t,rfl⟩:=rx;cases y with
  | byt j=>obtain⟨t',rfl⟩:=ry;exact PySem.W.ne_bytes (bc I q (congrArg not nQ))
  | _=>exact absurd (show false=true from hs) A2
 | _=>cases y<;>exact absurd (show false=true from hs) A2
theorem eQ:Gs X (compareOp .Lt) (Lb λi j=>.bl (decide (i<j))):=ko λ_ _ _ _ _ _ _ q=>lt_int q
theorem pL:Gs X (compareOp .LtE) (Lb λi j=>.bl (decide (i<=j))):=ko λ_ _ _ _ _ _ _ q=>le_int q
theorem fR:Gs X (compareOp .Gt) (Lb λi j=>.bl (decide (j<i))):=ko λ_ _ _ _ _ _ _ q=>gt_int q
theorem tM:Gs X (compareOp .Lt) (λx y H Q=>∃i j,x=.str i/\y=.str j/\Q (.bl (decide (i.cps.toList<j.cps.toList))) H):=by
 intro pins s σ H x y v u Q I rx ry h;obtain⟨i,j,rfl,rfl,q⟩:=h;obtain⟨t,rfl⟩:=rx;obtain⟨t',rfl⟩:=ry;exact lt_str (bc I q rfl)
theorem wG:Gs X (compareOp .IsNot) (λx y H Q=>y=.non/\Q (.bl (!decide (x=.non))) H):=by
 intro pins s σ H x y v u Q I rx ry h;obtain⟨rfl,q⟩:=h;cases ry;refine isnot_none_gen (bc I q ?_);cases x<;>first
  | (cases rx;rfl)
  | (obtain⟨t,rfl⟩:=rx;rfl)
theorem aH (b:Expr) {op:CmpOp} (h:op≠.In:=by decide) (h2:op≠.NotIn:=by decide):behindInMarks op b=false:=by
 have e1:(op==CmpOp.In)=false:=by cases op<;>first|rfl|exact absurd rfl h
 have e2:(op==CmpOp.NotIn)=false:=by cases op<;>first|rfl|exact absurd rfl h2
 cases b<;>simp[behindInMarks,e1,e2]
theorem bN {op:CmpOp}{r:R2} (ho:Gs X (compareOp op) r) (ha:PE X a ta) (hb:PE X b tb) (hm:behindInMarks op b=false):PE X (.Compare a [op] [b] pos) (N8 r ta tb):=by
 intro pins s σ H Q I h;exact wpAny_Compare1 (kn ha hb I h λv u s2 x y H2 I2 rx ry q=>ho pins s2 σ H2 x y v u Q I2 rx ry q) hm
def pK (t:TE):TT:=λσ H Q=>t σ H λx H'=>∃k,x=.bl k/\Q k H'
theorem aI {op:CmpOp}{r:R2} (ho:Gs X (compareOp op) r) (ha:PE X a ta) (hb:PE X b tb) (hm:behindInMarks op b=false):PT X (.Compare a [op] [b] pos) (pK (N8 r ta tb)):=by
 intro pins s σ H Q I h
 refine wpAny_isTrue_Compare1 (FG (ha pins s σ H _ I h) λv s1 ⟨x,H1,I1,r1,q1⟩=>FG (hb pins s1 σ H1 _ I1 q1) λu s2 ⟨y,H2,I2,r2,q2⟩ =>
  FG (ho pins s2 σ H2 x y v u _ I2 r1 r2 q2) λc s3 ⟨z,H3,I3,r3,k,e,q3⟩=>?_) hm
 subst e;cases r3;exact BU ⟨H3,I3,q3⟩
def oO (r r':R2) (ta tb tc:TE):TE:=λσ H Q=>ta σ H λx H1=>tb σ H1 λy H2=>r x y H2 λz H3=>∃k,z=.bl k /\
 (if k=true then tc σ H3 λw' H4=>r' y w' H4 Q else Q (.bl false) H3)
theorem vA {op Lc:CmpOp}{r r':R2} (ho:Gs X (compareOp op) r) (GZ:Gs X (compareOp Lc) r') (ha:PE X a ta) (hb:PE X b tb) (hc:PE X c tc)
  (hm:lastMarks [op,Lc] [b,c]=false:=by with_unfolding_all rfl):PE X (.Compare a [op,Lc] [b,c] pos) (oO r r' ta tb tc):=by
 intro pins s σ H Q I h
 refine Compare_chain (FG (ha pins s σ H _ I h) λv s1 ⟨x,H1,I1,r1,q1⟩=>chain_link (FG (hb pins s1 σ H1 _ I1 q1) λu s2 ⟨y,H2,I2,r2,q2⟩ =>
  FG (ho pins s2 σ H2 x y v u _ I2 r1 r2 q2) λd s3 ⟨z,H3,I3,r3,k,e,q3⟩=>?_)) hm
 subst e;cases r3;refine BU ?_;cases k with
 | false=>exact ite_ff ⟨.bl false,H3,I3,rfl,q3⟩
 | true=>exact ite_tt (chain_last (FG (hc pins s3 σ H3 _ I3 q3) λw' s4 ⟨z',H4,I4,r4,q4⟩=>GZ pins s4 σ H4 y z' u w' Q I4 r2 r4 q4))
theorem mL {op Lc:CmpOp}{r r':R2} (ho:Gs X (compareOp op) r) (GZ:Gs X (compareOp Lc) r') (ha:PE X a ta) (hb:PE X b tb) (hc:PE X c tc)
  (hm:lastMarks [op,Lc] [b,c]=false:=by with_unfolding_all rfl):PT X (.Compare a [op,Lc] [b,c] pos) (pK (oO r r' ta tb tc)):=by
 intro pins s σ H Q I h
 refine isTrue_chain (FG (ha pins s σ H _ I h) λv s1 ⟨x,H1,I1,r1,q1⟩=>test_link (FG (hb pins s1 σ H1 _ I1 q1) λu s2 ⟨y,H2,I2,r2,q2⟩ =>
  FG (ho pins s2 σ H2 x y v u _ I2 r1 r2 q2) λd s3 ⟨z,H3,I3,r3,k,e,q3⟩=>?_)) hm
 subst e;cases r3;refine BU ?_;cases k with
 | false =>
  obtain⟨k',e',q'⟩:=q3;cases e';exact ite_ff ⟨H3,I3,q'⟩
 | true =>
  refine ite_tt (test_last (FG (hc pins s3 σ H3 _ I3 q3) λw' s4 ⟨z',H4,I4,r4,q4⟩=>FG (GZ pins s4 σ H4 y z' u w' _ I4 r2 r4 q4) λd' s5 ⟨z2,H5,I5,r5,k2,e2,q5⟩=>?_));subst e2;cases r5;exact BU ⟨H5,I5,q5⟩
theorem fg:(sizeLine:Nat)<2^63:=by rw[Bw];decide
theorem kL:Gs X (binaryOp .Add) (λx y H Q=>∃i j,x=.str i/\y=.str j/\i.length+j.length<=sizeLine/\Q (.str (i++j)) H):=by
 intro pins s σ H x y v u Q I rx ry h;obtain⟨i,j,rfl,rfl,hz,q⟩:=h;obtain⟨t,rfl⟩:=rx;obtain⟨t',rfl⟩:=ry;exact add_str (λt' tk=>⟨.str (i++j),H,I.tok _,⟨_,rfl⟩,q⟩) hz
theorem vals1 {x:V}{us:List zz9} (r:ar [x] us):∃u,us=[u]/\RelV x u:=by
 cases r with
 | cons r1 r2=>cases r2;exact⟨_,rfl,r1⟩
theorem vals2 {x y:V}{us:List zz9} (r:ar [x,y] us):∃u w',us=[u,w']/\RelV x u/\RelV y w':=by
 cases r with
 | cons r1 r2 =>
  cases r2 with
  | cons r3 r4=>cases r4;exact⟨_,_,rfl,r1,r3⟩
theorem lO (hc:X.calm=true):bh X (.builtin "max") (λxs H Q=>∃i j,xs=[.int i,.int j]/\Q (.int (if j>i then j else i)) H):=by
 intro pins s σ H xs us Q I r h;obtain⟨i,j,rfl,q⟩:=h;obtain⟨u,w',rfl,⟨t,rfl⟩,⟨t',rfl⟩⟩:=vals2 r;refine max_two_ints (I.ok.hd hc) λh' tk k=>⟨_,H,I.kept k,?_,q⟩
 by_cases hj:j>i
 .rw [if_pos hj,if_pos hj];exact⟨_,rfl⟩
 .rw [if_neg hj,if_neg hj];exact⟨_,rfl⟩
theorem lK (hc:X.calm=true):bh X (.builtin "min") (λxs H Q=>∃i j,xs=[.int i,.int j]/\Q (.int (if j<i then j else i)) H):=by
 intro pins s σ H xs us Q I r h;obtain⟨i,j,rfl,q⟩:=h;obtain⟨u,w',rfl,⟨t,rfl⟩,⟨t',rfl⟩⟩:=vals2 r;refine min_two_ints (I.ok.hd hc) λh' tk k=>⟨_,H,I.kept k,?_,q⟩
 by_cases hj:j<i
 .rw [if_pos hj,if_pos hj];exact⟨_,rfl⟩
 .rw [if_neg hj,if_neg hj];exact⟨_,rfl⟩
theorem uh:bh X (.type "int") (λxs H Q=>(∃i,xs=[.int i]/\Q (.int i) H)\/∃k,xs=[.bl k]/\Q (.int (if k then 1 else 0)) H):=by
 intro pins s σ H xs us Q I r h
 rcases h with ⟨i,rfl,q⟩|⟨k,rfl,q⟩
 .obtain⟨u,rfl,t,rfl⟩:=vals1 r
  exact call_int_int ⟨.int i,H,I,⟨_,rfl⟩,q⟩
 .obtain⟨u,rfl,r1⟩:=vals1 r
  cases r1;exact call_int_bool ⟨.int (if k then 1 else 0),H,I.tok _,⟨_,rfl⟩,q⟩
end
structure kh (h:Heap) (x dx C:Addr) (mA:Str->Option zz9):Prop where
 obj:h.get? x=some (PySem.W.instObj C dx)
 ns:h.Ns1 dx mA
 ne:dx≠x
theorem uz {h:Heap}{dx:Addr}{mA:Str->Option zz9} (n:h.Ns1 dx mA):∃od,h.get? dx=some od/\∀name,PySem.W.lookIn name od=some (mA name):=by
 obtain⟨o,es,ep,ho,hd,hk,_,hm⟩:=n;refine⟨o,ho,λname=>?_⟩;have e:=hm name;unfold nsFind findBy at e;rw[<- Array.find?_toList]at e;unfold PySem.W.lookIn;rw[hd]
 dsimp only
 split
 .rename_i y q
  rw[q]at e;exact congrArg some e
 .rename_i q
  rw[q]at e;have a:es.toList.any (·.refKey)=false:=by
   rw[List.any_eq_false];intro y hy;obtain⟨z,t,Lz⟩:=hk y (DD.mp hy);simp[DictEntry.refKey,Lz]
  have a':¬ es.toList.any (·.refKey)=true:=by rw[a];exact A2
  rw[if_neg a'];exact congrArg some e
theorem kh.look {h:Heap}{x dx C:Addr}{mA:Str->Option zz9} (I:kh h x dx C mA):∃od,PySem.W.InstAt h x (PySem.W.instObj C dx) C (some od)/\∀name,PySem.W.lookIn name od=some (mA name):=
 let ⟨od,ho,hl⟩:=uz I.ns
 ⟨od,⟨I.obj,rfl,rfl,ho⟩,hl⟩
section
variable {prog:Program}{w:World}{A:Around}{E:zz9->zz8->Prop}{s:zz8}{K:zz7}{x dx C f:Addr}{mA:Str->Option zz9}{name:Str}{v:zz9}
end
theorem cy.some_of {v:V}{o:Option zz9} (r:cy (some v) o):∃u,o=some u/\RelV v u:=by
 cases o with
 | none=>exact(show False from r).elim
 | some u=>exact⟨u,rfl,r⟩
theorem tw {v:V}{u:zz9} (r:RelV v u):PySem.W.handedIn u=true:=by
 cases v with
 | non=>cases (show u=Value.none from r);rfl
 | bl b=>cases (show u=Value.bool b from r);rfl
 | int i=>obtain⟨t,e⟩:=(show∃t,u=Value.int i t from r);cases e;rfl
 | str x=>obtain⟨t,e⟩:=(show∃t,u=Value.str x t from r);cases e;rfl
 | byt b=>obtain⟨t,e⟩:=(show∃t,u=Value.bytes b t from r);cases e;rfl
 | flt b=>obtain⟨t,e⟩:=(show∃t,u=Value.float b t from r);cases e;rfl
 | ref a=>cases (show u=Value.ref a from r);rfl
 | ty n=>cases (show u=Value.type n from r);rfl
section
variable {P:Program}{w:World}{H H':Hp}{h h':Heap}{a C dx:Addr}{fs X7:List (Str×V)}
theorem wJ (hok:F0 P w H h) (e:H a=some (.ins C dx fs)):∃mA,kh h a dx C mA/\(∀f,cy (fs.lookup f) (mA f))/\PySem.Within mA (fs.map (·.1))/\fs.length<=1000/\H dx=some (.own a):=by
 obtain⟨d,z,ne,ob,mA,n,r,q⟩:=(show aD P w H h a (.ins C dx fs) from hok a _ e)
 exact⟨mA,⟨ob,n,ne⟩,r,q,z,d⟩
end
structure RT (K:zz7) (C:Addr):Prop where
 pg:PySem.W.plainGet K C Str.empty=true
 hd:PySem.W.hasDictIn K C=true
 po:PySem.W.plainOver K C=true
 sa:PySem.W.findIn K (.ref C) "__setattr__"=some (some (.builtin "object.__setattr__"))
theorem RT.get {K:zz7}{C:Addr} (c:RT K C) (f:Str):PySem.W.plainGet K C f=true:=c.pg
structure Con (K:zz7) (C:Addr) (f:Str) (v:V) (u:zz9):Prop where
 at_:PySem.W.findIn K (.ref C) f=some (some u)
 rel:RelV v u
 get:PySem.W.specialIn K u "__get__"=some none
 cp:PySem.W.copiedNames.contains f=false
structure AE (K:zz7) (C:Addr) (m:Str) (f:Addr):Prop where
 at_:PySem.W.findIn K (.ref C) m=some (some (.ref f))
 fn:PySem.W.isFn K (.ref f)=true
 kp:PySem.W.keepIn K (.ref f)=true
section
variable {X:Cx}{pins:List (Addr×Obj)}{σ:St}{H:Hp}{s:zz8}{a C dx:Addr}{fs:List (Str×V)}{f:Str}{v:V}{A:Around}{E:zz9->zz8->Prop}
theorem vV {prog:Program}{w:World}{env:Env}{e:Expr}{f:Str}{pos:Pos}{s:zz8}{Q:zz9->zz8->Prop} (hb:attributeBase e f env (eval e env)=eval e env)
  (h:wpAny (model prog w) A (eval e env) (λo s₁=>wpAny (model prog w) A (getAttr o f true) Q E s₁) E s):wpAny (model prog w) A (eval (.Attribute e f pos) env) Q E s :=
 Attribute_any_ h (by rw[arm_eval_Attribute,hb])
end
def qm (X:Cx) (op:Operator) (rd:V->V->Hp->VK->Prop):Prop :=
 ∀(pins:List (Addr×Obj)) (s:zz8) (σ:St) (H:Hp) (x y:V) (u v:zz9) (Q:VK),Inv X pins σ H s->RelV x u->RelV y v->rd x y H Q->wpAny (model X.prog X.w) X.A (inplaceOp op u v) (EP X pins σ Q) X.xe s
section
variable {X:Cx}{o e value:Expr}{f:Str}{pos GA JW:Pos}{ta tv:TE}
def zp:V->V->Hp->VK->Prop:=λx y H Q=>∃i j,x=.int i/\y=.int j/\Q (.int (i-j)) H
theorem xW:qm X .Sub zp:=by
 rintro pins s σ H x y u v Q I rx ry ⟨i,j,rfl,rfl,q⟩;obtain⟨t,rfl⟩:=(show∃t,u=Value.int i t from rx)
 obtain⟨t',rfl⟩:=(show∃t',v=Value.int j t' from ry)
 exact PyProof.Rows.isub_int ⟨.int (i-j),H,I.tok _,⟨_,rfl⟩,q⟩
end
section
variable {X:Cx}{pins:List (Addr×Obj)}{σ:St}{H:Hp}{s:zz8}{A:Around}{E:zz9->zz8->Prop}{Q:zz9->zz8->Prop}{c:zz9}{b:Bool}
inductive cM (K:zz7) (H:Hp):V->zz9->Prop where
 | non:cM K H .non (.type "NoneType")
 | bl (x:Bool):cM K H (.bl x) (.type "bool")
 | int (i:Int):cM K H (.int i) (.type "int")
 | str (x:Str):cM K H (.str x) (.type "str")
 | flt (x:UInt64):cM K H (.flt x) (.type "float")
 | lst {a:Addr}{xs:List V} (e:H a=some (.lst xs)):cM K H (.ref a) (.type "list")
 | frz {a:Addr}{o:Obj}{xs:List V} (e:H a=some (.frz o (.lst xs))):cM K H (.ref a) (.type "list")
 | tup {a:Addr}{xs:List V} (e:H a=some (.tup xs)):cM K H (.ref a) (.type "tuple")
 | dK {a:Addr}{kvs:List (Key×V)} (e:H a=some (.dK kvs)):cM K H (.ref a) (.type "dict")
 | dT {a:Addr}{kvs:List (List Key×V)} (e:H a=some (.dT kvs)):cM K H (.ref a) (.type "dict")
 | ins {a C dx:Addr}{fs:List (Str×V)} (e:H a=some (.ins C dx fs)) (cl:RT K C) (ha:PySem.W.findIn K (.ref C) "__class__"=some (some (.builtin "object.__class__")))
   (hn:PySem.W.specialIn K (.builtin "object.__class__") "__get__"=some (some (.builtin "getset_descriptor.__get__"))) (Hd:PySem.W.takesIn K (.builtin "object.__class__")=some true)
   (hm:PySem.W.mroIn K C (.type "object")=some true):cM K H (.ref a) (.ref C)
theorem sU {x:V}{u t:zz9} (I:Inv X pins σ H s) (rx:RelV x u) (ty:cM X.K H x t) (e:PySem.W.kitOne X.K t c=some b) (h:∀tk,Q (.bool b) { s with toks:=tk }) :
  wpAny (model X.prog X.w) A (call (.builtin "isinstance") [u,c]) Q E s:=by
 cases ty with
 | non=>cases (show u=Value.none from rx);exact Cj PySem.W.kitx_none I.kIn True.intro e (λz=>nomatch z) h
 | bl y=>cases (show u=Value.bool y from rx);exact Cj PySem.W.kitx_bool I.kIn True.intro e (λz=>nomatch z) h
 | int i=>obtain⟨t,q⟩:=(show∃t,u=Value.int i t from rx);cases q;exact Cj PySem.W.kitx_int I.kIn True.intro e (λz=>nomatch z) h
 | str y=>obtain⟨t,q⟩:=(show∃t,u=Value.str y t from rx);cases q;exact Cj PySem.W.kitx_str I.kIn True.intro e (λz=>nomatch z) h
 | flt y=>obtain⟨t,q⟩:=(show∃t,u=Value.float y t from rx);cases q;exact Cj PySem.W.kitx_float I.kIn True.intro e (λz=>nomatch z) h
 | @lst a xs ea =>
  cases (show u=Value.ref a from rx);obtain⟨_,_,n,_,h1⟩:=(show aD X.prog X.w H s.heap a (.lst xs) from I.hok a _ ea)
  exact Cj PySem.W.kitx_list I.kIn ⟨_,h1,rfl⟩ e (λz=>nomatch z) h
 | @frz a ob xs ea =>
  cases (show u=Value.ref a from rx);obtain⟨_,_,_,n,_,h1⟩:=(show aD X.prog X.w H s.heap a (.frz ob (.lst xs)) from I.hok a _ ea)
  exact Cj PySem.W.kitx_list I.kIn ⟨_,h1,rfl⟩ e (λz=>nomatch z) h
 | @tup a xs ea =>
  cases (show u=Value.ref a from rx);obtain⟨_,_,_,p⟩:=(show aD X.prog X.w H s.heap a (.tup xs) from I.hok a _ ea)
  obtain⟨o,h1,h2,_⟩:=p;exact Cj PySem.W.kitx_tuple I.kIn ⟨o,h1,h2⟩ e (λz=>nomatch z) h
 | @dK a kvs ea =>
  cases (show u=Value.ref a from rx);obtain⟨_,_,vs,_,p⟩:=(show aD X.prog X.w H s.heap a (.dK kvs) from I.hok a _ ea)
  obtain⟨o,es,ep,h1,h2,_⟩:=p;exact Cj PySem.W.kitx_dict I.kIn ⟨o,h1,h2.1⟩ e (λz=>nomatch z) h
 | @dT a kvs ea =>
  cases (show u=Value.ref a from rx);obtain⟨_,_,xs,_,o,es,ep,h1,h2,_⟩:=(show aD X.prog X.w H s.heap a (.dT kvs) from I.hok a _ ea)
  exact Cj PySem.W.kitx_dict I.kIn ⟨o,h1,h2.1⟩ e (λz=>nomatch z) h
 | @ins a C dx fs ea cl ha hn Hd hm =>
  cases (show u=Value.ref a from rx);obtain⟨mA,O,_⟩:=wJ I.hok ea;obtain⟨od,J,_⟩:=O.look;exact Cj (PySem.W.kitx_own (cl.get _) cl.hd ha hn Hd hm) I.kIn J e (λz=>nomatch z) h
end
structure aO (k:Nat) (A:Around):Prop where
 hd:A.handled=none
 dp:A.depth+3*k+5<recursionLimit
 un:A.units+16*k+200<cLine
 gd:A.guards=some []
theorem aO.mono {j k:Nat}{A:Around} (r:aO k A) (h:j<=k):aO j A:=⟨r.hd,by have:=r.dp;omega,by have:=r.un;omega,r.gd⟩
theorem aO.deeper {k:Nat}{A:Around} (r:aO (k+1) A) (env:Env):aO k (A.deeper env):=
 ⟨r.hd,by have:=r.dp;show A.depth+1+3*k+5<_;omega,by have:=r.un;show A.units+3+16*k+200<_;omega,r.gd⟩
theorem sj {A:Around}{C:Addr}{us:List zz9}{kw:List (Str×zz9)}:(A.under (.builtin "type.__call__" ⟨.ref C::us,kw⟩)).depth=A.depth+1:=by
 first|rfl|simp[Around.under,Code.weight,Code.isCreation,Code.isGuard,Code.isCaller,Code.frames,Code.isFrame,guardIds]
theorem rW {A:Around}{C:Addr}{us:List zz9}{kw:List (Str×zz9)}:(A.under (.builtin "type.__call__" ⟨.ref C::us,kw⟩)).units=A.units+1:=by
 first|rfl|simp[Around.under,Code.cUnits,Code.frames,Code.isFrame]
theorem aO.make {k:Nat}{A:Around} (r:aO (k+1) A) (C:Addr) (us:List zz9) (kw:List (Str×zz9)):aO k (A.under (.builtin "type.__call__" ⟨.ref C::us,kw⟩)):=
 ⟨r.hd,by have:=r.dp;rw[sj];omega,by have:=r.un;rw[rW];omega,by first|exact r.gd|simpa[Around.under,Code.isGuard,guardIds]using r.gd⟩
theorem aO.depth {k:Nat}{A:Around} (r:aO k A):A.depth<recursionLimit:=by have:=r.dp;omega
theorem aO.units {k:Nat}{A:Around} (r:aO k A):A.units+64<cLine:=by have:=r.un;omega
def zU:TA:=λ_ H Q=>Q [] H
def yU (ta:TE) (tr:TA):TA:=λσ H Q=>ta σ H λx H1=>tr σ H1 λxs H2=>Q (x::xs) H2
section
variable {X:Cx}{e:Expr}{es:List Expr}{te:TE}{t:TA}{pos:Pos}
theorem ae:PA X [] zU:=λ_ _ _ _ H Q I h=>DX ⟨[],H,I,.nil,h⟩
theorem aa (ha:PE X e te) (hr:PA X es t) (hs:starEach (e::es) X.env=(false,eval e X.env)::starEach es X.env:=by rfl):PA X (e::es) (yU te t):=by
 intro pos pins s σ H Q I h;rw[hs];show wpAny _ _ (spliced ((false,eval e X.env)::backTo pos (starEach es X.env))) _ _ s;refine Dn (FG (ha pins s σ H _ I h) λu s1 ⟨x,H1,I1,r1,q1⟩=>?_);exact FG (hr pos pins s1 σ H1 _ I1 q1) λus s2 ⟨xs,H2,I2,r2,q2⟩=>⟨x::xs,H2,I2,.cons r1 r2,q2⟩
def zC (t:TA):TE:=λσ H Q=>t σ H λxs H1=>xs.length<=sizeLine/\∀p,H1 p=none->Q (.ref p) (upd H1 p (.tup xs))
def zR (t:TA):TE:=λσ H Q=>t σ H λxs H1=>xs.length<=sizeLine/\∀p,H1 p=none->Q (.ref p) (upd H1 p (.lst xs))
theorem cJ {x1} (h:PA X es t):PE X (.Tuple es x1 pos) (zC t):=by
 intro pins s σ H Q I hq;refine wpAny_Tuple_spliced (FG (h pos pins s σ H _ I hq) λus s1 ⟨xs,H1,I1,r,z,q⟩=>⟨by rw[<- r.length];exact z,?_⟩);have hf:H1 s1.heap.objs.size=none:=I1.hok.fresh (AY _);refine⟨.ref s1.heap.objs.size,upd H1 s1.heap.objs.size (.tup xs),I1.laid (t':=s1.toks) (λb u e=>AH _ e) (AY _) ?_,rfl,q _ hf⟩;exact⟨z,us,r,⟨_,AU _ rfl,rfl,_,rfl⟩⟩
theorem cg (h:PA X es t):PE X (.List es pos) (zR t):=by
 intro pins s σ H Q I hq;refine wpAny_List_spliced (FG (h pos pins s σ H _ I hq) λus s1 ⟨xs,H1,I1,r,z,q⟩=>⟨by rw[<- r.length];exact z,?_⟩);have hf:H1 s1.heap.objs.size=none:=I1.hok.fresh (AY _);refine⟨.ref s1.heap.objs.size,upd H1 s1.heap.objs.size (.lst xs),I1.laid (t':=s1.toks) (λb u e=>AH _ e) (AY _) ?_,rfl,q _ hf⟩;exact⟨z,us,0,r,AU _ rfl⟩
end
abbrev Sp:=List V->Hp->VK->XK->Prop
abbrev IZ:=List Env->Hp->zz8->XK->zz9->zz8->Prop
structure fu (P:Program) (w:World) (K:zz7) (mg:Str->Option zz9) (base:Heap) (A:Around) (outer:List Env) (s:zz8) (H:Hp):Prop where
 frames:A.frames=some outer
 mod:Mod K mg base
 bs:∀b o,base.get? b=some o->s.heap.get? b=some o/\H b=none
 bsz:base.objs.size<=s.heap.objs.size
 funs:s.heap.FunFrames base outer
 frf:∀b∈Gc outer,H b=none
 hok:F0 P w H s.heap
 bare:AllBare s.gens
def CE (outer:List Env) (P:Program) (w:World) (H:Hp) (s:zz8) (Q:VK) (u:zz9) (s':zz8):Prop :=
 ∃v H',s'.os=s.os/\AllBare s'.gens/\Un (Gc outer) [] H H' s.heap s'.heap/\F0 P w H' s'.heap/\RelV v u/\Q v H'
def CR (CX:IZ) (outer:List Env) (P:Program) (w:World) (H:Hp) (s:zz8) (Q:VK) (E:XK) (r:Result) (s':zz8):Prop :=
 match r with
 | .ok (.ret u)=>CE outer P w H s Q u s'
 | .ok _=>False
 | .error e=>CX outer H s E e s'
structure aF (P:Program) (w:World) (K:zz7) (mg:Str->Option zz9) (base:Heap) (CX:IZ) (k:Nat) (f:Addr) (fd:FuncData) (ps:List Str) (sp:Sp):Prop where
 len:∀vs H Q E,sp vs H Q E->vs.length=ps.length
 run:∀(A:Around) (outer:List Env) (s:zz8) (H:Hp) (args:Args) (us:List zz9) (vs:List V) (Q:VK) (E:XK),aO k A->fu P w K mg base A outer s H->BindsTo s fd args (ps.zip us)->ar vs us->sp vs H Q E ->
  codeAny (model P w) A (.call (.ref f) args) (CR CX outer P w H s Q E) s
theorem fu.make {P:Program}{w:World}{K:zz7}{mg:Str->Option zz9}{base:Heap}{A:Around}{outer:List Env}{s:zz8}{H:Hp} (e:fu P w K mg base A outer s H) (C:Addr) (us:List zz9) (kw:List (Str×zz9)) :
  fu P w K mg base (A.under (.builtin "type.__call__" ⟨.ref C::us,kw⟩)) outer s H:=⟨by first|exact e.frames|(simpa[Around.under,Code.envs,Code.isFrame,pushEnvs]using e.frames),e.mod,e.bs,e.bsz,e.funs,e.frf,e.hok,e.bare⟩
section
variable {X:Cx}{pins:List (Addr×Obj)}{σ:St}{H:Hp}{s s':zz8}
theorem Inv.env0 (I:Inv X pins σ H s):fu X.prog X.w X.K X.mg X.base X.A X.stack s H :=
 ⟨I.ok.frames,I.ok.mod,I.bs,Be I.ok.bsz I.sz,I.stack,I.stkFree,I.hok,I.bare⟩
theorem Inv.after {Q:VK}{u:zz9} (I:Inv X pins σ H s) (h:CE X.stack X.prog X.w H s Q u s'):EP X pins σ Q u s':=by
 obtain⟨v,H',os,bare,un,hok,r,q⟩:=h;obtain⟨hh,g,d,t,VA⟩:=s';obtain rfl:VA=s.os:=os;exact⟨v,H',I.call (h':=hh) (g':=g) (d':=d) (t':=t) (ch:=[]) un hok bare (λb z=>absurd z (by simp)),r,q⟩
end
def pS (sp:Sp) (KM:List V) (E:XK) (t:TA):TE:=λσ H Q=>t σ H λvs H1=>sp (vs++KM) H1 Q E
def Binds (K:zz7) (fd:FuncData) (ps:List Str) (ds:List zz9):Prop :=
 ∀(s:zz8) (us:List zz9),K.In s.heap->(us++ds).length=ps.length->BindsTo s fd ⟨us,[]⟩ (ps.zip (us++ds))
theorem Binds.all {K:zz7}{fd:FuncData}{ps:List Str} (h:∀us:List zz9,us.length=ps.length->bindArgs fd ⟨us,[]⟩=pure (ps.zip us)):Binds K fd ps []:=λs us _ hl=>by
 rw[BA]at hl ⊢;exact .of_eq (h us hl)
def jG (CX:IZ) (X:Cx) (E:XK):Prop:=∀(pins:List (Addr×Obj)) (σ:St) (H:Hp) (s:zz8) (e:zz9) (s':zz8),Inv X pins σ H s->CX X.stack H s E e s'->X.xe e s'
section
variable {X:Cx}{CX:IZ}{k:Nat}{f C:Addr}{fd:FuncData}{ps:List Str}{sp:Sp}{KM:List V}{ds:List zz9}{E:XK}{x m:Str}{p pos apos:Pos}{e o:Expr}{es:List Expr}{ta:TE}{t:TA}
theorem xQ {pins:List (Addr×Obj)}{σ:St}{H:Hp}{s:zz8}{Q:VK}{us:List zz9}{vs:List V} (F:aF X.prog X.w X.K X.mg X.base CX k f fd ps sp) (hr:aO k X.A) (hb:Binds X.K fd ps ds) (hd:ar KM ds) (hx:jG CX X E)
  (I:Inv X pins σ H s) (r:ar vs us) (h:sp (vs++KM) H Q E):wpAny (model X.prog X.w) X.A (call (.ref f) us) (EP X pins σ Q) X.xe s:=by
 have r2:ar (vs++KM) (us++ds):=r.append hd;have hl:(us++ds).length=ps.length:=by rw[<- r2.length];exact F.len _ _ _ _ h
 refine Em (Cy (F.run X.A X.stack s H ⟨us,[]⟩ (us++ds) (vs++KM) Q E hr I.env0 (hb s us I.kIn hl) r2 h) λr s' hq=>?_);cases r with
 | error e=>exact hx pins σ H s e s' I hq
 | ok fl =>
  cases fl with
  | ret u=>exact I.after hq
  | next=>exact False.elim hq
  | brk=>exact False.elim hq
  | cont=>exact False.elim hq
theorem v8 (F:aF X.prog X.w X.K X.mg X.base CX k f fd ps sp) (hr:aO k X.A) (hg:Gl X x) (hm:X.mg x=some (.ref f)) (hk:PySem.W.keepIn X.K (.ref f)=true) (hb:Binds X.K fd ps ds) (hd:ar KM ds) (hx:jG CX X E)
  (ha:PA X (e::es) t) (IU:(x==("__debug__":Str))=false:=by decide) (he:starEach (e::es) X.env=(false,eval e X.env)::starEach es X.env:=by rfl) (Ga:(backTo pos (starEach es X.env)).any (·.1)=false:=by rfl) :
  PE X (.Call (.Name x p) (e::es) [] pos) (pS sp KM E t):=by
 intro pins s σ H Q I h;refine Do (gb I hg hm ?_ IU);refine PySem.W.callWith_K (h₀:=X.base) I.ok.mod.kin hk (FG (ha pos pins s σ H _ I h) λus s1 ⟨vs,H1,I1,r,q⟩=>⟨I1.kIn,?_⟩) he Ga;exact xQ F hr hb hd hx I1 r q
structure Mk (K:zz7) (C f:Addr):Prop where
 makes:PySem.W.makesIn K C=true
 init:PySem.W.findIn K (.ref C) "__init__"=some (some (.ref f))
 fn:PySem.W.isFn K (.ref f)=true
 kp:PySem.W.keepIn K (.ref C)=true
end
section
variable {X:Cx}{CX:IZ}{k:Nat}{f C:Addr}{fd:FuncData}{ps ks:List Str}{sp:Sp}{E:XK}{x m:Str}{p pos apos Wt:Pos}{e o:Expr}{es:List Expr}{kws:List Keyword}{te ta:TE}{t tk:TA}{nm:Option Str}
structure Av (K:zz7) (fd:FuncData) (ps ks:List Str) (g:List zz9->List zz9->List zz9) (gV:List V->List V->List V):Prop where
 to:∀(s:zz8) (us ws:List zz9),K.In s.heap->(g us ws).length=ps.length->BindsTo s fd ⟨us,ks.zip ws⟩ (ps.zip (g us ws))
 rel:∀{vs:List V}{us:List zz9}{zs:List V}{ws:List zz9},ar vs us->ar zs ws->ar (gV vs zs) (g us ws)
variable {g:List zz9->List zz9->List zz9}{gV:List V->List V->List V}
end
structure aM (N P:List Str) (sc:Scope):Prop where
 kind:sc.kind=.function
 co:sc.isCoroutine=false
 gen:sc.isGenerator=false
 nd:N.Nodup
 pre:N.take P.length=P
 par:∀x∈P,sc.names.lookup x=some .local\/sc.names.lookup x=some .cell
 nofree:∀y∈sc.names,y.2≠.free
theorem lR {kindOf:Str->Option NameKind}{x:Str}:∀{binds:List (Str×zz9)}{m:Str->Option zz9},(∀v,(x,v)∉binds)->bindL kindOf binds m x=m x
 | [],_,_=>rfl
 | (n,v)::r,m,h=>by
  unfold bindL;rw[lR λw hw=>h w (AR _ hw)];split
  .have:x≠n:=by rintro rfl;exact h v AK
   simp[this]
  .rfl
theorem lh {kindOf:Str->Option NameKind}{x:Str}:∀{binds:List (Str×zz9)}{m:Str->Option zz9},(∀v,(x,v)∉binds)->bindC kindOf binds m x=m x
 | [],_,_=>rfl
 | (n,v)::r,m,h=>by
  unfold bindC;rw[lh λw hw=>h w (AR _ hw)];split
  .rfl
  .have:x≠n:=by rintro rfl;exact h v AK
   simp[this]
theorem lg {kindOf:Str->Option NameKind}{x:Str}{v:zz9}:∀{P:List Str}{vs:List zz9}{i:Nat}{m:Str->Option zz9},P.Nodup->P[i]?=some x->vs[i]?=some v->kindOf x=some .local ->
  bindL kindOf (P.zip vs) m x=some v
 | [],_,_,_,_,h,_,_=>by simp at h
 | _::_,[],_,_,_,_,h,_=>by simp at h
 | p::P,w::vs,0,m,nd,h1,h2,hk=>by
  simp at h1 h2;subst h1;subst h2;show bindL kindOf ((p,w)::P.zip vs) m p=_;unfold bindL;rw[lR λv hv=>(Bj.mp nd).1 (Fx hv).1,if_pos hk];simp
 | p::P,w::vs,i+1,m,nd,h1,h2,hk=>by
  show bindL kindOf ((p,w)::P.zip vs) m x=_;unfold bindL;exact lg (i:=i) (Bj.mp nd).2 (by simpa using h1) (by simpa using h2) hk
theorem lH {kindOf:Str->Option NameKind}{x:Str}{v:zz9}:∀{P:List Str}{vs:List zz9}{i:Nat}{m:Str->Option zz9},P.Nodup->P[i]?=some x->vs[i]?=some v->kindOf x≠some .local ->
  bindC kindOf (P.zip vs) m x=some v
 | [],_,_,_,_,h,_,_=>by simp at h
 | _::_,[],_,_,_,_,h,_=>by simp at h
 | p::P,w::vs,0,m,nd,h1,h2,hk=>by
  simp at h1 h2;subst h1;subst h2;show bindC kindOf ((p,w)::P.zip vs) m p=_;unfold bindC;rw[lh λv hv=>(Bj.mp nd).1 (Fx hv).1,if_neg hk];simp
 | p::P,w::vs,i+1,m,nd,h1,h2,hk=>by
  show bindC kindOf ((p,w)::P.zip vs) m x=_;unfold bindC;exact lH (i:=i) (Bj.mp nd).2 (by simpa using h1) (by simpa using h2) hk
def start (N:List Str) (vs:List V):St:=vs.map some++List.replicate (N.length-vs.length) none
def dO (CX:IZ) (P:Program) (w:World) (K:zz7) (mg:Str->Option zz9) (base:Heap) (N:List Str) (qual:Str) (scope:Scope) (f:Addr) (cd:zz9) (A:Around) (outer:List Env) (s:zz8) (H:Hp) (E:XK):Cx where
 prog:=P
 w:=w
 K:=K
 mg:=mg
 base:=base
 A:=A.deeper (envOfC qual scope s.heap.objs.size f cd)
 N:=N
 s₀:=s
 H₀:=H
 env:=envOfC qual scope s.heap.objs.size f cd
 outer:=outer
 stack:=envOfC qual scope s.heap.objs.size f cd::outer
 ex:=[]
 calm:=true
 fn:=λ_=>true
 pn:=[]
 xe:=λe s'=>wpAny (model P w) (A.deeper (envOfC qual scope s.heap.objs.size f cd)) (leaving (envOfC qual scope s.heap.objs.size f cd) e) (λ_ La=>CX outer H s E e La) (λe' La=>CX outer H s E e' La) s'
theorem lW {sc:Scope}{n:Nat}{x:Str} (h:sc.names.lookup x=some .cell):∃c,(cellsFrom n sc.names []).lookup x=some c:=by
 have q:=PySem.W.cellsFrom_some sc.names n [] (.inl h);exact Fe.mp q
theorem uC {CX:IZ}{P:Program}{w:World}{K:zz7}{mg:Str->Option zz9}{base:Heap}{N ps:List Str}{qual:Str}{scope:Scope}{f:Addr}{cd:zz9}{A:Around}{outer:List Env}{s s1:zz8}{H:Hp}{E:XK}{us:List zz9}{vs:List V}
  (S:aM N ps scope) (hd:A.handled=none) (e0:fu P w K mg base A outer s H) (hl:vs.length=ps.length) (r:ar vs us)
  (x:InCallC s s.heap.objs.size (bindL (envOfC qual scope s.heap.objs.size f cd).kindOf (ps.zip us) λ_=>none) (cellsFrom (s.heap.objs.size+1) scope.names []) (bindC (envOfC qual scope s.heap.objs.size f cd).kindOf (ps.zip us) λ_=>none) s1) :
  Inv (dO CX P w K mg base N qual scope f cd A outer s H E) [] (start N vs) H s1:=by
 have Ga:ps.length<=N.length:=by have:=congrArg List.length S.pre;rw[B0]at this;omega
 obtain⟨h1,tk,rfl,hk⟩:=x.done;have MY:∀b:Addr,b∉(dO CX P w K mg base N qual scope f cd A outer s H E).ex:=λb z=>absurd (show b∈([]:List Addr) from z) (by simp)
 refine⟨⟨e0.mod,S.kind,rfl,rfl,AY _,λy z c h1 h2=>?_,λy hy=>?_,λy c _ h=>?_,λ_=>hd,Around.frames_deeper e0.frames,.inr ⟨rfl,rfl⟩,λb z=>absurd z (MY b),e0.bs,e0.bsz,λb _ _=>MY b,λb z=>absurd z (MY b),e0.funs,e0.frf⟩,
  rfl,e0.bare,Un.kept hk,⟨_,x.toInCall.ns,λi y v h1 h2 h3=>?_⟩,λy c h=>⟨_,x.cell y c h⟩,e0.hok.fresh (AY _),λy c h=>?_,λp hp=>absurd (show p∈([]:List (Addr×Obj)) from hp) (by simp),e0.hok.kept hk,?_⟩
 .exact name_of_addr x.apart (Cw h1) (Cw h2)
 .have hy:scope.names.lookup y=some .cell\/scope.names.lookup y=some .free:=hy
  rcases hy with hy|hy
  .exact lW hy
  .exact absurd rfl (S.nofree _ (Cw hy))
 .exact Cq (x.above y c (Cw h))
 .have hi:i<vs.length:=by
   unfold start at h2
   by_cases hi:i<vs.length
   .exact hi
   .rw [List.getElem?_append_right (by simpa using hi)]at h2
    rw[List.getElem?_replicate]at h2;split at h2<;>cases h2
  have ha:vs[i]?=some v:=by
   unfold start at h2;rw[Cp (by simpa using hi),AZ]at h2;cases e:vs[i]? with
   | none=>rw[e]at h2;cases h2
   | some a=>rw[e]at h2;cases h2;rfl
  obtain⟨u,hu,rv⟩:=r.get ha;have hp:ps[i]?=some y:=by
   rw[<- S.pre,List.getElem?_take_of_lt (by omega)];exact h1
  have SQ:ps.Nodup:=by rw[<- S.pre];exact S.nd.sublist (List.take_sublist _ _)
  refine⟨u,rv,?_⟩
  rcases S.par y (AW hp)with k|k
  .exact .inl ⟨k,lg SQ hp hu k⟩
  .obtain⟨c,e⟩:=lW (n:=s.heap.objs.size+1) k
   refine .inr ⟨.inl k,c,e,?_⟩;have q:=x.cell y c e;rw[lH SQ hp hu (by show scope.names.lookup y≠_;rw[k];decide)]at q;exact q
 .exact e0.hok.fresh (Cq (x.above y c (Cw h)))
 .unfold start
  show _=N.length;rw[Bu,AG,List.length_replicate];omega
theorem pw {CX:IZ}{P:Program}{w:World}{K:zz7}{mg:Str->Option zz9}{base:Heap}{k:Nat}{f:Addr}{name qual:Str}{params:Arguments}{body:List Stmt}{scope:Scope}{dV kV doc pm Gn ct oc:zz9}{an od:Option Addr}
  {JZ:Array (Option zz9)}{N ps:List Str}{sp:Sp} (lk:K.lookup f=some ⟨oc,od,.func (PySem.W.fnOf name qual params body scope dV kV doc pm an Gn ct),JZ⟩) (IV:PySem.W.codeIn K Gn qual=true) (S:aM N ps scope)
  (len:∀vs H Q E,sp vs H Q E->vs.length=ps.length)
  (HG:∀(A:Around) (outer:List Env) (s:zz8) (H:Hp) (vs:List V) (Q:VK) (E:XK),aO k (A.deeper (envOfC qual scope s.heap.objs.size f Gn))->sp vs H Q E ->
   ∃t,HR (dO CX P w K mg base N qual scope f Gn A outer s H E) body t/\t { nx:=λ_ H'=>Q .non H',rt:=Q } (start N vs) H) :
  aF P w K mg base CX (k+1) f (PySem.W.fnOf name qual params body scope dV kV doc pm an Gn ct) ps sp:=by
 refine⟨len,λA outer s H args us vs Q E hr e0 hb r Hk=>?_⟩;have hl:=len _ _ _ _ Hk;have KX:K.In s.heap:=e0.mod.kin.keeps λb o e=>(e0.bs b o e).1;have lim:s.heap.NoLimit:=e0.mod.nolimit.keeps λb o e=>(e0.bs b o e).1;have Nw:∀y∈ps.zip us,scope.names.lookup y.1=some .local\/(scope.names.lookup y.1=some .cell/\((cellsFrom (s.heap.objs.size+1) scope.names []).lookup y.1).isSome=true):=λ⟨n,v⟩ hy=>by
  rcases S.par n (Fx hy).1 with q|q
  .exact .inl q
  .exact .inr ⟨q,PySem.W.cellsFrom_some _ _ _ (.inl q)⟩
 refine codeAny_call_function hr.depth (KX _ _ lk) rfl S.co S.gen rfl (PySem.W.codeRec_of KX IV) (hb _ _ _ _ ?_);refine wpAny_newFunctionEnv_cells S.kind Nw λenv he s1 x=>?_;subst he;refine⟨lim.keeps x.toInCall.keep,codeAny_func ?_⟩;obtain⟨t,ht,hq⟩:=HG A outer s H vs Q E (hr.deeper _) Hk;have I:Inv (dO CX P w K mg base N qual scope f Gn A outer s H E) [] (start N vs) H s1:=uC S hr.hd e0 hl r x;refine BK (ht [] s1 (start N vs) H _ I hq) (λfl s' hs=>?_) λe s' hs=>hs;have fin:∀{σ':St}{H':Hp}{v:V}{u:zz9},Inv (dO CX P w K mg base N qual scope f Gn A outer s H E) [] σ' H' s'->RelV v u->Q v H'->CE outer P w H s Q u s' :=
  λ{σ' H' v u} J rv q=>⟨v,H',J.os,J.bare,J.base,J.hok,rv,q⟩
 cases fl with
 | ret u =>
  obtain⟨v,σ',H',J,rv,q⟩:=hs;exact fin J rv q
 | next =>
  obtain⟨σ',H',J,q⟩:=hs;exact fin (v:=V.non) (u:=Value.none) J rfl q
 | brk =>
  obtain⟨_,_,_,q⟩:=hs;exact False.elim q
 | cont =>
  obtain⟨_,_,_,q⟩:=hs;exact False.elim q
section
variable {X:Cx}{x:Str}{p pos:Pos}{e:Expr}{es:List Expr}{t:TA}{id T:String}{r:List V->Hp->VK->Prop}
def Se (r:List V->Hp->VK->Prop) (t:TA):TE:=λσ H Q=>t σ H λvs H1=>r vs H1 Q
theorem au (hc:bh X (.builtin id) r) (hg:Gl X x) (hm:X.mg x=none) (hv:bootBuiltins x=some (.builtin id)) (ha:PA X (e::es) t) (hn:x≠"__name__":=by decide) (IU:(x==("__debug__":Str))=false:=by decide)
  (he:starEach (e::es) X.env=(false,eval e X.env)::starEach es X.env:=by rfl) (Ga:(backTo pos (starEach es X.env)).any (·.1)=false:=by rfl):PE X (.Call (.Name x p) (e::es) [] pos) (Se r t):=by
 intro pins s σ H Q I h;refine Do (eP I hg hm hv ?_ hn IU);exact PyProof.Rows.callWith_builtin1 (FG (ha pos pins s σ H _ I h) λus s1 ⟨vs,H1,I1,r1,q1⟩=>hc pins s1 σ H1 vs us Q I1 r1 q1) he Ga
theorem bQ (hc:bh X (.type T) r) (hg:Gl X x) (hm:X.mg x=none) (hv:bootBuiltins x=some (.type T)) (ha:PA X (e::es) t) (hn:x≠"__name__":=by decide) (IU:(x==("__debug__":Str))=false:=by decide)
  (he:starEach (e::es) X.env=(false,eval e X.env)::starEach es X.env:=by rfl) (Ga:(backTo pos (starEach es X.env)).any (·.1)=false:=by rfl):PE X (.Call (.Name x p) (e::es) [] pos) (Se r t):=by
 intro pins s σ H Q I h;refine Do (eP I hg hm hv ?_ hn IU);exact CZ (FG (ha pos pins s σ H _ I h) λus s1 ⟨vs,H1,I1,r1,q1⟩=>hc pins s1 σ H1 vs us Q I1 r1 q1) he Ga
end
end L2
namespace HT
open PySem PyProof.Rows
theorem Ar (A:Around) (s:zz8) (a:Int) (t:Tok) (c:Int) (u:Tok) (prog:Program) (w:World) (E:zz9->zz8->Prop) (Q:zz9->zz8->Prop) (h:Q (.bool (decide (a<c))) s) :
  wpAny (model prog w) A (richCompare .Lt (.int a t) (.int c u)) Q E s :=
 (PyProof.Rows.lt_int h:wpAny (model prog w) A (compareOp .Lt (.int a t) (.int c u)) Q E s)
section
open PySem.SeqAt
open PySem.AutoSeq1 (wpAny_loadPart')
open PySem.MeetsSeq PySem.MeetsSeq2 PySem.MeetsSeq3
end
section
variable {prog:Program}{w:World}{A:Around}{E:zz9->zz8->Prop}{s:zz8}
end
end HT
namespace L2
open PySem PySem.Spec PyProof.Rows
abbrev TO:=St->Hp->(Option Int->Hp->Prop)->Prop
def PO (X:Cx) (e:Option Expr) (t:TO):Prop :=
 ∀(pins:List (Addr×Obj)) (s:zz8) (σ:St) (H:Hp) (Q:Option Int->Hp->Prop),Inv X pins σ H s->t σ H Q ->
  wpAny (model X.prog X.w) X.A (evalPart e X.env) (λu s'=>∃o H',Inv X pins σ H' s'/\IsPart u o/\Q o H') X.xe s
def wu:TO:=λ_ H Q=>Q none H
def zg (t:TE):TO:=λσ H Q=>t σ H λx H1=>∃i,x=.int i/\Q (some i) H1
section
variable {X:Cx}{e:Expr}{te:TE}{lo hi:Option Expr}{tl th:TO}{pos p2:Pos}
theorem wH:PO X none wu:=by
 intro pins s σ H Q I h;rw[evalPart_none];exact AI ⟨none,H,I,.none,h⟩
theorem vT (h:PE X e te):PO X (some e) (zg te):=by
 intro pins s σ H Q I hw;rw[evalPart_some];refine FG (h pins s σ H _ I hw) λu s1 ⟨x,H1,I1,r1,q1⟩=>?_;obtain⟨i,rfl,q⟩:=q1;obtain⟨t,rfl⟩:=r1;exact⟨some i,H1,I1,.int i t,q⟩
def Uu (X:Cx) (r:V->Option Int->Option Int->Hp->VK->Prop):Prop :=
 ∀(pins:List (Addr×Obj)) (s:zz8) (σ:St) (H:Hp) (x:V) (v vl vu:zz9) (lo hi:Option Int) (sl:Addr) (Q:VK),Inv X pins σ H s->RelV x v->s.heap.IsSliceOf sl vl vu .none->IsPart vl lo->IsPart vu hi->r x lo hi H Q ->
  ∃T id,typeLookup (.type T) "__getitem__"=pure (some (.builtin id))/\s.TypeIs v T/\wpAny (model X.prog X.w) X.A (getItem v (.ref sl)) (EP X pins σ Q) X.xe s
def U8 (r:V->Option Int->Option Int->Hp->VK->Prop) (te:TE) (tl th:TO):TE:=λσ H Q=>te σ H λx H1=>tl σ H1 λl H2=>th σ H2 λu H3=>r x l u H3 Q
theorem uN {r:V->Option Int->Option Int->Hp->VK->Prop} (hr:Uu X r) (he:PE X e te) (hl:PO X lo tl) (hu:PO X hi th):PE X (.Subscript e (.Slice lo hi none p2) pos) (U8 r te tl th):=by
 intro pins s σ H Q I h;refine Subscript_ (FG (he pins s σ H _ I h) λv s1 ⟨x,H1,I1,r1,q1⟩=>?_);refine wpAny_Slice (FG (hl pins s1 σ H1 _ I1 q1) λvl s2 ⟨l,H2,I2,pl,q2⟩=>FG (hu pins s2 σ H2 _ I2 q2) λvu s3 ⟨u,H3,I3,pu,q3⟩=>?_);rw[evalPart_none];refine AI ?_;have I4:Inv X pins σ H3 { s3 with heap:=s3.heap.push { cls:=.type "slice",data:=.fields #[vl,vu,.none] } }:=I3.kept (t':=s3.toks) λb ob q=>AH _ q;obtain⟨T,id,hT,ht,hg⟩:=hr pins { s3 with heap:=s3.heap.push { cls:=.type "slice",data:=.fields #[vl,vu,.none] } } σ H3 x v vl vu l u s3.heap.objs.size Q I4 r1 (Heap.IsSliceOf.new ..) pl pu q3;show wpAny (model X.prog X.w) X.A (subscriptTail e (.Slice lo hi none p2) v (.ref s3.heap.objs.size)) (EP X pins σ Q) X.xe { s3 with heap:=s3.heap.push { cls:=.type "slice",data:=.fields #[vl,vu,.none] } };exact tail_any (ops:=[.ref s3.heap.objs.size,v]) ht hT hg (by with_unfolding_all rfl)
end
def J3 (n:Nat) (i:Int):Option Nat:=if 0<=i then (if i<n then some i.toNat else none)else if -(n:Int)<=i then some (i+n).toNat else none
def JP {α:Type} (xs:List α) (i:Int):Option α:=(J3 xs.length i).bind λj=>xs[j]?
theorem m6 {n:Nat}{i:Int}{j:Nat} (h:J3 n i=some j):seqIndex? i n=some j/\j<n/\-(n:Int)<=i/\i<n:=by
 unfold J3 at h
 by_cases h0:0<=i
 .rw [if_pos h0]at h
  by_cases h1:i<n
  .rw [if_pos h1]at h
   have e:i.toNat=j:=Bx h;exact⟨by rw[seqIndex_of h0 h1,e],by omega,by omega,h1⟩
  .rw [if_neg h1]at h;cases h
 .rw [if_neg h0]at h
  by_cases h1:-(n:Int)<=i
  .rw [if_pos h1]at h
   have e:(i+n).toNat=j:=Bx h;exact⟨by rw[seqIndex_neg (by omega) h1,e],by omega,h1,by omega⟩
  .rw [if_neg h1]at h;cases h
theorem jA {α:Type}{xs:List α}{i:Int}{v:α} (h:JP xs i=some v):∃j,seqIndex? i xs.length=some j/\xs[j]?=some v/\j<xs.length/\-(xs.length:Int)<=i/\i<xs.length:=by
 unfold JP at h;cases e:J3 xs.length i with
 | none=>rw[e]at h;cases h
 | some j =>
  rw[e]at h;obtain⟨h1,h2,h3,h4⟩:=m6 e;exact⟨j,h1,h,h2,h3,h4⟩
theorem xi {α:Type}{xs:List α}{j:Nat}{v:α} (h:xs[j]?=some v):JP xs (j:Int)=some v:=by
 have hj:j<xs.length:=(A3.mp h).1;have e:J3 xs.length (j:Int)=some j:=by
  unfold J3;rw[if_pos (by omega),if_pos (by omega)];simp
 unfold JP;rw[e];exact h
theorem vz {α:Type} (xs:List α) (v:α):JP (xs++[v]) (-1)=some v:=by
 have hl:(xs++[v]).length=xs.length+1:=by simp
 have e:J3 (xs++[v]).length (-1)=some xs.length:=by
  unfold J3;rw[hl,if_neg (by decide),if_pos (by omega)]
  congr 1
  omega
 unfold JP;rw[e];show(xs++[v])[xs.length]?=some v;simp
def wc (b:Expr):Prop:=∀o i,subscripted b false o i=operate [o,i] (getItem o i)
def JR (X:Cx) (r:R2):Prop :=
 ∀(value slice:Expr) (pins:List (Addr×Obj)) (s:zz8) (σ:St) (H:Hp) (x y:V) (v u:zz9) (Q:VK),Inv X pins σ H s->RelV x v->RelV y u->r x y H Q ->
  subscripted slice false v u=operate [v,u] (getItem v u)->wpAny (model X.prog X.w) X.A (subscriptTail value slice v u) (EP X pins σ Q) X.xe s
def RL (X:Cx) (id:String) (r:V->List V->Hp->VK->Prop):Prop :=
 ∀(pins:List (Addr×Obj)) (s:zz8) (σ:St) (H:Hp) (x:V) (xs:List V) (v:zz9) (us:List zz9) (Q:VK),Inv X pins σ H s->RelV x v->ar xs us->r x xs H Q ->
  wpAny (model X.prog X.w) X.A (call (.builtin id) (v::us)) (EP X pins σ Q) X.xe s
section
variable {X:Cx}{a b:Expr}{ta tb:TE}{pos:Pos}
theorem JR.or {r r':R2} (h:JR X r) (h':JR X r'):JR X (λx y H Q=>r x y H Q\/r' x y H Q):=by
 intro value slice pins s σ H x y v u Q I rx ry q hs
 rcases q with q|q
 .exact h value slice pins s σ H x y v u Q I rx ry q hs
 .exact h' value slice pins s σ H x y v u Q I rx ry q hs
theorem ax {r:R2} (hr:JR X r) (ha:PE X a ta) (hb:PE X b tb) (hs:wc b):PE X (.Subscript a b pos) (N8 r ta tb):=by
 intro pins s σ H Q I h;exact Subscript_ (kn ha hb I h λv u s2 x y H2 I2 rx ry q=>hr a b pins s2 σ H2 x y v u Q I2 rx ry q (hs _ _))
def qi (K:zz7):R2:=λx y H Q=>∃p xs i v,x=.ref p/\y=.int i/\FF K H p xs/\JP xs i=some v/\Q v H
def pY (K:zz7):R2:=λx y H Q=>∃p xs i v,x=.ref p/\y=.int i/\FE K H p xs/\JP xs i=some v/\Q v H
def qj:R2:=λx y H Q=>∃z i c,x=.str z/\y=.int i/\z.length<=sizeLine/\JP z.cps.toList i=some c/\Q (.str ⟨#[c]⟩) H
theorem vU:JR X (qi X.K):=by
 intro value slice pins s σ H x y v u Q I rx ry h hs;obtain⟨p,xs,i,z,rfl,rfl,hq,he,q⟩:=h;cases rx;obtain⟨t,rfl⟩:=ry;obtain⟨FC,r,pl,hz⟩:=I.list hq;obtain⟨j,h1,h2,h3,h4,h5⟩:=jA he;obtain⟨w,ew,GM⟩:=r.get h2;have hl:=r.length;have hn:=fg;have fin:EP X pins σ Q w s:=⟨z,H,I,GM,q⟩
 by_cases h0:0<=i
 .have hj:i.toNat=j:=by
   rw[seqIndex_of h0 h5]at h1;exact Bx h1
  exact item_listR pl.isList h0 (by omega) (by rw[hj];simpa using ew) fin hs
 .have hj:(i+(FC.toArray.size:Int)).toNat=j:=by
   rw[seqIndex_neg (by omega) h4]at h1;rw[A0,<- hl];exact Bx h1
  exact subscriptTail_builtinR (x:=w) pl.isList.typeIs slot_list_getitem.lookup
   (wpAny_getItem_list_neg (Q:=λr s'=>r=w/\EP X pins σ Q r s') pl.isList (by omega) (by rw[A0]<;>omega) (by omega) (by rw[hj];simpa using ew) ⟨rfl,fin⟩) hs
theorem yj:JR X (pY X.K):=by
 intro value slice pins s σ H x y v u Q I rx ry h hs;obtain⟨p,xs,i,z,rfl,rfl,hq,he,q⟩:=h;cases rx;obtain⟨t,rfl⟩:=ry;obtain⟨FC,r,pl,hz⟩:=I.tuple hq;obtain⟨j,h1,h2,h3,h4,h5⟩:=jA he;obtain⟨w,ew,GM⟩:=r.get h2;have hl:=r.length;have hn:=fg;have fin:EP X pins σ Q w s:=⟨z,H,I,GM,q⟩
 exact subscriptTail_builtinR (x:=w) pl.typeIs slot_tuple_getitem.lookup
  (getItem_tuple (j:=j) (Q:=λr s'=>r=w/\EP X pins σ Q r s') pl (by omega) (by omega) (by rw[A0,<- hl];exact h1) (by simpa using ew) ⟨rfl,fin⟩) hs
theorem xP:JR X qj:=by
 intro value slice pins s σ H x y v u Q I rx ry h hs;obtain⟨z,i,c,rfl,rfl,hz,he,q⟩:=h;obtain⟨t,rfl⟩:=rx;obtain⟨t',rfl⟩:=ry;obtain⟨j,h1,h2,h3,h4,h5⟩:=jA he;have hl:z.cps.toList.length=z.length:=by simp[Str.length]
 rw[hl]at h1 h4 h5;have hn:=fg
 exact tail_any (typeIs_str s z t) slot_str_getitem.lookup (getItem_str (c:=c) (by
  have e1:decide (i < -(2^63:Int))=false:=decide_eq_false (by omega);have e2:decide (i≥2^63)=false:=decide_eq_false (by omega)
  rw[e1,e2,Bool.or_false]) (by rw[h1];simpa using h2) ⟨.str ⟨#[c]⟩,H,I.tok _,⟨_,rfl⟩,q⟩) hs
def Pj (K:zz7):R2:=λx y H Q=>qi K x y H Q\/pY K x y H Q\/qj x y H Q
theorem aC:JR X (Pj X.K):=vU.or (yj.or xP)
theorem sM (FC:List zz9) (n j:Nat) (u:zz9):Obj.mapSeq (·.setIfInBounds j u) { cls:=.type "list",data:=.seq FC.toArray n }={ cls:=.type "list",data:=.seq (FC.set j u).toArray n }:=by
 simp[Obj.mapSeq]
theorem Inv.lst {pins:List (Addr×Obj)}{σ:St}{H:Hp}{s:zz8}{p:Addr}{xs:List V} (I:Inv X pins σ H s) (h:H p=some (.lst xs)) :
  ∃(FC:List zz9) (n:Nat),ar xs FC/\s.heap.get? p=some { cls:=.type "list",data:=.seq FC.toArray n }/\xs.length<=sizeLine:=by
 obtain⟨z,FC,n,r,e⟩:=I.hok p _ h;exact⟨FC,n,r,e,z⟩
theorem Inv.lstUpd {pins:List (Addr×Obj)}{σ:St}{H:Hp}{s:zz8}{p:Addr}{xs ys:List V}{FC its':List zz9}{n n':Nat}{f:Obj->Obj} (I:Inv X pins σ H s) (h:H p=some (.lst xs))
  (ho:s.heap.get? p=some { cls:=.type "list",data:=.seq FC.toArray n }) (hf:f { cls:=.type "list",data:=.seq FC.toArray n }={ cls:=.type "list",data:=.seq its'.toArray n' }) (r:ar ys its') (hz:ys.length<=sizeLine) (t:Nat) :
  Inv X pins σ (upd H p (.lst ys)) { s with heap:=s.heap.update p f,toks:=t }:=by
 have e:(s.heap.update p f).get? p=some { cls:=.type "list",data:=.seq its'.toArray n' }:=by
  rw[By f ho (by rw[hf]<;>rfl),hf]
 refine I.write (x:=p) (e:=p) (by rw[h];trivial) (.inl rfl) (λb u hb q=>(Ba _ _ (BX hb)).trans q) ⟨_,e⟩ ?_;exact⟨hz,its',n',r,e⟩
def yI:V->V->V->Hp->(Hp->Prop)->Prop:=λo i v H Q=>∃p xs k j,o=.ref p/\i=.int k/\H p=some (.lst xs)/\J3 xs.length k=some j/\Q (upd H p (.lst (xs.set j v)))
theorem set_list:pZ X yI:=by
 intro pins s σ H o i v ov iv u Q I ro ri rv h;obtain⟨p,xs,k,j,rfl,rfl,hp,hj,q⟩:=h;cases ro;obtain⟨t,rfl⟩:=ri;obtain⟨FC,n,r,ho,hz⟩:=I.lst hp;obtain⟨h1,h2,h3,h4⟩:=m6 hj;have hl:=r.length;have hn:=fg;have I':Inv X pins σ (upd H p (.lst (xs.set j v))) { s with heap:=s.heap.update p (Obj.mapSeq (·.setIfInBounds j u)) }:=
  I.lstUpd hp ho (sM FC n j u) (r.set rv j) (by rw[List.length_set];exact hz) s.toks
 by_cases h0:0<=k
 .have hk:k.toNat=j:=by
   rw[seqIndex_of h0 h4]at h1;exact Bx h1
  exact PySem.W.ki_setAt ho h0 (by omega) (by rw[A0,<- hl];exact h4) (by rw[hk];exact⟨_,I',q⟩)
 .have hk:(k+(FC.toArray.size:Int)).toNat=j:=by
   rw[seqIndex_neg (by omega) h3]at h1;rw[A0,<- hl];exact Bx h1
  exact PySem.W.ki_setBack ho (by omega) (by rw[A0,<- hl];exact h3) (by omega) (by rw[hk];exact⟨_,I',q⟩)
def eh:V->Bool
 | .non=>true
 | .bl _=>true
 | .int _=>true
 | .str _=>true
 | _=>false
def JN:V->V->Bool
 | .non,.non=>true
 | .bl a,.bl b=>a==b
 | .bl a,.int b=>(if a then 1 else 0)==b
 | .int a,.bl b=>a==(if b then 1 else 0)
 | .int a,.int b=>a==b
 | .str a,.str b=>a==b
 | _,_=>false
theorem yw {A:Around}{s:zz8}{y x:V}{u v:zz9} (ry:RelV y u) (rx:RelV x v) (fy:eh y=true) (fx:eh x=true):SeqAt.EqAt A s u v (JN y x):=by
 cases y with
 | non =>
  cases ry;cases x with
  | non=>cases rx;exact SeqAt.EqAt.same _
  | bl b=>cases rx;exact SeqAt.EqAt.none_bool b
  | int b=>obtain⟨t,rfl⟩:=rx;exact SeqAt.EqAt.none_int b t
  | str b=>obtain⟨t,rfl⟩:=rx;exact SeqAt.EqAt.none_str b t
  | _=>exact absurd (show false=true from fx) A2
 | bl a =>
  cases ry;cases x with
  | non=>cases rx;exact SeqAt.EqAt.bool_none a
  | bl b=>cases rx;exact SeqAt.EqAt.bool_bool a b
  | int b=>obtain⟨t,rfl⟩:=rx;exact SeqAt.EqAt.bool_int a b t
  | str b=>obtain⟨t,rfl⟩:=rx;exact SeqAt.EqAt.bool_str a b t
  | _=>exact absurd (show false=true from fx) A2
 | int a =>
  obtain⟨t',rfl⟩:=ry;cases x with
  | non=>cases rx;exact SeqAt.EqAt.int_none a t'
  | bl b=>cases rx;exact SeqAt.EqAt.int_bool a t' b
  | int b=>obtain⟨t,rfl⟩:=rx;exact SeqAt.EqAt.int_int a t' b t
  | str b=>obtain⟨t,rfl⟩:=rx;exact SeqAt.EqAt.int_str a t' b t
  | _=>exact absurd (show false=true from fx) A2
 | str a =>
  obtain⟨t',rfl⟩:=ry;cases x with
  | non=>cases rx;exact SeqAt.EqAt.str_none a t'
  | bl b=>cases rx;exact SeqAt.EqAt.str_bool a t' b
  | int b=>obtain⟨t,rfl⟩:=rx;exact SeqAt.EqAt.str_int a t' b t
  | str b=>obtain⟨t,rfl⟩:=rx;exact SeqAt.EqAt.str_str a t' b t
  | _=>exact absurd (show false=true from fx) A2
 | _=>exact absurd (show false=true from fy) A2
def Ie (x:V) (u:zz9):Bool:=match u with
 | .none=>JN .non x
 | .bool b=>JN (.bl b) x
 | .int i _=>JN (.int i) x
 | .str z _=>JN (.str z) x
 | _=>false
theorem oA {x y:V}{u:zz9} (r:RelV y u) (f:eh y=true):Ie x u=JN y x:=by
 cases y with
 | non=>cases r;rfl
 | bl b=>cases r;rfl
 | int i=>obtain⟨t,rfl⟩:=r;rfl
 | str z=>obtain⟨t,rfl⟩:=r;rfl
 | _=>exact absurd (show false=true from f) A2
theorem gf {x:V}:∀{xs:List V}{us:List zz9},ar xs us->xs.all eh=true->us.any (Ie x)=xs.any λy=>JN y x
 | _,_,.nil,_=>rfl
 | y::xs,u::us,.cons r t,f=>by
  rw[List.all_cons,B9]at f;rw[D9,D9,oA r f.1,gf t f.2]
theorem fZ {A:Around}{s:zz8}{x:V}{v:zz9} (rx:RelV x v) (fx:eh x=true):∀{xs:List V}{us:List zz9},ar xs us->xs.all eh=true->∀u∈us,SeqAt.EqAt A s u v (Ie x u)
 | _,_,.nil,_=>λu hu=>by cases hu
 | y::xs,u::us,.cons r t,f=>λu' hu=>by
  rw[List.all_cons,B9]at f
  rcases AO.mp hu with rfl|hu
  .rw [oA r f.1];exact yw r rx f.1 fx
  .exact fZ rx fx t f.2 u' hu
def Hc (x:V) (xs:List V):Bool:=xs.any λy=>JN y x
def Oh (K:zz7) (neg:Bool):R2:=λx y H Q=>∃p xs,y=.ref p/\(FF K H p xs\/FE K H p xs)/\eh x=true/\xs.all eh=true/\Q (.bl (if neg then !Hc x xs else Hc x xs)) H
theorem eG:Gs X (compareOp .In) (Oh X.K false):=by
 intro pins s σ H x y v u Q I rx ry h;obtain⟨p,xs,rfl,hq,fx,fs,q⟩:=h;cases ry
 rcases hq with hq|hq
 .obtain⟨FC,r,pl,hz⟩:=I.list hq
  refine SeqAt.in_listAt (Ie x) pl.isList (λw hw=>fZ rx fx r fs w (by simpa using hw)) ⟨.bl _,H,I,rfl,?_⟩;rw[show FC.toArray.any (Ie x)=FC.any (Ie x) by simp,gf r fs];exact q
 .obtain⟨FC,r,pl,hz⟩:=I.tuple hq
  refine SeqAt.in_tupleAt (Ie x) pl (λw hw=>fZ rx fx r fs w (by simpa using hw)) ⟨.bl _,H,I,rfl,?_⟩;rw[show FC.toArray.any (Ie x)=FC.any (Ie x) by simp,gf r fs];exact q
theorem fW:Gs X (compareOp .NotIn) (Oh X.K true):=by
 intro pins s σ H x y v u Q I rx ry h;obtain⟨p,xs,rfl,hq,fx,fs,q⟩:=h;cases ry
 rcases hq with hq|hq
 .obtain⟨FC,r,pl,hz⟩:=I.list hq
  refine SeqAt.notIn_listAt (Ie x) pl.isList (λw hw=>fZ rx fx r fs w (by simpa using hw)) ⟨.bl _,H,I,rfl,?_⟩;rw[show FC.toArray.any (Ie x)=FC.any (Ie x) by simp,gf r fs];exact q
 .obtain⟨FC,r,pl,hz⟩:=I.tuple hq
  refine SeqAt.notIn_tupleAt (Ie x) pl (λw hw=>fZ rx fx r fs w (by simpa using hw)) ⟨.bl _,H,I,rfl,?_⟩;rw[show FC.toArray.any (Ie x)=FC.any (Ie x) by simp,gf r fs];exact q
theorem aX:bh X (.builtin "len") (λxs H Q=>∃p ys,xs=[.ref p]/\(FF X.K H p ys\/FE X.K H p ys)/\Q (.int ys.length) H):=by
 intro pins s σ H xs us Q I r h;obtain⟨p,ys,rfl,hq,q⟩:=h;obtain⟨u,rfl,rx⟩:=vals1 r;cases rx;have hn:=fg
 rcases hq with hq|hq
 .obtain⟨FC,r',pl,hz⟩:=I.list hq
  have FJ:=r'.length;exact Calls.call_len_list pl.isList (by simp only[A0]<;>omega) ⟨.int ys.length,H,I.tok _,⟨s.toks+1,by rw[A0,FJ]⟩,q⟩
 .obtain⟨FC,r',pl,hz⟩:=I.tuple hq
  have FJ:=r'.length;exact len_tuple pl (by simp only[A0]<;>omega) ⟨.int ys.length,H,I.tok _,⟨s.toks+1,by rw[A0,FJ]⟩,q⟩
theorem qS:bh X (.builtin "len") (λxs H Q=>∃z,xs=[.str z]/\z.length<=sizeLine/\Q (.int z.length) H):=by
 intro pins s σ H xs us Q I r h;obtain⟨z,rfl,hz,q⟩:=h;obtain⟨u,rfl,t,rfl⟩:=vals1 r;have hn:=fg;exact len_str (by omega) ⟨.int z.length,H,I.tok _,⟨_,rfl⟩,q⟩
theorem iN:bh X (.type "list") (λxs H Q=>∃p ys,xs=[.ref p]/\(FF X.K H p ys\/FE X.K H p ys)/\∀l,H l=none->Q (.ref l) (upd H l (.lst ys))):=by
 intro pins s σ H xs us Q I r h;obtain⟨p,ys,rfl,hq,q⟩:=h;obtain⟨u,rfl,rx⟩:=vals1 r;cases rx;have fin:∀(FC:List zz9),ar ys FC->ys.length<=sizeLine->∀(h':Heap) (c':Nat),(∀b o',s.heap.get? b=some o'->h'.get? b=some o') ->
   h'.get? s.heap.objs.size=some { cls:=.type "list",dict:=none,data:=.seq FC.toArray c',slots:=#[] }->EP X pins σ Q (.ref s.heap.objs.size) { s with heap:=h' }:=λFC r' hz h' c' kp e =>
  ⟨.ref s.heap.objs.size,_,I.laid (t':=s.toks) kp (AY _) (show aD X.prog X.w _ h' _ (.lst ys) from⟨hz,FC,c',r',e⟩),rfl,q _ (I.hok.fresh (AY _))⟩
 rcases hq with hq|hq
 .obtain⟨FC,r',pl,hz⟩:=I.list hq
  have FJ:=r'.length;obtain⟨o,ho,hc,n,hd⟩:=pl.isList;exact call_list_seq p (.inl rfl) ho hc hd (λh' c' kp e=>fin FC r' hz h' c' kp e) (by simp only[A0]<;>omega)
 .obtain⟨FC,r',pl,hz⟩:=I.tuple hq
  have FJ:=r'.length;obtain⟨o,ho,hc,n,hd⟩:=pl;exact call_list_seq p (.inr rfl) ho hc hd (λh' c' kp e=>fin FC r' hz h' c' kp e) (by simp only[A0]<;>omega)
theorem dS:bh X (.type "tuple") (λxs H Q=>∃p ys,xs=[.ref p]/\((FF X.K H p ys/\∀l,H l=none->Q (.ref l) (upd H l (.tup ys)))\/(FE X.K H p ys/\Q (.ref p) H))):=by
 intro pins s σ H xs us Q I r h;obtain⟨p,ys,rfl,h⟩:=h;obtain⟨u,rfl,rx⟩:=vals1 r;cases rx
 rcases h with ⟨hq,q⟩|⟨hq,q⟩
 .obtain⟨FC,r',pl,hz⟩:=I.list hq
  have FJ:=r'.length;refine call_tuple_list pl.isList (λh' kp=>?_) (by simp only[A0]<;>omega);have I1:Inv X pins σ H { s with heap:=h' }:=I.kept (t':=s.toks) kp;have I2:Inv X pins σ (upd H h'.objs.size (.tup ys)) { s with heap:=h'.push { cls:=.type "tuple",data:=.seq FC.toArray } }:=
   I1.laid (t':=s.toks) (λb o e=>AH _ e) (AY _) (show aD X.prog X.w _ _ _ (.tup ys) from⟨hz,FC,r',IsTup.new _ _⟩)
  exact⟨.ref h'.objs.size,_,I2,rfl,q _ (I1.hok.fresh (AY _))⟩
 .obtain⟨FC,r',pl,hz⟩:=I.tuple hq
  exact call_tuple_same pl ⟨.ref p,H,I,rfl,q⟩
def RZ (K:zz7) (T:String) (x:V) (H:Hp):Prop:=match x with
 | .str _=>T="str"
 | .int _=>T="int"
 | .ref p=>(T="list"/\∃xs,FF K H p xs)\/(T="tuple"/\∃o,K.lookup p=some o/\o.cls=.type "tuple"/\o.dict=none) \/
   (T="dict"/\((∃kvs,H p=some (.dK kvs))\/∃kvs,H p=some (.dT kvs)))\/(T="set"/\∃S n,H p=some (.set S n))
 | _=>False
theorem xV {pins:List (Addr×Obj)}{σ:St}{H:Hp}{s:zz8}{T:String}{x:V}{v:zz9} (I:Inv X pins σ H s) (r:RelV x v) (ty:RZ X.K T x H) :
  s.TypeIs v T/\∀a,v=.ref a->∃ob,s.heap.get? a=some ob/\ob.dict=none:=by
 cases x with
 | str z =>
  obtain⟨t,rfl⟩:=r;cases (show T="str" from ty);exact⟨typeIs_str s z t,λ_ e=>nomatch e⟩
 | int i =>
  obtain⟨t,rfl⟩:=r;cases (show T="int" from ty);exact⟨typeIs_int s i t,λ_ e=>nomatch e⟩
 | ref p =>
  cases r
  rcases ty with ⟨rfl,xs,hq⟩|⟨rfl,o,hk,hc,hd⟩|⟨rfl,hk⟩|⟨rfl,S,n,hk⟩
  .obtain⟨FC,_,pl,_⟩:=I.list hq
   refine⟨pl.isList.typeIs,λa e=>?_⟩;cases e;obtain⟨o,n,e,c,hd,_⟩:=pl;exact⟨o,e,hd⟩
  .refine⟨⟨o,I.kIn p o hk,hc⟩,λa e=>?_⟩
   cases e;exact⟨o,I.kIn _ o hk,hd⟩
  .have z:∃o,s.heap.get? p=some o/\o.ExactDict:=by
    rcases hk with ⟨kvs,hk⟩|⟨kvs,hk⟩
    .obtain⟨_,_,_,_,o,_,_,e,ex,_⟩:=I.hok p _ hk
     exact⟨o,e,ex⟩
    .obtain⟨_,_,_,_,o,_,_,e,ex,_⟩:=I.hok p _ hk
     exact⟨o,e,ex⟩
   obtain⟨o,e,ex⟩:=z;refine⟨⟨o,e,ex.1⟩,λa e2=>?_⟩;cases e2;exact⟨o,e,ex.2.1⟩
  .obtain⟨o,_,_,_,e,ex,_⟩:=I.hok p _ hk
   refine⟨⟨o,e,ex.1⟩,λa e2=>?_⟩;cases e2;exact⟨o,e,ex.2.1⟩
 | _=>exact False.elim ty
def Vb (K:zz7) (T:String) (r:V->List V->Hp->VK->Prop) (to:TE) (t:TA):TE:=λσ H Q=>to σ H λx H1=>RZ K T x H1/\t σ H1 λxs H2=>r x xs H2 Q
variable {o e:Expr}{es:List Expr}{to:TE}{t:TA}{name:Str}{apos FR:Pos}{T id:String}{r:V->List V->Hp->VK->Prop}
theorem da (pa:PlainAttrs T) (slot:Slot T name id) (WT:typeOf (.builtin id)=pure (.type "method_descriptor")) (hm:RL X id r) (ho:PE X o to) (ha:PA X (e::es) t)
  (NL:attributeBase o name X.env (eval o X.env)=eval o X.env:=by rfl)
  (Jz:((backTo FR (starEach (e::es) X.env)).all (λx=>!x.1)&&(backToKw FR (keywordEach [] X.env)).all (λx=>x.1.isSome)
   && decide ((e::es).length+([]:List Keyword).length+(if ([]:List Keyword).isEmpty then 0 else 1)<30))=true:=by rfl)
  (Nt:(apos.endLine==FR.line)=true:=by rfl) (hs:starEach (e::es) X.env=(false,eval e X.env)::starEach es X.env:=by rfl) (Lp:(backTo FR (starEach es X.env)).any (·.1)=false:=by rfl) :
  PE X (.Call (.Attribute o name apos) (e::es) [] FR) (Vb X.K T r to t):=by
 intro pins s σ H Q I h;refine wpAny_Call_method_late NL Jz Nt rfl (FG (ho pins s σ H _ I h) λv s1 ⟨x,H1,I1,r1,ty,q1⟩=>?_);obtain⟨h1,h2⟩:=xV I1 r1 ty;refine⟨T,id,pa,slot,WT,h1,h2,?_⟩;have hA:=ha FR pins s1 σ H1 _ I1 q1;rw[hs]at hA ⊢;refine Calls.callWith_builtin (by show(false||(backTo FR (starEach es X.env)).any (·.1))=false;rw[Lp]<;>rfl) (En ?_);exact FG hA λus s2 ⟨vs,H2,I2,r2,q2⟩=>hm pins s2 σ H2 x vs v us Q I2 r1 r2 q2
/- xs.append(e),list.index on a M4 tuple .. are RL facts of 06m -/
end
def UC (X:Cx) (id:String) (r:V->List V->Hp->VK->Prop):Prop :=
 ∀(pins:List (Addr×Obj)) (s:zz8) (σ:St) (H:Hp) (x:V) (xs:List V) (v:zz9) (us:List zz9) (Q:VK),Inv X pins σ H s->RelV x v->ar xs us->r x xs H Q ->
  wpAny (model X.prog X.w) X.A (call (.builtin id) (v::us)) (EP X pins σ Q) X.xe s
theorem ar.one:∀{x:V}{us:List zz9},ar [x] us->∃u,us=[u]/\RelV x u
 | _,_,.cons r .nil=>⟨_,rfl,r⟩
theorem ar.two:∀{x y:V}{us:List zz9},ar [x,y] us->∃u v,us=[u,v]/\RelV x u/\RelV y v
 | _,_,_,.cons r (.cons q .nil)=>⟨_,_,rfl,r,q⟩
theorem ar.eraseIdx:∀{xs:List V}{us:List zz9} (i:Nat),ar xs us->ar (xs.eraseIdx i) (us.eraseIdx i)
 | _,_,_,.nil=>.nil
 | _,_,0,.cons _ t=>t
 | _,_,i+1,.cons r t=>.cons r (ar.eraseIdx i t)
theorem lC {α:Type}:∀(l:List α) (i:Nat),(l.eraseIdx i).length<=l.length
 | [],_=>AY _
 | _::_,0=>CT _
 | _::r,i+1=>Nat.succ_le_succ (lC r i)
section
variable {X:Cx}{pins:List (Addr×Obj)}{σ:St}{H:Hp}{s:zz8}{l b:Addr}{xs ys zs:List V}
theorem Inv.lset {FC its':List zz9}{n:Nat}{f:Array zz9->Array zz9}{t':Nat} (I:Inv X pins σ H s) (hH:H l=some (.lst xs))
  (e:s.heap.get? l=some { cls:=.type "list",data:=.seq FC.toArray n }) (hf:f FC.toArray=its'.toArray) (hv:ar ys its') (hz:ys.length<=sizeLine) :
  Inv X pins σ (upd H l (.lst ys)) { s with heap:=s.heap.update l (Obj.mapSeq f),toks:=t' }:=by
 have q:=PySem.IsL.update e f;rw[hf]at q;refine I.write (x:=l) (e:=l) (by rw[hH];exact trivial) (.inl rfl) (λb' u hb hu=>(Ba s.heap (Obj.mapSeq f) (BX hb)).trans hu) ⟨_,q⟩ ?_;exact⟨hz,its',_,hv,q⟩
theorem Inv.lnew {FC:List zz9}{t':Nat} (I:Inv X pins σ H s) (hv:ar ys FC) (hz:ys.length<=sizeLine) :
  Inv X pins σ (upd H s.heap.objs.size (.lst ys)) { s with heap:=s.heap.push { cls:=.type "list",data:=.seq FC.toArray },toks:=t' }:=
 I.laid (λ_ _ q=>AH _ q) (AY _) ⟨hz,FC,0,hv,AU _ rfl⟩
theorem Inv.fresh (I:Inv X pins σ H s):H s.heap.objs.size=none:=I.hok.fresh (AY _)
theorem Inv.lstM (I:Inv X pins σ H s) (hH:H l=some (.lst xs)):xs.length<=sizeLine/\∃(FC:List zz9) (n:Nat),ar xs FC/\xs.length=FC.length/\s.heap.get? l=some { cls:=.type "list",data:=.seq FC.toArray n }:=by
 obtain⟨z,FC,n,r,e⟩:=I.hok l _ hH;exact⟨z,FC,n,r,r.length,e⟩
end
section
variable {X:Cx}
def wy:V->List V->Hp->VK->Prop:=λx vs H Q=>∃l xs y,x=.ref l/\vs=[y]/\H l=some (.lst xs)/\xs.length<sizeLine/\Q .non (upd H l (.lst (xs++[y])))
theorem dD:UC X "list.append" wy:=by
 intro pins s σ H x vs v us Q I rx rv h;obtain⟨l,xs,y,rfl,rfl,hH,hz,q⟩:=h;cases rx;obtain⟨u,rfl,ru⟩:=rv.one;obtain⟨z,FC,n,r,hl,e⟩:=I.lstM hH;refine call_meets F.slot_list_append ⟨_,e,rfl⟩ F.entry_list_append (F.args_list_append_2 _ _) (PySem.list_append l FC.toArray n u (by rw[A0];omega)) ⟨e,?_⟩;refine⟨.non,_,I.lset (its':=FC++[u]) hH e (by simp) (r.append (.cons ru .nil)) ?_,rfl,q⟩;rw[Bu,Dx];omega
def xO:V->List V->Hp->VK->Prop:=λx vs H Q=>∃l xs i k y,x=.ref l/\vs=[.int i]/\H l=some (.lst xs)/\-(2^63)<=i/\i<2^63/\seqIndex? i xs.length=some k/\xs[k]?=some y/\Q y (upd H l (.lst (xs.eraseIdx k)))
theorem uH:UC X "list.pop" xO:=by
 intro pins s σ H x vs v us Q I rx rv h;obtain⟨l,xs,i,k,y,rfl,rfl,hH,h1,h2,hk,hy,q⟩:=h;cases rx;obtain⟨u,rfl,ru⟩:=rv.one;obtain⟨t,rfl⟩:=ru;obtain⟨z,FC,n,r,hl,e⟩:=I.lstM hH;obtain⟨w,hw,GM⟩:=r.get hy;refine call_meets F.slot_list_pop ⟨_,e,rfl⟩ F.entry_list_pop (F.args_list_pop_2 _ _)
  (MeetsSeq.list_pop_at l FC.toArray n i t k w (fitsIndex_both h1 h2) (by rw[A0,<- hl];exact hk) (by rw[<- BD];exact hw) (by rw[A0];omega)) ⟨e,?_⟩
 refine⟨y,_,I.lset (its':=FC.eraseIdx k) hH e ?_ (r.eraseIdx k) ?_,GM,q⟩
 .show FC.toArray.eraseIdxIfInBounds k=(FC.eraseIdx k).toArray
  rw[List.eraseIdxIfInBounds_toArray]
 .have:=lC xs k
  omega
def Ai:R2:=λx y H Q=>∃l b xs zs,x=.ref l/\y=.ref b/\H l=some (.lst xs)/\H b=some (.lst zs)/\xs.length+zs.length<=sizeLine/\∀p,H p=none->Q (.ref p) (upd H p (.lst (xs++zs)))
theorem xZ:Gs X (binaryOp .Add) Ai:=by
 intro pins s σ H x y v u Q I rx ry h;obtain⟨l,b,xs,zs,rfl,rfl,hH,hB,hz,q⟩:=h;cases rx;cases ry;obtain⟨z,FC,n,r,hl,e⟩:=I.lstM hH;obtain⟨z2,ID,n2,r2,Ow,e2⟩:=I.lstM hB;refine PySem.P.add_list e e2 ?_ (by rw[A0,A0];omega);have ea:FC.toArray++ID.toArray=(FC++ID).toArray:=by simp
 rw[ea];exact⟨.ref _,_,I.lnew (t':=s.toks) (r.append r2) (by rw[Bu];omega),rfl,q _ I.fresh⟩
end
section
variable {prog:Program}{w:World}{A:Around}{E:zz9->zz8->Prop}{s:zz8}
end
section
variable {X:Cx}
end
end L2
namespace Att
open PySem PySem.W PySem.Calls PyProof.Rows
theorem qt {P:Params}{h:Heap}:∀(ns:List Int) (vs:List zz9),WellAll P h vs (ns.map WData.int)->IntsAre vs ns:=by
 intro ns
 induction ns with
 | nil =>
  intro vs w;rw[Ff]at w;cases w;exact .nil
 | cons n ns ih =>
  intro vs w;rw[A8]at w;cases w with
  | cons a b =>
   cases a;exact .cons _ _ (ih _ b)
theorem ua {l:OpenLaw}{n:Nat} (hn:l.most=some n) {P:Params}{h:Heap}{args:List WData}{vals:List zz9}
  (J8:l.row.toRowW.claim.pre args=true) (PP:WellAll P h vals args) :
  ∃a vs ns,vals=[Value.ref a]/\args=[WData.list (ns.map WData.int)]/\h.get? a=some { cls:=.type "list",data:=.seq vs.toArray }/\IntsAre vs ns/\ns.length<=n:=by
 have WY:WShape.hasAll [] args [.list .int]=true:=(pre_splitW J8).1;have hc:l.pre.holds [] { args:=args }=true:=(pre_splitW J8).2;obtain⟨d,r,rfl,h1,h2⟩:=hasAllW_cons WY;obtain rfl:=hasAllW_nil h2;obtain⟨xs,rfl,h3⟩:=hasW_list h1;obtain⟨ns,rfl⟩:=items_int h3;have FJ:ns.length<=n:=by
  unfold OpenLaw.pre at hc;have h4:(WTm.not (.lt (.lit (.int (n:Int))) (.len (.arg 0)))).holds [] { args:=[.list (ns.map .int)] }=true:=by
   have h4:=(holds_andW hc).1;rw[hn]at h4;exact h4
  have h5:=condW_of h4 (w_not (w_lt w_lit (w_len_list (w_arg rfl))));rw[AG]at h5;refine Nat.le_of_not_lt λq=>?_;have q':(n:Int)<((ns.length:Nat):Int):=by omega
  first
   | (rw[decide_eq_true q']at h5;exact absurd h5 (by decide))
   | (simp at h5;omega)
 cases PP with
 | cons w1 w2 =>
  cases w2;cases w1 with
  | list ho Gm=>exact⟨_,_,ns,rfl,rfl,ho,qt ns _ Gm,FJ⟩
theorem tu (l:OpenLaw) (args:List WData):l.row.toRowW.claim.post args (.bool true) args=true :=
 postW_of (r:=l.row.toRowW) (X:=(true==true))
  (show WShape.has [] (.bool true) .bool=true by first|rfl|decide|simp[WShape.has,WShape.arms,WShape.armsAll])
  (show(WTm.eq .res (.lit (.bool true))).value [] { args:=args,res:=some (.bool true),after:=args }=some (.bool (true==true)) from w_eq_bool (w_res rfl) w_lit) rfl
theorem Ap {l:OpenLaw}{n:Nat}{q:Program}{loose:List Str}{XP:(Str->Option zz9)->Heap->Prop}{YP:World->Heap->Prop}{d:DefRec}
  (hn:l.most=some n) (NH:d.params.defaults=[])
  (call:∀(w:World) (s₀ s₁:zz8) (mg mb:Str->Option zz9) (fa:Addr) (o:Obj) (pm cd doc:zz9) (a:Addr) (vs:List zz9) (ns:List Int),
   Ground q loose [] XP w s₀ mg mb s₁.heap->YP w s₁.heap ->
   s₁.heap.get? fa=some o->o.data=.func (docDef d.name d.params d.body d.scope pm cd doc)->s₁.heap.CodeRec cd d.name->mg d.name=some (.ref fa) ->
   s₁.heap.get? a=some { cls:=.type "list",data:=.seq vs.toArray }->IntsAre vs ns->ns.length<=n->s₁.gens=#[] ->
   codeAny (model l.prog w) callerA (.call (.ref fa) ⟨[.ref a],[]⟩) (λr s'=>r=.ok (.ret (.bool true))/\OldK s₁.heap s'.heap/\s'.os=s₁.os/\AllBare s'.gens) s₁) :
  WalkO q loose XP YP l.row.toRowW d [] (λf vs=>PySem.call f vs):=by
 intro w s₀ s₁ mg mb G Y fa o pm cd doc dV kV ho hd IV hD Lx hg args vals as J8 Xn hrd PP Mc;obtain rfl:dV=.none:=Dflts.none hD NH;obtain rfl:kV=.none:=Dflts.noKw hD;obtain⟨a,vs,ns,rfl,rfl,Lv,hints,FJ⟩:=ua hn J8 PP;refine enter_call (Cy (call w s₀ s₁ mg mb fa o pm cd doc a vs ns G Y ho (fd_plain hd) IV Lx Lv hints FJ hg) λr s' hq=>?_);obtain⟨rfl,h2,h3,h4⟩:=hq;exact⟨.inl ⟨.bool true,.bool true,[],rfl,λ_=>rfl,.bool true,tu l _,λ_=>⟨List.Pairwise.nil,λ_ hm=>(nomatch hm)⟩⟩,h2,h3,h4⟩
section
variable {prog:Program}{w:World}{A:Around}{E:zz9->zz8->Prop}{s:zz8}{K:Frag}
end
end Att
namespace L2
open PySem PySem.Spec PyProof.Rows
theorem lF:∀{vs:List zz9}{ns:List Int},IntsAre vs ns->ar (ns.map V.int) vs
 | _,_,.nil=>.nil
 | _,_,.cons n t h=>.cons ⟨t,rfl⟩ (lF h)
def kl (H:Hp):Prop:=∀b,H b=none\/∃o xs,H b=some (.frz o (.lst xs))
theorem vC {P:Program}{w:World}{K:zz7}{mg mb:Str->Option zz9}{CX:IZ}{k:Nat}{fa a:Addr}{fd:FuncData}{x:Str}{sp:Sp}{s₁:zz8}{vs:List zz9}{ns:List Int}
  (KX:K.In s₁.heap) (HY:s₁.heap.Ns mainGlobals mg) (hb:s₁.heap.Ns builtinsNs mb) (LG:∀x:Str,x≠"__name__"->mb x=bootBuiltins x) (QM:s₁.heap.NoLimit) (hg:s₁.gens=#[])
  (ha:s₁.heap.get? a=some { cls:=.type "list",data:=.seq vs.toArray }) (hi:IntsAre vs ns) (hl:ns.length<=sizeLine) (hr:aO k callerA)
  (F:∀base:Heap,K.In base->base.Ns mainGlobals mg->aF P w K mg base CX k fa fd [x] sp) (NK:∀(s:zz8) (u:zz9),BindsTo s fd ⟨[u],[]⟩ [(x,u)])
  (Hk:∀H:Hp,kl H->FF K H a (ns.map V.int)->sp [.ref a] H (λv _=>v=.bl true) λ_ _ _=>False)
  (Ri:∀H e s',CX [] H s₁ (λ_ _ _=>False) e s'->False) :
  codeAny (model P w) callerA (.call (.ref fa) ⟨[.ref a],[]⟩) (λr s'=>r=.ok (.ret (.bool true))/\OldK s₁.heap s'.heap/\s'.os=s₁.os/\AllBare s'.gens) s₁:=by
 have rv:=lF hi;have PB:=hi.length;have core:∀H:Hp,kl H->FF K H a (ns.map V.int)->F0 P w H s₁.heap->(∀b,H b≠none->b=a)->(H a≠none->K.lookup a=none) ->
   codeAny (model P w) callerA (.call (.ref fa) ⟨[.ref a],[]⟩) (λr s'=>r=.ok (.ret (.bool true))/\OldK s₁.heap s'.heap/\s'.os=s₁.os/\AllBare s'.gens) s₁:=by
  intro H hO hS hok hA hK;have IA:∀{b:Addr}{o:Obj},s₁.heap.get? b=some o->H b=none->(eE s₁.heap H).get? b=some o:=λe n=>uV e n;have MY:∀{b:Addr}{o:Obj}{es:Array DictEntry}{ep:Nat},s₁.heap.get? b=some o->o.data=.dict es ep->H b=none:=λ{b o es ep} e d=>by
   cases q:H b with
   | none=>rfl
   | some u =>
    have e':b=a:=hA b (by rw[q];simp);subst e';rw[ha]at e;cases e;have d':Data.seq vs.toArray _=Data.dict es ep:=d;cases d'
  have Oj:∀{b:Addr}{m:Str->Option zz9},s₁.heap.Ns b m->(eE s₁.heap H).Ns b m:=λ{b m} ⟨o,es,ep,e,d,r⟩=>⟨o,es,ep,IA e (MY e d),d,r⟩
  have Uh:K.In (eE s₁.heap H):=λb o e=>IA (KX b o e) (by
   cases q:H b with
   | none=>rfl
   | some u =>
    have e':b=a:=hA b (by rw[q];simp);subst e'
    rw[hK (by rw[q];simp)]at e;cases e)
  have hM:Mod K mg (eE s₁.heap H):=⟨Uh,Oj HY,⟨mb,Oj hb,LG⟩,let ⟨mc,h1,h2⟩:=QM;⟨mc,Oj h1,h2⟩⟩
  have e0:fu P w K mg (eE s₁.heap H) callerA [] s₁ H:=⟨rfl,hM,λb o e=>xb e,Nat.le_of_eq (tN _ _),trivial,λb hb=>absurd (show b∈([]:List Addr) from hb) (by simp),hok,.of_eq hg⟩
  refine Cy ((F _ Uh (Oj HY)).run callerA [] s₁ H ⟨[.ref a],[]⟩ [.ref a] [.ref a] _ _ hr e0 (NK s₁ (.ref a)) (.cons rfl .nil) (Hk H hO hS)) λr s' h=>?_;cases r with
  | error e=>exact(Ri H e s' h).elim
  | ok fl =>
   cases fl with
   | next=>exact False.elim h
   | brk=>exact False.elim h
   | cont=>exact False.elim h
   | ret u =>
    obtain⟨v,H',os,bare,un,Qx,r',q⟩:=h;have q':v=.bl true:=q;subst q';obtain rfl:u=Value.bool true:=r';refine⟨rfl,OldK.of_keep λb o e=>?_,os,bare⟩;cases q:H b with
    | none=>exact un.keep b o e q (by intro z;exact absurd (show b∈([]:List Addr) from z) (by simp)) (by simp)
    | some u =>
     rcases hO b with z|⟨ob,xs,z⟩
     .rw [q]at z;cases z
     .have z2:=un.frzs b ob _ z
      obtain⟨e1,_⟩:=hok b _ z;obtain⟨e2,_⟩:=Qx b _ z2;rw[e]at e1;cases e1;exact e2
 cases hk:K.lookup a with
 | some o =>
  have e:=KX a o hk;rw[ha]at e;cases e;refine core (λ_=>none) (λ_=>.inl rfl) (.inr ⟨_,vs.toArray,_,hk,rfl,rfl,rfl,by rw[A0,PB];exact hl,by simpa using rv⟩) (λb u z=>by have z':(none:Option HO)=some u:=z;cases z') (λb z=>absurd rfl z) λz=>absurd rfl z
 | none =>
  refine core (λb=>if b=a then some (.frz { cls:=.type "list",data:=.seq vs.toArray } (.lst (ns.map V.int)))else none) (λb=>?_) (.inl (.inr ⟨{ cls:=.type "list",data:=.seq vs.toArray },if_pos rfl⟩)) (λb u z=>?_) (λb z=>?_) λ_=>hk
  .by_cases hb:b=a
   .exact .inr ⟨_,_,if_pos hb⟩
   .exact .inl (if_neg hb)
  .by_cases hb:b=a
   .have z':=(if_pos hb).symm.trans z
    cases z';subst hb;exact⟨ha,by rw[AG];exact hl,vs,_,rv,ha⟩
   .have z':=(if_neg hb).symm.trans z
    cases z'
  .by_cases hb:b=a
   .exact hb
   .exact absurd (if_neg hb) z
theorem Au {l:PySem.W.OpenLaw}{n k:Nat}{q:Program}{loose:List Str}{XP:(Str->Option zz9)->Heap->Prop}{YP:World->Heap->Prop}{d:DefRec}{K:Params->zz7}{CX:World->IZ}{sp:World->Sp}{x:Str}
  (hn:l.most=some n) (QF:n<=sizeLine) (NH:d.params.defaults=[]) (hr:aO k callerA)
  (hY:∀(w:World) (h:Heap),YP w h->(K w.params).In h)
  (F:∀(w:World) (mg:Str->Option zz9) (fa:Addr) (h:Heap),(K w.params).In h->h.Ns mainGlobals mg->mg d.name=some (.ref fa) ->
   ∃fd:FuncData,(∀(s:zz8) (u:zz9),BindsTo s fd ⟨[u],[]⟩ [(x,u)]) /\
    ∀base:Heap,(K w.params).In base->base.Ns mainGlobals mg->aF l.prog w (K w.params) mg base (CX w) k fa fd [x] (sp w))
  (Hk:∀(w:World) (H:Hp) (a:Addr) (ns:List Int),ns.length<=n->kl H->FF (K w.params) H a (ns.map V.int)->sp w [.ref a] H (λv _=>v=.bl true) λ_ _ _=>False)
  (Ri:∀(w:World) (H:Hp) (s:zz8) (e:zz9) (s':zz8),CX w [] H s (λ_ _ _=>False) e s'->False) :
  PySem.W.WalkO q loose XP YP l.row.toRowW d [] (λf vs=>PySem.call f vs):=by
 refine Att.Ap hn NH λw s₀ s₁ mg mb fa o pm cd doc a vs ns G Y ho hd IV Lx Lv hints FJ hg=>?_;have KX:=hY w _ Y;obtain⟨fd,hb,hF⟩:=F w mg fa _ KX G.T.g Lx;exact vC KX G.T.g G.T.b G.T.builtins G.T.nolimit hg Lv hints (Be FJ QF) hr hF hb (λH hO hS=>Hk w H a ns FJ hO hS) λH e s'=>Ri w H s₁ e s'
end L2
/- THE Yu ON (shape;LID,My.* are RW):
  My.Adr: a structure of Sd addresses U3 UQ S7 names (classes,Mm);My.Txt K t: a structure (Prop) of Sd equations over K;
  My.txt_mk:{K}{implicit addresses ..} (e1:nsIn K mainGlobals "law"=some (some (.ref f))) (e2:K.lookup f=some ⟨oc,od,.func (fnOf "law" "law" params body scope dV kV doc pm an Gn ct),sl⟩) (e3:codeIn K Gn "law"=true) ..:∃t,My.Txt K t
set_option maxRecDepth 100000 in
set_option maxHeartbeats 0 in
theorem PySem.Challenge.cw_LID_holds : PySem.Challenge.rw_LID.Holds := by
 w_on;o_law;k_head;(case hw=>w_witness2)
 k_fill
 refine L2.Au (l:=PySem.Challenge.rw_LID) (n:=63) (k:=40) (x:="script") (CX:=λw=>..) (sp:=λ_=>My.sp_law) rfl (by decide) rfl ⟨rfl,by decide,by decide⟩ (λw h Y=>PySem.W.kIn_of Y) ?F ?S ?C
 case F =>
  intro w mg fa h KX G Lx;have T:∃t,My.Txt (L2.KOf KX) t:=by
   dsimp only[L2.KOf]
   refine' My.txt_mk ?e1 ?e2 ?e3 ..
   (case e1=>PySem.W.k_is)
   (case e2=>PySem.W.k_is)
   ..
  obtain⟨t,T⟩:=T;have e0:=Lx.symm.trans (DJ KX G T.law);cases e0;exact⟨_,λs u=>.of_eq rfl,λbase kb nb=>My.law_fn T kb nb⟩
 case S=>exactλw H a ns hl hO hS=>..
 case C=>exact ..
(Sd tactic k_is has no namespace: write k_is) -/
namespace L2
open PySem PySem.Spec PyProof.Rows
def dn (s:Stmt):Arguments:=match s with
 | .FunctionDef _ a _ _ _ _ _ _ _ _=>a
 | _=>{ posonlyargs:=[],args:=[],vararg:=none,kwonlyargs:=[],kw_defaults:=[],kwarg:=none,defaults:=[] }
def cR (s:Stmt):List Stmt:=match s with
 | .FunctionDef _ _ b _ _ _ _ _ _ _=>b
 | _=>[]
def aE (s:Stmt):Scope:=match s with
 | .FunctionDef _ _ _ _ _ _ sc _ _ _=>sc
 | _=>{ kind:=.function,names:=[],isGenerator:=false,isCoroutine:=false }
abbrev FT:IZ:=λ_ _ _ _ _ _=>False
abbrev E0:XK:=λ_ _ _=>False
theorem yZ {X:Cx}:jG FT X E0:=λ_ _ _ _ _ _ _ h=>h.elim
structure FS (K:zz7) (x qual:Str) (st:Stmt) (f:Addr) (fd:FuncData):Prop where
 ex:∃(oc:zz9) (od:Option Addr) (kV doc pm:zz9) (an:Option Addr) (Gn ct:zz9) (JZ:Array (Option zz9)),
  fd=PySem.W.fnOf x qual (dn st) (cR st) (aE st) .none kV doc pm an Gn ct/\K.lookup f=some ⟨oc,od,.func fd,JZ⟩/\PySem.W.codeIn K Gn qual=true
 kp:PySem.W.keepIn K (.ref f)=true
variable {P:Program}{w:World}{K:zz7}{mg:Str->Option zz9}{base:Heap}{f:Addr}{fd:FuncData}
theorem FS.ok {x qual:Str}{st:Stmt}{f:Addr}{fd:FuncData}{N ps:List Str}{k:Nat}{sp:Sp} (F:FS K x qual st f fd) (S:aM N ps (aE st)) (len:∀vs H Q E,sp vs H Q E->vs.length=ps.length)
  (HG:∀(Gn:zz9) (A:Around) (outer:List Env) (s:zz8) (H:Hp) (vs:List V) (Q:VK) (E:XK),aO k (A.deeper (envOfC qual (aE st) s.heap.objs.size f Gn))->sp vs H Q E ->
   ∃t,HR (dO FT P w K mg base N qual (aE st) f Gn A outer s H E).nox (cR st) t/\t { nx:=λ_ H'=>Q .non H',rt:=Q } (start N vs) H):aF P w K mg base FT (k+1) f fd ps sp:=by
 obtain⟨oc,od,kV,doc,pm,an,Gn,ct,JZ,rfl,lk,IV⟩:=F.ex;refine pw lk IV S len λA outer s H vs Q E hr Hk=>?_;obtain⟨t,h,q⟩:=HG Gn A outer s H vs Q E hr Hk;exact⟨t,h.nox,q⟩
theorem FS.binds {x qual:Str}{st:Stmt}{f:Addr}{fd:FuncData}{ps:List Str} (F:FS K x qual st f fd)
  (h:∀(kV doc pm:zz9) (an:Option Addr) (Gn ct:zz9) (us:List zz9),us.length=ps.length->bindArgs (PySem.W.fnOf x qual (dn st) (cR st) (aE st) .none kV doc pm an Gn ct) ⟨us,[]⟩=pure (ps.zip us)):Binds K fd ps []:=by
 obtain⟨oc,od,kV,doc,pm,an,Gn,ct,JZ,rfl,lk,IV⟩:=F.ex;exact .all (h kV doc pm an Gn ct)
theorem ig {x qual:Str}{st:Stmt}{f:Addr}{oc:zz9}{od an:Option Addr}{JZ:Array (Option zz9)}{kV doc pm Gn ct:zz9} (l:K.lookup f=some ⟨oc,od,.func (PySem.W.fnOf x qual (dn st) (cR st) (aE st) .none kV doc pm an Gn ct),JZ⟩)
  (c:PySem.W.codeIn K Gn qual=true) (k:PySem.W.keepIn K (.ref f)=true):FS K x qual st f (PySem.W.fnOf x qual (dn st) (cR st) (aE st) .none kV doc pm an Gn ct):=⟨⟨oc,od,kV,doc,pm,an,Gn,ct,JZ,rfl,l,c⟩,k⟩
theorem zb {A:Around}{k:Nat} (hr:aO k A):A.units+1<cLine:=EK (Nat.add_le_add_left (by decide:1<=64) _) hr.units
theorem tT {n:Nat} (h:n<=1000):n<sizeLine:=EK h (by decide)
section
variable {X:Cx}
theorem pv (i:Nat) {x:Str}{pos:Pos} (hN:X.N[i]?=some x:=by rfl) (hv:OL X.env.scope x:=by first|exact Or.inl rfl|exact Or.inr (Or.inl rfl)|exact Or.inr (Or.inr rfl)) (hd:(x==("__debug__":Str))=false:=by decide)
  (IV:(x==("__classdict__":Str))=false:=by decide):PE X (.Name x pos) (kj i):=xo hN hv hd IV
end
theorem aG {A B:Prop} (h:B):if false=true then A else B:=by
 rw[if_neg A2];exact h
theorem be {A B:Prop} (h:A):if true=true then A else B:=by
 rw[if_pos rfl];exact h
theorem aZ {c A B:Prop} [Decidable c] (h1:c->A) (h2:¬ c->B):if c then A else B:=by
 by_cases h:c
 .rw [if_pos h]
  exact h1 h
 .rw [if_neg h]
  exact h2 h
theorem fm {c A B:Prop} [Decidable c] (hc:c) (h:B):if (!decide c)=true then A else B:=by
 rw[decide_eq_true hc];exact aG h
def aj (H H':Hp):Prop:=∀b o,H b=some o->H' b=some o
theorem aj.refl (H:Hp):aj H H:=λ_ _ h=>h
theorem aj.trans {H H1 H2:Hp} (a:aj H H1) (b:aj H1 H2):aj H H2:=λc o h=>b c o (a c o h)
theorem aj.free {H H':Hp} (e:aj H H') {l:Addr} (h:H' l=Option.none):H l=Option.none:=by
 cases q:H l with
 | none=>rfl
 | some o =>
  rw[e l o q]at h;cases h
theorem aj.seq {K:zz7}{H H':Hp}{a:Addr}{xs:List V} (e:aj H H') (h:FF K H a xs):FF K H' a xs:=by
 rcases h with (h|⟨o,h⟩)|h
 .exact .inl (.inl (e _ _ h))
 .exact .inl (.inr ⟨o,e _ _ h⟩)
 .exact .inr h
def bU (env:Env):List (Str×NameKind)->List (Str×Addr)->List (Str×Addr)
 | [],FH=>FH
 | (x,k)::r,FH=>if (k==NameKind.free)=true then (match env.cells.lookup x with|some c=>bU env r ((x,c)::FH)|none=>bU env r FH)else bU env r FH
theorem gK (env:Env):∀(ns:List (Str×NameKind)) (FH:List (Str×Addr)) (x:Str) (c:Addr),(x,c)∈bU env ns FH->(x,c)∈FH\/env.cells.lookup x=some c
 | [],FH,x,c,h=>.inl h
 | (y,k)::r,FH,x,c,h=>by
  unfold bU at h;split at h
  .split at h
   .next d e =>
    rcases gK env r _ x c h with z|z
    .rcases AO.mp z with q|q
     .cases q;exact .inr e
     .exact .inl q
    .exact .inr z
   .exact gK env r FH x c h
  .exact gK env r FH x c h
theorem gN (env:Env):∀(ns:List (Str×NameKind)) (FH:List (Str×Addr)) (p:Str×Addr),p∈FH->p∈bU env ns FH
 | [],FH,p,h=>h
 | (y,k)::r,FH,p,h=>by
  unfold bU;split
  .split
   .exact gN env r _ p (AR _ h)
   .exact gN env r _ p h
  .exact gN env r _ p h
theorem gP (env:Env):∀(ns:List (Str×NameKind)) (FH:List (Str×Addr)) (x:Str) (c:Addr),(x,NameKind.free)∈ns->env.cells.lookup x=some c->(x,c)∈bU env ns FH
 | [],FH,x,c,h,_=>nomatch h
 | (y,k)::r,FH,x,c,h,e=>by
  unfold bU
  rcases AO.mp h with q|q
  .cases q
   rw[if_pos (show(NameKind.free==NameKind.free)=true from rfl),e];exact gN env r _ _ AK
  .split
   .split
    .exact gP env r _ x c q e
    .exact gP env r _ x c q e
   .exact gP env r _ x c q e
theorem uU {l:List (Str×Addr)}{x:Str}{c:Addr} (h:(x,c)∈l):∃d,l.lookup x=some d:=by
 induction l with
 | nil=>cases h
 | cons p r ih =>
  obtain⟨y,d⟩:=p;rw[De];cases hx:x==y with
  | true=>exact⟨d,rfl⟩
  | false =>
   rcases AO.mp h with q|q
   .cases q
    rw[beq_self_eq_true]at hx;cases hx
   .exact ih q
theorem dm {env:Env}{ns:List (Str×NameKind)}{x:Str}{c:Addr} (h:(bU env ns []).lookup x=some c):env.cells.lookup x=some c:=by
 rcases gK env ns [] x c (Cw h)with z|z
 .cases z
 .exact z
theorem lV {env:Env}{ns:List (Str×NameKind)}{x:Str}{c:Addr} (h:(x,NameKind.free)∈ns) (e:env.cells.lookup x=some c):(bU env ns []).lookup x=some c:=by
 obtain⟨d,q⟩:=uU (gP env ns [] x c h e);rw[q,<- dm q,e]
theorem sP {env:Env}{scope:Scope} (h:∀x∈scope.names,x.2=NameKind.free->∃c,env.cells.lookup x.1=some c):closureFor scope env=pure (bU env scope.names []):=by
 have go:∀(ns:List (Str×NameKind)) (FH:List (Str×Addr)),(∀x∈ns,x.2=NameKind.free->∃c,env.cells.lookup x.1=some c) ->
   (forIn ns FH (λx cs=>match x with|(name,kind)=>if (kind==NameKind.free)=true then (do let c <- cellOf env name;pure (ForInStep.yield ((name,c)::cs)))else pure (ForInStep.yield cs)):Sem (List (Str×Addr)))=pure (bU env ns FH):=by
  intro ns
  induction ns with
  | nil=>intro FH _;rfl
  | cons p r ih =>
   intro FH hh;obtain⟨y,k⟩:=p;rw[Eo];unfold bU
   by_cases hk:(k==NameKind.free)=true
   .rw [if_pos hk]
    obtain⟨c,e⟩:=hh (y,k) AK (by cases k<;>first|rfl|cases hk)
    dsimp only at e ⊢
    rw[if_pos hk];unfold cellOf;rw[e];exact ih _ λx hx=>hh x (AR _ hx)
   .rw [if_neg hk]
    dsimp only
    rw[if_neg hk];exact ih _ λx hx=>hh x (AR _ hx)
 unfold closureFor;have q:=go scope.names [] h;simp only[bind_pure];exact q
def aA (X:Cx) (scope:Scope) (N:List Str) (C:Addr) (s0:zz8) (H0:Hp) (fp:List Addr):Cx :=
 { X with N:=N,s₀:=s0,H₀:=H0,env:=compEnvC scope (bU X.env scope.names []) C X.env,outer:=X.stack,stack:=X.stack,ex:=fp,fn:=λ_=>false,pn:=[],xe:=λ_ _=>False }
def Iz (ix:List (Option Nat)) (σ:St):St:=ix.map λo=>match o with|none=>none|some j=>(σ[j]?).join
def jM (No:List Str) (out:Str->Option NameKind) (scope:Scope) (N:List Str) (ix:List (Option Nat)):Bool :=
 (N.length==ix.length)&&(N.zip ix).all λp=>match p.2 with|none=>true|some j=>(No[j]?==some p.1)&&(scope.names.lookup p.1==some NameKind.free)&&((out p.1==some .cell)||(out p.1==some .free))
structure bJ (X:Cx) (scope:Scope) (N:List Str) (ix:List (Option Nat)):Prop where
 kind:scope.kind=.function
 names:scope.names.all (λx=>(x.2 != .cell)&&((x.2 != .local)||(scope.names.lookup x.1==some .local))&&((x.2 != .free)||(X.env.kindOf x.1==some .cell)||(X.env.kindOf x.1==some .free)))=true
 em:jM X.N X.env.kindOf scope N ix=true
 nd:N.Nodup
theorem j6 {scope:Scope}{env:Env}{x:Str}{k:NameKind}:∀{ns:List (Str×NameKind)},(ns.map λ(n,k)=>if (k==NameKind.free&&env.scope.kind==.function&&env.kindOf n==some .cell)=true then (n,NameKind.cell)else (n,k)).lookup x=some k ->
  (k=.cell\/k=.free)->(∀y∈ns,y.2≠.cell)->(x,NameKind.free)∈ns
 | [],h,_,_=>by cases h
 | (n,k')::r,h,hk,hc=>by
  have ih:=λh'=>j6 (scope:=scope) (env:=env) (x:=x) (k:=k) (ns:=r) h' hk λy hy=>hc y (AR _ hy);have key:∀Os:NameKind,List.lookup x ((n,Os)::(r.map λ(n,k)=>if (k==NameKind.free&&env.scope.kind==.function&&env.kindOf n==some .cell)=true then (n,NameKind.cell)else (n,k)))=some k ->
    (Os=k'\/(Os=.cell/\k'=.free))->(x,NameKind.free)∈(n,k')::r:=λOs h hq=>by
   rw[De]at h;cases hx:x==n with
   | true =>
    rw[hx]at h;cases h;have e:x=n:=eq_of_beq hx;subst e
    rcases hq with q|⟨_,q⟩
    .rcases hk with z|z
     .exact absurd (q.symm.trans z) (hc (x,k') AK)
     .rw [<- q,z];exact AK
    .rw [q];exact AK
   | false =>
    rw[hx]at h;exact AR _ (ih h)
  rw[A8]at h
  dsimp only at h
  split at h
  .next hh =>
   refine key _ h (.inr ⟨rfl,?_⟩);cases k'<;>first|rfl|(simp at hh)
  .exact key _ h (.inl rfl)
theorem oB {env:Env}{x:Str}:∀{ns:List (Str×NameKind)},ns.lookup x=some NameKind.free->∃k,(k=NameKind.cell\/k=NameKind.free) /\
  (ns.map λ(n,k)=>if (k==NameKind.free&&env.scope.kind==.function&&env.kindOf n==some .cell)=true then (n,NameKind.cell)else (n,k)).lookup x=some k
 | [],h=>by cases h
 | (n,k')::r,h=>by
  rw[De]at h;rw[A8]
  dsimp only
  cases hx:x==n with
  | true =>
   rw[hx]at h;cases h;split
   .exact⟨_,.inl rfl,by rw[De,hx]⟩
   .exact⟨_,.inr rfl,by rw[De,hx]⟩
  | false =>
   rw[hx]at h;obtain⟨k,hk,e⟩:=oB (env:=env) (ns:=r) h;refine⟨k,hk,?_⟩;split<;>(rw[De,hx];exact e)
section
variable {X:Cx}{scope:Scope}{N:List Str}{ix:List (Option Nat)}
theorem bJ.nocell (L:bJ X scope N ix):∀x∈scope.names,x.2≠.cell:=λx hx z=>by
 have q:=BL.mp L.names x hx;rw[z]at q;simp at q
theorem bJ.locals (L:bJ X scope N ix):∀x∈scope.names,x.2=.local->scope.names.lookup x.1=some .local:=λx hx z=>by
 have q:=BL.mp L.names x hx;rw[z]at q;simpa using q
theorem bJ.frees (L:bJ X scope N ix):∀x∈scope.names,x.2=.free->X.env.kindOf x.1=some .cell\/X.env.kindOf x.1=some .free:=λx hx z=>by
 have q:=BL.mp L.names x hx;rw[z]at q;simpa using q
theorem bJ.clos (L:bJ X scope N ix) (ok:X.Ok):closureFor scope X.env=pure (bU X.env scope.names []):=
 sP λx hx z=>ok.has _ (L.frees x hx z)
theorem bJ.len (L:bJ X scope N ix):N.length=ix.length:=by
 have q:=L.em;unfold jM at q;rw[B9]at q;exact eq_of_beq q.1
theorem bJ.out (L:bJ X scope N ix) {i j:Nat}{x:Str} (h1:N[i]?=some x) (h2:ix[i]?=some (some j)):X.N[j]?=some x/\scope.names.lookup x=some NameKind.free/\(X.env.kindOf x=some .cell\/X.env.kindOf x=some .free):=by
 have q:=L.em;unfold jM at q;rw[B9]at q;have hz:(N.zip ix)[i]?=some (x,some j):=by
  rw[List.getElem?_zip_eq_some];exact⟨h1,h2⟩
 have r:=BL.mp q.2 _ (AW hz);simp only[B9,Bool.or_eq_true,beq_iff_eq]at r;exact⟨r.1.1,r.1.2,r.2⟩
theorem zd (L:bJ X scope N ix) {pins:List (Addr×Obj)}{σ:St}{H2:Hp}{s2:zz8}{C:Addr}{fp:List Addr} (I2:Inv X pins σ H2 s2) (hC:s2.heap.objs.size<=C) (hf:∀b∈fp,bD X pins H2 b) (hb:∀b∈fp,b<s2.heap.objs.size) :
  (aA X scope N C s2 H2 fp).Ok where
 mod:=I2.ok.mod
 kind:=L.kind
 glob:=I2.ok.glob
 blt:=I2.ok.blt
 above:=hC
 inj:=λx y c h1 h2=>I2.ok.inj x y c (dm h1) (dm h2)
 has:=λx hx=>by
  have hm:(x,NameKind.free)∈scope.names:=by
   rcases hx with hx|hx
   .exact j6 (scope:=scope) (env:=X.env) hx (.inl rfl) L.nocell
   .exact j6 (scope:=scope) (env:=X.env) hx (.inr rfl) L.nocell
  obtain⟨c,e⟩:=I2.ok.has x (L.frees _ hm rfl);exact⟨c,lV hm e⟩
 cab:=λx c h _=>Bool.noConfusion h
 hd:=I2.ok.hd
 frames:=I2.ok.frames
 stk:=.inl rfl
 exf:=λb h=>⟨A4 (Bc (hb b h) hC),λx c e=>(hf b h).2.2.2.2.1 x c (dm e)⟩
 bs:=λb o e=>I2.bs b o e
 bsz:=Be I2.ok.bsz I2.sz
 noex:=λb o e h=>by
  rcases(hf b h).2.2.2.1 with z|z
  .exact I2.ok.noex b o e z
  .exact absurd (Bc (AN e) (Be I2.ok.bsz z)) (Bt _)
 exfs:=λb h z=>(AO.mp (I2.stkSub b z)).elim (hf b h).2.1 (hf b h).2.2.1
 funs:=I2.stack
 frf:=λb h=>I2.stkFree b h
end
def Je (X:Cx) (ifs:List Expr) (t:TT):Prop :=
 ∀(pins:List (Addr×Obj)) (s:zz8) (σ:St) (H:Hp) (Q:Bool->Hp->Prop),Inv X pins σ H s->t σ H Q ->
  wpAny (model X.prog X.w) X.A (forIn ifs true λc r=>if r=true then do let ok <- isTrue c X.env (eval c X.env);pure (ForInStep.yield ok)else pure (ForInStep.yield r)) (TP X pins σ Q) X.xe s
def bX:TT:=λ_ H Q=>Q true H
theorem bq {X:Cx}:Je X [] bX:=λ_ _ _ H _ I h=>wpAny_tests_nil ⟨H,I,h⟩
theorem cQ {X:Cx}{c:Expr}{t:TT} (h:PT X c t):Je X [c] t:=λpins s σ H Q I q=>wpAny_tests_one (h pins s σ H Q I q)
section
variable {prog:Program}{w:World}{A:Around}{R:Result->zz8->Prop}{s:zz8}
theorem xl {elt tg iter:Expr}{ifs:List Expr}{scope:Scope}{pos:Pos}{it FH:zz9}{env:Env} (J:Nat->zz8->Prop)
  (turn:∀n s,J n s->wpAny (model prog w) A (pyNext it) (λr s1=>match r with
   | none=>R (.ok .next) s1
   | some v=>wpAny (model prog w) A (letOwnedTupleGo tg it v) (λ_ s2=>wpAny (model prog w) A (assign tg env v) (λ_ s3 =>
     wpAny (model prog w) A (forIn ifs true λc r=>if r=true then do let ok <- isTrue c env (eval c env);pure (ForInStep.yield ok)else pure (ForInStep.yield r)) (λok s4 =>
      if ok=true then wpAny (model prog w) A (eval elt env) (λx s5=>wpAny (model prog w) A (call (.builtin "list.append") [FH,x]) (λ_ s6=>∃m,m<n/\J m s6) (λ_ _=>False) s5) (λ_ _=>False) s4
      else ∃m,m<n/\J m s4) (λ_ _=>False) s3) (λ_ _=>False) s2) (λ_ _=>False) s1) (λ_ _=>False) s)
  (n:Nat) (h:J n s):codeAny (model prog w) A (.compLoop (.ListComp elt [⟨tg,iter,ifs,0⟩] scope pos) 0 it FH env) R s:=by
 refine Fh rfl J (λk t hJ=>?_) n h;show wpAny _ A ((compTurn (.ListComp elt [⟨tg,iter,ifs,0⟩] scope pos) 0 it FH env).onRaise (λx=>do noteFrame x env;theTreesLotGoes x)) _ _ t;refine wpAny_noted (BK (E:=λ_ _=>False) ?_ (λ_ _ q=>q) λ_ _ f=>f.elim);rw[compTurn_list];refine AF (Cb (AF (FG (turn k t hJ) λr s1 h1=>?_)));cases r with
 | none=>exact AI h1
 | some v =>
  refine AF (FG h1 λ_ s2 h2=>AF (FG h2 λ_ s3 h3=>AF (FG h3 λok s4 h4=>?_)));cases ok with
  | false=>exact AI ⟨rfl,h4⟩
  | true=>exact AF (AF (FG h4 λx s5 h5=>AF (FG h5 λ_ s6 h6=>AI (AI ⟨rfl,h6⟩))))
end
def HS (J:It) (g:TG) (tt:TT) (te:TE) (σ':St) (fin:List V->Hp->Prop) (H1:Hp):Prop :=
 ∃W:Nat->Nat->List V->St->Hp->Prop,(∃m,W 0 m [] σ' H1)/\∀i m ys σ H,W i m ys σ H ->
  (J.stop i H/\ys.length<=sizeLine/\fin ys H)\/(J.go i H/\ys.length<sizeLine/\∃Nx:List V->St->Hp->Prop,(∀Gx σ' H',Nx Gx σ' H'->∃m',m'<m/\W (i+1) m' Gx σ' H') /\
   ∀x H',J.yld i H x H'->g x σ H' λσ2 H2=>tt σ2 H2 λb H3=>if b=true then te σ2 H3 (λv H4=>Nx (ys++[v]) σ2 H4)else Nx ys σ2 H3)
def Va (wi:TI) (g:TG) (tt:TT) (te:TE) (ix:List (Option Nat)):TE:=λσ H Q=>wi σ H λJ H1=>HS J g tt te (Iz ix σ) (λys H'=>∀p,H' p=none->Q (.ref p) (upd H' p (.lst ys))) H1
section
variable {X:Cx}{scope:Scope}{N:List Str}{ix:List (Option Nat)}
theorem pq {pins pins':List (Addr×Obj)}{σ σ':St}{H2 H':Hp}{s2 s':zz8}{C D:Addr}{fp:List Addr}{ys:List V}{FC:List zz9}{k:Nat}{h':Heap} (I2:Inv X pins σ H2 s2) (hf:∀b∈fp,bD X pins H2 b)
  (I':Inv (aA X scope N C s2 H2 fp) pins' σ' H' s') (hC:s2.heap.objs.size<=C) (hD:s2.heap.objs.size<=D) (G3:D≠C) (hn:H' D=none) (ho:s'.heap.get? D=some { cls:=.type "list",data:=.seq FC.toArray k }) (rv:ar ys FC) (hz:ys.length<=sizeLine)
  (hs:∀b o,b≠C->s'.heap.get? b=some o->h'.get? b=some o):Inv X pins σ (upd H' D (.lst ys)) { s' with heap:=h' }:=by
 have B:Un (Gc X.stack) fp H2 H' s2.heap s'.heap:=I'.base;have HA:∀b o,s2.heap.get? b=some o->b≠C:=λb o e=>A4 (Bc (AN e) hC);have VP:∀b o,s2.heap.get? b=some o->b≠D:=λb o e=>A4 (Bc (AN e) hD);have Rg:H' C=none:=I'.free;have tD:∀b u,H' b=some u->b≠D:=λb u e=>aq e hn;have tC:∀b u,H' b=some u->b≠C:=λb u e=>aq e Rg;refine I2.call' (s':={ s' with heap:=h' }) (ch:=fp) I'.os ⟨λb o e n hb hx=>?_,λb o e n hb hx=>?_,λb o e n hx=>?_,λb o e hx=>?_,λb xs e=>?_,λb o u e=>?_,λb ps e=>?_⟩ (λb u e=>?_) I'.bare λb hb=>⟨(hf b hb).2.2.2.1,(hf b hb).2.1,(hf b hb).2.2.2.2.1,(hf b hb).2.2.2.2.2⟩
 .exact hs b o (HA b o e) (B.keep b o e n hb hx)
 .obtain⟨sl,q⟩:=B.slot b o e n hb hx
  exact⟨sl,hs b _ (HA b o e) q⟩
 .rw [ag (VP b o e)];exact B.free b o e n hx
 .obtain⟨o',q⟩:=B.there b o e hx
  exact⟨o',hs b o' (HA b o e) q⟩
 .rw [ag (tD b _ (B.tups b xs e))];exact B.tups b xs e
 .rw [ag (tD b _ (B.frzs b o u e))];exact B.frzs b o u e
 .obtain⟨m,q⟩:=B.tbls b ps e
  exact⟨m,by rw[ag (tD b _ q)];exact q⟩
 .by_cases hb:b=D
  .subst hb
   rw[ak]at e;cases e;exact⟨hz,FC,k,rv,hs b _ G3 ho⟩
  .rw [ag hb]at e
   refine(I'.hok b u e).stay (λc v hc q=>hs c v ?_ q) (λc q=>by rw[ag (tD c _ q)];exact q) λc xs q=>by rw[ag (tD c _ q)];exact q
   rcases hc with z|z
   .rw [z];exact tC b u e
   .exact tC c _ z
theorem jW (L:bJ X scope N ix) {pins:List (Addr×Obj)}{σ:St}{H2:Hp}{s2:zz8}{C:Addr}{fp:List Addr}{h1:Heap}{tk:Nat}{m:Str->Option zz9} (I2:Inv X pins σ H2 s2) (hC:s2.heap.objs.size<=C) (hf:∀b∈fp,bD X pins H2 b) (hb:∀b∈fp,b<s2.heap.objs.size)
  (kp:∀b o,s2.heap.get? b=some o->h1.get? b=some o) (hn:h1.Ns C m):Inv (aA X scope N C s2 H2 fp) [] (Iz ix σ) H2 { s2 with heap:=h1,toks:=tk }:=by
 refine⟨zd L I2 hC hf hb,rfl,I2.bare,Un.kept kp,⟨m,hn,λi x v e1 e2 e3=>?_⟩,λx c e=>?_,I2.hok.fresh hC,λx c e=>I2.freeC x c (dm e),λp hp=>absurd (show p∈([]:List (Addr×Obj)) from hp) (by simp),I2.hok.kept kp,?_⟩
 .unfold Iz at e2
  rw[AZ]at e2;cases q:ix[i]? with
  | none=>rw[q]at e2;cases e2
  | some o =>
   rw[q]at e2;cases o with
   | none=>cases e2
   | some j =>
    have Mp:(σ[j]?).join=some v:=Bx e2;have e4:σ[j]?=some (some v):=by
     cases z:σ[j]? with
     | none=>rw[z]at Mp;cases Mp
     | some y=>rw[z]at Mp;exact congrArg some Mp
    obtain⟨a1,a2,a3⟩:=L.out e1 q;obtain⟨mo,_,hl⟩:=I2.loc;obtain⟨u,r,lk⟩:=hl j x v a1 e4 (.inr a3);refine⟨u,r,?_⟩
    rcases lk with ⟨k,_⟩|⟨k,c,e,o,ho,hd⟩
    .rcases a3 with z|z
     .rw [z]at k;cases k
     .rw [z]at k;cases k
    .obtain⟨k',Ny,e'⟩:=oB (env:=X.env) a2
     refine .inr ⟨?_,c,lV (Cw a2) e,o,kp _ _ ho,hd⟩
     rcases Ny with z|z
     .subst z;exact .inl e'
     .subst z;exact .inr e'
 .obtain⟨v,o,ho,hd⟩:=I2.cell x c (dm e)
  exact⟨v,o,kp _ _ ho,hd⟩
 .unfold Iz
  rw[AG];exact L.len.symm
variable {tg iter elt:Expr}{ifs:List Expr}{pos:Pos}{g:TG}{tt:TT}{te:TE}
theorem pb (L:bJ X scope N ix) (hc:X.calm=true) (hg:∀C s0 H0 fp,PG (aA X scope N C s0 H0 fp) tg g) (ht:∀C s0 H0 fp,Je (aA X scope N C s0 H0 fp) ifs tt) (he:∀C s0 H0 fp,PE (aA X scope N C s0 H0 fp) elt te)
  {pins:List (Addr×Obj)}{σ:St}{H2:Hp}{s2:zz8}{it:Addr}{fp:List Addr}{tn:Nat->Heap->Prop}{J:It}{fin:List V->Hp->Prop}{E:zz9->zz8->Prop}{RR:zz9->Addr->Result->zz8->Prop}
  (I2:Inv X pins σ H2 s2) (T:Turn X.prog X.w X.K tg J fp it tn) (st:tn 0 s2.heap) (f2:∀b∈fp,bD X pins H2 b) (hW:HS J g tt te (Iz ix σ) fin H2)
  (NP:∀D C s' m ys H',s'.heap.Ns C m->s'.os=s2.os->D≠C->bD X pins (upd H' D (.lst ys)) C->(∀h',Heap.SameBut C s'.heap h'->Inv X pins σ (upd H' D (.lst ys)) { s' with heap:=h' })->H' D=none->fin ys H'->RR (.ref D) C (.ok .next) s') :
  wpAny (model X.prog X.w) X.A (newList []) (λFH s3=>wpAny (model X.prog X.w) X.A (newFunctionEnv scope X.env.globals (bU X.env scope.names []) [] X.env.qual none .none (some X.env)) (λHH s4 =>
   codeAny (model X.prog X.w) X.A (.compStart (.ListComp elt [⟨tg,iter,ifs,0⟩] scope pos) 0 (.ref it) FH { HH with scope:=relabel scope X.env }) (RR FH HH.locals) s4) E s3) E s2:=by
 obtain⟨W,⟨m0,w0⟩,turn⟩:=hW;have JA:∀b∈fp,b<s2.heap.objs.size:=λb hb=>by
  obtain⟨o,e,_⟩:=T.obj _ _ st b hb;exact AN e
 refine BG (Ep L.nocell (by intro y hy;simp at hy) (λh1 HY Im=>?_) L.kind)
 dsimp only at HY Im ⊢
 generalize hG:s2.heap.push { cls:=.type "list",dict:=none,data:=.seq ([]:List zz9).toArray }=G at HY Im ⊢;have KL:G.objs.size=s2.heap.objs.size+1:=by rw[<- hG,Bz]
 generalize LI:s2.heap.objs.size=D at KL JA;generalize LL:G.objs.size=C at KL HY Im ⊢;have G3:D≠C:=by omega
 have nq:∀b:Nat,b<s2.heap.objs.size->b≠C/\b≠D:=λb h=>⟨by omega,by omega⟩
 have Le:∀b∈fp,b≠C/\b≠D:=λb hb=>nq b (by rw[LI];exact JA b hb);have kG:∀b o,s2.heap.get? b=some o->G.get? b=some o:=λb o e=>by rw[<- hG];exact AH _ e
 have kp:∀b o,s2.heap.get? b=some o->h1.get? b=some o:=λb o e=>Im.extBut b o (nq b (AN e)).1 (AH _ (kG b o e));have oD:∃n,h1.get? D=some { cls:=.type "list",data:=.seq ([]:List zz9).toArray n }:=⟨_,Im.extBut _ _ G3 (AH _ (by rw[<- hG,<- LI];exact AU _ rfl))⟩
 have I4:=jW L (tk:=s2.toks+([]:List (Str×zz9)).length) I2 (C:=C) (by omega) f2 (by rw[LI];exact JA) kp HY;have Ko:tn 0 h1:=T.keep _ _ _ st λb _ o e=>kp b o e;have Mg:D∉(aA X scope N C s2 H2 fp).fs:=λz=>by
  have z':D∈Gc X.stack:=z
  rcases AO.mp (I2.stkSub D z')with q|q
  .exact (nq _ I2.lt).2 q.symm
  .exact I2.nofs (a:=D) (by omega) q
 have HI:∀x c,(aA X scope N C s2 H2 fp).env.cells.lookup x=some c->c≠D:=λx c e z=>by
  obtain⟨v,o,ho,_⟩:=I2.cell x c (dm e);exact(nq c (AN ho)).2 z
 have stat:∀{H':Hp}{pl:List (Addr×Obj)},(∀b∈fp,H' b=none)->(∀p∈pl,p.1=D)->∀b∈fp,bD (aA X scope N C s2 H2 fp) pl H' b:=λ{H' pl} hn hp b hb=>by
  have FM:=JA b hb;refine⟨hn b hb,(Le b hb).1,λz=>?_,.inl hb,λx c e=>(f2 b hb).2.2.2.2.1 x c (dm e),λp hq z=>?_⟩
  .exact (AO.mp (I2.stkSub b z)).elim (f2 b hb).2.1 (f2 b hb).2.2.1
  .have Hl:p∈pl:=by simpa[aA]using hq
   exact(Le b hb).2 (z.symm.trans (hp p Hl))
 have JY:∀{pl:List (Addr×Obj)}{σ':St}{H':Hp}{s':zz8}{o:Obj},Inv (aA X scope N C s2 H2 fp) pl σ' H' s'->s'.heap.get? D=some o->H' D=none->(∀v,o.data≠.cell v)->Inv (aA X scope N C s2 H2 fp) [(D,o)] σ' H' s' :=
  λ{pl σ' H' s' o} I' ho hn hd=>I'.pins_of λp hp=>by
   have e:p=(D,o):=by simpa using hp
   subst e;exact⟨ho,hn,G3,Mg,hd⟩
 have loop:∀s4:zz8,s4={ s2 with heap:=h1,toks:=s2.toks+([]:List (Str×zz9)).length } ->
   codeAny (model X.prog X.w) X.A (.compLoop (.ListComp elt [⟨tg,iter,ifs,0⟩] scope pos) 0 (.ref it) (.ref D) (aA X scope N C s2 H2 fp).env) (RR (.ref D) C) s4:=by
  rintro s4 rfl;refine xl (λn s'=>∃i σ' H' ys FC k,Inv (aA X scope N C s2 H2 fp) [(D,{ cls:=.type "list",data:=.seq FC.toArray k })] σ' H' s'/\tn i s'.heap/\(∀b∈fp,H' b=none)/\ar ys FC/\W i n ys σ' H') ?_ m0 ?_
  .rintro n s' ⟨i,σ',H',ys,FC,k,I',F8,JB,rv,w'⟩
   have Re:=I'.pin _ (AV _ AK)
   rcases turn i n ys σ' H' w' with ⟨stop,hz,qf⟩|⟨go,hz,Nx,hN,step⟩
   .refine FG (T.done (aA X scope N C s2 H2 fp) rfl rfl rfl hc i _ s' σ' H' _ I' (stat JB (by simp)) F8 stop) λr s5 ⟨hr,I5⟩=>?_
    subst hr;have LK:=I5.pin _ (AV _ AK);obtain⟨m5,Nq,_⟩:=I5.loc;refine NP D C s5 m5 ys H' Nq I5.os G3 (I2.fpOk (by omega) (by rw[ag (BX G3)];exact I5.free)) (λh' GB=>?_) LK.2.1 qf;exact pq I2 f2 I5 (by omega) (by omega) G3 LK.2.1 LK.1 rv hz λb o hb e=>GB.extBut b o hb e
   .refine FG (T.item (aA X scope N C s2 H2 fp) rfl rfl rfl hc i _ s' σ' H' _ I' (stat JB (by simp)) F8 go) λr s5 ⟨u,hr,h5⟩=>?_
    subst hr;refine FG h5 λ_ s6 ⟨x,H6,I6,r6,y6,Hy,LO⟩=>?_;have LR:=I6.pinned (stat LO (by simp)) (T.obj _ _ Hy);refine FG (hg C s2 H2 fp _ s6 σ' H6 x u _ LR r6 (step x H6 y6)) λ_ s7 ⟨σ7,H7,I7,q7⟩=>?_;refine FG (ht C s2 H2 fp _ s7 σ7 H7 _ I7 q7) λok s8 ⟨H8,I8,q8⟩=>?_;have back:∀{H9:Hp}{s9:zz8},Inv (aA X scope N C s2 H2 fp) ([(D,{ cls:=.type "list",data:=.seq FC.toArray k })]++cW fp s6.heap) σ7 H9 s9->tn (i+1) s9.heap/\∀b∈fp,H9 b=none:=λ{H9 s9} I9=>by
     refine⟨T.keep _ _ _ Hy λb hb o e=>(I9.pin (b,o) (AV _ (AV _ (cU hb e)))).1,λb hb=>?_⟩;obtain⟨o,e,d⟩:=T.obj _ _ Hy b hb;exact(I9.pin (b,o) (AV _ (AV _ (cU hb e)))).2.1
    cases ok with
    | false =>
     rw[if_neg A2]at q8 ⊢;obtain⟨m',hm,w8⟩:=hN _ _ _ q8;obtain⟨KZ,LN⟩:=back I8;exact⟨m',hm,i+1,σ7,H8,ys,FC,k,I8.unpinned,KZ,LN,rv,w8⟩
    | true =>
     rw[if_pos rfl]at q8 ⊢;refine FG (he C s2 H2 fp _ s8 σ7 H8 _ I8 q8) λy s9 ⟨v,H9,I9,r9,q9⟩=>?_;have LJ:=I9.pin _ (AV _ (A7 _ AK));obtain⟨O0,Rp⟩:=back I9;refine wpAny_list_append_plain (hsz:=by have:=rv.length;rw[A0];omega) ⟨k,LJ.1⟩ λh' Hv GB=>?_;obtain⟨m',hm,w9⟩:=hN _ _ _ q9;obtain⟨k',GZ⟩:=Hv;have KP:Inv (aA X scope N C s2 H2 fp) [] σ7 H9 { s9 with heap:=h' }:=(I9.pins_of (pins':=[]) λp hp=>absurd hp (by simp)).turned (t':=s9.toks) (it:=D) (λb o hb e=>GB.extBut b o hb e) LJ.2.1 G3 (.inr (by show s2.heap.objs.size<=D;omega)) HI (λp hp=>absurd hp (by simp[aA]));refine⟨m',hm,i+1,σ7,H9,ys++[v],FC++[y],k',JY KP (by rw[GZ];simp) LJ.2.1 (λv z=>by cases z),?_,Rp,rv.append (.cons r9 .nil),w9⟩;exact T.keep _ _ _ O0 λb hb o e=>GB.extBut b o (Le b hb).2 e
  .obtain⟨n,e⟩:=oD
   exact⟨0,Iz ix σ,H2,[],[],n,JY I4 e (I2.hok.fresh (by omega)) (λv z=>by cases z),Ko,λb hb=>(f2 b hb).1,.nil,w0⟩
 have q:=loop _ rfl;exact codeAny_compStart_list q (T.self _ 0 _ _ _ Ko q)
end
theorem fX {ss:List Str}:∀{us:List zz9},ar (ss.map V.str) us->StrsAre us ss:=by
 induction ss with
 | nil=>intro us r;rw[Ff]at r;cases r;exact .nil
 | cons n ns ih =>
  intro us r;rw[A8]at r;cases r with
  | cons r1 r2 =>
   obtain⟨t,e⟩:=r1;subst e;exact .cons n t (ih r2)
theorem i3:∀{vs:List zz9}{ss:List Str},StrsAre vs ss->ar (ss.map V.str) vs
 | _,_,.nil=>.nil
 | _,_,.cons n t h=>.cons ⟨t,rfl⟩ (i3 h)
section
variable {X:Cx}
variable {scope:Scope}{N:List Str}{ix:List (Option Nat)}{tg iter elt:Expr}{ifs:List Expr}{pos:Pos}{g:TG}{tt:TT}{te:TE}{wi:TI}
theorem bo (L:bJ X scope N ix) (hc:X.calm=true) (hi:PI X tg iter wi) (hg:∀C s0 H0 fp,PG (aA X scope N C s0 H0 fp) tg g) (ht:∀C s0 H0 fp,Je (aA X scope N C s0 H0 fp) ifs tt) (he:∀C s0 H0 fp,PE (aA X scope N C s0 H0 fp) elt te)
  (hs:∀x,foldedSetIterable iter X.env x=pure x:=by intro _;rfl):PE X (.ListComp elt [⟨tg,iter,ifs,0⟩] scope pos) (Va wi g tt te ix):=by
 intro pins s σ H Q I h;rw[eval_ListComp];refine Df (use:=none) rfl hs (L.clos I.ok) L.kind L.locals (FG (hi pins s σ H _ I h) λv s1 h1=>FG h1 λLY s2 h2=>?_);obtain⟨it,fp,tn,J,H2,rfl,I2,T,GL,f2,hW⟩:=h2;refine pb (RR:=λFH C=>compPost (model X.prog X.w) X.A X.xe none (EP X pins σ Q) FH C) L hc hg ht he I2 T GL f2 hW ?_;intro D C s' m ys H' hn ho G3 hC hI hD fin;exact⟨m,hn,λh' GB=>⟨.ref D,_,hI h' GB,rfl,fin D hD⟩⟩
def yi (i:Nat) (wi:TI) (g:TG) (tt:TT) (te:TE) (ix:List (Option Nat)):TS:=λD σ H=>wi σ H λJ H1=>HS J g tt te (Iz ix σ) (λys H'=>∀p,H' p=none->D.nx (σ.set i (some (.ref p))) (upd H' p (.lst ys))) H1
theorem dX {i:Nat}{y:Str}{py Jg:Pos} (hN:X.N.Nodup) (Gv:X.N[i]?=some y) (hx:Loc X.env.scope y) (L:bJ X scope N ix) (hc:X.calm=true) (hi:PI X tg iter wi) (hg:∀C s0 H0 fp,PG (aA X scope N C s0 H0 fp) tg g)
  (ht:∀C s0 H0 fp,Je (aA X scope N C s0 H0 fp) ifs tt) (he:∀C s0 H0 fp,PE (aA X scope N C s0 H0 fp) elt te)
  (Qd:swapsWith (.ListComp elt [⟨tg,iter,ifs,0⟩] scope pos) (some (.Name y py)) Jg.line X.env=pure true:=by rfl) (hs:∀x,foldedSetIterable iter X.env x=pure x:=by intro _;rfl)
  (hf:X.fn y=true\/X.env.scope.names.lookup y=some .local:=by first|exact .inl rfl|exact .inr rfl|assumption) :
  PS X (.Assign [.Name y py] (.ListComp elt [⟨tg,iter,ifs,0⟩] scope pos) Jg) (yi i wi g tt te ix):=by
 intro pins s σ H D I h;rw[exec_Assign_Name_used _ _ _ _ Qd];refine AF (Cb (AF ?_));show wpAny _ X.A (do let _ <- comprehension (.ListComp elt [⟨tg,iter,ifs,0⟩] scope pos) scope X.env _ (newList []) false (eval iter X.env) (some (assign (.Name y py) X.env))) _ _ s
 refine AF (FG (Df (use:=some (assign (.Name y py) X.env)) (Q:=λ_ s'=>SP X pins D .next s') rfl hs (L.clos I.ok) L.kind L.locals
  (FG (hi pins s σ H _ I h) λv s1 h1=>FG h1 λLY s2 h2=>?_)) λ_ s' hq=>AI (AI hq))
 obtain⟨it,fp,tn,J,H2,rfl,I2,T,GL,f2,hW⟩:=h2;refine pb (RR:=λFH C=>compPost (model X.prog X.w) X.A X.xe (some (assign (.Name y py) X.env)) (λ_ s'=>SP X pins D .next s') FH C) L hc hg ht he I2 T GL f2 hW ?_;intro Da C s' m ys H' hn ho G3 hC hI hD fin;have I':=hI s'.heap (E3 _ _);show wpAny _ X.A (assign (.Name y py) X.env (.ref Da)) _ _ s';refine E2 (i8 (v:=.ref Da) I' hN Gv hx rfl (λLa LS ch=>?_) hf);obtain⟨a,LZ,PQ⟩:=ch;obtain⟨c1,c2,c3,c4,c5,c6⟩:=hC;have Rh:C≠a:=by
  rcases PQ with z|z
  .rw [z];exact c2
  .exact λw=>c5 y a z w.symm
 refine⟨m,hn.sameBut LZ Rh,λh' GB=>⟨_,_,LS.turned (t':=La.toks) (it:=C) (λb o hb e=>GB.extBut b o hb e) c1 c2 c4 c5 c6,fin Da hD⟩⟩
end
mutual
inductive DV (H:Hp):V->PyData->Prop
 | non:DV H .non .none
 | bl (b:Bool):DV H (.bl b) (.bool b)
 | int (i:Int):DV H (.int i) (.int i)
 | str (x:Str):DV H (.str x) (.str x)
 | tup {a:Addr}{xs:List V}{ds:List PyData}:H a=some (.tup xs)->Gq H xs ds->DV H (.ref a) (.tuple ds)
 | lst {a:Addr}{xs:List V}{ds:List PyData}:H a=some (.lst xs)->Gq H xs ds->DV H (.ref a) (.list ds)
inductive Gq (H:Hp):List V->List PyData->Prop
 | nil:Gq H [] []
 | cons {x:V}{d:PyData}{xs:List V}{ds:List PyData}:DV H x d->Gq H xs ds->Gq H (x::xs) (d::ds)
end
section
variable {P:Program}{w:World}{H:Hp}{h:Heap}
mutual
theorem DV.reads (ok:F0 P w H h):∀{x:V}{d:PyData}{u:zz9},DV H x d->RelV x u->∃as,Reads h u d as
 | _,_,u,.non,r=>by cases (show u=Value.none from r);exact⟨_,Reads.none⟩
 | _,_,u,.bl b,r=>by cases (show u=Value.bool b from r);exact⟨_,Reads.bool b⟩
 | _,_,u,.int i,r=>by obtain⟨t,e⟩:=(show∃t,u=Value.int i t from r);cases e;exact⟨_,Reads.int i t⟩
 | _,_,u,.str x,r=>by obtain⟨t,e⟩:=(show∃t,u=Value.str x t from r);cases e;exact⟨_,Reads.str x t⟩
 | _,_,u,.tup (a:=a) (xs:=xs) e q,r=>by
  cases (show u=Value.ref a from r);obtain⟨_,FC,rv,o,ho,hc,n,hd⟩:=(show aD P w H h a (.tup xs) from ok a _ e)
  obtain⟨as,z⟩:=Gq.reads ok q rv;exact⟨as,Reads.tuple ho hc hd (by simpa using z)⟩
 | _,_,u,.lst (a:=a) (xs:=xs) e q,r=>by
  cases (show u=Value.ref a from r);obtain⟨_,FC,n,rv,ho⟩:=(show aD P w H h a (.lst xs) from ok a _ e)
  obtain⟨as,z⟩:=Gq.reads ok q rv;exact⟨_,Reads.list ho rfl rfl (by simpa using z)⟩
theorem Gq.reads (ok:F0 P w H h):∀{xs:List V}{ds:List PyData}{us:List zz9},Gq H xs ds->ar xs us->∃as,ReadsAll h us ds as
 | _,_,_,.nil,.nil=>⟨_,ReadsAll.nil⟩
 | _,_,_,.cons a b,.cons r rs=>by
  obtain⟨as,p⟩:=DV.reads ok a r;obtain⟨bs,q⟩:=Gq.reads ok b rs;exact⟨_,ReadsAll.cons p q⟩
end
end
theorem Gq.strs {H:Hp}:∀ss:List Str,Gq H (ss.map V.str) (ss.map PyData.str)
 | []=>.nil
 | x::r=>.cons (.str x) (Gq.strs r)
section
variable {X:Cx}
open SeqAt in
theorem jF {k:Nat} (hr:aO k X.A):Gs X (compareOp .Eq) (λx y H Q=>∃d e,DV H x d/\DV H y e/\shaped d=true/\shaped e=true/\Q (.bl (PyData.eqv d e)) H):=by
 intro pins s σ H x y v u Q I rx ry h;obtain⟨d,e,dx,dy,sd,se,q⟩:=h;obtain⟨as,r1⟩:=dx.reads I.hok rx;obtain⟨bs,r2⟩:=dy.reads I.hok ry;exact eq_dataH r1 r2 sd se hr.units ⟨.bl (PyData.eqv d e),H,I,rfl,q⟩
open SeqAt in
theorem gm {k:Nat} (hr:aO k X.A):Gs X (compareOp .NotEq) (λx y H Q=>∃d e,DV H x d/\DV H y e/\shaped d=true/\shaped e=true/\Q (.bl (!PyData.eqv d e)) H):=by
 intro pins s σ H x y v u Q I rx ry h;obtain⟨d,e,dx,dy,sd,se,q⟩:=h;obtain⟨as,r1⟩:=dx.reads I.hok rx;obtain⟨bs,r2⟩:=dy.reads I.hok ry;exact ne_dataH r1 r2 sd se hr.units ⟨.bl (!PyData.eqv d e),H,I,rfl,q⟩
theorem kK {k:Nat} (hr:aO k X.A):bh X (.builtin "repr") (λxs H Q=>∃a d,xs=[.ref a]/\DV H (.ref a) d/\d.showable=true/\d.hasDict=false/\d.depth<=40/\d.shown.length<=sizeLine/\Q (.str d.shown) H):=by
 intro pins s σ H xs us Q I r h;obtain⟨a,d,rfl,dx,h1,h2,h3,h4,q⟩:=h;obtain⟨u,rfl,rx⟩:=vals1 r;cases rx;obtain⟨as,r1⟩:=dx.reads I.hok (show RelV (.ref a) (Value.ref a) from rfl);exact repr_of_reads' r1 h1 (λz=>by rw[h2]at z;cases z) hr.gd (by have:=hr.units;omega) (λ_ _ e=>e) (λh' t tk kp=>⟨.str d.shown,H,I.kept kp,⟨_,rfl⟩,q⟩) h4
theorem rV (bs:List Bool):((List.range bs.length).all λi=>(bs[i]?).getD true)=bs.all id:=by
 rw[CI,BL,BL];constructor
 .intro h b hb
  obtain⟨i,hi,e⟩:=Er.mp hb;have:=h i (BO.mpr hi);rw[AJ hi,e]at this;simpa using this
 .intro h i hi
  have hi:=BO.mp hi;rw[AJ hi];simpa using h _ (Bk hi)
theorem dC (hc:X.calm=true):bh X (.builtin "all") (λxs H Q=>∃(p:Addr) (bs:List Bool),xs=[.ref p]/\FF X.K H p (bs.map V.bl)/\Q (.bl (bs.all id)) H):=by
 intro pins s σ H xs us Q I r h;obtain⟨p,bs,rfl,hq,q⟩:=h;obtain⟨u,rfl,rx⟩:=vals1 r;cases rx;obtain⟨FC,r',pl,hz⟩:=I.list hq;have FM:p<s.heap.objs.size:=by obtain⟨o,n,e,_⟩:=pl;exact AN e
 have FJ:=r'.length;rw[AG]at FJ;refine call_all_walk (Cn pl.isList ?_)
 refine⟨s.heap.objs.size,[s.heap.objs.size,p],[s.heap.objs.size],FC.toArray.size,_,_,λi=>(bs[i]?).getD true,rfl,DU (A:=X.A.in1) (I.ok.hd hc) _ p (A4 FM) FC.toArray,
  ⟨⟨_,AU _ rfl,rfl,rfl⟩,pl.isList.push _⟩,λi v s' Q' E' hP hQ=>?_,λh' tk hk=>?_⟩
 .have NQ:FC[i]?=some v:=by simpa using hP
  have hb:∃b,bs[i]?=some b/\v=Value.bool b:=by
   have hi:i<bs.length:=by rw[FJ];exact(A3.mp NQ).1
   have e1:(bs.map V.bl)[i]?=some (V.bl bs[i]):=by rw[AZ,AJ hi];rfl
   obtain⟨w',e2,GM⟩:=r'.get e1;rw[NQ]at e2;cases e2;exact⟨bs[i],AJ hi,GM⟩
  obtain⟨b,e,rfl⟩:=hb;simp only[e,Option.getD_some]at hQ;exact BU hQ
 .have e:((List.range FC.toArray.size).all λi=>(bs[i]?).getD true)=bs.all id:=by
   rw[A0,<- FJ];exact rV bs
  rw[e];refine⟨.bl (bs.all id),H,I.kept (t':=tk) λb x e=>hk b x (λhm=>?_) (AH _ e),rfl,q⟩;rw[AQ.mp hm]at e;exact Bt _ (AN e)
theorem bV {T:String}:bh X (.builtin "isinstance") (λxs H Q=>∃x t b,xs=[x,.ty T]/\cM X.K H x t/\PySem.W.kitOne X.K t (.type T)=some b/\Q (.bl b) H):=by
 intro pins s σ H xs us Q I r h;obtain⟨x,t,b,rfl,ty,e,q⟩:=h;obtain⟨u,w',rfl,rx,ry⟩:=vals2 r;cases (show w'=Value.type T from ry);exact sU I rx ty e λtk=>⟨.bl b,H,I.tok tk,rfl,q⟩
theorem lE:Gs X (compareOp .LtE) (λx y H Q=>∃i j,x=.str i/\y=.str j/\Q (.bl (!decide (j.cps.toList<i.cps.toList))) H):=by
 intro pins s σ H x y v u Q I rx ry h;obtain⟨i,j,rfl,rfl,q⟩:=h;obtain⟨t,rfl⟩:=rx;obtain⟨t',rfl⟩:=ry;exact PySem.P.le_str ⟨.bl (!decide (j.cps.toList<i.cps.toList)),H,I,rfl,q⟩
theorem wK:RL X "str.join" (λx xs H Q=>∃(z:Str) (p:Addr) (ss:List Str),x=.str z/\xs=[.ref p]/\FF X.K H p (ss.map V.str)/\(ss.map (·.length)).sum+ss.length*z.length<=16777216/\Q (.str (Txt.join z ss)) H):=by
 intro pins s σ H x xs v us Q I rx rs h;obtain⟨z,p,ss,rfl,rfl,hq,hz,q⟩:=h;obtain⟨t,rfl⟩:=rx;obtain⟨u,rfl,ru⟩:=vals1 rs;cases ru;obtain⟨FC,r',pl,_⟩:=I.list hq;exact join_list pl.isList (fX r') hz λt' k=>⟨.str (Txt.join z ss),H,I.tok k,⟨_,rfl⟩,q⟩
theorem gF:bh X (.builtin "sorted") (λxs H Q=>∃(p:Addr) (ss:List Str),xs=[.ref p]/\FF X.K H p (ss.map V.str)/\ss.length<64/\∀(FZ:List Str) (q:Addr),FZ.Perm ss->sortedS FZ=true->H q=none->Q (.ref q) (upd H q (.lst (FZ.map V.str)))):=by
 intro pins s σ H xs us Q I r h;obtain⟨p,ss,rfl,hq,LM,q⟩:=h;obtain⟨u,rfl,rx⟩:=vals1 r;cases rx;obtain⟨FC,r',pl,hz⟩:=I.list hq;have FJ:=r'.length;rw[AG]at FJ;refine sorted_strs pl.isList (fX r') (by omega) λout FZ a1 a2 a3=>?_;obtain⟨e,he⟩:=sortedAll_at s.heap FC out;have hv:ar (FZ.map V.str) out.toList:=i3 a1;have IS:H (s.heap.objs.size+1)=none:=I.hok.fresh (CT _);refine⟨.ref (s.heap.objs.size+1),_,I.laid (t':=s.toks) (o:=.lst (FZ.map V.str)) (λb o z=>sortedAll_old z) (CT _) ⟨?_,out.toList,e,hv,?_⟩,rfl,q FZ _ a2 a3 IS⟩
 .rw [AG,a2.length_eq,Bw];omega
 .simpa [seqObj]using he
end
end L2
set_option maxHeartbeats 4000000
namespace L2
open PySem PySem.W PyProof.Rows
abbrev gp (p:Array Nat) (i:Nat):Nat:=p.getD i 0
structure Ord (N:Nat) (lt:Nat->Nat->Bool):Prop where
 tr:∀i j k,lt i j=true->lt j k=true->lt i k=true
 Tc:∀i,lt i i=false
 tot:∀i j,i<N->j<N->i≠j->lt i j=true\/lt j i=true
def Pm (N:Nat) (p:Array Nat):Prop:=p.Perm (List.toArray (List.range N))
theorem Pm.size {N:Nat}{p:Array Nat} (h:Pm N p):p.size=N:=by
 have:=Array.Perm.size_eq h;simpa using this
theorem eo {p:Array Nat}{i:Nat} (h:i<p.size):gp p i=p[i]:=by simp[gp,Array.getD,h]
theorem gU {p q:Array Nat}{i j:Nat} (h:p[i]?=q[j]?):gp p i=gp q j:=by simp[gp,BY,h]
theorem Pm.lt {N:Nat}{p:Array Nat} (h:Pm N p) {i:Nat} (hi:i<N):gp p i<N:=by
 have hs:i<p.size:=by rw[h.size];exact hi
 rw[eo hs];have hm:p[i]∈(List.toArray (List.range N)):=h.mem_iff.mp (Array.getElem_mem hs);simpa using hm
theorem Pm.nd {N:Nat}{p:Array Nat} (h:Pm N p):p.toList.Nodup:=by
 have hp:p.toList.Perm (List.range N):=by simpa using EW.mp h
 exact hp.nodup_iff.mpr Fj
theorem Pm.inj {N:Nat}{p:Array Nat} (h:Pm N p) {i j:Nat} (hi:i<N) (hj:j<N) (Gp:i≠j):gp p i≠gp p j:=by
 have Qi:i<p.size:=by rw[h.size];exact hi
 have Qh:j<p.size:=by rw[h.size];exact hj
 rw[eo Qi,eo Qh];intro e;have nd:=h.nd
 rcases C0 Gp with z|z
 .exact A5.mp nd i j (by simpa using Qi) (by simpa using Qh) z (by simpa using e)
 .exact A5.mp nd j i (by simpa using Qh) (by simpa using Qi) z (by simpa using e.symm)
section
variable {N:Nat}{lt:Nat->Nat->Bool}{cmp:Nat->Nat->(Bool->zz8->Prop)->zz8->Prop}{s:zz8}
def Ii (lt:Nat->Nat->Bool) (p:Array Nat) (b:Nat):Prop:=∀i j,i<j->j<b->lt (gp p i) (gp p j)=true
def Mu (lt:Nat->Nat->Bool) (p:Array Nat) (b:Nat):Prop:=∀i j,i<j->j<b->lt (gp p j) (gp p i)=true
theorem Ii.more (O:Ord N lt) {p:Array Nat}{n:Nat} (h:Ii lt p n) (h1:1<=n) (e:lt (gp p (n-1)) (gp p n)=true):Ii lt p (n+1):=λi j Gp hj=>by
 by_cases q:j<n
 .exact h i j Gp q
 .have:j=n:=by omega
  subst this
  by_cases z:i=j-1
  .rw [z];exact e
  .exact O.tr _ _ _ (h i (j-1) (by omega) (by omega)) e
theorem Mu.more (O:Ord N lt) {p:Array Nat}{n:Nat} (h:Mu lt p n) (h1:1<=n) (e:lt (gp p n) (gp p (n-1))=true):Mu lt p (n+1):=λi j Gp hj=>by
 by_cases q:j<n
 .exact h i j Gp q
 .have:j=n:=by omega
  subst this
  by_cases z:i=j-1
  .rw [z];exact e
  .exact O.tr _ _ _ e (h i (j-1) (by omega) (by omega))
theorem Ord.other (O:Ord N lt) {p:Array Nat} (hp:Pm N p) {i j:Nat} (hi:i<N) (hj:j<N) (Gp:i≠j) (e:lt (gp p i) (gp p j)≠true):lt (gp p j) (gp p i)=true :=
 (O.tot _ _ (hp.lt hi) (hp.lt hj) (hp.inj hi hj Gp)).resolve_left e
variable (O:Ord N lt) (hc:∀(i j:Nat) (C:Bool->zz8->Prop),i<N->j<N->i≠j->C (lt i j) s->cmp i j C s)
include O hc
theorem jK {p:Array Nat} (hp:Pm N p) {Q:Nat->zz8->Prop}:∀(f n:Nat),1<=n->n+f<=N->Ii lt p n->(∀m,n<=m->m<=n+f->Ii lt p m->(m=n+f\/lt (gp p m) (gp p (m-1))=true)->Q m s)->(kas_asc p f n).kasWp cmp Q s
 | 0,n,h1,hn,ha,k=>k n (AY _) (AY _) ha (.inl rfl)
 | f+1,n,h1,hn,ha,k=>by
  unfold kas_asc;refine hc _ _ _ (hp.lt (by omega)) (hp.lt (by omega)) (hp.inj (by omega) (by omega) (by omega)) ?_
  by_cases e:lt (gp p n) (gp p (n-1))=true
  .show KasT.kasWp cmp (if lt (gp p n) (gp p (n-1))=true then _ else _) Q s
   rw[if_pos e];exact k n (AY _) (by omega) ha (.inr e)
  .show KasT.kasWp cmp (if lt (gp p n) (gp p (n-1))=true then _ else _) Q s
   rw[if_neg e];exact jK hp f (n+1) (by omega) (by omega) (ha.more O h1 (O.other hp (by omega) (by omega) (by omega) e)) λm a b c d=>k m (by omega) (by omega) c (d.imp (λz=>by omega) id)
theorem mU {p:Array Nat} (hp:Pm N p) {Q:Array Nat×Nat×Nat->zz8->Prop}:∀(f n:Nat),1<=n->n+f<=N->Mu lt p n->(∀m,n<=m->m<=n+f->Mu lt p m->Q (p,m,0) s)->(kas_desc f p n 0).kasWp cmp Q s
 | 0,n,h1,hn,ha,k=>k n (AY _) (AY _) ha
 | f+1,n,h1,hn,ha,k=>by
  unfold kas_desc;refine hc _ _ _ (hp.lt (by omega)) (hp.lt (by omega)) (hp.inj (by omega) (by omega) (by omega)) ?_
  by_cases e:lt (gp p n) (gp p (n-1))=true
  .show KasT.kasWp cmp (if lt (gp p n) (gp p (n-1))=true then _ else _) Q s
   rw[if_pos e,if_neg (by omega)];exact mU hp f (n+1) (by omega) (by omega) (ha.more O h1 e) λm a b c=>k m (by omega) (by omega) c
  .show KasT.kasWp cmp (if lt (gp p n) (gp p (n-1))=true then _ else _) Q s
   rw[if_neg e];refine hc _ _ _ (hp.lt (by omega)) (hp.lt (by omega)) (hp.inj (by omega) (by omega) (by omega)) ?_;have e2:=O.other hp (show n<N by omega) (show n-1<N by omega) (by omega) e;show KasT.kasWp cmp (if lt (gp p (n-1)) (gp p n)=true then _ else _) Q s;rw[if_pos e2];exact k n (AY _) (by omega) ha
theorem yq {p:Array Nat} (hp:Pm N p) {m:Nat} (hm:m<=N) (h:Mu lt p m):Pm N (kas_rev p 0 m)/\Ii lt (kas_rev p 0 m) m:=by
 have hz:m<=p.size:=by rw[hp.size];exact hm
 refine⟨(mirror_perm p 0 m _).trans hp,λi j Gp hj=>?_⟩
 have g:∀k,k<m->gp (kas_rev p 0 m) k=gp p (0+m-1-k):=λk hk=>gU (by
  unfold kas_rev
  rw[getElem?_mirror_all hz,if_pos ⟨Bi _,hk⟩])
 rw[g i (by omega),g j hj];exact h _ _ (by omega) (by omega)
theorem ve {p:Array Nat} (hp:Pm N p) (h2:2<=N) {Q:Nat×Array Nat->zz8->Prop} (h0:∀m q,1<=m->m<=N->Pm N q->Ii lt q m->Q (m,q) s):(kas_count N p).kasWp cmp Q s:=by
 unfold kas_count;rw[DM];refine jK O hc hp (N-1) 1 (AY _) (by omega) (λi j a b=>by omega) λm a b c d=>?_
 by_cases e:(m==N)=true
 .rw [if_pos e]
  exact h0 m p a (by omega) hp c
 .rw [if_neg e]
  have hm:m≠N:=λz=>e (beq_iff_eq.mpr z)
  by_cases e1:m>1
  .rw [if_pos e1]
   refine hc _ _ _ (hp.lt (by omega)) (hp.lt (by omega)) (hp.inj (by omega) (by omega) (by omega)) ?_;show KasT.kasWp cmp (if lt (gp p 0) (gp p (m-1))=true then _ else _) Q s;rw[if_pos (c 0 (m-1) (by omega) (by omega))];exact h0 m p a (by omega) hp c
  .rw [if_neg e1]
   have:m=1:=by omega
   subst this;have e2:lt (gp p 1) (gp p (1-1))=true:=d.resolve_left (by omega);unfold kas_descPart;rw[DM]
   refine mU O hc hp (N-(1+1)) (1+1) (by omega) (by omega) (λi j x y=>by
    have:i=0:=by omega
    have:j=1:=by omega
    subst i j
    exact e2) λm' a' b' c'=>?_
   show KasT.kasWp cmp (if (0:Nat)>0 then _ else _) Q s;rw[if_neg (by omega)];show KasT.kasWp cmp (kas_tail3 m' N p) Q s;unfold kas_tail3;rw[DM];obtain⟨r1,r2⟩:=yq O hc hp (show m'<=N by omega) c';exact jK O hc r1 (N-m') m' (by omega) (by omega) r2 λWo x y z w=>h0 Wo _ (by omega) (by omega) r1 z
theorem jb {p:Array Nat} (hp:Pm N p) {k:Nat} (hk:k<N) (ha:Ii lt p k) {Q:Nat->zz8->Prop}:∀(f l r:Nat),l<=r->r<=k->r-l<=f->(∀i,i<l->lt (gp p i) (gp p k)=true)->(∀i,r<=i->i<k->lt (gp p k) (gp p i)=true) ->
  (∀l,l<=k->(∀i,i<l->lt (gp p i) (gp p k)=true)->(∀i,l<=i->i<k->lt (gp p k) (gp p i)=true)->Q l s)->(kas_place p k f l r).kasWp cmp Q s
 | 0,l,r,h1,h2,h3,hl,hr,q=>by
  have:l=r:=by omega
  subst this;exact q l h2 hl hr
 | f+1,l,r,h1,h2,h3,hl,hr,q=>by
  unfold kas_place
  by_cases e:l≥r
  .rw [if_pos e]
   have:l=r:=by omega
   subst this;exact q l h2 hl hr
  .rw [if_neg e]
   refine hc _ _ _ (hp.lt hk) (hp.lt (by omega)) (hp.inj hk (by omega) (by omega)) ?_
   by_cases c:lt (gp p k) (gp p ((l+r) / 2))=true
   .show KasT.kasWp cmp (if lt (gp p k) (gp p ((l+r) / 2))=true then _ else _) Q s
    rw[if_pos c];refine jb hp hk ha f l ((l+r) / 2) (by omega) (by omega) (by omega) hl (λi a b=>?_) q
    by_cases z:i=(l+r) / 2
    .rw [z];exact c
    .exact O.tr _ _ _ c (ha _ _ (by omega) b)
   .show KasT.kasWp cmp (if lt (gp p k) (gp p ((l+r) / 2))=true then _ else _) Q s
    rw[if_neg c];have c':=O.other hp hk (show(l+r) / 2<N by omega) (by omega) c;refine jb hp hk ha f ((l+r) / 2+1) r (by omega) h2 (by omega) (λi a=>?_) hr q
    by_cases z:i=(l+r) / 2
    .rw [z];exact c'
    .exact O.tr _ _ _ (ha i ((l+r) / 2) (by omega) (by omega)) c'
theorem oH {Q:Array Nat->zz8->Prop} (h0:∀q,Pm N q->Ii lt q N->Q q s):∀(f:Nat) (p:Array Nat) (k:Nat),k+f=N->Pm N p->Ii lt p k->(kas_bin f p k).kasWp cmp Q s
 | 0,p,k,hk,hp,ha=>h0 p hp (by rw[<- hk];exact ha)
 | f+1,p,k,hk,hp,ha=>by
  unfold kas_bin;rw[DM];refine jb O hc hp (show k<N by omega) ha k 0 k (by omega) (AY _) (by omega) (λi z=>by omega) (λi a b=>by omega) λl hl h1 h2=>?_;refine oH h0 f _ (k+1) (by omega) ((bubble_perm p k _).trans hp) λi j Gp hj=>?_;have hs:k<p.size:=by rw[hp.size];omega
  have g:∀i,gp (bubble p k (k-l)) i=if i=l then gp p k else if l<i/\i<=k then gp p (i-1)else gp p i:=λi=>by
   have e:=getElem?_bubble hs (k-l) (by omega) i;have e1:k-(k-l)=l:=by omega
   rw[e1]at e
   by_cases z1:i=l
   .rw [if_pos z1]at e ⊢;exact gU e
   .rw [if_neg z1]at e ⊢
    by_cases z2:l<i/\i<=k
    .rw [if_pos z2]at e ⊢;exact gU e
    .rw [if_neg z2]at e ⊢;exact gU e
  rw[g i,g j]
  by_cases a1:i=l
  .rw [if_pos a1,if_neg (by omega),if_pos (by omega)]
   exact h2 _ (by omega) (by omega)
  .rw [if_neg a1]
   by_cases a2:l<i/\i<=k
   .rw [if_pos a2,if_neg (by omega),if_pos (by omega)]
    exact ha _ _ (by omega) (by omega)
   .rw [if_neg a2]
    by_cases b1:j=l
    .rw [if_pos b1];exact h1 i (by omega)
    .rw [if_neg b1]
     by_cases b2:l<j/\j<=k
     .rw [if_pos b2]
      exact ha _ _ (by omega) (by omega)
     .rw [if_neg b2]
      exact ha _ _ Gp (by omega)
theorem vZ (h2:2<=N) {Q:Array Nat->zz8->Prop} (h0:∀q,Pm N q->Ii lt q N->Q q s):(kas_sort N).kasWp cmp Q s:=by
 unfold kas_sort;rw[DM];refine ve O hc (Array.Perm.refl _) h2 λm q a b hp ha=>?_;show KasT.kasWp cmp (if m<N then _ else _) Q s
 by_cases e:m<N
 .rw [if_pos e]
  have em:max m 1=m:=by omega
  show KasT.kasWp cmp (kas_bin (N-max m 1) q (max m 1)) Q s;rw[em];exact oH O hc h0 (N-m) q m (by omega) hp ha
 .rw [if_neg e]
  have:m=N:=by omega
  subst this;exact h0 q hp ha
end
end L2
namespace L2
open PySem PySem.Spec PyProof.Rows PySem.W PySem.Calls
section
variable {prog:Program}{w:World}{A:Around}{E:zz9->zz8->Prop}{s:zz8}
def jR (prog:Program) (w:World) (A:Around) (vs:List zz9) (lt:Nat->Nat->Bool) (s:zz8):Prop :=
 ∃κ:SortKind,(∀Q:SortKind->zz8->Prop,Q κ s->wpAny (model prog w) A (keyKind' vs.toArray) Q (λ_ _=>False) s) /\
  ∀(i j:Nat) (C:Bool->zz8->Prop),i<vs.length->j<vs.length->i≠j->C (lt i j) s->kas_ask prog w A κ vs i j C s
def cv (vs:List zz9) (p:Array Nat):List zz9:=p.toList.map λi=>vs.getD i Value.none
theorem kO {lt:Nat->Nat->Bool}{a:Addr}{vs:List zz9}{n:Nat}{P:PySem.Fin->zz8->Prop} (ho:s.heap.get? a=some (seqObj "list" vs.toArray n)) (LM:vs.length<64) (O:Ord vs.length lt)
  (hk:2<=vs.length->∀s':zz8,(∀b o,b≠a->s.heap.get? b=some o->s'.heap.get? b=some o)->jR prog w A vs lt s')
  (h:∀p,Pm vs.length p->Ii lt p vs.length->P (.done (.ret .none)) { s with heap:=sortedHeap s.heap a vs (cv vs p).toArray }) :
  wpAny (model prog w) A (Builtin.«list.sort» ⟨[.ref a],[]⟩) P E s:=by
 rw[list_sort_plain];have FM:a<s.heap.objs.size:=AN ho;have NB:vs.length<=sizeLine:=by rw[Bw];omega
 refine AF (listItems_at ho rfl (AF (listUpdate_at ho rfl ?_ (by rw[A0];exact NB) (Bi _))));obtain⟨e1,IL⟩:∃e1,(s.heap.update a (Obj.mapSeq λ_=>(#[]:Array zz9))).get? a=some (seqObj "list" #[] e1):=⟨_,get?_update_seq ho λ_=>#[]⟩
 refine AF (seqEpoch_at IL rfl (AF (wpAny_newTuple (AF (Ea (Bo ?_) (Bi _))) (by show vs.length<=_;exact NB))));have Ju:(((s.heap.update a (Obj.mapSeq λ_=>(#[]:Array zz9))).push (seqObj "tuple" vs.toArray 0)).push (seqObj "list" #[] 0)).get? a=some (seqObj "list" #[] e1):=AH _ (AH _ IL);show wpAny (model prog w) A _ P E { s with heap:=((s.heap.update a (Obj.mapSeq λ_=>(#[]:Array zz9))).push (seqObj "tuple" vs.toArray 0)).push (seqObj "list" #[] 0) }
 dsimp only
 by_cases h2:vs.toArray.size<2
 .rw [if_pos h2,if_pos h2]
  refine AF (AI ?_);rw[StateT.run_pure];refine AF (AI ?_)
  dsimp only
  have hz:((vs.toArray.zip vs.toArray).map (·.2))=(cv vs (List.toArray (List.range vs.length))).toArray:=by
   unfold cv;apply Array.ext
   .simp
   .intro i h1 h2
    simp only[EE,Array.size_zip,A0,Nat.min_self]at h1;simp[h1]
  have es:vs.toArray.size=vs.length:=by simp
  refine AF (seqEpoch_at Ju rfl (AF (listUpdate_at Ju rfl ?_ (Bi _) ?_)))
  .simp only[bne_self_eq_false,Bm,if_false]
   have q:=h (List.toArray (List.range vs.length)) (Array.Perm.refl _) (λi j Gp hj=>by omega);unfold sortedHeap at q;rw[<- hz]at q;exact AI q
  .show ((vs.toArray.zip vs.toArray).map (·.2)).size<=sizeLine+1
   simp only[EE,Array.size_zip,A0,Nat.min_self];omega
 .have Kc:2<=vs.length:=by rw[A0]at h2;omega
  rw[if_neg h2,if_neg h2];obtain⟨κ,kd,ask⟩:=hk Kc { s with heap:=((s.heap.update a (Obj.mapSeq λ_=>(#[]:Array zz9))).push (seqObj "tuple" vs.toArray 0)).push (seqObj "list" #[] 0) } λb o hb e =>
   AH _ (AH _ (by rw[DL _ _ _ _ hb];exact e))
  refine AF (BK (E:=λ_ _=>False) (Q:=λk s'=>k=κ/\s'={ s with heap:=((s.heap.update a (Obj.mapSeq λ_=>(#[]:Array zz9))).push (seqObj "tuple" vs.toArray 0)).push (seqObj "list" #[] 0) }) (kd _ ⟨rfl,rfl⟩) ?_ λ_ _ f=>f.elim);rintro k s' ⟨rfl,rfl⟩
  refine AF (BK (kat_run (ks:=vs) (G:=λp s'=>(Pm vs.length p/\Ii lt p vs.length)/\s'={ s with heap:=((s.heap.update a (Obj.mapSeq λ_=>(#[]:Array zz9))).push (seqObj "tuple" vs.toArray 0)).push (seqObj "list" #[] 0) })
   (Q:=λF8 s'=>∃p:Array Nat,arrOf F8=p.map (kas_item (vs.toArray.zip vs.toArray))/\failedOf F8=none/\(Pm vs.length p/\Ii lt p vs.length)/\s'={ s with heap:=((s.heap.update a (Obj.mapSeq λ_=>(#[]:Array zz9))).push (seqObj "tuple" vs.toArray 0)).push (seqObj "list" #[] 0) })
   rfl Kc LM (λp F8 s' _ a2 a3 a4=>⟨p,a2,a3,a4⟩) (vZ O ask Kc λq hq ha=>⟨⟨hq,ha⟩,rfl⟩)) ?_ λ_ _ e=>e)
  rintro⟨⟨⟩,F8⟩ s' ⟨p,XO,hf,⟨hp,ha⟩,rfl⟩
  dsimp only
  rw[kat_snds rfl XO];have hsz:(List.toArray (p.toList.map λi=>vs.getD i Value.none)).size<=sizeLine+1:=by
   rw[A0,AG,Bh,hp.size];omega
  refine AF (seqEpoch_at Ju rfl (AF (listUpdate_at Ju rfl ?_ (Bi _) hsz)));rw[hf];simp only[bne_self_eq_false,Bm,if_false];exact AI (h p hp ha)
theorem rG {l:Addr}{o:Obj}{vs:List zz9}{n:Nat}{T:String}{Q:List zz9->zz8->Prop} (hT:T="list"\/T="tuple") (ho:s.heap.get? l=some o) (hc:o.cls=.type T) (hd:o.data=.seq vs.toArray n)
  (h:Q vs { s with heap:=(s.heap.push (seqObj "list" #[] 0)).update s.heap.objs.size (Obj.mapSeq (·++vs.toArray)) }) (hsz:vs.length<=sizeLine):wpAny (model prog w) A (collect (.ref l)) Q E s:=by
 rcases hT with rfl|rfl
 .exact collect_list ⟨o,ho,hc,n,hd⟩ h hsz
 .unfold collect
  refine AF (EF (BF entry_proto_collect' ?_));show wpAny _ _ (do again (.builtin "list.__iadd__" ⟨[<- newList [],.ref l],[]⟩)) _ _ s;refine AF (Ea (AI ⟨Dp _ (by decide +kernel),BF entry_list_iadd' ?_⟩));show wpAny _ _ (Builtin.List.listExtendWith (.ref s.heap.objs.size) (.ref l) (.ref s.heap.objs.size)) _ _ { s with heap:=s.heap.push (seqObj "list" #[] 0) };unfold Builtin.List.listExtendWith;have GZ:(s.heap.push (seqObj "list" #[] 0)).get? l=some o:=AH _ ho;refine AF (Dy (T:="tuple") ⟨o,GZ,hc⟩ ?_);rw[if_pos (by rw[show(Value.type "tuple" == Value.type "tuple")=true from rfl];simp)];refine AF (listItems_at GZ hd (AF (listItems_at (xs:=#[]) (n:=0) (AU _ rfl) rfl ?_)));rw[if_neg (by simp)];refine AF (listUpdate_at (xs:=#[]) (n:=0) (AU _ rfl) rfl (AI ?_) (Bi _) (by show(#[]++vs.toArray).size<=sizeLine+1;simp only[Array.size_append,A0,Es];omega))
  show wpAny (model prog w) A (do
    let o <- load s.heap.objs.size
    match o.data with
    | .seq xs _=>pure xs.toList
    | _=>unsupported "internal:collect") Q E { s with heap:=(s.heap.push (seqObj "list" #[] 0)).update s.heap.objs.size (Obj.mapSeq (·++vs.toArray)) }
  refine AF (Fb (get?_update_seq (AU _ rfl) _) ?_);show wpAny _ _ (pure ((#[]:Array zz9)++vs.toArray).toList) Q E _;rw[show((#[]:Array zz9)++vs.toArray).toList=vs by simp];exact AI h
theorem ny {lt:Nat->Nat->Bool}{l:Addr}{o:Obj}{vs:List zz9}{n:Nat}{T:String}{Q:zz9->zz8->Prop} (hT:T="list"\/T="tuple") (ho:s.heap.get? l=some o) (hc:o.cls=.type T) (hd:o.data=.seq vs.toArray n) (LM:vs.length<64) (O:Ord vs.length lt)
  (hk:2<=vs.length->∀s':zz8,(∀b o,s.heap.get? b=some o->s'.heap.get? b=some o)->jR prog w A.in1.in1 vs lt s')
  (h:∀p,Pm vs.length p->Ii lt p vs.length->Q (.ref (s.heap.objs.size+1)) { s with heap:=sortedAll s.heap vs (cv vs p).toArray }):wpAny (model prog w) A (call (.builtin "sorted") [.ref l]) Q E s:=by
 refine Calls.call_function_entry kind_sorted plain_sorted entry_sorted (args_sorted1 _) ?_;unfold Builtin.«sorted»;refine AF (m:=checkCount "sorted" 1 1 _) (AI (AF (rG hT ho hc hd (AF (Ea ?_ (by rw[Bw];omega))) (by rw[Bw];omega))));have hsz:((s.heap.push (seqObj "list" #[] 0)).update s.heap.objs.size (Obj.mapSeq (·++vs.toArray))).objs.size=s.heap.objs.size+1:=by rw[Heap.size_update,size_push']
 have Jc:(((s.heap.push (seqObj "list" #[] 0)).update s.heap.objs.size (Obj.mapSeq (·++vs.toArray))).push (seqObj "list" vs.toArray 0)).get? (s.heap.objs.size+1)=some (seqObj "list" vs.toArray 0):=by
  rw[<- hsz];exact AU _ rfl
 show wpAny _ _ _ _ _ { s with heap:=((s.heap.push (seqObj "list" #[] 0)).update s.heap.objs.size (Obj.mapSeq (·++vs.toArray))).push (seqObj "list" vs.toArray 0) };rw[hsz];have kp:∀b o,s.heap.get? b=some o->(((s.heap.push (seqObj "list" #[] 0)).update s.heap.objs.size (Obj.mapSeq (·++vs.toArray))).push (seqObj "list" vs.toArray 0)).get? b=some o:=λb ob e=>by
  have hb:=AN e;refine AH _ ?_;rw[DL _ _ _ _ (A4 hb)];exact AH _ e
 refine AF (Bo (BH slot_list_sort ⟨_,Jc,rfl⟩ entry_list_sort (kO Jc LM O (λz s' GB=>hk z s' λb ob e=>GB b ob (by have:=AN e;exact A4 (B5 this)) (kp b ob e)) λp hp ha=>⟨_,rfl,?_⟩) (args_list_sort _)));exact AI ⟨_,rfl,h p hp ha⟩
end
theorem jH {h:Heap}:∀{vs fs:List zz9},KatTups h vs fs->∀(i:Nat),i<vs.length->∃a o xs n f,vs.getD i Value.none=.ref a/\h.get? a=some o/\o.data=.seq xs n/\xs[0]?=some f/\fs[i]?=some f
 | [],[],_,i,hi=>absurd hi (Et _)
 | [],_::_,t,_,_=>t.elim
 | _::_,[],t,_,_=>t.elim
 | v::vs,f::fs,t,0,_=>by
  obtain⟨⟨a,o,xs,n,rfl,ho,hc,hd,hf⟩,_⟩:=t;exact⟨a,o,xs,n,f,rfl,ho,hd,hf,rfl⟩
 | v::vs,f::fs,t,i+1,hi=>by
  obtain⟨_,t⟩:=t;obtain⟨a,o,xs,n,g,e1,e2,e3,e4,e5⟩:=jH t i (by simpa using hi);exact⟨a,o,xs,n,g,by simpa using e1,e2,e3,e4,by simpa using e5⟩
theorem jC:∀{fs:List zz9}{ss:List Str},StrsAre fs ss->∀(i:Nat) (f:zz9),fs[i]?=some f->∃t,f=.str (ss.getD i Str.empty) t/\i<ss.length
 | _,_,.nil,i,f,h=>by simp at h
 | _,_,.cons y t r,0,f,h=>by simp at h;exact⟨t,h.symm,by simp⟩
 | _,_,.cons y t r,i+1,f,h=>by
  obtain⟨t',e1,e2⟩:=jC r i f (by simpa using h);exact⟨t',by simpa using e1,by simpa using e2⟩
theorem yf {prog:Program}{w:World}{A:Around}{s:zz8}{vs fs:List zz9}{ss:List Str} (t:KatTups s.heap vs fs) (hS:StrsAre fs ss) (FQ:0<fs.length) (Gf:ss.Nodup) :
  jR prog w A vs (λi j=>decide ((ss.getD i Str.empty).cps.toList<(ss.getD j Str.empty).cps.toList)) s:=by
 refine⟨tuples' (Value.type "str" != Value.type "tuple"),λQ q=>kat_kind (T:=Value.type "str") t FQ (λv hv=>?_) (by decide) q,λi j C hi hj Gp q=>?_⟩
 .obtain⟨x,u,rfl⟩:=hS.all v hv
  exact Looks.now
 .obtain⟨a,o,xs,n,f,e1,e2,e3,e4,e5⟩:=jH t i hi
  obtain⟨b,o',ys,n',g,g1,g2,g3,g4,g5⟩:=jH t j hj;obtain⟨tf,rfl,GD⟩:=jC hS i f e5;obtain⟨tg,rfl,GG⟩:=jC hS j g g5;unfold kas_ask;rw[e1,g1];refine kat_lt e2 e3 g2 g3 ?_;obtain⟨xr,hx⟩:∃xr,xs.toList=.str (ss.getD i Str.empty) tf::xr:=by
   cases hq:xs.toList with
   | nil=>rw[<- BD,hq]at e4;simp at e4
   | cons z zr=>rw[<- BD,hq]at e4;simp at e4;rw[e4];exact⟨zr,rfl⟩
  obtain⟨yr,hy⟩:∃yr,ys.toList=.str (ss.getD j Str.empty) tg::yr:=by
   cases hq:ys.toList with
   | nil=>rw[<- BD,hq]at g4;simp at g4
   | cons z zr=>rw[<- BD,hq]at g4;simp at g4;rw[g4];exact⟨zr,rfl⟩
  rw[hx,hy];have Xi:ss.getD i Str.empty≠ss.getD j Str.empty:=by
   rw[Bf,Bf,AJ GD,AJ GG];intro z;have z':ss[i]=ss[j]:=z
   rcases C0 Gp with y|y
   .exact A5.mp Gf i j GD GG y z'
   .exact A5.mp Gf j i GG GD y z'.symm
  show KatLex prog w A _ _ C ((Value.str (ss.getD i Str.empty) tf,Value.str (ss.getD j Str.empty) tg)::xr.zip yr) 0 s;refine kat_cons (wpAny_eqBool_str ?_);rw[decide_eq_false Xi];refine kat_no ?_;show wpAny _ A (oneLt' true _ _) C _ s;exact strKind_oneLt prog w A _ s _ _ _ _ rfl rfl q
theorem jB {x y:Str} (h:x≠y):x.cps.toList<y.cps.toList\/y.cps.toList<x.cps.toList:=by
 by_cases c:x.cps.toList<y.cps.toList
 .exact .inl c
 .rcases List.le_iff_lt_or_eq.mp (List.not_lt.mp c)with z|z
  .exact .inr z
  .refine absurd ?_ h
   obtain⟨a⟩:=x;obtain⟨b⟩:=y;have e:b=a:=Array.toList_inj.mp z;rw[e]
def oJ (H:Hp) (rs:List (Addr×Str)):Prop:=∀r∈rs,∃rest,H r.1=some (.tup (.str r.2::rest))
abbrev refs (rs:List (Addr×Str)):List V:=rs.map λr=>V.ref r.1
def Gb (x y:Str):Prop:=x.cps.toList<y.cps.toList
theorem kT {P:Program}{w:World}{H:Hp}{h:Heap} (ok:F0 P w H h):∀{rs:List (Addr×Str)}{us:List zz9},oJ H rs->ar (refs rs) us->∃fs,KatTups h us fs/\StrsAre fs (rs.map (·.2))
 | [],us,_,r=>by cases r;exact⟨[],trivial,.nil⟩
 | x::rs,us,hr,r=>by
  cases r with
  | @cons _ u _ us' r1 r2 =>
   obtain⟨fs,t,q⟩:=kT ok (rs:=rs) (λy hy=>hr y (AR _ hy)) r2;obtain⟨rest,e⟩:=hr x AK;cases (show u=Value.ref x.1 from r1);obtain⟨_,FC,rv,o,ho,hc,n,hd⟩:=(show aD P w H h x.1 (.tup (.str x.2::rest)) from ok x.1 _ e)
   cases rv with
   | @cons _ f _ its' rf _ =>
    obtain⟨tk,rfl⟩:=rf;exact⟨.str x.2 tk::fs,KatTups.cons ho hc hd (by simp) t,.cons _ _ q⟩
theorem gJ {xs:List V}{us:List zz9} (r:ar xs us):∀{ps:List Nat},(∀i∈ps,i<xs.length)->ar (ps.map λi=>xs.getD i .non) (ps.map λi=>us.getD i Value.none)
 | [],_=>.nil
 | i::ps,h=>by
  have hi:=h i AK;obtain⟨u,e,ru⟩:=r.get (AJ hi);refine .cons ?_ (gJ r λj hj=>h j (AR _ hj));show RelV (xs.getD i .non) (us.getD i Value.none);rw[Bf,Bf,AJ hi,e];exact ru
theorem i5 {α:Type} (d:α) (xs:List α) {p:Array Nat} (h:Pm xs.length p):(p.toList.map λi=>xs.getD i d).Perm xs:=by
 have hp:p.toList.Perm (List.range xs.length):=by simpa using EW.mp h
 have e:(List.range xs.length).map (λi=>xs.getD i d)=xs:=by
  apply List.ext_getElem
  .simp
  .intro i h1 h2
   simp[h2]
 exact(hp.map _).trans (by rw[e])
section
variable {X:Cx}
theorem qV:bh X (.builtin "sorted") (λxs H Q=>∃(p:Addr) (rs:List (Addr×Str)),xs=[.ref p]/\(FF X.K H p (refs rs)\/FE X.K H p (refs rs))/\oJ H rs/\rs.length<64/\(rs.map (·.2)).Nodup /\
  ∀(HK:List (Addr×Str)) (q:Addr),HK.Perm rs->(HK.map (·.2)).Pairwise Gb->H q=none->Q (.ref q) (upd H q (.lst (refs HK)))):=by
 intro pins s σ H xs us Q I r h;obtain⟨p,rs,rfl,hq,hR,LM,Gf,q⟩:=h;obtain⟨u,rfl,rx⟩:=vals1 r;cases rx;have core:∀(T:String) (o:Obj) (FC:List zz9) (n:Nat),(T="list"\/T="tuple")->s.heap.get? p=some o->o.cls=.type T->o.data=.seq FC.toArray n->ar (refs rs) FC ->
   wpAny (model X.prog X.w) X.A (call (.builtin "sorted") [.ref p]) (EP X pins σ Q) X.xe s:=λT o FC n hT ho hc hd r'=>by
  have hl:=r'.length;have Hv:FC.length=rs.length:=by rw[<- hl];simp
  have O:Ord FC.length (λi j=>decide (((rs.map (·.2)).getD i Str.empty).cps.toList<((rs.map (·.2)).getD j Str.empty).cps.toList)):=by
   refine⟨λi j k h1 h2=>?_,λi=>?_,λi j hi hj Gp=>?_⟩
   .exact decide_eq_true (EX (of_decide_eq_true h1) (of_decide_eq_true h2))
   .exact decide_eq_false (DW _)
   .have GD:i<(rs.map (·.2)).length:=by simpa[<- Hv]using hi
    have GG:j<(rs.map (·.2)).length:=by simpa[<- Hv]using hj
    rw[Bf,Bf,AJ GD,AJ GG];have ne:(rs.map (·.2))[i]≠(rs.map (·.2))[j]:=by
     rcases C0 Gp with y|y
     .exact A5.mp Gf i j GD GG y
     .exact λz=>A5.mp Gf j i GG GD y z.symm
    exact(jB ne).imp decide_eq_true decide_eq_true
  refine ny hT ho hc hd (by omega) O (λh2 s' GB=>?_) λpm hp ha=>?_
  .obtain⟨fs,t,hS⟩:=kT (I.hok.kept GB) hR r'
   have Ia:0<fs.length:=by
    have:=hS.length;simp at this;omega
   exact yf t hS Ia Gf
  .obtain⟨e,he⟩:=sortedAll_at s.heap FC (cv FC pm).toArray
   have FY:Pm rs.length pm:=by rw[<- Hv];exact hp
   have FM:∀i∈pm.toList,i<rs.length:=λi hi=>by
    have:i∈(List.toArray (List.range rs.length)):=FY.mem_iff.mp (by simpa using hi);simpa using this
   have hv:ar ((pm.toList.map λi=>(refs rs).getD i .non)) (cv FC pm):=gJ r' λi hi=>by simpa using FM i hi
   have NF:(pm.toList.map λi=>(refs rs).getD i .non)=refs (pm.toList.map λi=>rs.getD i (0,Str.empty)):=by
    unfold refs;rw[A6];exact CM λi hi=>by simp[FM i hi]
   rw[NF]at hv;have IS:H (s.heap.objs.size+1)=none:=I.hok.fresh (CT _);have Jt:=i5 (0,Str.empty) rs FY;refine⟨.ref (s.heap.objs.size+1),_,I.laid (t':=s.toks) (o:=.lst (refs (pm.toList.map λi=>rs.getD i (0,Str.empty)))) (λb o z=>sortedAll_old z) (CT _) ⟨?_,cv FC pm,e,hv,?_⟩,rfl,q _ _ Jt ?_ IS⟩
   .unfold refs
    rw[AG,Jt.length_eq,Bw];omega
   .simpa [seqObj]using he
   .rw [A6,B6]
    refine A5.mpr λi j hi hj Gp=>?_;have GF:=hp.size;have Gv:i<pm.size:=by simpa using hi
    have KC:j<pm.size:=by simpa using hj
    have z:=of_decide_eq_true (ha i j Gp (by omega));rw[eo Gv,eo KC]at z;show((rs.getD pm.toList[i] (0,Str.empty)).2).cps.toList<((rs.getD pm.toList[j] (0,Str.empty)).2).cps.toList;have b1:=FM pm.toList[i] (Bk _);have b2:=FM pm.toList[j] (Bk _);simp only[Eu]at b1 b2 ⊢;simpa[b1,b2]using z
 rcases hq with hq|hq
 .obtain⟨FC,r',pl,hz⟩:=I.list hq
  obtain⟨o,ho,hc,n,hd⟩:=pl.isList;exact core "list" o FC n (.inl rfl) ho hc hd r'
 .obtain⟨FC,r',pl,hz⟩:=I.tuple hq
  obtain⟨o,ho,hc,n,hd⟩:=pl;exact core "tuple" o FC n (.inr rfl) ho hc hd r'
end
end L2
namespace L2
open PySem PySem.Spec PyProof.Rows
def OR (x:Str):It:=⟨λi _=>i<x.length,λi H v H'=>H'=H/\∃c,x.cps[i]?=some c/\v=.str ⟨#[c]⟩,λi _=>x.length<=i⟩
theorem vh {P:Program}{w:World}{K:zz7}{tg:Expr} (x:Str) (t:Tok) (it:Addr):Turn P w K tg (OR x) [it] it (λi h=>h.IsStrIter it "str_ascii_iterator" x t i) where
 mem:=by simp
 obj:=λi h st b hb=>by
  have e:b=it:=by simpa using hb
  subst e;obtain⟨o,e,c,d⟩:=st;exact⟨o,e,λv z=>by rw[d]at z;cases z⟩
 keep:=λi h h' st k=>by
  obtain⟨o,e,r⟩:=st;exact⟨o,k it (by simp) o e,r⟩
 item:=by
  intro X hP hw hK hc i pins s σ H E I hf st hg;subst hP hw hK;have Ox:i<x.cps.size:=hg;obtain⟨f0,f1,f2,f3,f4,f5⟩:=hf it (by simp);refine wpAny_pyNext_ascii_item st (Bp Ox) λh' F8 sb=>?_;have I1:Inv X pins σ H { s with heap:=h',toks:=s.toks+1 }:=I.turned (λb o hb e=>(sb.2 b hb).trans e) f0 f1 f3 f4 f5;obtain⟨o,e,c,d⟩:=id F8;exact⟨_,rfl,gv (s:={ s with heap:=h',toks:=s.toks+1 }) e c d (by decide) ⟨.str ⟨#[x.cps[i]]⟩,H,I1,⟨_,rfl⟩,⟨rfl,_,Bp Ox,rfl⟩,F8,λb hb=>(hf b hb).1⟩⟩
 done:=by
  intro X hP hw hK hc i pins s σ H E I hf st hg;subst hP hw hK;have Ox:x.cps.size<=i:=hg;obtain⟨f0,f1,f2,f3,f4,f5⟩:=hf it (by simp);exact wpAny_pyNext_ascii_end (I.ok.hd hc) st (CU Ox) λh' eb=>⟨rfl,I.turned (t':=s.toks) (λb o hb e=>eb b o hb e) f0 f1 f3 f4 f5⟩
 self:=λA i s Q E st h=>wpAny_pyIter_striter_ascii st h
section
variable {X:Cx}{tg:Expr}
def zH (tl:TE):TI:=λσ H R=>tl σ H λv H1=>∃x:Str,v=.str x/\x.cps.all (·<128)=true/\R (OR x) H1
theorem xH {l:Expr}{tl:TE} (hl:PE X l tl):PI X tg l (zH tl):=by
 intro pins s σ H R I h;refine FG (hl pins s σ H _ I h) λv s1 ⟨x,H1,I1,r1,q1⟩=>?_;obtain⟨y,rfl,ha,q⟩:=q1;obtain⟨t,rfl⟩:=r1;refine wpAny_pyIter_ascii ha ?_;refine⟨s1.heap.objs.size,[s1.heap.objs.size],_,_,H1,rfl,I1.kept (t':=s1.toks) λb o e=>AH _ e,vh y t _,⟨_,AU _ rfl,rfl,rfl⟩,λb hb=>?_,q⟩;have e:b=s1.heap.objs.size:=by simpa using hb
 subst e;exact I1.fpOk (AY _) (I1.hok.fresh (AY _))
theorem xX:Uu X (λx lo hi H Q=>∃z,x=.str z/\z.length<=sizeLine/\Q (.str (Txt.slice z lo hi)) H):=by
 intro pins s σ H x v vl vu lo hi sl Q I rx hs pl pu h;obtain⟨z,rfl,hz,q⟩:=h;obtain⟨t,rfl⟩:=rx;have fin:∀(t':Tok) (k:Nat),EP X pins σ Q (.str (Txt.slice z lo hi) t') { s with toks:=k }:=λt' k=>⟨.str (Txt.slice z lo hi),H,I.tok k,⟨_,rfl⟩,q⟩
 refine⟨"str",_,F.slot_str_getitem.lookup,typeIs_str _ _ _,?_⟩;obtain⟨o,ho,hc,hd⟩:=hs;cases pl with
 | none =>
  cases pu with
  | none=>exact Dk (l:=none) (u:=none) (st:=none) ⟨o,ho,hc,hd⟩ rfl (Ew ⟨Be (Ey z _ _) hz,λt' k=>fin t' k⟩)
  | int j uj=>exact Dk (l:=none) (u:=some (j,uj)) (st:=none) ⟨o,ho,hc,hd⟩ rfl (Ew ⟨Be (Ey z _ _) hz,λt' k=>fin t' k⟩)
 | int i ui =>
  cases pu with
  | none=>exact Dk (l:=some (i,ui)) (u:=none) (st:=none) ⟨o,ho,hc,hd⟩ rfl (Ew ⟨Be (Ey z _ _) hz,λt' k=>fin t' k⟩)
  | int j uj=>exact Dk (l:=some (i,ui)) (u:=some (j,uj)) (st:=none) ⟨o,ho,hc,hd⟩ rfl (Ew ⟨Be (Ey z _ _) hz,λt' k=>fin t' k⟩)
end
section
variable {K:zz7}{g:TG}{tt:TT}{te:TE}{σ':St}{fin:List V->Hp->Prop}{H1:Hp}
theorem hV {J:It}{n:Nat} (hn:n<sizeLine) (Pv:Nat->List V->St->Hp->Prop) (Yd:Nat->V->Prop) (h0:Pv 0 [] σ' H1) (hl:∀i ys σ H,i<=n->Pv i ys σ H->ys.length<=i)
  (Xw:∀i ys σ H,i<n->Pv i ys σ H->J.go i H) (GW:∀ys σ H,Pv n ys σ H->J.stop n H) (hy:∀i ys σ H x H',i<n->Pv i ys σ H->J.yld i H x H'->H'=H/\Yd i x)
  (hs:∀i x ys σ H,i<n->Yd i x->Pv i ys σ H->g x σ H λσ2 H2=>tt σ2 H2 λb H3=>if b=true then te σ2 H3 (λv H4=>Pv (i+1) (ys++[v]) σ2 H4)else Pv (i+1) ys σ2 H3) (hd:∀ys σ H,Pv n ys σ H->fin ys H) :
  HS J g tt te σ' fin H1:=by
 refine⟨λi m ys σ H=>m=n-i/\i<=n/\Pv i ys σ H,⟨n,by simp,Bi _,h0⟩,?_⟩;rintro i m ys σ H ⟨rfl,hi,p⟩;have hly:=hl i ys σ H hi p
 by_cases FM:i<n
 .refine .inr ⟨Xw i ys σ H FM p,by omega,λGx σ2 H2=>Pv (i+1) Gx σ2 H2,λGx σ2 H2 q=>⟨n-(i+1),by omega,rfl,FM,q⟩,λx H' y=>?_⟩
  obtain⟨e,yd⟩:=hy i ys σ H x H' FM p y;subst e;exact hs i x ys σ H' FM yd p
 .have e:i=n:=by omega
  subst e;exact .inl ⟨GW ys σ H p,by omega,hd ys σ H p⟩
theorem gY {a:Addr}{xs:List V} (hn:xs.length<sizeLine) (Pv:Nat->List V->St->Hp->Prop) (h0:Pv 0 [] σ' H1) (hl:∀i ys σ H,i<=xs.length->Pv i ys σ H->ys.length<=i/\FE K H a xs)
  (hs:∀i x ys σ H,xs[i]?=some x->Pv i ys σ H->g x σ H λσ2 H2=>tt σ2 H2 λb H3=>if b=true then te σ2 H3 (λv H4=>Pv (i+1) (ys++[v]) σ2 H4)else Pv (i+1) ys σ2 H3) (hd:∀ys σ H,Pv xs.length ys σ H->fin ys H) :
  HS (JS K a) g tt te σ' fin H1 :=
 hV hn Pv (λi x=>xs[i]?=some x) h0 (λi ys σ H hi p=>(hl i ys σ H hi p).1) (λi ys σ H hi p=>⟨xs,xs[i],(hl i ys σ H (Cq hi) p).2,by simp[hi]⟩) (λys σ H p=>⟨xs,(hl _ ys σ H (AY _) p).2,AY _⟩)
  (λi ys σ H x H' hi p y=>⟨y.1,y.2 xs (hl i ys σ H (Cq hi) p).2⟩) (λi x ys σ H _ yd p=>hs i x ys σ H yd p) hd
theorem je {a:Addr}{xs:List V} (hn:xs.length<sizeLine) (Pv:Nat->List V->St->Hp->Prop) (h0:Pv 0 [] σ' H1) (hl:∀i ys σ H,i<=xs.length->Pv i ys σ H->ys.length<=i/\FF K H a xs)
  (hs:∀i x ys σ H,xs[i]?=some x->Pv i ys σ H->g x σ H λσ2 H2=>tt σ2 H2 λb H3=>if b=true then te σ2 H3 (λv H4=>Pv (i+1) (ys++[v]) σ2 H4)else Pv (i+1) ys σ2 H3) (hd:∀ys σ H,Pv xs.length ys σ H->fin ys H) :
  HS (JE K a) g tt te σ' fin H1 :=
 hV hn Pv (λi x=>xs[i]?=some x) h0 (λi ys σ H hi p=>(hl i ys σ H hi p).1) (λi ys σ H hi p=>⟨xs,xs[i],(hl i ys σ H (Cq hi) p).2,by simp[hi]⟩) (λys σ H p=>⟨xs,(hl _ ys σ H (AY _) p).2,AY _⟩)
  (λi ys σ H x H' hi p y=>⟨y.1,y.2 xs (hl i ys σ H (Cq hi) p).2⟩) (λi x ys σ H _ yd p=>hs i x ys σ H yd p) hd
theorem ue {lo:Int}{n:Nat} (hn:n<sizeLine) (Pv:Nat->List V->St->Hp->Prop) (h0:Pv 0 [] σ' H1) (hl:∀i ys σ H,i<=n->Pv i ys σ H->ys.length<=i)
  (hs:∀i ys σ H,i<n->Pv i ys σ H->g (.int (lo+i)) σ H λσ2 H2=>tt σ2 H2 λb H3=>if b=true then te σ2 H3 (λv H4=>Pv (i+1) (ys++[v]) σ2 H4)else Pv (i+1) ys σ2 H3) (hd:∀ys σ H,Pv n ys σ H->fin ys H) :
  HS (Ki lo n) g tt te σ' fin H1 :=
 hV hn Pv (λi x=>x=.int (lo+i)) h0 hl (λi ys σ H hi p=>hi) (λys σ H p=>AY _) (λi ys σ H x H' hi p y=>y) (λi x ys σ H hi yd p=>by subst yd;exact hs i ys σ H hi p) hd
theorem xj {x:Str} (hn:x.length<sizeLine) (Pv:Nat->List V->St->Hp->Prop) (h0:Pv 0 [] σ' H1) (hl:∀i ys σ H,i<=x.length->Pv i ys σ H->ys.length<=i)
  (hs:∀i c ys σ H,x.cps[i]?=some c->Pv i ys σ H->g (.str ⟨#[c]⟩) σ H λσ2 H2=>tt σ2 H2 λb H3=>if b=true then te σ2 H3 (λv H4=>Pv (i+1) (ys++[v]) σ2 H4)else Pv (i+1) ys σ2 H3) (hd:∀ys σ H,Pv x.length ys σ H->fin ys H) :
  HS (OR x) g tt te σ' fin H1 :=
 hV hn Pv (λi v=>∃c,x.cps[i]?=some c/\v=.str ⟨#[c]⟩) h0 hl (λi ys σ H hi p=>hi) (λys σ H p=>AY _) (λi ys σ H v H' hi p y=>y) (λi v ys σ H hi yd p=>by obtain⟨c,e,rfl⟩:=yd;exact hs i c ys σ H e p) hd
end
section
variable {K:zz7}{tt:TT}{te:TE}{σ':St}{fin:List V->Hp->Prop}{H1:Hp}{j:Nat}
theorem cG {a:Addr}{xs:List V} (hn:xs.length<sizeLine) (Pv:Nat->List V->St->Hp->Prop) (h0:Pv 0 [] σ' H1) (hl:∀i ys σ H,i<=xs.length->Pv i ys σ H->ys.length<=i/\FE K H a xs)
  (hs:∀i x ys σ H,xs[i]?=some x->Pv i ys σ H->te (σ.set j (some x)) H λv H4=>Pv (i+1) (ys++[v]) (σ.set j (some x)) H4) (hd:∀ys σ H,Pv xs.length ys σ H->fin ys H):HS (JS K a) (ck j) bX te σ' fin H1 :=
 gY hn Pv h0 hl (λi x ys σ H hx p=>by unfold ck bX;exact be (hs i x ys σ H hx p)) hd
theorem i4 {a:Addr}{xs:List V} (hn:xs.length<sizeLine) (Pv:Nat->List V->St->Hp->Prop) (h0:Pv 0 [] σ' H1) (hl:∀i ys σ H,i<=xs.length->Pv i ys σ H->ys.length<=i/\FF K H a xs)
  (hs:∀i x ys σ H,xs[i]?=some x->Pv i ys σ H->te (σ.set j (some x)) H λv H4=>Pv (i+1) (ys++[v]) (σ.set j (some x)) H4) (hd:∀ys σ H,Pv xs.length ys σ H->fin ys H):HS (JE K a) (ck j) bX te σ' fin H1 :=
 je hn Pv h0 hl (λi x ys σ H hx p=>by unfold ck bX;exact be (hs i x ys σ H hx p)) hd
theorem gG {lo:Int}{n:Nat} (hn:n<sizeLine) (Pv:Nat->List V->St->Hp->Prop) (h0:Pv 0 [] σ' H1) (hl:∀i ys σ H,i<=n->Pv i ys σ H->ys.length<=i)
  (hs:∀i ys σ H,i<n->Pv i ys σ H->te (σ.set j (some (.int (lo+i)))) H λv H4=>Pv (i+1) (ys++[v]) (σ.set j (some (.int (lo+i)))) H4) (hd:∀ys σ H,Pv n ys σ H->fin ys H):HS (Ki lo n) (ck j) bX te σ' fin H1 :=
 ue hn Pv h0 hl (λi ys σ H hx p=>by unfold ck bX;exact be (hs i ys σ H hx p)) hd
theorem vi {x:Str} (hn:x.length<sizeLine) (Pv:Nat->List V->St->Hp->Prop) (h0:Pv 0 [] σ' H1) (hl:∀i ys σ H,i<=x.length->Pv i ys σ H->ys.length<=i)
  (hs:∀i c ys σ H,x.cps[i]?=some c->Pv i ys σ H->te (σ.set j (some (.str ⟨#[c]⟩))) H λv H4=>Pv (i+1) (ys++[v]) (σ.set j (some (.str ⟨#[c]⟩))) H4) (hd:∀ys σ H,Pv x.length ys σ H->fin ys H):HS (OR x) (ck j) bX te σ' fin H1 :=
 xj hn Pv h0 hl (λi c ys σ H hx p=>by unfold ck bX;exact be (hs i c ys σ H hx p)) hd
theorem gO {a:Addr}{xs:List V} (hn:xs.length<sizeLine) (Pv:Nat->List V->St->Hp->Prop) (h0:Pv 0 [] σ' H1) (hl:∀i ys σ H,i<=xs.length->Pv i ys σ H->ys.length<=i/\FE K H a xs)
  (hs:∀i x ys σ H,xs[i]?=some x->Pv i ys σ H->tt (σ.set j (some x)) H λb H3=>if b=true then te (σ.set j (some x)) H3 (λv H4=>Pv (i+1) (ys++[v]) (σ.set j (some x)) H4)else Pv (i+1) ys (σ.set j (some x)) H3)
  (hd:∀ys σ H,Pv xs.length ys σ H->fin ys H):HS (JS K a) (ck j) tt te σ' fin H1:=gY hn Pv h0 hl hs hd
theorem eW {a:Addr}{xs:List V} (hn:xs.length<sizeLine) (Pv:Nat->List V->St->Hp->Prop) (h0:Pv 0 [] σ' H1) (hl:∀i ys σ H,i<=xs.length->Pv i ys σ H->ys.length<=i/\FF K H a xs)
  (hs:∀i x ys σ H,xs[i]?=some x->Pv i ys σ H->tt (σ.set j (some x)) H λb H3=>if b=true then te (σ.set j (some x)) H3 (λv H4=>Pv (i+1) (ys++[v]) (σ.set j (some x)) H4)else Pv (i+1) ys (σ.set j (some x)) H3)
  (hd:∀ys σ H,Pv xs.length ys σ H->fin ys H):HS (JE K a) (ck j) tt te σ' fin H1:=je hn Pv h0 hl hs hd
end
section
variable {X:Cx}{pins:List (Addr×Obj)}{σ:St}{H:Hp}{s:zz8}{h':Heap}
theorem Inv.turnedS {t':Nat}{ch:List Addr} (I:Inv X pins σ H s) (k:∀b o,b∉ch->s.heap.get? b=some o->h'.get? b=some o) (hf:∀b∈ch,bD X pins H b):Inv X pins σ H { s with heap:=h',toks:=t' }:=by
 have MZ:∀b u,H b=some u->b∉ch:=λb u e z=>by rw[(hf b z).1]at e;cases e
 have hL:X.env.locals∉ch:=λz=>(hf _ z).2.1 rfl;refine I.step (g':=s.gens) (d':=s.drawn) (ch:=ch) (λb hb=>⟨(hf b hb).2.2.2.1,(hf b hb).2.1,(hf b hb).2.2.2.2.1,(hf b hb).2.2.2.2.2⟩) (λb o _ _ hc e _=>k b o hc e) (λb o _ _ hc e _=>⟨o.slots,k b o hc e⟩) (λ_ _ _ _ n=>n)
  (λb o hc e=>⟨o,k b o hc e⟩) (λ_ _ e=>e) (λ_ _ _ e=>e) (λb ps e=>⟨#[],by rw[e];simp⟩) (λm hm=>?_) (λb u e=>?_) I.bare
 .obtain⟨o,es,ep,ho,r⟩:=hm
  exact⟨o,es,ep,k _ o hL ho,r⟩
 .refine (I.hok b u e).stay (λc v hc q=>k c v ?_ q) (λ_ q=>q) λ_ _ q=>q
  rcases hc with z|z
  .rw [z];exact MZ b u e
  .exact MZ c _ z
end
theorem boot_zip:bootBuiltins "zip"=some (.type "zip"):=by decide +kernel
section
variable {X:Cx}
end
section
variable {prog:Program}{w:World}{A:Around}{E:zz9->zz8->Prop}{s:zz8}
end
section
variable {X:Cx}
end
section
variable {κ:Type} [DecidableEq κ]
def aR (kvs:List (κ×V)) (k:κ):Option V:=(kvs.find? λkv=>decide (kv.1=k)).map (·.2)
def putK (kvs:List (κ×V)) (k:κ) (v:V):List (κ×V):=
 if (kvs.any λkv=>decide (kv.1=k))=true then kvs.map (λkv=>if kv.1=k then (kv.1,v)else kv)else kvs++[(k,v)]
def AA (kvs:List (κ×V)) (k:κ):List (κ×V):=kvs.filter λkv=>decide (kv.1≠k)
theorem cP {p:κ×V}{r:List (κ×V)}{k:κ} (e:p.1=k):aR (p::r) k=some p.2:=by simp[aR,Dq,e]
theorem cm {p:κ×V}{r:List (κ×V)}{k:κ} (e:¬ p.1=k):aR (p::r) k=aR r k:=by simp[aR,Dq,e]
theorem eX (k:κ):∀kvs:List (κ×V),(kvs.any λkv=>decide (kv.1=k))=(aR kvs k).isSome
 | []=>rfl
 | p::r=>by
  rw[D9]
  by_cases e:p.1=k
  .simp only[cP e,decide_eq_true e,Bool.true_or,Option.isSome_some]
  .rw [cm e,decide_eq_false e,Bool.false_or];exact eX k r
theorem md (k j:κ) (y:V):∀kvs:List (κ×V),aR (kvs.map λkv=>if kv.1=k then (kv.1,y)else kv) j=(aR kvs j).map λx=>if j=k then y else x
 | []=>rfl
 | p::r=>by
  have ih:=md k j y r;rw[A8]
  by_cases h:p.1=k
  .rw [if_pos h]
   by_cases e:p.1=j
   .rw [cP (p:=(p.1,y)) e,cP e,C4,if_pos (e.symm.trans h)]
   .rw [cm (p:=(p.1,y)) e,cm e,ih]
  .rw [if_neg h]
   by_cases e:p.1=j
   .rw [cP (p:=p) e,cP e,C4,if_neg (λz=>h (e.trans z))]
   .rw [cm (p:=p) e,cm e,ih]
theorem i6 (k j:κ) (y:V):∀kvs:List (κ×V),aR kvs k=none->aR (kvs++[(k,y)]) j=if j=k then some y else aR kvs j
 | [],_=>by
  by_cases e:k=j
  .rw [if_pos e.symm];exact cP (p:=(k,y)) e
  .rw [if_neg (λz=>e z.symm)];exact cm (p:=(k,y)) e
 | p::r,hn=>by
  rw[Fk];have hk:¬ p.1=k:=λz=>by rw[cP z]at hn;cases hn
  rw[cm hk]at hn;have ih:=i6 k j y r hn
  by_cases e:p.1=j
  .rw [cP e,cP e,if_neg (λz=>hk (e.trans z))]
  .rw [cm e,cm e,ih]
theorem uQ (kvs:List (κ×V)) (k j:κ) (y:V):aR (putK kvs k y) j=if j=k then some y else aR kvs j:=by
 unfold putK
 by_cases a:(kvs.any λkv=>decide (kv.1=k))=true
 .rw [if_pos a,md]
  rw[eX]at a
  by_cases e:j=k
  .obtain⟨x,hx⟩:=Fe.mp a
   rw[if_pos e,e,hx,C4,if_pos rfl]
  .rw [if_neg e]
   cases aR kvs j with
   | none=>rfl
   | some x=>rw[C4,if_neg e]
 .rw [if_neg a]
  refine i6 k j y kvs ?_;rw[eX]at a;cases q:aR kvs k with
  | none=>rfl
  | some x=>rw[q]at a;exact(a rfl).elim
theorem iU (kvs:List (κ×V)) (k:κ) (v:V):(putK kvs k v).length<=kvs.length+1:=by
 unfold putK;split
 .rw [AG];omega
 .rw [Bu,Bd,Es];omega
theorem gX {kvs:List (κ×V)}{k:κ} (v:V) (h:aR kvs k=none):putK kvs k v=kvs++[(k,v)]:=by
 unfold putK;rw[eX,h];exact if_neg (by decide)
theorem cy.isSome_eq {o:Option V}{u:Option zz9} (r:cy o u):o.isSome=u.isSome:=by
 cases o with
 | none=>cases u with
  | none=>rfl
  | some _=>exact(show False from r).elim
 | some _=>cases u with
  | none=>exact(show False from r).elim
  | some _=>rfl
theorem cy.getD {o:Option V}{u:Option zz9}{d:V}{d':zz9} (r:cy o u) (rd:RelV d d'):RelV (o.getD d) (u.getD d'):=by
 cases o with
 | none=>cases u with
  | none=>exact rd
  | some _=>exact(show False from r).elim
 | some _=>cases u with
  | none=>exact(show False from r).elim
  | some _=>exact r
theorem KV.val {kvs:List (κ×V)}{vs:List (κ×zz9)} (r:KV kvs vs) (k:κ):cy (aR kvs k) (valueAt vs k):=by
 unfold KV at r
 induction r with
 | nil=>exact True.intro
 | @cons p q ps qs h t ih =>
  obtain⟨h1,h2⟩:=h
  by_cases e:p.1=k
  .have e':q.1=k:=h1.symm.trans e
   have b:valueAt (q::qs) k=some q.2:=by simp[valueAt,Dq,e']
   rw[cP e,b];exact h2
  .have e':¬ q.1=k:=λz=>e (h1.trans z)
   have b:valueAt (q::qs) k=valueAt qs k:=by simp[valueAt,Dq,e']
   rw[cm e,b];exact ih
theorem KV.any {kvs:List (κ×V)}{vs:List (κ×zz9)} (r:KV kvs vs) (k:κ):(kvs.any λkv=>decide (kv.1=k))=vs.any λkv=>decide (kv.1=k):=by
 unfold KV at r
 induction r with
 | nil=>rfl
 | cons h t ih=>rw[D9,D9,ih,h.1]
theorem KV.repl {kvs:List (κ×V)}{vs:List (κ×zz9)} (r:KV kvs vs) (k:κ) {y:V}{u:zz9} (ry:RelV y u) :
  KV (kvs.map λkv=>if kv.1=k then (kv.1,y)else kv) (vs.map λkv=>if kv.1=k then (kv.1,u)else kv):=by
 unfold KV at r ⊢
 induction r with
 | nil=>exact .nil
 | @cons p q ps qs h t ih =>
  rw[A8,A8];refine .cons ?_ ih;obtain⟨h1,h2⟩:=h
  by_cases e:p.1=k
  .rw [if_pos e,if_pos (h1.symm.trans e)];exact⟨h1,ry⟩
  .rw [if_neg e,if_neg (λz=>e (h1.trans z))];exact⟨h1,h2⟩
theorem KV.put {kvs:List (κ×V)}{vs:List (κ×zz9)} (r:KV kvs vs) (k:κ) {y:V}{u:zz9} (ry:RelV y u):KV (putK kvs k y) (stored vs k u):=by
 unfold putK stored;rw[r.any k]
 by_cases e:(vs.any λkv=>decide (kv.1=k))=true
 .rw [if_pos e,if_pos e];exact r.repl k ry
 .rw [if_neg e,if_neg e];exact Paired.snoc r ⟨rfl,ry⟩
theorem KV.keys {kvs:List (κ×V)}{vs:List (κ×zz9)} (r:KV kvs vs):kvs.map (·.1)=vs.map (·.1):=by
 unfold KV at r
 induction r with
 | nil=>rfl
 | cons h t ih=>rw[A8,A8,ih,h.1]
theorem KV.length {kvs:List (κ×V)}{vs:List (κ×zz9)} (r:KV kvs vs):kvs.length=vs.length:=DI r
end
theorem fN {P:Program}{w:World}{k:Key}{u:zz9} (r:RelV (kV k) u):(bR P w).is k u=true:=by
 cases k with
 | inl i=>obtain⟨t,e⟩:=(show∃t,u=Value.int i t from r);subst e;exact rL P w i t
 | inr x=>obtain⟨t,e⟩:=(show∃t,u=Value.str x t from r);subst e;exact kH P w x t
theorem lG {P:Program}{w:World}:∀{ks:List Key}{us:List zz9},ar (ks.map kV) us->ItemsAre (bR P w) ks us
 | [],_,r=>by rw[Ff]at r;cases r;exact .nil
 | k::ks,_,r=>by
  rw[A8]at r;cases r with
  | cons h t=>exact .cons (fN h) (lG t)
abbrev KT (H:Hp):List (List Key×V)->List (List Key×Addr×zz9)->Prop:=Paired λp q=>p.1=q.1/\H q.2.1=some (.tup (p.1.map kV))/\RelV p.2 q.2.2
theorem KT.val {H:Hp}{kvs:List (List Key×V)}{xs:List (List Key×Addr×zz9)} (r:KT H kvs xs) (k:List Key):cy (aR kvs k) ((atKey xs k).map (·.2)):=by
 induction r with
 | nil=>exact True.intro
 | @cons p q ps qs h t ih =>
  obtain⟨h1,_,h2⟩:=h
  by_cases e:p.1=k
  .have e':q.1=k:=h1.symm.trans e
   have b:atKey (q::qs) k=some q.2:=by simp[atKey,Dq,e']
   rw[cP e,b];exact h2
  .have e':¬ q.1=k:=λz=>e (h1.trans z)
   have b:atKey (q::qs) k=atKey qs k:=by simp[atKey,Dq,e']
   rw[cm e,b];exact ih
theorem KT.repl {H:Hp}{kvs:List (List Key×V)}{xs:List (List Key×Addr×zz9)} (r:KT H kvs xs) (k:List Key) {y:V}{u:zz9} (ry:RelV y u) :
  KT H (kvs.map λkv=>if kv.1=k then (kv.1,y)else kv) (xs.map (putAt k u)):=by
 induction r with
 | nil=>exact .nil
 | @cons p q ps qs h t ih =>
  rw[A8,A8];refine .cons ?_ ih;obtain⟨h1,h2,h3⟩:=h;unfold putAt
  by_cases e:p.1=k
  .rw [if_pos e,if_pos (h1.symm.trans e)];exact⟨h1,h2,ry⟩
  .rw [if_neg e,if_neg (λz=>e (h1.trans z))];exact⟨h1,h2,h3⟩
theorem KT.put {H:Hp}{kvs:List (List Key×V)}{xs:List (List Key×Addr×zz9)} (r:KT H kvs xs) (k:List Key) {b:Addr}{y:V}{u:zz9} (hb:H b=some (.tup (k.map kV))) (ry:RelV y u) :
  KT H (putK kvs k y) (storedH xs k b u):=by
 have e:(kvs.any λkv=>decide (kv.1=k))=(atKey xs k).isSome:=by
  rw[eX,(r.val k).isSome_eq,Option.isSome_map]
 unfold putK storedH;rw[e]
 by_cases q:(atKey xs k).isSome=true
 .rw [if_pos q,if_pos q];exact r.repl k ry
 .rw [if_neg q,if_neg q];exact Paired.snoc r ⟨rfl,hb,ry⟩
theorem KT.keeps {H H':Hp}{kvs:List (List Key×V)}{xs:List (List Key×Addr×zz9)} (r:KT H kvs xs) (ht:∀b ys,H b=some (.tup ys)->H' b=some (.tup ys)):KT H' kvs xs :=
 Paired.mapP r λ_ _ z=>⟨z.1,ht _ _ z.2.1,z.2.2⟩
section
variable {P:Program}{w:World}{H:Hp}{h:Heap}{a:Addr}
theorem pF {u:HO} (ok:F0 P w H h) (e:Rd H a u):aD P w H h a u:=e.ok ok
theorem fk {kvs:List (Key×V)} (ok:F0 P w H h) (e:Rd H a (.dK kvs)):kvs.length<=sizeLine/\(a==sysModules)=false/\∃vs,KV kvs vs/\h.DictOf (bR P w) a vs :=
 show aD P w H h a (.dK kvs) from pF ok e
theorem pR {kvs:List (Key×V)} (ok:F0 P w H h) (e:H a=some (.dK kvs)):kvs.length<=sizeLine/\(a==sysModules)=false/\∃vs,KV kvs vs/\h.DictOf (bR P w) a vs:=fk ok (.inl e)
theorem fb {ks:List Key} (ok:F0 P w H h) (e:H a=some (.tup (ks.map kV))):(tupleKind (bR P w)).is h ks a:=by
 obtain⟨_,FC,r,o,h1,h2,n,h3⟩:=(show aD P w H h a (.tup (ks.map kV)) from ok a _ e)
 exact⟨o,FC.toArray,n,h1,h2,h3,by simpa using lG r⟩
theorem fQ {kvs:List (List Key×V)} (ok:F0 P w H h) (e:Rd H a (.dT kvs)):kvs.length<=sizeLine/\(a==sysModules)=false /\
  ∃xs,KT H kvs xs/\h.DictOfH (tupleKind (bR P w)) a xs:=by
 obtain⟨z,y,xs,r,o,es,ep,h1,h2,h3,h4,h5⟩:=(show aD P w H h a (.dT kvs) from pF ok e)
 refine⟨z,y,xs,r,o,es,ep,h1,h2,h3,h4,λx hx=>?_,h5⟩;have all:∀{l:List (List Key×V)}{m:List (List Key×Addr×zz9)},KT H l m->∀x∈m,(tupleKind (bR P w)).is h x.1 x.2.1:=by
  intro l m q
  induction q with
  | nil=>intro x hx;exact nomatch hx
  | @cons p q ps qs hq t ih =>
   intro x hx
   rcases AO.mp hx with e|hx
   .subst e
    exact fb ok (by rw[<- hq.1];exact hq.2.1)
   .exact ih x hx
 exact all r x hx
theorem yD {kvs:List (List Key×V)} (ok:F0 P w H h) (e:H a=some (.dT kvs)):kvs.length<=sizeLine/\(a==sysModules)=false /\
  ∃xs,KT H kvs xs/\h.DictOfH (tupleKind (bR P w)) a xs:=fQ ok (.inl e)
end
def bw (H:Hp) (a:Addr) (y:V) (r:Option V):Prop :=
 (∃kvs k,Rd H a (.dK kvs)/\y=kV k/\r=aR kvs k)\/∃kvs k b,Rd H a (.dT kvs)/\y=.ref b/\H b=some (.tup (k.map kV))/\r=aR kvs k
def dz (H:Hp) (a:Addr) (y v:V) (H':Hp):Prop :=
 (∃kvs k,H a=some (.dK kvs)/\y=kV k/\kvs.length<sizeLine/\H'=upd H a (.dK (putK kvs k v))) \/
 ∃kvs k b,H a=some (.dT kvs)/\y=.ref b/\H b=some (.tup (k.map kV))/\kvs.length<sizeLine/\H'=upd H a (.dT (putK kvs k v))
theorem bw.k {H:Hp}{a:Addr}{kvs:List (Key×V)}{k:Key} (e:H a=some (.dK kvs)):bw H a (kV k) (aR kvs k):=.inl ⟨kvs,k,.inl e,rfl,rfl⟩
theorem bw.t {H:Hp}{a b:Addr}{kvs:List (List Key×V)}{k:List Key} (e:H a=some (.dT kvs)) (eb:H b=some (.tup (k.map kV))):bw H a (.ref b) (aR kvs k):=.inr ⟨kvs,k,b,.inl e,rfl,eb,rfl⟩
theorem dz.k {H:Hp}{a:Addr}{kvs:List (Key×V)}{k:Key}{v:V} (e:H a=some (.dK kvs)) (hl:kvs.length<sizeLine):dz H a (kV k) v (upd H a (.dK (putK kvs k v))):=.inl ⟨kvs,k,e,rfl,hl,rfl⟩
theorem dz.t {H:Hp}{a b:Addr}{kvs:List (List Key×V)}{k:List Key}{v:V} (e:H a=some (.dT kvs)) (eb:H b=some (.tup (k.map kV))) (hl:kvs.length<sizeLine) :
  dz H a (.ref b) v (upd H a (.dT (putK kvs k v))):=.inr ⟨kvs,k,b,e,rfl,eb,hl,rfl⟩
section
variable {X:Cx}{pins:List (Addr×Obj)}{σ:St}{H:Hp}{s:zz8}{a:Addr}{y v:V}{u r:zz9}{o:Option V}{A:Around}{E:zz9->zz8->Prop}
theorem Inv.big (I:Inv X pins σ H s):sysModules<s.heap.objs.size:=by
 have h:mainGlobals<s.heap.objs.size:=(I.mod.glob.keeps I.bk).lt;exact Nat.lt_trans (by decide) h
theorem lM {Q:zz9->zz8->Prop} (hu:A.units+1<cLine) (I:Inv X pins σ H s) (g:bw H a y (some v)) (ry:RelV y u) (h:∀w' s',Inv X pins σ H s'->RelV v w'->Q w' s') :
  wpAny (model X.prog X.w) A (getItem (.ref a) u) Q E s:=by
 rcases g with ⟨kvs,k,e,ey,l⟩|⟨kvs,k,b,e,ey,eb,l⟩
 .subst ey
  obtain⟨z,hd,vs,rel,dd⟩:=fk I.hok e;obtain⟨w',hw,GM⟩:=cy.some_of (v:=v) (o:=valueAt vs k) (by rw[l];exact rel.val k);exact wpAny_getItem_of (fN ry) dd.mapOf hw (h w' _ (I.tok _) GM)
 .subst ey
  cases (show u=Value.ref b from ry);obtain⟨z,hd,xs,rel,dd⟩:=fQ I.hok e;obtain⟨w',hw,GM⟩:=cy.some_of (v:=v) (o:=(atKey xs k).map (·.2)) (by rw[l];exact rel.val k);obtain⟨p,hp,Lq⟩:=Option.map_eq_some_iff.mp hw;refine wpAny_getItem_heap (DR hu) (fb I.hok eb) dd hp ?_;rw[Lq];exact h w' _ (I.tok _) GM
theorem zq {Q:zz9->zz8->Prop} (hu:A.units+1<cLine) (I:Inv X pins σ H s) (g:bw H a y o) (ry:RelV y u) (h:∀s',Inv X pins σ H s'->Q (.bool o.isSome) s') :
  wpAny (model X.prog X.w) A (compareOp .In u (.ref a)) Q E s:=by
 rcases g with ⟨kvs,k,e,ey,l⟩|⟨kvs,k,b,e,ey,eb,l⟩
 .subst ey
  obtain⟨z,hd,vs,rel,dd⟩:=fk I.hok e;refine wpAny_in_of (fN ry) hd dd.mapOf ?_;rw[<- (rel.val k).isSome_eq,<- l];exact h _ (I.tok _)
 .subst ey
  cases (show u=Value.ref b from ry);obtain⟨z,hd,xs,rel,dd⟩:=fQ I.hok e;refine wpAny_in_heap (DR hu) (fb I.hok eb) hd dd ?_;have q:=(rel.val k).isSome_eq;rw[Option.isSome_map]at q;rw[<- q,<- l];exact h _ (I.tok _)
theorem jo {h':Heap}{t':Nat}{ob:HO} (I:Inv X pins σ H s) (mu:N2 (H a)) (hs:Heap.SameBut a s.heap h') (he:∃q,h'.get? a=some q) (new:aD X.prog X.w (upd H a ob) h' a ob) :
  Inv X pins σ (upd H a ob) { s with heap:=h',toks:=t' }:=
 I.write (x:=a) (e:=a) mu (.inl rfl) (λb q hb z=>(hs.2 b hb).trans z) he new
theorem oz {P:Program}{w:World}{H':Hp}{h':Heap}{kvs:List (Key×V)}{vs:List (Key×zz9)} (z:kvs.length<=sizeLine) (hd:(a==sysModules)=false) (rel:KV kvs vs) (dd:h'.DictOf (bR P w) a vs) :
  aD P w H' h' a (.dK kvs):=⟨z,hd,vs,rel,dd⟩
theorem lu {H':Hp}{Q:Unit->zz8->Prop} (hu:A.units+1<cLine) (I:Inv X pins σ H s) (g:dz H a y v H') (ry:RelV y u) (rv:RelV v r) (h:∀s',Inv X pins σ H' s'->Q () s') :
  wpAny (model X.prog X.w) A (setItem (.ref a) u r) Q E s:=by
 rcases g with ⟨kvs,k,e,ey,l,eH⟩|⟨kvs,k,b,e,ey,eb,l,eH⟩
 .subst ey eH
  obtain⟨z,hd,vs,rel,dd⟩:=pR I.hok e;have hz:vs.length<=sizeLine:=by rw[<- rel.length];exact z
  have hl:(putK kvs k v).length<=sizeLine:=by have:=iU kvs k v;omega
  refine wpAny_setItem_pairs (hsz:=hz) (fN ry) dd λh' JO hs=>h _ ?_;have he:∃q,h'.get? a=some q:=let ⟨q,_,_,hq,_⟩:=JO;⟨q,hq⟩;exact jo I (by rw[e];exact True.intro) hs he (oz hl hd (rel.put k rv) JO)
 .subst ey eH
  cases (show u=Value.ref b from ry);obtain⟨z,hd,xs,rel,dd⟩:=yD I.hok e;have hz:xs.length<=sizeLine:=by rw[<- DI rel];exact z
  have hl:(putK kvs k v).length<=sizeLine:=by have:=iU kvs k v;omega
  refine wpAny_setItem_heap (hsz:=hz) (DR hu) (fb I.hok eb) dd λh' JO hs=>h _ ?_;obtain⟨q,es,ep,hq,h2,h3,h4,_,h5⟩:=JO;refine jo I (by rw[e];exact True.intro) hs ⟨q,hq⟩ ⟨hl,hd,_,(rel.put k eb rv).keeps λc ys ec=>?_,q,es,ep,hq,h2,h3,h4,h5⟩;rw[ag (jZ ec e (λz=>nomatch z))];exact ec
end
section
variable {X:Cx}{pins:List (Addr×Obj)}{σ:St}{H:Hp}{s:zz8}{a:Addr}{kvs:List (Key×V)}{k:Key}{u:zz9}{A:Around}{E:zz9->zz8->Prop}
theorem yP {Q:zz9->zz8->Prop} (I:Inv X pins σ H s) (e:Rd H a (.dK kvs)) (h:∀t s',Inv X pins σ H s'->Q (.int kvs.length t) s'):wpAny (model X.prog X.w) A (call (.builtin "len") [.ref a]) Q E s:=by
 obtain⟨z,hd,vs,rel,dd⟩:=fk I.hok e;refine call_len_dict hd dd (by rw[<- rel.length];rw[Bw]at z;omega) ?_;rw[<- rel.length];exact h _ _ (I.tok _)
end
def qc (i:Expr):Prop:=∀ov iv,subscripted i false ov iv=operate [ov,iv] (getItem ov iv)
theorem xc {prog:Program}{w:World}{A:Around}{E:zz9->zz8->Prop}{s:zz8}{env:Env}{value slice:Expr}{pos:Pos}{T id:String}{Q:zz9->zz8->Prop}
  (hl:typeLookup (.type T) "__getitem__"=pure (some (.builtin id))) (hs:qc slice)
  (h:wpAny (model prog w) A (eval value env) (λo s₁=>wpAny (model prog w) A (eval slice env) (λi s₂=>s₂.TypeIs o T/\wpAny (model prog w) A (getItem o i) Q E s₂) E s₁) E s) :
  wpAny (model prog w) A (eval (.Subscript value slice pos) env) Q E s:=by
 refine Subscript_ (BK h (λo s₁ h₁=>BK h₁ (λi s₂ h₂=>?_) λ_ _ x=>x) λ_ _ x=>x);obtain⟨hT,h₂⟩:=h₂;unfold subscriptTail;refine AF ?_;rw[getitemInPython_of_ne hT.not_modules];refine AF (wpAny_specialOf hT hl ?_);have fin:wpAny (model prog w) A (subscripted slice false o i) (λr s₃=>wpAny (model prog w) A (letTemporaryGo value o r >>= λ_=>pure r) Q E s₃) E s₂:=by
  rw[hs o i];exact wpAny_operating (BK h₂ (λr s₃ h₃=>AF (wpAny_letTemporaryGo (AI h₃))) λ_ _ x=>x)
 first
  | exact AI (AF fin)
  | exact AF (AI (AF fin))
  | exact AF fin
theorem rm {X:Cx}{pins:List (Addr×Obj)}{σ:St}{H:Hp}{s:zz8}{a:Addr}{y:V}{o:Option V} (I:Inv X pins σ H s) (g:bw H a y o):s.TypeIs (.ref a) "dict":=by
 rcases g with ⟨kvs,k,e,_,_⟩|⟨kvs,k,b,e,_,_,_⟩
 .obtain⟨_,_,vs,_,dd⟩:=fk I.hok e
  exact dd.typeIs
 .obtain⟨_,_,xs,_,dd⟩:=fQ I.hok e
  exact dd.typeIs
def y7 (td ty:TE):TE:=λσ H Q=>td σ H λx H1=>ty σ H1 λy H2=>∃a v,x=.ref a/\bw H2 a y (some v)/\Q v H2
def Ag (ty td:TE):TE:=λσ H Q=>ty σ H λy H1=>td σ H1 λx H2=>∃a o,x=.ref a/\bw H2 a y o/\Q (.bl o.isSome) H2
def yB (td ty tv:TE):TS:=λD σ H=>tv σ H λv H1=>td σ H1 λx H2=>ty σ H2 λy H3=>∃a H4,x=.ref a/\dz H3 a y v H4/\D.nx σ H4
def yW (td ty tv:TE) (rd:V->V->Hp->VK->Prop):TS:=λD σ H=>td σ H λx H1=>ty σ H1 λy H2=>∃a v,x=.ref a/\bw H2 a y (some v) /\
 tv σ H2 λy2 H3=>rd v y2 H3 λz H4=>∃H5,dz H4 a y z H5/\D.nx σ H5
section
variable {X:Cx}{o i e value:Expr}{pos GA JW:Pos}{td ty tv:TE}
theorem eJ (hu:X.A.units+1<cLine) (ho:PE X o td) (hi:PE X i ty) (hs:qc i):PE X (.Subscript o i pos) (y7 td ty):=by
 intro pins s σ H Q I h;refine xc PySem.F.slot_dict_getitem.lookup hs (FG (ho pins s σ H _ I h) λu s1 ⟨x,H1,I1,rx,q1⟩=>FG (hi pins s1 σ H1 _ I1 q1) λiv s2 ⟨y,H2,I2,ry,a,v,ex,g,q2⟩=>?_);subst ex;obtain rfl:u=Value.ref a:=rx;exact⟨rm I2 g,lM hu I2 g ry λw' s3 I3 GM=>⟨v,H2,I3,GM,q2⟩⟩
theorem oR (hu:X.A.units+1<cLine) (hi:PE X i ty) (ho:PE X o td):PC X .In i o (Ag ty td):=by
 intro pins s σ H Q I h;refine FG (hi pins s σ H _ I h) λiv s1 ⟨y,H1,I1,ry,q1⟩=>FG (ho pins s1 σ H1 _ I1 q1) λu s2 ⟨x,H2,I2,rx,a,ov,ex,g,q2⟩=>?_;subst ex;obtain rfl:u=Value.ref a:=rx;exact zq hu I2 g ry λs3 I3=>⟨.bl ov.isSome,H2,I3,rfl,q2⟩
theorem jr (hu:X.A.units+1<cLine) (ho:PE X o td) (hi:PE X i ty) (hv:PE X value tv) (hs:swapsWith value (some (.Subscript o i GA)) pos.line X.env=pure false) :
  PS X (.Assign [.Subscript o i GA] value pos) (yB td ty tv):=by
 intro pins s σ H D I h;refine wpAny_Assign_Subscript (FG (hv pins s σ H _ I h) λr s1 ⟨v,H1,I1,rv,q1⟩=>FG (ho pins s1 σ H1 _ I1 q1) λu s2 ⟨x,H2,I2,rx,q2⟩=>FG (hi pins s2 σ H2 _ I2 q2) λiv s3 ⟨y,H3,I3,ry,a,H4,ex,g,q3⟩=>?_) hs;subst ex;obtain rfl:u=Value.ref a:=rx;exact lu hu I3 g ry rv λs4 I4=>⟨σ,H4,I4,q3⟩
theorem wQ {op:Operator}{rd:V->V->Hp->VK->Prop} (hu:X.A.units+1<cLine) (ho:PE X o td) (hi:PE X i ty) (hv:PE X value tv) (Xd:qm X op rd)
  (ha:∀ov iv new,augStore i ov iv new=(do holding [new,ov,iv] (setItem ov iv new);release [new,ov,iv] [];pure .next)):PS X (.AugAssign (.Subscript o i JW) op value pos) (yW td ty tv rd):=by
 intro pins s σ H D I h;refine wpAny_AugAssign_SubscriptAny (FG (ho pins s σ H _ I h) λu s1 ⟨x,H1,I1,rx,q1⟩=>FG (hi pins s1 σ H1 _ I1 q1) λiv s2 ⟨y,H2,I2,ry,a,v,ex,g,q2⟩=>?_) ha;subst ex;obtain rfl:u=Value.ref a:=rx;refine lM hu I2 g ry λw' s3 I3 GM=>FG (hv pins s3 σ H2 _ I3 q2) λw2 s4 ⟨y2,H3,I4,Vk,q3⟩=>FG (Xd pins s4 σ H3 v y2 w' w2 _ I4 GM Vk q3) λw3 s5 ⟨z,H4,I5,rz,H5,g5,q4⟩=>?_;exact lu hu I5 g5 ry rz λs6 I6=>⟨σ,H5,I6,q4⟩
end
theorem mB {P:Program}{w:World}{H:Hp} (h:Heap) (hb:sysModules<h.objs.size):aD P w H (h.push { cls:=.type "dict",data:=.dict #[] }) h.objs.size (.dK []):=
 ⟨Bi _,beq_eq_false_iff_ne.mpr (BX (A4 hb)),[],.nil,Heap.DictOf.new h⟩
theorem vy {P:Program}{w:World}{H:Hp} (h:Heap) (hb:sysModules<h.objs.size):aD P w H (h.push { cls:=.type "dict",data:=.dict #[] }) h.objs.size (.dT []):=
 ⟨Bi _,beq_eq_false_iff_ne.mpr (BX (A4 hb)),[],.nil,_,#[],0,AU _ rfl,⟨rfl,rfl,rfl⟩,rfl,rfl,Dz⟩
def xB:TE:=λ_ H Q=>∀p,H p=none->Q (.ref p) (upd H p (.dK []))
def xF:TE:=λ_ H Q=>∀p,H p=none->Q (.ref p) (upd H p (.dT []))
section
variable {X:Cx}{pos:Pos}
theorem mI:PE X (.Dict [] [] pos) xB:=λpins s σ H Q I h =>
 wpAny_Dict_empty ⟨.ref s.heap.objs.size,_,I.laid (a:=s.heap.objs.size) (o:=.dK []) (t':=s.toks) (λ_ _ q=>AH _ q) (AY _) (mB s.heap I.big),rfl,h _ (I.hok.fresh (AY _))⟩
theorem vM:PE X (.Dict [] [] pos) xF:=λpins s σ H Q I h =>
 wpAny_Dict_empty ⟨.ref s.heap.objs.size,_,I.laid (a:=s.heap.objs.size) (o:=.dT []) (t':=s.toks) (λ_ _ q=>AH _ q) (AY _) (vy s.heap I.big),rfl,h _ (I.hok.fresh (AY _))⟩
end
section
variable {prog:Program}{w:World}{A:Around}{R:Result->zz8->Prop}{s:zz8}
theorem wA {kx vx tg iter:Expr}{ifs:List Expr}{scope:Scope}{pos:Pos}{it:zz9}{D:Addr}{env:Env} (J:Nat->zz8->Prop)
  (turn:∀n s,J n s->wpAny (model prog w) A (pyNext it) (λr s1=>match r with
   | none=>R (.ok .next) s1
   | some v=>wpAny (model prog w) A (letOwnedTupleGo tg it v) (λ_ s2=>wpAny (model prog w) A (assign tg env v) (λ_ s3 =>
     wpAny (model prog w) A (forIn ifs true λc r=>if r=true then do let ok <- isTrue c env (eval c env);pure (ForInStep.yield ok)else pure (ForInStep.yield r)) (λok s4 =>
      if ok=true then wpAny (model prog w) A (eval kx env) (λy s5=>wpAny (model prog w) A (eval vx env) (λx s6=>wpAny (model prog w) A (dictSet D y x) (λ_ s7=>∃m,m<n/\J m s7) (λ_ _=>False) s6) (λ_ _=>False) s5) (λ_ _=>False) s4
      else ∃m,m<n/\J m s4) (λ_ _=>False) s3) (λ_ _=>False) s2) (λ_ _=>False) s1) (λ_ _=>False) s)
  (n:Nat) (h:J n s):codeAny (model prog w) A (.compLoop (.DictComp kx vx [⟨tg,iter,ifs,0⟩] scope pos) 0 it (.ref D) env) R s:=by
 refine Fh rfl J (λk t hJ=>?_) n h;show wpAny _ A ((compTurn (.DictComp kx vx [⟨tg,iter,ifs,0⟩] scope pos) 0 it (.ref D) env).onRaise (λx=>do noteFrame x env;theTreesLotGoes x)) _ _ t;refine wpAny_noted (BK (E:=λ_ _=>False) ?_ (λ_ _ q=>q) λ_ _ f=>f.elim);rw[compTurn_dict];refine AF (Cb (AF (FG (turn k t hJ) λr s1 h1=>?_)));cases r with
 | none=>exact AI h1
 | some v =>
  refine AF (FG h1 λ_ s2 h2=>AF (FG h2 λ_ s3 h3=>AF (FG h3 λok s4 h4=>?_)));cases ok with
  | false=>exact AI ⟨rfl,h4⟩
  | true=>exact AF (AF (FG h4 λy s5 h5=>AF (Bo (FG h5 λx s6 h6=>AF (Cb (Bo (FG h6 λ_ s7 h7=>AI ⟨rfl,h7⟩)))))))
end
theorem wD {b D C:Nat} (h:b<D) (e:C=D+1) (z:b=C):False:=by omega
section
variable {X:Cx}{scope:Scope}{N:List Str}{ix:List (Option Nat)}
theorem yk {pins pins':List (Addr×Obj)}{σ σ':St}{H2 H':Hp}{s2 s':zz8}{C:Addr}{fp:List Addr}{h':Heap} (I2:Inv X pins σ H2 s2) (hf:∀b∈fp,bD X pins H2 b)
  (I':Inv (aA X scope N C s2 H2 fp) pins' σ' H' s') (hC:s2.heap.objs.size<=C) (hs:∀b o,b≠C->s'.heap.get? b=some o->h'.get? b=some o):Inv X pins σ H' { s' with heap:=h' }:=by
 have B:Un (Gc X.stack) fp H2 H' s2.heap s'.heap:=I'.base;have HA:∀b o,s2.heap.get? b=some o->b≠C:=λb o e=>A4 (Bc (AN e) hC);have Rg:H' C=none:=I'.free;have tC:∀b u,H' b=some u->b≠C:=λb u e=>aq e Rg;refine I2.call' (s':={ s' with heap:=h' }) (ch:=fp) I'.os ⟨λb o e n hb hx=>?_,λb o e n hb hx=>?_,λb o e n hx=>?_,λb o e hx=>?_,λb xs e=>?_,λb o u e=>?_,λb ps e=>?_⟩ (λb u e=>?_) I'.bare λb hb=>⟨(hf b hb).2.2.2.1,(hf b hb).2.1,(hf b hb).2.2.2.2.1,(hf b hb).2.2.2.2.2⟩
 .exact hs b o (HA b o e) (B.keep b o e n hb hx)
 .obtain⟨sl,q⟩:=B.slot b o e n hb hx
  exact⟨sl,hs b _ (HA b o e) q⟩
 .exact B.free b o e n hx
 .obtain⟨o',q⟩:=B.there b o e hx
  exact⟨o',hs b o' (HA b o e) q⟩
 .exact B.tups b xs e
 .exact B.frzs b o u e
 .exact B.tbls b ps e
 .refine (I'.hok b u e).stay (λc v hc q=>hs c v ?_ q) (λc q=>q) λc xs q=>q
  rcases hc with z|z
  .rw [z];exact tC b u e
  .exact tC c _ z
variable {tg iter kx vx:Expr}{ifs:List Expr}{pos:Pos}{g:TG}{tt:TT}{tk tv:TE}
end
theorem lA {val:Nat->Int}:∀(ns:List Int) (k:Nat),k<=ns.length->(∀i n,ns[i]?=some n->val i=n)->preSum val k=(ns.take k).sum
 | ns,0,_,_=>by simp[preSum]
 | ns,k+1,h,hv=>by
  have hk:ns[k]?=some ns[k]:=AJ (by omega);rw[preSum,lA ns k (by omega) hv,hv k _ hk,List.take_succ,hk,Option.toList_some,List.sum_append];simp
section
variable {X:Cx}
theorem ints_get {ns:List Int}{us:List zz9} (r:ar (ns.map V.int) us) {i:Nat}{v:zz9} (h:us[i]?=some v):∃t,v=.int ((ns[i]?).getD 0) t:=by
 have hl:=r.length;rw[AG]at hl;have hi:i<ns.length:=by rw[hl];exact(A3.mp h).1
 obtain⟨u,hu,ru⟩:=r.get (i:=i) (x:=.int ns[i]) (by rw[AZ,AJ hi];rfl);rw[h]at hu;cases hu;obtain⟨t,rfl⟩:=ru;exact⟨t,by rw[AJ hi];rfl⟩
theorem iZ (hc:X.calm=true):bh X (.builtin "sum") (λxs H Q=>∃(p:Addr) (ns:List Int),xs=[.ref p]/\(FF X.K H p (ns.map V.int)\/FE X.K H p (ns.map V.int))/\Q (.int ns.sum) H):=by
 intro pins s σ H xs us Q I r h;obtain⟨p,ns,rfl,hq,q⟩:=h;obtain⟨u,rfl,ru⟩:=vals1 r;cases ru;have fin:∀(FC:List zz9),ar (ns.map V.int) FC->preSum (λi=>(ns[i]?).getD 0) FC.toArray.size=ns.sum:=λFC rv=>by
  have hl:=rv.length;rw[AG]at hl;rw[A0,<- hl,lA ns ns.length (AY _) λi n e=>by rw[e];rfl,B3]
 rcases hq with hq|hq
 .obtain⟨FC,rv,pl,hz⟩:=I.list hq
  have il:=pl.isList;have FM:p<s.heap.objs.size:=by obtain⟨_,e,_⟩:=il;exact AN e
  refine call_sum_walkG (Cn il ⟨s.heap.objs.size,[s.heap.objs.size,p],[s.heap.objs.size],FC.toArray.size,_,_,λi=>(ns[i]?).getD 0,rfl,DU (A:=X.A.in1) (I.ok.hd hc) _ p (A4 FM) FC.toArray,
   ⟨⟨_,AU _ rfl,rfl,rfl⟩,il.push _⟩,λb hb=>?_,λi v hv=>ints_get rv (by simpa using hv),λh' tk t' hk=>?_⟩)
  .show b<(s.heap.push _).objs.size
   rw[Bz];simp only[AO,Cm,or_false]at hb
   rcases hb with rfl|rfl
   .exact CC _
   .exact B5 FM
  .rw [fin FC rv]
   exact⟨.int ns.sum,H,I.kept (t':=tk) λb o e=>hk b o (λz=>absurd (AN e) (by rw[AQ.mp z];exact Bt _)) (AH _ e),⟨_,rfl⟩,q⟩
 .obtain⟨FC,rv,pl,hz⟩:=I.tuple hq
  have il:s.heap.IsTuple p FC.toArray:=pl;have FM:p<s.heap.objs.size:=by obtain⟨_,e,_⟩:=il;exact AN e
  refine call_sum_walkG (CY il ⟨s.heap.objs.size,[s.heap.objs.size,p],[s.heap.objs.size],FC.toArray.size,_,_,λi=>(ns[i]?).getD 0,rfl,Walks.tuple (A:=X.A.in1) (I.ok.hd hc) _ p (A4 FM) FC.toArray,
   ⟨⟨_,AU _ rfl,rfl,rfl⟩,il.at λo e=>AH _ e⟩,λb hb=>?_,λi v hv=>ints_get rv (by simpa using hv),λh' tk t' hk=>?_⟩)
  .show b<(s.heap.push _).objs.size
   rw[Bz];simp only[AO,Cm,or_false]at hb
   rcases hb with rfl|rfl
   .exact CC _
   .exact B5 FM
  .rw [fin FC rv]
   exact⟨.int ns.sum,H,I.kept (t':=tk) λb o e=>hk b o (λz=>absurd (AN e) (by rw[AQ.mp z];exact Bt _)) (AH _ e),⟨_,rfl⟩,q⟩
theorem kU:bh X (.builtin "abs") (λxs H Q=>∃i,xs=[.int i]/\Q (.int (if i<0 then -i else i)) H):=by
 intro pins s σ H xs us Q I r h;obtain⟨i,rfl,q⟩:=h;obtain⟨u,rfl,⟨t,rfl⟩⟩:=vals1 r;exact call_abs_int λu tk=>⟨.int (if i<0 then -i else i),H,I.tok tk,⟨_,rfl⟩,q⟩
end
section
variable {prog:Program}{w:World}{A:Around}{E:zz9->zz8->Prop}{s:zz8}
theorem m3 {c t:Addr}{i:Nat}{FC:Array zz9}{v:zz9}{Q:zz9->zz8->Prop} (hi:s.heap.IsTupleIter c t i) (ht:s.heap.IsTuple t FC) (hv:FC[i]?=some v)
  (k:∀G,G.IsTupleIter c t (i+1)->Heap.SameBut c s.heap G->Q v { s with heap:=G }):wpAny (model prog w) A (Builtin.SmallTypes.nextOf (.ref c)) Q E s:=by
 obtain⟨o,e,cl,d⟩:=id hi;obtain⟨o2,e2,_,n2,d2⟩:=ht;unfold Builtin.SmallTypes.nextOf;refine AF (BQ (name:=Str.ofString "__next__") hi.typeIs C7 (BH C7 hi.typeIs F.entry_tuple_iterator_next ?_ (F.args_tuple_iterator_next_1 _)));refine(show wpAny _ _ (field (.ref c) 0 >>= _) _ _ s from AF (Ce e d (x:=.ref t) rfl ?_));refine(show wpAny _ _ (if (Value.ref t==Value.none)=true then _ else _) _ _ s from ?_);rw[if_neg (show¬ ((Value.ref t==Value.none)=true) from A2)];refine(show wpAny _ _ (field (.ref c) 1 >>= _) _ _ s from AF (Ce e d (x:=.int i 0) rfl ?_));refine(show wpAny _ _ (seqItems? (.ref t) >>= _) _ _ s from AF (BP e2 d2 ?_));simp only[CK,hv];refine AF (Cc e d (by simp) (AI ⟨v,rfl,AI (k _ ⟨_,By _ e (CD (Ck d _)),(DY ..).trans cl,by rw[Ck d];simp[rawInt]⟩ (BZ ..))⟩))
theorem xx {c t:Addr}{i:Nat}{FC:Array zz9}{Q:zz9->zz8->Prop} (hh:A.handled=none) (hi:s.heap.IsTupleIter c t i) (ht:s.heap.IsTuple t FC) (hv:FC[i]?=none)
  (k:∀G x,Heap.ExtBut c s.heap G->(∃o,G.get? x=some o/\o.cls=.type "StopIteration")->E (.ref x) { s with heap:=G }):wpAny (model prog w) A (Builtin.SmallTypes.nextOf (.ref c)) Q E s:=by
 obtain⟨o,e,cl,d⟩:=id hi;obtain⟨o2,e2,_,n2,d2⟩:=ht;unfold Builtin.SmallTypes.nextOf;refine AF (BQ (name:=Str.ofString "__next__") hi.typeIs C7 (BH C7 hi.typeIs F.entry_tuple_iterator_next ?_ (F.args_tuple_iterator_next_1 _)));refine(show wpAny _ _ (field (.ref c) 0 >>= _) _ _ s from AF (Ce e d (x:=.ref t) rfl ?_));refine(show wpAny _ _ (if (Value.ref t==Value.none)=true then _ else _) _ _ s from ?_);rw[if_neg (show¬ ((Value.ref t==Value.none)=true) from A2)];refine(show wpAny _ _ (field (.ref c) 1 >>= _) _ _ s from AF (Ce e d (x:=.int i 0) rfl ?_));refine(show wpAny _ _ (seqItems? (.ref t) >>= _) _ _ s from AF (BP e2 d2 ?_));simp only[CK,hv];refine AF (Dc (AF (Cc e d (by simp) (show wpAny _ _ (newExc (.type "StopIteration") [] >>= _) _ _ _ from AF ?_))));simp only[newExc,newTuple];refine AF (BG (AF (m:=firstArgMember _ _) (Cz (a:=Value.none) (by first|rfl|(simp only[firstArgMember];rfl)) (BG ?_ (by size_fits)))) (by size_fits));simp only[raiseNew];refine AF (wpAny_handled ?_);(first|rw[show A.in1.handled=none from hh]|rw[hh]);exact AF (AI (wpAny_throw (k _ _ (((BZ ..).extBut.push _).push _) ⟨_,AU _ rfl,rfl⟩)))
theorem xg {z TI TO i1 i2 l1 l2:Addr}{k:Nat}{xs ys:Array zz9}{x y a b:zz9}{Q:Option zz9->zz8->Prop} (D:ZipApart z TI TO i1 i2 l1 l2) (hz:IsZip s.heap z TI TO .none) (Ic:IsPair s.heap TI (.ref i1) (.ref i2)) (IX:IsPair s.heap TO a b)
  (h1:s.heap.IsTupleIter i1 l1 k) (h2:s.heap.IsTupleIter i2 l2 k) (t1:s.heap.IsTuple l1 xs) (t2:s.heap.IsTuple l2 ys) (hx:xs[k]?=some x) (hy:ys[k]?=some y)
  (q:∀G,IsZip G z TI TO (rawInt s.heap.objs.size)->IsPair G TO x y->G.IsTupleIter i1 l1 (k+1)->G.IsTupleIter i2 l2 (k+1)->IsPair G s.heap.objs.size x y->G.objs.size=s.heap.objs.size+1 ->
   (∀c o,c≠z->c≠TO->c≠i1->c≠i2->s.heap.get? c=some o->G.get? c=some o)->Q (some (.ref s.heap.objs.size)) { s with heap:=G }):wpAny (model prog w) A (pyNext (.ref z)) Q E s:=by
 have ty:s.TypeIs (.ref z) "zip":=⟨_,hz,rfl⟩
 unfold pyNext;refine AF (C8 (BQ (name:=Str.ofString "__next__") ty Ez (BH Ez ty F.entry_zip_next ?_ (F.args_zip_next_1 _))));refine(show wpAny _ _ (field (.ref z) 2 >>= _) _ _ _ from AF (Ce hz rfl (x:=.bool false) rfl ?_));refine(show wpAny _ _ (field (.ref z) 3 >>= _) _ _ _ from AF (Ce hz rfl (x:=.ref TI) rfl (AF (BP Ic rfl ?_))));refine(show wpAny _ _ (Builtin.SmallTypes.ownedTupleIsFree (.ref z) >>= _) _ _ _ from AF ?_);unfold Builtin.SmallTypes.ownedTupleIsFree;refine AF (Ce hz rfl (x:=.none) rfl (AI ?_));simp only[if_true];refine AF (Dc (AF (Ce hz rfl (x:=.ref TO) rfl (AF (Dr hz (by simp) λg1 z1 s1=>?_)))));have OU:IsZip g1 z TI TO .ellipsis:=z1;refine AF ?_;simp only[List.zipIdx_cons,List.zipIdx_nil,Eo,FB];refine AF (AF (EY (show wpAny _ _ (Builtin.SmallTypes.nextOf (.ref i1) >>= _) _ _ _ from AF (m3 (h1.extBut s1.extBut D.i1z) (t1.at λo e=>s1.extBut _ o D.l1z e) hx λg2 j2 s2=>AI ?_))));have o2:IsPair g2 TO a b:=s2.extBut _ _ D.TOi1 (s1.extBut _ _ D.TOz IX);refine AF (BP o2 rfl (AF (wpAny_updateSeq_pair o2 λg3 o3 s3=>?_)));have VC:IsPair g3 TO x b:=o3
 refine AF (CV (AI (AF (AF (EY (show wpAny _ _ (Builtin.SmallTypes.nextOf (.ref i2) >>= _) _ _ _ from AF (m3 (((h2.extBut s1.extBut D.i2z).extBut s2.extBut D.i12.symm).extBut s3.extBut D.TOi2.symm)
  (((t2.at λo e=>s1.extBut _ o D.l2z e).at λo e=>s2.extBut _ o D.l2i1 e).at λo e=>s3.extBut _ o D.l2TO e) hy λg4 j4 s4=>AI ?_)))))))
 have o4:IsPair g4 TO x b:=s4.extBut _ _ D.TOi2 VC;refine AF (BP o4 rfl (AF (wpAny_updateSeq_pair o4 λg5 o5 s5=>?_)));have SI:IsPair g5 TO x y:=o5;refine AF (CV (AI (AI (AF (BP SI rfl (AF (wpAny_newTuple ?_)))))));have sz:g5.objs.size=s.heap.objs.size:=by rw[s5.1,s4.1,s3.1,s2.1,s1.1]
 have z5:IsZip g5 z TI TO .ellipsis:=s5.extBut _ _ D.TOz.symm (s4.extBut _ _ D.i2z.symm (s3.extBut _ _ D.TOz.symm (s2.extBut _ _ D.i1z.symm OU)));have kp:∀c o,c≠z->c≠TO->c≠i1->c≠i2->s.heap.get? c=some o->g5.get? c=some o:=λc o n1 n2 n3 n4 e=>s5.extBut _ _ n2 (s4.extBut _ _ n4 (s3.extBut _ _ n2 (s2.extBut _ _ n3 (s1.extBut _ _ n1 e))));have j1:g5.IsTupleIter i1 l1 (k+1):=((j2.extBut s3.extBut D.TOi1.symm).extBut s4.extBut D.i12).extBut s5.extBut D.TOi1.symm;have Wu:g5.IsTupleIter i2 l2 (k+1):=j4.extBut s5.extBut D.TOi2.symm;have lz:z<g5.objs.size:=AN z5;refine(show wpAny _ _ (Builtin.SmallTypes.ownedTupleHandOut (.ref z) (.ref g5.objs.size) >>= _) _ _ _ from AF ?_);unfold Builtin.SmallTypes.ownedTupleHandOut;have z6:IsZip (g5.push { cls:=.type "tuple",data:=.seq #[x,y] }) z TI TO .ellipsis:=AH _ z5;refine AF (Dr z6 (by simp) λg7 z7 s7=>?_);have UN:IsZip g7 z TI TO (rawInt g5.objs.size):=z7;refine Dr UN (by simp) λg8 z8 s8=>?_;have RV:IsZip g8 z TI TO (rawInt g5.objs.size):=z8;have up:∀c o,c≠z->g5.get? c=some o->g8.get? c=some o:=λc o n e=>s8.extBut _ _ n (s7.extBut _ _ n (AH _ e));have pr:IsPair g8 g5.objs.size x y:=s8.extBut _ _ (CG lz) (s7.extBut _ _ (CG lz) (AU _ rfl));have Si:g8.objs.size=g5.objs.size+1:=by rw[s8.1,s7.1,Bz]
 rw[sz]at RV pr Si;refine AI ⟨_,rfl,AI (show Q (some (.ref g5.objs.size)) _ from ?_)⟩;rw[sz];exact q g8 RV (up _ _ D.TOz SI) (j1.at λo e=>up _ o D.i1z e) (Wu.at λo e=>up _ o D.i2z e) pr Si λc o n1 n2 n3 n4 e=>up c o n1 (kp c o n1 n2 n3 n4 e)
theorem yu {z TI TO i1 i2 l1 l2:Addr}{k:Nat}{xs:Array zz9}{a b:zz9}{Q:Option zz9->zz8->Prop} (hh:A.handled=none) (D:ZipApart z TI TO i1 i2 l1 l2) (hz:IsZip s.heap z TI TO .none) (Ic:IsPair s.heap TI (.ref i1) (.ref i2)) (IX:IsPair s.heap TO a b)
  (h1:s.heap.IsTupleIter i1 l1 k) (t1:s.heap.IsTuple l1 xs) (hx:xs[k]?=none)
  (q:∀G,(∀c o,c≠z->c≠TO->c≠i1->c≠i2->s.heap.get? c=some o->G.get? c=some o)->Q none { s with heap:=G }):wpAny (model prog w) A (pyNext (.ref z)) Q E s:=by
 have ty:s.TypeIs (.ref z) "zip":=⟨_,hz,rfl⟩
 unfold pyNext;refine AF (C8 (BQ (name:=Str.ofString "__next__") ty Ez (BH Ez ty F.entry_zip_next ?_ (F.args_zip_next_1 _))));refine(show wpAny _ _ (field (.ref z) 2 >>= _) _ _ _ from AF (Ce hz rfl (x:=.bool false) rfl ?_));refine(show wpAny _ _ (field (.ref z) 3 >>= _) _ _ _ from AF (Ce hz rfl (x:=.ref TI) rfl (AF (BP Ic rfl ?_))));refine(show wpAny _ _ (Builtin.SmallTypes.ownedTupleIsFree (.ref z) >>= _) _ _ _ from AF ?_);unfold Builtin.SmallTypes.ownedTupleIsFree;refine AF (Ce hz rfl (x:=.none) rfl (AI ?_));simp only[if_true];refine AF (Dc (AF (Ce hz rfl (x:=.ref TO) rfl (AF (Dr hz (by simp) λg1 z1 s1=>?_)))));have OU:IsZip g1 z TI TO .ellipsis:=z1;refine AF ?_;simp only[List.zipIdx_cons,List.zipIdx_nil,Eo,FB];refine AF (AF (EY (show wpAny _ _ (Builtin.SmallTypes.nextOf (.ref i1) >>= _) _ _ _ from AF (xx hh (h1.extBut s1.extBut D.i1z) (t1.at λo e=>s1.extBut _ o D.l1z e) hx λg2 x s2 he=>?_))));obtain⟨oe,e1,e2⟩:=he;have z2:IsZip g2 z TI TO .ellipsis:=s2 _ _ D.i1z.symm OU;have nz:x≠z:=λw'=>by subst w';rw[z2]at e1;cases e1;simp at e2
 refine Dr z2 (by simp) λg3 _ s3=>?_;refine AF (DE (T:="StopIteration") (b:=true) ⟨oe,s3.extBut _ _ nz e1,e2⟩ isSubtype_stop (AI (q _ λc o n1 _ n3 _ e=>s3.extBut _ _ n1 (s2 _ _ n3 (s1.extBut _ _ n1 e)))))
theorem uJ (l1 l2:Addr) (xs ys:Array zz9) :
  Meets (Builtin.«zip.__new__» ⟨[.type "zip",.ref l1,.ref l2],[]⟩) (λ_ R s=>s.heap.IsTuple l1 xs/\s.heap.IsTuple l2 ys /\
   ∃G:Heap,G=(((((s.heap.push { cls:=.type "tuple_iterator",data:=.fields #[.ref l1,.int 0 0] }).push { cls:=.type "tuple_iterator",data:=.fields #[.ref l2,.int 0 0] }).push { cls:=.type "tuple",data:=.seq #[.ref s.heap.objs.size,.ref (s.heap.objs.size+1)] }).push { cls:=.type "tuple",data:=.seq #[.none,.none] }).push
    { cls:=.type "zip",data:=.fields #[.none,.bool false,.bool false,.ref (s.heap.objs.size+2),.ref (s.heap.objs.size+3)] })/\R (.ok (.ret (.ref (s.heap.objs.size+4)))) { s with heap:=G }):=
 .of_wp λprog w A R s h=>by
  obtain⟨hp,g,d,tk,os⟩:=s;obtain⟨a1,a2,G,e,h⟩:=h;have HB:=sub_zip;have b1:Heap.IsTuple (Shared.heap ⟨hp,g,d,tk,os⟩) l1 xs:=a1;have b2:Heap.IsTuple (Shared.heap ⟨hp.push { cls:=.type "tuple_iterator",data:=.fields #[.ref l1,.int 0 0] },g,d,tk,os⟩) l2 ys:=a2.at λo e=>AH _ e
  wp_walk using CY b1,CY b2
  subst e;refine⟨_,rfl,?_⟩;simp only[Bz];exact h
theorem wV {l1 l2:Addr}{xs ys:Array zz9}{Q:zz9->zz8->Prop} (t1:s.heap.IsTuple l1 xs) (t2:s.heap.IsTuple l2 ys)
  (q:∀G,IsZip G (s.heap.objs.size+4) (s.heap.objs.size+2) (s.heap.objs.size+3) .none->IsPair G (s.heap.objs.size+2) (.ref s.heap.objs.size) (.ref (s.heap.objs.size+1))->IsPair G (s.heap.objs.size+3) .none .none ->
   G.IsTupleIter s.heap.objs.size l1 0->G.IsTupleIter (s.heap.objs.size+1) l2 0->G.objs.size=s.heap.objs.size+5->(∀c o,s.heap.get? c=some o->G.get? c=some o)->Q (.ref (s.heap.objs.size+4)) { s with heap:=G }) :
  wpAny (model prog w) A (call (.type "zip") [.ref l1,.ref l2]) Q E s:=by
 refine callType_new F.called_zip (by decide) (F.typeCall_zip_2 _ _) (F.newCall_zip_2 _ _) (λobj=>F.args_object_init_3 obj _ _) F.entry_zip_new (uJ l1 l2 xs ys) ⟨t1,t2,_,rfl,?_⟩;have at':∀(h:Heap) (o:Obj) (n:Nat),h.objs.size=n->o.isFreed=false->(h.push o).get? n=some o:=λh o n e f=>by rw[<- e];exact AU _ f
 have kp:∀{h:Heap}{o:Obj}{c:Addr}{v:Obj},h.get? c=some v->(h.push o).get? c=some v:=λe=>AH _ e;have g5:=at' ((((s.heap.push { cls:=.type "tuple_iterator",data:=.fields #[.ref l1,.int 0 0] }).push { cls:=.type "tuple_iterator",data:=.fields #[.ref l2,.int 0 0] }).push { cls:=.type "tuple",data:=.seq #[.ref s.heap.objs.size,.ref (s.heap.objs.size+1)] }).push { cls:=.type "tuple",data:=.seq #[.none,.none] })
  { cls:=.type "zip",data:=.fields #[.none,.bool false,.bool false,.ref (s.heap.objs.size+2),.ref (s.heap.objs.size+3)] } (s.heap.objs.size+4) (by simp only[Bz]) rfl
 have g4:=at' (((s.heap.push { cls:=.type "tuple_iterator",data:=.fields #[.ref l1,.int 0 0] }).push { cls:=.type "tuple_iterator",data:=.fields #[.ref l2,.int 0 0] }).push { cls:=.type "tuple",data:=.seq #[.ref s.heap.objs.size,.ref (s.heap.objs.size+1)] }) { cls:=.type "tuple",data:=.seq #[.none,.none] } (s.heap.objs.size+3) (by simp only[Bz]) rfl;have g3:=at' ((s.heap.push { cls:=.type "tuple_iterator",data:=.fields #[.ref l1,.int 0 0] }).push { cls:=.type "tuple_iterator",data:=.fields #[.ref l2,.int 0 0] }) { cls:=.type "tuple",data:=.seq #[.ref s.heap.objs.size,.ref (s.heap.objs.size+1)] } (s.heap.objs.size+2) (by simp only[Bz]) rfl;have g2:=at' (s.heap.push { cls:=.type "tuple_iterator",data:=.fields #[.ref l1,.int 0 0] }) { cls:=.type "tuple_iterator",data:=.fields #[.ref l2,.int 0 0] } (s.heap.objs.size+1) (by simp only[Bz]) rfl;have g1:=at' s.heap { cls:=.type "tuple_iterator",data:=.fields #[.ref l1,.int 0 0] } s.heap.objs.size rfl rfl;exact⟨⟨_,g5,rfl⟩,q _ g5 (kp (kp g3)) (kp g4) ⟨_,kp (kp (kp (kp g1))),rfl,rfl⟩ ⟨_,kp (kp (kp g2)),rfl,rfl⟩ (by simp only[Bz]) λc o e=>kp (kp (kp (kp (kp e))))⟩
end
def LQ (K:zz7) (a b:Addr):It :=
 ⟨λi H=>∃xs ys x y,FE K H a xs/\FE K H b ys/\xs[i]?=some x/\ys[i]?=some y,
  λi H v H'=>∃T x y,v=.ref T/\H T=none/\H'=upd H T (.tup [x,y])/\(∀xs,FE K H a xs->xs[i]?=some x)/\∀ys,FE K H b ys->ys[i]?=some y,
  λi H=>∃xs,FE K H a xs/\xs.length<=i⟩
def zQ (z TI TO i1 i2 l1 l2:Addr) (i:Nat) (h:Heap):Prop:=IsZip h z TI TO .none/\IsPair h TI (.ref i1) (.ref i2)/\(∃a b,IsPair h TO a b)/\h.IsTupleIter i1 l1 i/\h.IsTupleIter i2 l2 i
theorem wU {P:Program}{w:World}{K:zz7}{elts:List Expr}{x1}{pos:Pos} (z TI TO i1 i2 l1 l2:Addr) (D:ZipApart z TI TO i1 i2 l1 l2) :
  Turn P w K (.Tuple elts x1 pos) (LQ K l1 l2) [z,TI,TO,i1,i2] z (zQ z TI TO i1 i2 l1 l2) where
 mem:=by simp
 obj:=λi h st b hb=>by
  obtain⟨hz,Ic,⟨a,c,IX⟩,⟨o1,e1,c1,d1⟩,⟨o2,e2,c2,d2⟩⟩:=st;simp only[AO,Cm,or_false]at hb
  rcases hb with rfl|rfl|rfl|rfl|rfl
  .exact⟨_,hz,λv q=>by cases q⟩
  .exact⟨_,Ic,λv q=>by cases q⟩
  .exact⟨_,IX,λv q=>by cases q⟩
  .exact⟨_,e1,λv q=>by rw[d1]at q;cases q⟩
  .exact⟨_,e2,λv q=>by rw[d2]at q;cases q⟩
 keep:=λi h h' st k=>by
  obtain⟨hz,Ic,⟨a,c,IX⟩,h1,h2⟩:=st;exact⟨k z (by simp) _ hz,k TI (by simp) _ Ic,⟨a,c,k TO (by simp) _ IX⟩,h1.at λo e=>k i1 (by simp) o e,h2.at λo e=>k i2 (by simp) o e⟩
 item:=by
  intro X hP hw hK hc i pins s σ H E I hf st hg;subst hP hw hK;obtain⟨xs,ys,x,y,L3,HW,hx,hy⟩:=hg;obtain⟨hz,Ic,⟨a,c,IX⟩,h1,h2⟩:=id st;obtain⟨Jq,Og,p1,PK⟩:=I.tuple L3;obtain⟨ID,SA,p2,WH⟩:=I.tuple HW;obtain⟨u1,J4,Vn⟩:=Og.get hx;obtain⟨u2,Jr,Vm⟩:=SA.get hy;refine xg D hz Ic IX h1 h2 (show s.heap.IsTuple l1 Jq.toArray from p1) (show s.heap.IsTuple l2 ID.toArray from p2) (x:=u1) (y:=u2) (by simpa using J4) (by simpa using Jr) λh' a1 a2 a3 a4 a5 a6 a7=>?_;refine⟨_,rfl,wpAny_letOwnedTupleGo_zip (s:={ s with heap:=h' }) a1 λMj z2 sb=>?_⟩;have LV:=sb.extBut;generalize hT:s.heap.objs.size=T at *;have lt:∀{b:Addr}{o:Obj},s.heap.get? b=some o->b≠T:=λ{b o} e=>by rw[<- hT];exact A4 (AN e)
  have fresh:H T=none:=by rw[<- hT];exact I.hok.fresh (AY _)
  have FQ:∀b∈[z,TI,TO,i1,i2],b≠T:=λb hb=>by
   obtain⟨o1,e1,_⟩:=h1;obtain⟨o2,e2,_⟩:=h2;simp only[AO,Cm,or_false]at hb
   rcases hb with rfl|rfl|rfl|rfl|rfl
   .exact lt hz
   .exact lt Ic
   .exact lt IX
   .exact lt e1
   .exact lt e2
  have I0:Inv X pins σ (upd H T (.tup [x,y])) { s with heap:=s.heap.push { cls:=.type "tuple",data:=.seq #[u1,u2] },toks:=s.toks }:=by
   subst hT;exact I.laid (t':=s.toks) (λb o q=>AH _ q) (AY _) ⟨by show 2<=sizeLine;decide,[u1,u2],.cons Vn (.cons Vm .nil),_,AU _ rfl,rfl,0,rfl⟩
  have up:∀b o,b∉[z,TI,TO,i1,i2]->(s.heap.push { cls:=.type "tuple",data:=.seq #[u1,u2] }).get? b=some o->Mj.get? b=some o:=λb o hb e=>by
   simp only[AO,Cm,or_false,not_or]at hb
   rcases Heap.get?_push_cases e with ⟨e1,e2⟩|e1
   .subst e2
    rw[e1,hT];exact LV _ _ (FQ z (by simp)).symm a5
   .exact LV _ _ hb.1 (a7 b o hb.1 hb.2.2.1 hb.2.2.2.1 hb.2.2.2.2 e1)
  have I2:Inv X pins σ (upd H T (.tup [x,y])) { s with heap:=Mj,toks:=s.toks }:=Inv.turnedS (s:={ s with heap:=s.heap.push { cls:=.type "tuple",data:=.seq #[u1,u2] },toks:=s.toks }) (t':=s.toks) (ch:=[z,TI,TO,i1,i2]) I0 up λb hb=>by
   obtain⟨f0,f1⟩:=hf b hb;exact⟨by rw[ag (FQ b hb)];exact f0,f1⟩
  exact⟨.ref T,upd H T (.tup [x,y]),I2,rfl,⟨T,x,y,rfl,fresh,rfl,λws hw=>by rw[I.tuple_inj hw L3];exact hx,λws hw=>by rw[I.tuple_inj hw HW];exact hy⟩,
   ⟨z2,LV _ _ D.TIz (a7 _ _ D.TIz D.TITO D.TIi1 D.TIi2 Ic),⟨_,_,LV _ _ D.TOz a2⟩,a3.at λo e=>LV _ _ D.i1z e,a4.at λo e=>LV _ _ D.i2z e⟩,λb hb=>by rw[ag (FQ b hb)];exact(hf b hb).1⟩
 done:=by
  intro X hP hw hK hc i pins s σ H E I hf st hg;subst hP hw hK;obtain⟨xs,L3,hx⟩:=hg;obtain⟨hz,Ic,⟨a,c,IX⟩,h1,h2⟩:=id st;obtain⟨Jq,Og,p1,PK⟩:=I.tuple L3;have Jd:=Og.length;refine yu (I.ok.hd hc) D hz Ic IX h1 (show s.heap.IsTuple l1 Jq.toArray from p1) (by simp;omega) λh' hk=>⟨rfl,I.turnedS (t':=s.toks) (ch:=[z,TI,TO,i1,i2]) (λb o hb e=>?_) hf⟩
  simp only[AO,Cm,or_false,not_or]at hb;exact hk b o hb.1 hb.2.2.1 hb.2.2.2.1 hb.2.2.2.2 e
 self:=λ_ _ _ _ _ st h=>wpAny_pyIter_zip st.1 h
section
variable {X:Cx}
def WD (K:zz7) (ta:TA):TI:=λσ H R=>ta σ H λvs H1=>∃a b xs ys,vs=[.ref a,.ref b]/\FE K H1 a xs/\FE K H1 b ys/\R (LQ K a b) H1
theorem jO {a b:Expr}{elts:List Expr}{x1}{JW:Pos}{ta:TA}{p pos:Pos} (hg:Gl X "zip") (hm:X.mg "zip"=none) (ha:PA X [a,b] ta) (hs:starEach [a,b] X.env=[(false,eval a X.env),(false,eval b X.env)]:=by rfl) (He:starEach [b] X.env=[(false,eval b X.env)]:=by rfl) :
  PI X (.Tuple elts x1 JW) (.Call (.Name "zip" p) [a,b] [] pos) (WD X.K ta):=by
 intro pins s σ H R I h;refine Call_ (eP I hg hm boot_zip (CZ (FG (ha pos pins s σ H _ I h) λus s1 ⟨vs,H1,I1,r1,q1⟩=>?_) (by rw[hs,He]) (by rw[He];rfl)));obtain⟨a',b',xs,ys,rfl,L3,HW,q⟩:=q1;obtain⟨u1,u2,rfl,ra,rb⟩:=vals2 r1;cases ra;cases rb;obtain⟨Jq,Og,p1,PK⟩:=I1.tuple L3;obtain⟨ID,SA,p2,WH⟩:=I1.tuple HW;have l1:a'<s1.heap.objs.size:=by obtain⟨o,e,_⟩:=p1;exact AN e
 have l2:b'<s1.heap.objs.size:=by obtain⟨o,e,_⟩:=p2;exact AN e
 refine wV (show s1.heap.IsTuple a' Jq.toArray from p1) (show s1.heap.IsTuple b' ID.toArray from p2) λh' hz Ic IX QS IR hsz hk=>?_;refine wpAny_pyIter_zip hz ?_;refine⟨_,[s1.heap.objs.size+4,s1.heap.objs.size+2,s1.heap.objs.size+3,s1.heap.objs.size,s1.heap.objs.size+1],_,_,H1,rfl,I1.kept (t':=s1.toks) hk,wU _ _ _ _ _ _ _ (zipApart_new l1 l2),⟨hz,Ic,⟨_,_,IX⟩,QS,IR⟩,λb hb=>?_,q⟩;have Ly:s1.heap.objs.size<=b:=by
  simp only[AO,Cm,or_false]at hb
  rcases hb with rfl|rfl|rfl|rfl|rfl
  .exact Ec _ _
  .exact Ec _ _
  .exact Ec _ _
  .exact AY _
  .exact Ec _ _
 exact I1.fpOk Ly (I1.hok.fresh Ly)
end
section
variable {prog:Program}{w:World}{A:Around}{E:zz9->zz8->Prop}{s:zz8}
theorem nF {c d:Addr}{i ep:Nat}{o:Obj}{es:Array DictEntry}{Q:Option zz9->zz8->Prop} (hi:s.heap.IsKeyIter c d i es.size ep) (ho:s.heap.get? d=some o) (hd:o.data=.dict es ep) (lt:i<es.size)
  (q:∀G,G.IsKeyIter c d (i+1) es.size ep->Heap.SameBut c s.heap G->Q (some es[i].key) { s with heap:=G }):wpAny (model prog w) A (pyNext (.ref c)) Q E s:=by
 obtain⟨oc,e,cl,dc⟩:=id hi;have own:Builtin.Dict_items.ownsTuple "dict_keyiterator"=false:=by decide
 unfold pyNext;refine AF (C8 (BQ (name:=Str.ofString "__next__") hi.typeIs Cr (BH Cr hi.typeIs F.entry_dict_keyiterator_next ?_ (EA _))));refine AF (AI (AF (AF ?_)))
 (first|refine AF (CL hi.typeIs (AI (AF (CO e dc ?_))))|refine AF (Dg hi.typeIs (AI (AF (CO e dc ?_)))));simp only[own,Bm,if_false]
 refine(show wpAny _ _ (if (Value.ref d==Value.none)=true then _ else _) _ _ s from ?_);rw[if_neg (show¬ ((Value.ref d==Value.none)=true) from A2)];refine AF (AI (AF (E4 ho hd ?_)));rw[if_neg (by simp)];refine AF (AI (AF (wpAny_dictEpoch ho hd ?_)));rw[if_neg (by simp)];refine AI ?_;simp only[show¬ ((i:Int)<0) from by omega,if_false,CK,Bp lt];refine AF ?_;(first|refine AF (CL hi.typeIs (AI (AF (Eh hi.typeIs ?_))))|refine AF (Dg hi.typeIs (AI (AF (Eh hi.typeIs ?_)))));refine(show wpAny _ _ (setField (.ref c) 1 (rawInt ((i:Int)+1)) >>= _) _ _ s from AF (Cc e dc (by simp) ?_));have IR:(s.heap.update c (Obj.mapFields (·.setIfInBounds 1 (rawInt ((i:Int)+1))))).IsKeyIter c d (i+1) es.size ep:=⟨_,By _ e (CD (Ck dc _)),(DY ..).trans cl,by rw[Ck dc];simp[rawInt]⟩
 refine AF (Bo (AF (Eh (s:={ s with heap:=s.heap.update c (Obj.mapFields (·.setIfInBounds 1 (rawInt ((i:Int)+1)))) }) IR.typeIs ?_)));exact(show wpAny _ _ (pure es[i].key) _ _ _ from AI (AI ⟨_,rfl,AI (q _ IR (BZ ..))⟩))
theorem oX {c d:Addr}{i ep:Nat}{o:Obj}{es:Array DictEntry}{Q:Option zz9->zz8->Prop} (hh:A.handled=none) (hi:s.heap.IsKeyIter c d i es.size ep) (ho:s.heap.get? d=some o) (hd:o.data=.dict es ep) (ge:es.size<=i)
  (q:∀G,Heap.ExtBut c s.heap G->Q none { s with heap:=G }):wpAny (model prog w) A (pyNext (.ref c)) Q E s:=by
 obtain⟨oc,e,cl,dc⟩:=id hi;have own:Builtin.Dict_items.ownsTuple "dict_keyiterator"=false:=by decide
 unfold pyNext;refine AF (C8 (BQ (name:=Str.ofString "__next__") hi.typeIs Cr (BH Cr hi.typeIs F.entry_dict_keyiterator_next ?_ (EA _))));refine AF (AI (AF (AF ?_)))
 (first|refine AF (CL hi.typeIs (AI (AF (CO e dc ?_))))|refine AF (Dg hi.typeIs (AI (AF (CO e dc ?_)))));simp only[own,Bm,if_false]
 refine(show wpAny _ _ (if (Value.ref d==Value.none)=true then _ else _) _ _ s from ?_);rw[if_neg (show¬ ((Value.ref d==Value.none)=true) from A2)];refine AF (AI (AF (E4 ho hd ?_)));rw[if_neg (by simp)];refine AF (AI (AF (wpAny_dictEpoch ho hd ?_)));rw[if_neg (by simp)];refine AI ?_;simp only[show¬ ((i:Int)<0) from by omega,if_false,CK,CU ge];refine AF ?_;(first|refine AF (CL hi.typeIs (AI ?_))|refine AF (Dg hi.typeIs (AI ?_)));refine(show wpAny _ _ (setField (.ref c) 0 .none >>= _) _ _ s from AF (Cc e dc (by simp) (show wpAny _ _ (newExc (.type "StopIteration") [] >>= _) _ _ _ from AF ?_)));simp only[newExc,newTuple];refine AF (BG (AF (m:=firstArgMember _ _) (Cz (a:=Value.none) (by first|rfl|(simp only[firstArgMember];rfl)) (BG ?_ (by size_fits)))) (by size_fits));simp only[raiseNew];refine AF (wpAny_handled ?_);rw[show A.in1.handled=none from hh];refine AF (AI (wpAny_throw ?_));refine AF (DE (T:="StopIteration") (b:=true) ⟨_,AU _ rfl,rfl⟩ isSubtype_stop (AI (q _ (((BZ ..).extBut.push _).push _))))
theorem nY {d:Addr}{ep:Nat}{o:Obj}{es:Array DictEntry}{Q:zz9->zz8->Prop} (nd:(d==sysModules)=false) (ho:s.heap.get? d=some o) (ex:o.ExactDict) (hd:o.data=.dict es ep)
  (q:Q (.ref s.heap.objs.size) { s with heap:=s.heap.push { cls:=.type "dict_keyiterator",data:=.fields #[.ref d,.int 0 0,.int es.size 0,.int ep 0] } }):wpAny (model prog w) A (pyIter (.ref d)) Q E s:=by
 have ty:s.TypeIs (.ref d) "dict":=⟨o,ho,ex.1⟩
 refine E5 ty F.slot_dict_iter (BH F.slot_dict_iter ty F.entry_dict_iter ?_ (F.args_dict_iter_1 _));unfold Builtin.«dict.__iter__»;refine AF ?_;unfold Builtin.Dict.dictSlotNone;refine AF (wpAny_notOrdered_dict ty (show wpAny _ _ (pure (Value.ref d)) _ _ s from AI (show wpAny _ _ (Builtin.Dict.showsAll d >>= _) _ _ s from ?_)));unfold Builtin.Dict.showsAll;rw[if_neg (by rw[nd];exact A2)];refine AF (AI (AF (E4 ho hd (AF (wpAny_dictEpoch ho hd (AF (BG (AI ⟨_,rfl,"dict_keyiterator",_,⟨_,AU _ rfl,rfl⟩,Cr.lookup,?_⟩))))))));simpa[rawInt]using q
end
theorem Inv.freeze {X:Cx}{pins:List (Addr×Obj)}{σ:St}{H:Hp}{s:zz8}{a:Addr}{o:Obj}{kvs:List (List Key×V)} (I:Inv X pins σ H s) (e:H a=some (.dT kvs)) (ho:s.heap.get? a=some o):Inv X pins σ (upd H a (.frz o (.dT kvs))) s:=by
 have ne:∀b u,H b=some u->(∀k,u≠.dT k)->b≠a:=λb u q n z=>by
  rw[z,e]at q;cases q;exact n _ rfl
 have st:∀{b:Addr}{u:HO},aD X.prog X.w H s.heap b u->aD X.prog X.w (upd H a (.frz o (.dT kvs))) s.heap b u:=λx=>x.stay (λ_ _ _ q=>q) (λb q=>by rw[ag (ne b _ q (by intro k z;cases z))];exact q) λb xs q=>by rw[ag (ne b _ q (by intro k z;cases z))];exact q
 refine I.step (h':=s.heap) (g':=s.gens) (t':=s.toks) (d':=s.drawn) (ch:=[]) (λ_ z=>nomatch z) (λb o _ _ _ q _=>q) (λb o _ _ _ q _=>⟨o.slots,q⟩) (λb o' _ q n=>?_) (λb o _ q=>⟨o,q⟩) (λb xs q=>?_) (λb o u q=>?_) (λb ps q=>?_) (λm h=>h) (λb u q=>?_) I.bare
 .rw [ag (λz=>by rw[z,e]at n;cases n)];exact n
 .rw [ag (ne b _ q (by intro k z;cases z))];exact q
 .rw [ag (ne b _ q (by intro k z;cases z))];exact q
 .exact⟨#[],by rw[ag (ne b _ q (by intro k z;cases z)),q];simp⟩
 .by_cases hb:b=a
  .subst hb
   rw[ak]at q;cases q;exact⟨ho,st (I.hok b _ e)⟩
  .rw [ag hb]at q
   exact st (I.hok b u q)
def RM (a:Addr) (o:Obj):It :=
 ⟨λi H=>∃kvs,H a=some (.frz o (.dT kvs))/\i<kvs.length,
  λi H v H'=>H'=H/\∀kvs,H a=some (.frz o (.dT kvs))->∃p b,kvs[i]?=some p/\v=.ref b/\H b=some (.tup (p.1.map kV)),
  λi H=>∃kvs,H a=some (.frz o (.dT kvs))/\kvs.length<=i⟩
theorem Paired.at {α β:Type}{F:α->β->Prop}:∀{l:List α}{m:List β},Paired F l m->∀{i:Nat}{x:α},l[i]?=some x->∃y,m[i]?=some y/\F x y
 | _,_,.cons r t,0,x,h=>by simp at h;subst h;exact⟨_,rfl,r⟩
 | _,_,.cons r t,i+1,x,h=>by simpa using Paired.at t (by simpa using h)
theorem ut {P:Program}{w:World}{K:zz7}{tg:Expr} (a it:Addr) (o:Obj) (es:Array DictEntry) (ep:Nat) (hd:o.data=.dict es ep):Turn P w K tg (RM a o) [it] it (λi h=>h.IsKeyIter it a i es.size ep) where
 mem:=by simp
 obj:=λi h st b hb=>by
  have e:b=it:=by simpa using hb
  subst e;obtain⟨o,e,c,d⟩:=st;exact⟨o,e,λv z=>by rw[d]at z;cases z⟩
 keep:=λi h h' st k=>st.at λo e=>k it (by simp) o e
 item:=by
  intro X hP hw hK hc i pins s σ H E I hf st hg;subst hP hw hK;obtain⟨kvs,ha,lt⟩:=hg;obtain⟨ho,_,_,xs,rel,o2,NV,Kf,h1,_,h2,h3,_⟩:=(show aD X.prog X.w H s.heap a (.frz o (.dT kvs)) from I.hok a _ ha)
  rw[ho]at h1;cases h1;rw[hd]at h2;cases h2;have hl:=DI rel;have QV:es.size=xs.length:=size_of_entries h3;have S5:i<es.size:=by omega
  obtain⟨p,hp⟩:∃p,kvs[i]?=some p:=⟨_,AJ lt⟩
  obtain⟨y,hy,r1,r2,r3⟩:=Paired.at rel hp;have ek:es[i].key=.ref y.2.1:=by
   have q:=entry_at h3 i;rw[hy,Bp S5]at q;simp only[C4,Option.some.injEq]at q;rw[q];rfl
  obtain⟨f0,f1,f2,f3,f4,f5⟩:=hf it (by simp);refine nF st ho hd S5 λh' F8 sb=>?_;rw[ek];have I1:Inv X pins σ H { s with heap:=h' }:=I.turned (t':=s.toks) (λb o hb e=>(sb.2 b hb).trans e) f0 f1 f3 f4 f5;obtain⟨o',e,c,d⟩:=id F8;exact⟨_,rfl,gv (s:={ s with heap:=h' }) e c d (by decide) ⟨.ref y.2.1,H,I1,rfl,⟨rfl,λWr OE=>by rw[ha]at OE;cases OE;exact⟨p,_,hp,rfl,r2⟩⟩,F8,λb hb=>(hf b hb).1⟩⟩
 done:=by
  intro X hP hw hK hc i pins s σ H E I hf st hg;subst hP hw hK;obtain⟨kvs,ha,ge⟩:=hg;obtain⟨ho,_,_,xs,rel,o2,NV,Kf,h1,_,h2,h3,_⟩:=(show aD X.prog X.w H s.heap a (.frz o (.dT kvs)) from I.hok a _ ha)
  rw[ho]at h1;cases h1;rw[hd]at h2;cases h2;have hl:=DI rel;have QV:es.size=xs.length:=size_of_entries h3;obtain⟨f0,f1,f2,f3,f4,f5⟩:=hf it (by simp);exact oX (I.ok.hd hc) st ho hd (by omega) λh' eb=>⟨rfl,I.turned (t':=s.toks) (λb o hb e=>eb b o hb e) f0 f1 f3 f4 f5⟩
 self:=λ_ _ _ _ _ st h=>wpAny_pyIter_keyiter st h
section
variable {X:Cx}{tg:Expr}
def yX (tl:TE):TI:=λσ H R=>tl σ H λx H1=>∃a kvs,x=.ref a/\H1 a=some (.dT kvs)/\∀o,R (RM a o) (upd H1 a (.frz o (.dT kvs)))
theorem wZ {l:Expr}{tl:TE} (hl:PE X l tl):PI X tg l (yX tl):=by
 intro pins s σ H R I h;refine FG (hl pins s σ H _ I h) λv s1 ⟨x,H1,I1,r1,q1⟩=>?_;obtain⟨a,kvs,rfl,ha,q⟩:=q1;cases r1;obtain⟨_,nd,xs,rel,o,es,ep,ho,ex,hd,h3,_⟩:=(show aD X.prog X.w H1 s1.heap a (.dT kvs) from I1.hok a _ ha)
 refine nY nd ho ex hd ?_;have I2:=I1.freeze ha ho;refine⟨s1.heap.objs.size,[s1.heap.objs.size],_,_,_,rfl,I2.kept (t':=s1.toks) λb o e=>AH _ e,ut a _ o es ep hd,⟨_,AU _ rfl,rfl,rfl⟩,λb hb=>?_,q o⟩;have e:b=s1.heap.objs.size:=by simpa using hb
 subst e;exact I2.fpOk (AY _) (I2.hok.fresh (AY _))
end
def jY (H:Hp) (a:Addr) (y v:V) (H':Hp):Prop:=∃kvs k,H a=some (.dK kvs)/\y=kV k/\kvs.length<sizeLine/\H'=upd H a (.dK (putK kvs k v))
theorem su {X:Cx}{pins:List (Addr×Obj)}{σ:St}{H H':Hp}{s:zz8}{a:Addr}{y v:V}{u r:zz9}{A:Around}{E:zz9->zz8->Prop}{Q:Unit->zz8->Prop} (I:Inv X pins σ H s) (g:jY H a y v H') (ry:RelV y u) (rv:RelV v r) (h:∀s',Inv X pins σ H' s'->Q () s') :
  wpAny (model X.prog X.w) A (dictSet a u r) Q E s:=by
 obtain⟨kvs,k,e,ey,l,eH⟩:=g;subst ey eH;obtain⟨z,hd,vs,rel,dd⟩:=pR I.hok e;have hl:(putK kvs k v).length<=sizeLine:=by have:=iU kvs k v;omega
 refine wpAny_dictSet_pairs (hsz:=by rw[<- rel.length];exact z) (fN ry) dd λh' JO hs=>h _ ?_;have he:∃q,h'.get? a=some q:=let ⟨q,_,_,hq,_⟩:=JO;⟨q,hq⟩;exact jo I (by rw[e];exact True.intro) hs he (oz hl hd (rel.put k rv) JO)
def kc (D:Addr) (J:It) (g:TG) (tt:TT) (tk tv:TE) (σ':St) (fin:Hp->Prop) (H1:Hp):Prop :=
 ∃W:Nat->Nat->St->Hp->Prop,(∃m,W 0 m σ' H1)/\∀i m σ H,W i m σ H ->
  (J.stop i H/\fin H)\/(J.go i H/\∃Nx:St->Hp->Prop,(∀σ' H',Nx σ' H'->∃m',m'<m/\W (i+1) m' σ' H') /\
   ∀x H',J.yld i H x H'->g x σ H' λσ2 H2=>tt σ2 H2 λb H3=>if b=true then tk σ2 H3 (λy H4=>tv σ2 H4 λv H5=>∃H6,jY H5 D y v H6/\Nx σ2 H6)else Nx σ2 H3)
def v3 (i:Nat) (wi:TI) (g:TG) (tt:TT) (tk tv:TE) (ix:List (Option Nat)):TS:=λE σ H=>wi σ H λJ H1=>∀D,H1 D=none->kc D J g tt tk tv (Iz ix σ) (λH'=>E.nx (σ.set i (some (.ref D))) H') (upd H1 D (.dK []))
section
variable {X:Cx}{scope:Scope}{N:List Str}{ix:List (Option Nat)}
variable {tg iter kx vx:Expr}{ifs:List Expr}{pos:Pos}{g:TG}{tt:TT}{tk tv:TE}
theorem wN (L:bJ X scope N ix) (hc:X.calm=true) (hg:∀C s0 H0 fp,PG (aA X scope N C s0 H0 fp) tg g) (ht:∀C s0 H0 fp,Je (aA X scope N C s0 H0 fp) ifs tt) (hk:∀C s0 H0 fp,PE (aA X scope N C s0 H0 fp) kx tk) (hv:∀C s0 H0 fp,PE (aA X scope N C s0 H0 fp) vx tv)
  {pins:List (Addr×Obj)}{σ:St}{H1:Hp}{s1:zz8}{it:Addr}{fp:List Addr}{tn:Nat->Heap->Prop}{J:It}{fin:Addr->Hp->Prop}{E:zz9->zz8->Prop}{RR:zz9->Addr->Result->zz8->Prop}
  (I1:Inv X pins σ H1 s1) (T:Turn X.prog X.w X.K tg J fp it tn) (st:tn 0 s1.heap) (f1:∀b∈fp,bD X pins H1 b) (hW:∀D,H1 D=none->kc D J g tt tk tv (Iz ix σ) (fin D) (upd H1 D (.dK [])))
  (NP:∀D C s' m H',s'.heap.Ns C m->s'.os=s1.os->bD X pins H' C->(∀h',Heap.SameBut C s'.heap h'->Inv X pins σ H' { s' with heap:=h' })->fin D H'->RR (.ref D) C (.ok .next) s') :
  wpAny (model X.prog X.w) X.A newDict (λFH s3=>wpAny (model X.prog X.w) X.A (newFunctionEnv scope X.env.globals (bU X.env scope.names []) [] X.env.qual none .none (some X.env)) (λHH s4 =>
   codeAny (model X.prog X.w) X.A (.compStart (.DictComp kx vx [⟨tg,iter,ifs,0⟩] scope pos) 0 (.ref it) FH { HH with scope:=relabel scope X.env }) (RR FH HH.locals) s4) E s3) E s1:=by
 have KJ:∀b∈fp,b<s1.heap.objs.size:=λb hb=>by
  obtain⟨o,e,_⟩:=T.obj _ _ st b hb;exact AN e
 have X2:H1 s1.heap.objs.size=none:=I1.hok.fresh (AY _);obtain⟨W,⟨m0,w0⟩,turn⟩:=hW s1.heap.objs.size X2;refine BG (Ep L.nocell (by intro y hy;simp at hy) (λh1 HY Im=>?_) L.kind)
 dsimp only at HY Im ⊢
 have I2:Inv X pins σ (upd H1 s1.heap.objs.size (.dK [])) { s1 with heap:=s1.heap.push { cls:=.type "dict",data:=.dict #[] },toks:=s1.toks }:=
  I1.laid (t':=s1.toks) (a:=s1.heap.objs.size) (o:=.dK []) (λ_ _ q=>AH _ q) (AY _) (mB s1.heap I1.big)
 have f2:∀b∈fp,bD X pins (upd H1 s1.heap.objs.size (.dK [])) b:=λb hb=>by
  obtain⟨q0,q1⟩:=f1 b hb;exact⟨by rw[ag (A4 (KJ b hb))];exact q0,q1⟩
 have GL:tn 0 (s1.heap.push { cls:=.type "dict",data:=.dict #[] }):=T.keep _ _ _ st λb _ o e=>AH _ e;generalize hD:s1.heap.objs.size=D at *;generalize hH2:upd H1 D (.dK [])=H2 at *;generalize hG:s1.heap.push { cls:=.type "dict",data:=.dict #[] }=G at *;have KL:G.objs.size=D+1:=by rw[<- hG,Bz,hD]
 generalize LL:G.objs.size=C at *;have kp:∀b o,G.get? b=some o->h1.get? b=some o:=λb o e=>Im.extBut b o (λz=>by have:=AN e;rw[LL]at this;exact absurd (z ▸ this) (Bt _)) (AH _ e);have I4:=jW L (tk:=s1.toks+([]:List (Str×zz9)).length) I2 (C:=C) (by show G.objs.size<=C;rw[LL];exact AY _) f2 (λb hb=>by show b<G.objs.size;rw[LL,KL];exact B5 (KJ b hb)) kp HY;have Ko:tn 0 h1:=T.keep _ _ _ GL λb _ o e=>kp b o e;generalize He:({ s1 with heap:=G,toks:=s1.toks }:zz8)=s2 at I2 I4;have Nh:s2.heap=G:=by rw[<- He]
 have Qj:s2.os=s1.os:=by rw[<- He]
 have stat:∀{H':Hp},(∀b∈fp,H' b=none)->∀b∈fp,bD (aA X scope N C s2 H2 fp) [] H' b:=λ{H'} hn b hb=>by
  have FM:=KJ b hb;refine⟨hn b hb,λz=>?_,λz=>?_,.inl hb,λx c e=>(f2 b hb).2.2.2.2.1 x c (dm e),λp hq z=>?_⟩
  .exact wD FM KL z
  .exact (AO.mp (I2.stkSub b z)).elim (f2 b hb).2.1 (f2 b hb).2.2.1
  .have Hl:p∈([]:List (Addr×Obj)):=by simpa[aA]using hq
   cases Hl
 have loop:∀s4:zz8,Inv (aA X scope N C s2 H2 fp) [] (Iz ix σ) H2 s4->tn 0 s4.heap->codeAny (model X.prog X.w) X.A (.compLoop (.DictComp kx vx [⟨tg,iter,ifs,0⟩] scope pos) 0 (.ref it) (.ref D) (aA X scope N C s2 H2 fp).env) (RR (.ref D) C) s4:=by
  intro s4 Yz O2;refine wA (λn s'=>∃i σ' H',Inv (aA X scope N C s2 H2 fp) [] σ' H' s'/\tn i s'.heap/\(∀b∈fp,H' b=none)/\W i n σ' H') ?_ m0 ⟨0,Iz ix σ,H2,Yz,O2,λb hb=>(f2 b hb).1,w0⟩;rintro n s' ⟨i,σ',H',I',F8,JB,w'⟩
  rcases turn i n σ' H' w' with ⟨stop,qf⟩|⟨go,Nx,hN,step⟩
  .refine FG (T.done (aA X scope N C s2 H2 fp) rfl rfl rfl hc i _ s' σ' H' _ I' (stat JB) F8 stop) λr s5 ⟨hr,I5⟩=>?_
   subst hr;obtain⟨m5,Nq,_⟩:=I5.loc;refine NP D C s5 m5 H' Nq (I5.os.trans Qj) (I2.fpOk (by rw[Nh,LL];exact AY _) I5.free) (λh' GB=>?_) qf;exact yk I2 f2 I5 (by rw[Nh,LL];exact AY _) λb o hb e=>GB.extBut b o hb e
  .refine FG (T.item (aA X scope N C s2 H2 fp) rfl rfl rfl hc i _ s' σ' H' _ I' (stat JB) F8 go) λr s5 ⟨u,hr,h5⟩=>?_
   subst hr;refine FG h5 λ_ s6 ⟨x,H6,I6,r6,y6,Hy,LO⟩=>?_;have LR:=I6.pinned (stat LO) (T.obj _ _ Hy);refine FG (hg C s2 H2 fp _ s6 σ' H6 x u _ LR r6 (step x H6 y6)) λ_ s7 ⟨σ7,H7,I7,q7⟩=>?_;refine FG (ht C s2 H2 fp _ s7 σ7 H7 _ I7 q7) λok s8 ⟨H8,I8,q8⟩=>?_;have back:∀{H9:Hp}{s9:zz8},Inv (aA X scope N C s2 H2 fp) ([]++cW fp s6.heap) σ7 H9 s9->tn (i+1) s9.heap/\∀b∈fp,H9 b=none:=λ{H9 s9} I9=>by
    refine⟨T.keep _ _ _ Hy λb hb o e=>(I9.pin (b,o) (AV _ (AV _ (cU hb e)))).1,λb hb=>?_⟩;obtain⟨o,e,d⟩:=T.obj _ _ Hy b hb;exact(I9.pin (b,o) (AV _ (AV _ (cU hb e)))).2.1
   cases ok with
   | false =>
    rw[if_neg A2]at q8 ⊢;obtain⟨m',hm,w8⟩:=hN _ _ q8;obtain⟨KZ,LN⟩:=back I8;exact⟨m',hm,i+1,σ7,H8,I8.unpinned,KZ,LN,w8⟩
   | true =>
    rw[if_pos rfl]at q8 ⊢;refine FG (hk C s2 H2 fp _ s8 σ7 H8 _ I8 q8) λyv s9 ⟨y,H9,I9,r9,q9⟩=>?_;refine FG (hv C s2 H2 fp _ s9 σ7 H9 _ I9 q9) λxv HV ⟨v,Gy,KP,LW,IY,X6,Vt⟩=>?_;refine su (X:=aA X scope N C s2 H2 fp) KP X6 r9 LW λPh UF=>?_;obtain⟨m',hm,US⟩:=hN _ _ Vt;obtain⟨O4,Rq⟩:=back UF;exact⟨m',hm,i+1,σ7,IY,UF.unpinned,O4,Rq,US⟩
 have q:=loop _ I4 Ko;subst He;exact codeAny_compStart_dict q (T.self _ 0 _ _ _ Ko q)
theorem um {i:Nat}{y:Str}{py Jg:Pos}{wi:TI} (hN:X.N.Nodup) (Gv:X.N[i]?=some y) (hx:Loc X.env.scope y) (L:bJ X scope N ix) (hc:X.calm=true) (hi:PI X tg iter wi) (hg:∀C s0 H0 fp,PG (aA X scope N C s0 H0 fp) tg g)
  (ht:∀C s0 H0 fp,Je (aA X scope N C s0 H0 fp) ifs tt) (hk:∀C s0 H0 fp,PE (aA X scope N C s0 H0 fp) kx tk) (hv:∀C s0 H0 fp,PE (aA X scope N C s0 H0 fp) vx tv)
  (Qd:swapsWith (.DictComp kx vx [⟨tg,iter,ifs,0⟩] scope pos) (some (.Name y py)) Jg.line X.env=pure true:=by rfl) (hs:∀x,foldedSetIterable iter X.env x=pure x:=by intro _;rfl)
  (hf:X.fn y=true\/X.env.scope.names.lookup y=some .local:=by first|exact .inl rfl|exact .inr rfl|assumption) :
  PS X (.Assign [.Name y py] (.DictComp kx vx [⟨tg,iter,ifs,0⟩] scope pos) Jg) (v3 i wi g tt tk tv ix):=by
 intro pins s σ H D I h;rw[exec_Assign_Name_used _ _ _ _ Qd];refine AF (Cb (AF ?_));show wpAny _ X.A (do let _ <- comprehension (.DictComp kx vx [⟨tg,iter,ifs,0⟩] scope pos) scope X.env _ newDict false (eval iter X.env) (some (assign (.Name y py) X.env))) _ _ s
 refine AF (FG (Df (use:=some (assign (.Name y py) X.env)) (Q:=λ_ s'=>SP X pins D .next s') rfl hs (L.clos I.ok) L.kind L.locals
  (FG (hi pins s σ H _ I h) λv s1 h1=>FG h1 λLY s2 h2=>?_)) λ_ s' hq=>AI (AI hq))
 obtain⟨it,fp,tn,J,H2,rfl,I2,T,GL,f2,hW⟩:=h2;refine wN (RR:=λFH C=>compPost (model X.prog X.w) X.A X.xe (some (assign (.Name y py) X.env)) (λ_ s'=>SP X pins D .next s') FH C) L hc hg ht hk hv I2 T GL f2 hW ?_;intro Da C s' m H' hn ho hC hI fin;have I':=hI s'.heap (E3 _ _);show wpAny _ X.A (assign (.Name y py) X.env (.ref Da)) _ _ s';refine E2 (i8 (v:=.ref Da) I' hN Gv hx rfl (λLa LS ch=>?_) hf);obtain⟨a,LZ,PQ⟩:=ch;obtain⟨c1,c2,c3,c4,c5,c6⟩:=hC;have Rh:C≠a:=by
  rcases PQ with z|z
  .rw [z];exact c2
  .exact λw=>c5 y a z w.symm
 refine⟨m,hn.sameBut LZ Rh,λh' GB=>⟨_,_,LS.turned (t':=La.toks) (it:=C) (λb o hb e=>GB.extBut b o hb e) c1 c2 c4 c5 c6,fin⟩⟩
end
theorem yh {K:zz7}{D:Addr}{g:TG}{tk tv:TE}{σ':St}{fin:Hp->Prop}{H1:Hp}{a b:Addr}{xs ys:List V} (he:xs.length=ys.length) (Pv:Nat->St->Hp->Prop) (h0:Pv 0 σ' H1) (hl:∀i σ H,i<=xs.length->Pv i σ H->FE K H a xs/\FE K H b ys)
  (hs:∀i x y σ H T,xs[i]?=some x->ys[i]?=some y->Pv i σ H->H T=none->g (.ref T) σ (upd H T (.tup [x,y])) λσ2 H2=>if true=true then tk σ2 H2 (λy H4=>tv σ2 H4 λv H5=>∃H6,jY H5 D y v H6/\Pv (i+1) σ2 H6)else Pv (i+1) σ2 H2)
  (hd:∀σ H,Pv xs.length σ H->fin H):kc D (LQ K a b) g bX tk tv σ' fin H1:=by
 refine⟨λi m σ H=>m=xs.length-i/\i<=xs.length/\Pv i σ H,⟨xs.length,by simp,Bi _,h0⟩,?_⟩;rintro i m σ H ⟨rfl,hi,p⟩;obtain⟨q1,q2⟩:=hl i σ H hi p
 by_cases h:i<xs.length
 .refine .inr ⟨⟨xs,ys,xs[i],ys[i],q1,q2,AJ h,AJ (by omega)⟩,λσ' H'=>Pv (i+1) σ' H',λσ' H' z=>⟨xs.length-(i+1),by omega,rfl,h,z⟩,?_⟩
  rintro v H' ⟨T,x,y,rfl,hT,rfl,hx,hy⟩;unfold bX;exact hs i x y σ H T (hx xs q1) (hy ys q2) p hT
 .have e:i=xs.length:=by omega
  subst e;exact .inl ⟨⟨xs,q1,AY _⟩,hd σ H p⟩
structure M1 (X:Cx) (o:Expr) (m:Str) (apos:Pos) (e:Expr) (FR:Pos):Prop where
 base:attributeBase o m X.env (eval o X.env)=eval o X.env
 few:((backTo FR (starEach [e] X.env)).all (λx=>!x.1)&&(backToKw FR (keywordEach [] X.env)).all (λx=>x.1.isSome)
  && decide (([e]:List Expr).length+([]:List Keyword).length+(if ([]:List Keyword).isEmpty then 0 else 1)<30))=true
 line:(apos.endLine==FR.line)=true
 trees:backTo FR (starEach [e] X.env)=[(false,eval e X.env)]
structure M2 (X:Cx) (o:Expr) (m:Str) (apos:Pos) (e f:Expr) (FR:Pos):Prop where
 base:attributeBase o m X.env (eval o X.env)=eval o X.env
 few:((backTo FR (starEach [e,f] X.env)).all (λx=>!x.1)&&(backToKw FR (keywordEach [] X.env)).all (λx=>x.1.isSome)
  && decide (([e,f]:List Expr).length+([]:List Keyword).length+(if ([]:List Keyword).isEmpty then 0 else 1)<30))=true
 line:(apos.endLine==FR.line)=true
 trees:backTo FR (starEach [e,f] X.env)=[(false,eval e X.env),(false,eval f X.env)]
def UE (H:Hp) (a:Addr):Prop:=(∃kvs,Rd H a (.dK kvs))\/∃kvs,Rd H a (.dT kvs)
theorem xS {X:Cx}{pins:List (Addr×Obj)}{σ:St}{H:Hp}{s:zz8}{a:Addr} (I:Inv X pins σ H s) (d:UE H a) :
  s.TypeIs (.ref a) "dict"/\(∀b,Value.ref a=.ref b->∃ob,s.heap.get? b=some ob/\ob.dict=none)/\(a==sysModules)=false:=by
 rcases d with ⟨kvs,e⟩|⟨kvs,e⟩
 .obtain⟨_,hd,vs,_,dd⟩:=fk I.hok e
  refine⟨dd.typeIs,λb q=>?_,hd⟩;cases q;obtain⟨ob,_,_,h1,h2,_⟩:=dd;exact⟨ob,h1,h2.2.1⟩
 .obtain⟨_,hd,xs,_,dd⟩:=fQ I.hok e
  refine⟨dd.typeIs,λb q=>?_,hd⟩;cases q;obtain⟨ob,_,_,h1,h2,_⟩:=dd;exact⟨ob,h1,h2.2.1⟩
section
variable {X:Cx}{pins:List (Addr×Obj)}{σ:St}{H:Hp}{s:zz8}{a:Addr}{y d:V}{u r:zz9}{o:Option V}{A:Around}{E:zz9->zz8->Prop}
theorem x6 {Q:zz9->zz8->Prop} (hu:A.units+1<cLine) (I:Inv X pins σ H s) (g:bw H a y o) (ry:RelV y u) (rd:RelV d r) (h:∀w' s',Inv X pins σ H s'->RelV (o.getD d) w'->Q w' s') :
  wpAny (model X.prog X.w) A (call (.builtin "dict.get") [.ref a,u,r]) Q E s:=by
 rcases g with ⟨kvs,k,e,ey,l⟩|⟨kvs,k,b,e,ey,eb,l⟩
 .subst ey
  obtain⟨z,hd,vs,rel,dd⟩:=fk I.hok e;refine call_meetsIn Ei dd.typeIs PySem.F.entry_dict_get (PySem.F.args_dict_get_3 _ _ _) (meets_dict_get_default (bR X.prog X.w) a (fN ry) hd r) ⟨_,dd.mapOf,h _ _ (I.tok _) ?_⟩;rw[l];exact(rel.val k).getD rd
 .subst ey
  cases (show u=Value.ref b from ry);obtain⟨z,hd,xs,rel,dd⟩:=fQ I.hok e;refine call_meetsIn Ei dd.typeIs PySem.F.entry_dict_get (PySem.F.args_dict_get_3 _ _ _) (meetsH_dict_get_default (tupleKind (bR X.prog X.w)) a b hd r) ⟨DR hu,k,xs,fb I.hok eb,dd,h _ _ (I.tok _) ?_⟩;rw[l];exact(rel.val k).getD rd
end
def yp (td ty tx:TE):TE:=λσ H Q=>td σ H λx H1=>∃a,x=.ref a/\UE H1 a/\ty σ H1 λy H2=>tx σ H2 λz H3=>∃o,bw H3 a y o/\Q (o.getD z) H3
section
variable {X:Cx}{o e f:Expr}{apos FR:Pos}{td ty tx:TE}
theorem vq (hu:X.A.units+1<cLine) (ho:PE X o td) (he:PE X e ty) (hf:PE X f tx) (m:M2 X o "get" apos e f FR):PE X (.Call (.Attribute o "get" apos) [e,f] [] FR) (yp td ty tx):=by
 intro pins s σ H Q I h;refine wpAny_Call_method m.base m.few m.line PySem.F.plainAttrs_dict Ei PySem.F.type_dict_get (FG (ho pins s σ H _ I h) λu s1 ⟨x,H1,I1,rx,a,ex,d,q1⟩=>?_);subst ex;obtain rfl:u=Value.ref a:=rx;obtain⟨t1,t2,_⟩:=xS I1 d;refine⟨t1,t2,?_⟩;rw[m.trees]
 refine Calls.callWith_builtin rfl (En (Dn (FG (he pins s1 σ H1 _ I1 q1) λiv s2 ⟨y,H2,I2,ry,q2⟩ =>
  Dn (FG (hf pins s2 σ H2 _ I2 q2) λfv s3 ⟨z,H3,I3,rz,ov,g,q3⟩=>DX ?_))))
 exact x6 hu I3 g ry rz λw' s4 I4 GM=>⟨_,H3,I4,GM,q3⟩
end
section
variable {X:Cx}{pins:List (Addr×Obj)}{σ:St}{H:Hp}{s:zz8}{a:Addr}{kvs:List (Key×V)}{A:Around}{E:zz9->zz8->Prop}
end
section
variable {X:Cx}{pins:List (Addr×Obj)}{σ:St}{H:Hp}{s:zz8}{a:Addr}{y:V}{u:zz9}{A:Around}{E:zz9->zz8->Prop}
end
section
variable {X:Cx}
theorem uA:bh X (.builtin "len") (λxs H Q=>∃a kvs,xs=[V.ref a]/\H a=some (.dK kvs)/\Q (.int kvs.length) H):=by
 intro pins s σ H xs us Q I r h;obtain⟨a,kvs,rfl,ha,q⟩:=h;obtain⟨u,rfl,ru⟩:=vals1 r;cases ru;exact yP I (.inl ha) λt s' I'=>⟨.int kvs.length,H,I',⟨t,rfl⟩,q⟩
end
section
variable {κ:Type} [DecidableEq κ]
end
end L2
namespace L2
open PySem PySem.Spec PyProof.Rows PySem.W PySem.Calls
theorem aD.get {P:Program}{w:World}{H:Hp}{h:Heap}{a:Addr}{o:HO} (x:aD P w H h a o):∃ob,h.get? a=some ob:=by
 cases o with
 | lst xs=>obtain⟨_,_,_,_,e⟩:=x;exact⟨_,e⟩
 | tup xs=>obtain⟨_,_,_,ob,e,_⟩:=x;exact⟨_,e⟩
 | dK kvs=>obtain⟨_,_,_,_,o,_,_,e,_⟩:=x;exact⟨_,e⟩
 | dT kvs=>obtain⟨_,_,_,_,o,_,_,e,_⟩:=x;exact⟨_,e⟩
 | set S n=>obtain⟨o,_,_,_,e,_⟩:=x;exact⟨_,e⟩
 | ins C dx fs=>obtain⟨_,_,_,e,_⟩:=x;exact⟨_,e⟩
 | own y=>obtain⟨_,e⟩:=x;exact⟨_,e⟩
 | xd fs=>obtain⟨_,⟨_,_,_,e,_⟩,_⟩:=x;exact⟨_,e⟩
 | rng lo hi=>obtain⟨_,_,_,e⟩:=x;exact⟨_,e⟩
 | frz ob u=>obtain⟨e,_⟩:=x;exact⟨_,e⟩
 | tbl ps=>exact⟨_,(show h.get? a=some _ from x)⟩
 | met f y=>exact⟨_,(show h.get? a=some _ from x)⟩
 | ext φ=>obtain⟨_,⟨_,e⟩,_⟩:=x;exact⟨_,e⟩
theorem F0.freeN {P:Program}{w:World}{H:Hp}{h:Heap}{a:Addr} (x:F0 P w H h) (e:h.get? a=none):H a=none:=by
 cases q:H a with
 | none=>rfl
 | some u=>obtain⟨ob,e'⟩:=(x a u q).get;rw[e]at e';cases e'
theorem Inv.laidN {X:Cx}{pins:List (Addr×Obj)}{σ:St}{H:Hp}{s:zz8}{h':Heap}{a:Addr}{o:HO}{t':Nat} (I:Inv X pins σ H s) (k:∀b u,s.heap.get? b=some u->h'.get? b=some u) (hp:s.heap.get? a=none) (new:aD X.prog X.w (upd H a o) h' a o) :
  Inv X pins σ (upd H a o) { s with heap:=h',toks:=t' }:=by
 have hn:=I.hok.freeN hp;refine I.un ⟨λb ob e _ _ _=>k b ob e,λb ob e _ _ _=>⟨ob.slots,k b ob e⟩,λb ob e n _=>?_,λb ob e _=>⟨ob,k b ob e⟩,λb xs e=>?_,λb ob u e=>?_,λb ps e=>⟨#[],?_⟩⟩ λb u e=>?_
 .rw [ag (λz=>by rw[z,hp]at e;cases e)];exact n
 .rw [ag (aq e hn)];exact e
 .rw [ag (aq e hn)];exact e
 .rw [ag (aq e hn)];simpa using e
 .by_cases hb:b=a
  .subst hb;rw[ak]at e;cases e;exact new
  .rw [ag hb]at e
   exact(I.hok b u e).stay (λc v _ q=>k c v q) (λc q=>by rw[ag (aq q hn)];exact q) λc xs q=>by rw[ag (aq q hn)];exact q
section
variable {X:Cx}
end
theorem qM:typeLookup (.type "list") "keys"=pure none:=by rw[DN,C5];kernel_rfl
theorem k7:entryFor table "dict.update.loop"=some Builtin.«dict.update.loop»:=entryFor_of_tree (by kernel_rfl)
theorem gL:plainId "dict.update.loop"=true:=by decide +kernel
section
variable {prog:Program}{w:World}{A:Around}{E:zz9->zz8->Prop}{s:zz8}
theorem qH {a:Addr}{o:Obj}{xs:Array zz9}{k:Nat}{Q:Option zz9->zz8->Prop} (hx:s.heap.get? a=some o) (hc:o.cls=.type "list") (NI:o.data=.seq xs k) (hd:o.dict=none) (hA:A.handled=none)
  (h:∀h' tk,(∀b ob,s.heap.get? b=some ob->h'.get? b=some ob)->Q none { s with heap:=h',toks:=tk }):wpAny (model prog w) A (getAttr? (.ref a) "keys") Q E s:=by
 obtain⟨c,Up,dat,sl⟩:=o;simp only at hc NI hd;subst hc NI hd;obtain⟨hp,g,d,tk,os⟩:=s;have hT:∀HU,(⟨hp,g,d,HU,os⟩:zz8).TypeIs (.ref a) "list":=λ_=>⟨_,hx,rfl⟩
 have f1:=sub_AttributeError;have f3:=DS.lookup;have f4:=DS.bind (.ref a);have f5:=am_list_getattr_none;unfold getAttr? getAttrBy? getAttrBy
 repeat (any_goals (first|assumption|exact hT _|((with_reducible show wpAny _ _ (call (Value.builtin "list.__getattribute__") _ _) _ _ _);refine call_meets DS (hT _) am_entry_list_getattribute (F.args_list_getattribute_2 _ _) (meets_getattribute_miss_list a xs k sl "keys" _ qM (by decide) (by size_fits)) ⟨hx,hA,λh' HU e Ov=>?_⟩)|wp_step))
 obtain⟨t',u',he⟩:=Ov.there;have hk:=Ov.keeps;show wpAny _ _ (getattributeRaised _ _ _ _ _ _ _) _ _ _;unfold getattributeRaised
 repeat (any_goals (first|assumption|exact h _ _ hk|wp_step))
end
section
variable {prog:Program}{w:World}{A:Around}{R:Result->zz8->Prop}{K:Type} [DecidableEq K] {knd:PySem.KeyKind prog w K}
def oj (knd:PySem.KeyKind prog w K) (h:Heap) (D I:Addr) (items:Array zz9) (ps:List (K×zz9)):Prop :=
 items.size=ps.length/\∀(i:Nat) (v:zz9),items[i]?=some v->∃(t:Addr) (o:Obj) (u x:zz9) (n:Nat) (k:K),v=.ref t/\t≠D/\t≠I/\h.get? t=some o/\o.cls=.type "tuple"/\o.data=.seq #[u,x] n/\knd.is k u=true/\ps[i]?=some (k,x)
theorem vB (hh:A.handled=none) (I l D:Addr) (FQ:l≠I) (Rb:D≠I) (X3:D≠l) (items:Array zz9) (ps:List (K×zz9)) (hsz:ps.length<=sizeLine) (s0:zz8) (hP:oj knd s0.heap D I items ps) :
  ∀(k i:Nat) (s:zz8) (z:Tok),ps.length-i=k->i<=ps.length->s.heap.IsListIter I l i->s.heap.IsList l items->(∀b o,b≠D->b≠I->s0.heap.get? b=some o->s.heap.get? b=some o) ->
   s.heap.DictOf knd D (merged [] (ps.take i))->(merged [] (ps.take i)).length<=i ->
   (∀h' tk,(∀b o,b≠D->b≠I->s.heap.get? b=some o->h'.get? b=some o)->h'.DictOf knd D (merged [] ps)->R (.ok (.ret .none)) { s with heap:=h',toks:=tk }) ->
   codeAny (model prog w) A (.builtin "dict.update.loop" ⟨[.ref D,.ref I,.int i z,.none],[]⟩) R s:=by
 have W:=DU (prog:=prog) (w:=w) (A:=A.in1) hh I l FQ items;intro k
 induction k with
 | zero =>
  intro i s z hk hi hit hl QP hD FJ hR;have GH:i=ps.length:=by omega
  refine BF k7 ?_;rw[BB gL _];show wpAny _ A.in1 (pyNext (.ref I) >>= _) _ _ s;refine AF (W.done s _ _ (by rw[hP.1,<- GH];exact⟨hit,hl⟩) λh' tk hm=>?_);show wpAny _ A.in1 (Builtin.Dict.addKeywords D [] >>= λ_=>ret Value.none) _ _ _;refine AF (AI (AI (hR h' tk (λb o _ XJ e=>hm b o (by simpa using XJ) e) ?_)));rw[GH,B3]at hD;obtain⟨o,es,ep,ho,rest⟩:=hD;exact⟨o,es,ep,hm D _ (by simpa using Rb) ho,rest⟩
 | succ k ih =>
  intro i s z hk hi hit hl QP hD FJ hR;have FM:i<ps.length:=by omega
  refine BF k7 ?_;rw[BB gL _];show wpAny _ A.in1 (pyNext (.ref I) >>= _) _ _ s;refine AF (W.item i s _ _ (by rw[hP.1];exact FM) ⟨hit,hl⟩ λv h' tk hv Ng hm=>?_);obtain⟨t,o,u,x,n,kk,rfl,WV,Tq,ho,KA,Lu,Xq,II⟩:=hP.2 i v hv;have GZ:h'.get? t=some o:=hm t o (by simpa using Tq) (QP t o WV Tq ho);have Re:h'.DictOf knd D (merged [] (ps.take i)):=by
   obtain⟨o,es,ep,ho,rest⟩:=hD;exact⟨o,es,ep,hm D _ (by simpa using Rb) ho,rest⟩
  refine AF (Bo ?_);refine AF (Cg ?_);unfold Builtin.Dict.pairItems;refine AF (Dy (T:="tuple") (show Shared.TypeIs { s with heap:=h',toks:=tk } (.ref t) "tuple" from⟨o,GZ,KA⟩) ?_);rw[if_pos (by rfl)];unfold seqItems?;refine AF (AF (Fb GZ ?_));rw[Lu];refine AI (AI ?_);show wpAny _ _ (holding [u,x] (dictSet D u x)) _ _ _;refine Bo (wpAny_dictSet_pairs (hsz:=by omega) Xq Re λh2 hd2 He=>?_);have he:stored (merged [] (ps.take i)) kk x=merged [] (ps.take (i+1)):=by
   rw[Br,II];simp[merged,E6]
  rw[he]at hd2;have Iv:∀b ob,b≠D->h'.get? b=some ob->h2.get? b=some ob:=λb ob hb e=>(He.2 b hb).trans e;refine AI ⟨B4 gL _,ih (i+1) _ _ (by omega) (by omega) (Ng.1.at λo e=>Iv I o Rb.symm e) (Ng.2.at λo e=>Iv l o X3.symm e) (λb ob h1 h2 e=>Iv b ob h1 (hm b ob (by simpa using h2) (QP b ob h1 h2 e))) hd2 ?_ λh3 OX Xr LB=>?_⟩
  .rw [<- he]
   have:=stored_length_le (merged [] (ps.take i)) kk x;omega
  .exact hR h3 OX (λb ob h1 h2 e=>Xr b ob h1 h2 (Iv b ob h1 (hm b ob (by simpa using h2) e))) LB
end
theorem lZ {P:Program}{w:World}{H:Hp}{h:Heap} (ok:F0 P w H h) {D I:Addr} (hD:H D=none) (hI:H I=none):∀{ts:List (Addr×Str×V)}{us:List zz9},ar (ts.map λt=>V.ref t.1) us->(∀t∈ts,H t.1=some (.tup [.str t.2.1,t.2.2])) ->
  ∃ps:List (Key×zz9),oj (bR P w) h D I us.toArray ps/\KV (ts.map λt=>((Sum.inr t.2.1:Key),t.2.2)) ps
 | [],_,.nil,_=>⟨[],⟨rfl,λi v e=>by simp at e⟩,.nil⟩
 | t::ts,_,.cons (b:=u) (l₂:=us) r rs,ht=>by
  obtain⟨ps,⟨h1,h2⟩,h3⟩:=lZ ok hD hI rs λx hx=>ht x (AR _ hx);have e0:=ht t AK;obtain⟨_,FC,rv,o,ho,hc,n,hd⟩:=ok _ _ e0;obtain⟨a,b,rfl,ra,rb⟩:=ar.two rv;obtain⟨tk,rfl⟩:=ra;have eu:u=Value.ref t.1:=r;subst eu;refine⟨(Sum.inr t.2.1,b)::ps,⟨by simp at h1 ⊢;omega,λi v e=>?_⟩,.cons ⟨rfl,rb⟩ h3⟩;cases i with
  | zero =>
   have ev:v=Value.ref t.1:=by simpa using e.symm
   subst ev;refine⟨t.1,o,_,b,n,Sum.inr t.2.1,rfl,aq e0 hD,aq e0 hI,ho,hc,hd,kH _ _ _ _,rfl⟩
  | succ i =>
   obtain⟨t',o',u',x',n',k',q1,q2,q3,q4,q5,q6,q7,q8⟩:=h2 i v (by simpa using e);exact⟨t',o',u',x',n',k',q1,q2,q3,q4,q5,q6,q7,by simpa using q8⟩
section
variable {X:Cx}
theorem rZ (hc:X.calm=true):bh X (.type "dict") (λxs H Q=>∃(l:Addr) (ts:List (Addr×Str×V)),xs=[.ref l]/\FF X.K H l (ts.map λt=>V.ref t.1)/\(∀t∈ts,H t.1=some (.tup [.str t.2.1,t.2.2]))/\ts.length<=1000/\(ts.map (·.2.1)).Nodup /\
  ∀d,H d=none->Q (.ref d) (upd H d (.dK (ts.map λt=>((Sum.inr t.2.1:Key),t.2.2))))):=by
 intro pins s σ H xs us Q I r h;obtain⟨l,ts,rfl,hq,ht,hz,Gf,q⟩:=h;obtain⟨u,rfl,rx⟩:=vals1 r;cases rx;have hh:X.A.handled=none:=I.ok.hd hc;obtain⟨FC,r',pl,_⟩:=I.list hq;obtain⟨o,n,ho,KA,Qy,Lu⟩:=pl;refine callType_codes (Q₁:=λobj s₁=>obj=.ref s.heap.objs.size/\s₁={ s with heap:=s.heap.push { cls:=.type "dict",data:=.dict #[] } }) F.kt_called_dict (F.kt_typeCall_dict_1 _) F.entry_dict_init (kt_code_dict_new _ ⟨rfl,rfl⟩) ?_;rintro obj s₁ ⟨rfl,rfl⟩;have HE:(s.heap.push { cls:=.type "dict",data:=.dict #[] }).DictOf (bR X.prog X.w) s.heap.objs.size []:=Heap.DictOf.new s.heap;refine⟨HE.typeIs,F.args_dict_init_2 _ _,?_⟩;unfold Builtin.«dict.__init__»;refine AF ?_;unfold Builtin.Dict.selfAndRest;refine AF (wpAny_notOrdered_dict HE.typeIs ?_);show wpAny _ _ (pure (s.heap.objs.size,[Value.ref l])) _ _ _;refine AI ?_;show wpAny _ _ (Builtin.Dict.updateFrom "dict.__init__" s.heap.objs.size (.ref l) [] .none) _ _ _;unfold Builtin.Dict.updateFrom;have IL:=AH { cls:=.type "dict",data:=.dict #[] } ho;refine AF (Dy (T:="list") (show Shared.TypeIs { s with heap:=s.heap.push { cls:=.type "dict",data:=.dict #[] } } (.ref l) "list" from⟨o,IL,KA⟩) ?_);rw[if_pos (by decide)];refine AF (qH IL KA Lu Qy hh λh2 HJ k2=>?_);rw[if_pos (by rfl)];refine AF (Dc ?_);have Ow:h2.IsList l FC.toArray:=⟨o,k2 _ _ IL,KA,n,Lu⟩
 refine AF (Cn Ow ?_);have fD:H s.heap.objs.size=none:=I.fresh;have M7:∀b ob,s.heap.get? b=some ob->h2.get? b=some ob:=λb ob e=>k2 b ob (AH _ e);have OF:h2.DictOf (bR X.prog X.w) s.heap.objs.size []:=by
  obtain⟨o,es,ep,ho,rest⟩:=HE;exact⟨o,es,ep,k2 _ _ ho,rest⟩
 have Ra:s.heap.objs.size<h2.objs.size:=by obtain⟨o,es,ep,ho,rest⟩:=OF;exact AN ho
 have nI:s.heap.get? h2.objs.size=none:=by
  cases e0:s.heap.get? h2.objs.size with
  | none=>rfl
  | some o=>exact absurd (AN (M7 _ _ e0)) (Bt _)
 have fI:H h2.objs.size=none:=I.hok.freeN nI;obtain⟨ps,hP,Q9⟩:=lZ (D:=s.heap.objs.size) (I:=h2.objs.size) (I.hok.kept λb u e=>AH { cls:=.type "list_iterator",data:=.fields #[.ref l,.int 0 0] } (M7 b u e)) fD fI r' ht;have Ga:ps.length=ts.length:=by have:=Q9.length;rw[AG]at this;exact this.symm
 have Xp:(ps.map (·.1)).Nodup:=by
  rw[<- Q9.keys,A6];have:(ts.map ((λx:Key×V=>x.1) ∘ λt=>((Sum.inr t.2.1:Key),t.2.2)))=(ts.map (·.2.1)).map Sum.inr:=by rw[A6];rfl
  rw[this];exact List.Pairwise.map _ (λa b IW e=>IW (DK e)) Gf
 refine AI ⟨B4 gL _,?_⟩;show codeAny (model X.prog X.w) X.A.in1 (.builtin "dict.update.loop" ⟨[.ref s.heap.objs.size,.ref h2.objs.size,.int ((0:Nat):Int) 0,.none],[]⟩) (wants (λr s₂=>r=Value.none/\EP X pins σ Q (Value.ref s.heap.objs.size) s₂) X.xe) { s with heap:=h2.push { cls:=.type "list_iterator",data:=.fields #[.ref l,.int 0 0] },toks:=HJ };refine vB (A:=X.A.in1) (knd:=bR X.prog X.w) hh h2.objs.size l s.heap.objs.size (A4 (AN (M7 _ _ ho))) (A4 Ra) (λe=>absurd (AN ho) (by rw[<- e];exact Bt _)) FC.toArray ps (by rw[Ga,Bw];omega) { s with heap:=h2.push { cls:=.type "list_iterator",data:=.fields #[.ref l,.int 0 0] },toks:=HJ } hP _ 0 _ _ rfl (Bi _) ⟨_,AU _ rfl,rfl,rfl⟩ (Ow.push _) (λb o _ _ e=>e) ?_ (Bi _) λh3 OX k3 LB=>⟨rfl,?_⟩
 .obtain⟨o,es,ep,ho,rest⟩:=OF
  exact⟨o,es,ep,AH _ ho,rest⟩
 rw[merged_nil_of_nodup ps Xp]at LB;have PF:∀b ob,s.heap.get? b=some ob->h3.get? b=some ob:=λb ob e=>k3 b ob (A4 (AN e)) (A4 (AN (M7 b ob e))) (AH _ (M7 b ob e));refine⟨.ref s.heap.objs.size,_,I.laid (h':=h3) (t':=OX) (o:=.dK (ts.map λt=>((Sum.inr t.2.1:Key),t.2.2))) PF (AY _) ⟨?_,?_,ps,Q9,LB⟩,rfl,q _ fD⟩
 .rw [AG,Bw];omega
 .have:=I.big
  exact beq_eq_false_iff_ne.mpr (CG this)
end
end L2
namespace L2
open PySem PySem.Spec PyProof.Rows
section
variable {X:Cx}
end
end L2
namespace L2
open PySem PySem.Spec PyProof.Rows PySem.W PySem.Calls
section
variable {X:Cx}
end
def cL:zz9->Str
 | .str x _=>x
 | _=>default
structure bH (w:World) (o:Obj) (ss:List Str) (es:Array (Int×zz9)) (ep:Nat) (t:SetTable):Prop where
 cls:o.cls=.type "set"
 dic:o.dict=none
 slo:o.slots=#[]
 dat:o.data=.set es ep t
 els:∀e∈es.toList,∃tk,e.2=.str (cL e.2) tk/\e.1=hashStr w (cL e.2)
 all:(es.toList.map λe=>cL e.2).Perm ss
 one:ss.Nodup
 few:ss.length<4000
 fit:t.fits es.size=true
 led:t.led=!w.params.followText "set-order"
 pla:es.size=0\/t.plain=false
theorem bH.size {w:World}{o:Obj}{ss:List Str}{es:Array (Int×zz9)}{ep:Nat}{t:SetTable} (x:bH w o ss es ep t):es.size=ss.length:=by
 have:=x.all.length_eq;rw[AG,Bh]at this;exact this
theorem bH.elems {P:Program}{w:World}{o:Obj}{ss:List Str}{es:Array (Int×zz9)}{ep:Nat}{t:SetTable} (x:bH w o ss es ep t):ElemsOf (PySem.strKind P w) es.toList:=by
 intro e he;obtain⟨tk,h1,h2⟩:=x.els e he;refine⟨⟨cL e.2,?_,h2⟩,?_⟩
 .have z:=Ed P w (cL e.2) tk
  rw[<- h1]at z;exact z
 .rw [h1];rfl
theorem qD (t:SetTable) (n:Nat):(t.orStandIn n).led=t.led:=by
 unfold SetTable.orStandIn;split<;>rfl
theorem sk (t:SetTable) (es:Array (Int×zz9)) (h:Int) (x:zz9):(layNew t es h x).2.1.led=t.led:=by
 unfold layNew;split
 .exact qD _ _
 .rfl
theorem qX (t:SetTable) (es:Array (Int×zz9)) (n:Nat):(relayAll t es n).2.1.led=t.led/\(t.plain=false->(relayAll t es n).2.1.plain=false):=by
 unfold relayAll;split
 .rename_i t' order he
  have hz:t'.led=t.led/\t'.plain=t.plain:=by
   unfold SetTable.relaid SetTable.laid at he
   revert he
   cases SetTable.layClean (SetTable.sizeAbove n-1) (es.map (·.1))with
   | none=>intro he;cases he
   | some ow=>intro he;cases he;exact⟨rfl,rfl⟩
  dsimp only
  split
  .exact⟨hz.1,λe=>hz.2.trans e⟩
  .exact⟨rfl,λ_=>rfl⟩
 .exact⟨rfl,λ_=>rfl⟩
theorem gM {h:Heap}{a:Addr}{o:Obj}{es es':Array (Int×zz9)}{ep:Nat}{t t':SetTable} (ho:h.get? a=some o) (hd:o.data=.set es ep t) :
  (h.update a (Obj.putSet es' t')).get? a=some { o with data:=.set es' (ep+1) t' }:=by
 have q:=By (Obj.putSet es' t') ho (by rw[putSet_of es' t' hd];rfl);rw[putSet_of es' t' hd]at q;exact q
section
variable {prog:Program}{w:World}{A:Around}{E:zz9->zz8->Prop}{s:zz8}
theorem vb {a:Addr}{o:Obj}{ss:List Str}{k:Str}{tk:Tok}{es:Array (Int×zz9)}{ep:Nat}{t:SetTable}{R:Option Bool->zz8->Prop}
  (ho:s.heap.get? a=some o) (x:bH w o ss es ep t) (hk:k∉ss) (few:ss.length+1<4000)
  {L:Array (Int×zz9)×SetTable×Bool×Bool} (hL:layNew t es (hashStr w k) (.str k tk)=L)
  (h:∀(h':Heap) (o':Obj) es' FX t',Heap.SameBut a s.heap h'->h'.get? a=some o'->bH w o' (k::ss) es' FX t'->R (some true) { s with heap:=h' }) (g:Bool->Sem Unit) (hg:∀(b:Bool) (s₁:zz8) (Q':Unit->zz8->Prop),Q' () s₁->wpAny (model prog w) A (g b) Q' E s₁) :
  wpAny (model prog w) A (do
   storeSet a L.1 { L.2.1 with plain:=false }
   if (!L.2.2.1&&({ L.2.1 with plain:=false }:SetTable).tooFull)=true then do
    g (relayAll { L.2.1 with plain:=false } L.1 (SetTable.grown L.1.size)).2.2
    storeSet a (relayAll { L.2.1 with plain:=false } L.1 (SetTable.grown L.1.size)).1 (relayAll { L.2.1 with plain:=false } L.1 (SetTable.grown L.1.size)).2.1
    pure (some true)
   else pure (some true)) R E s:=by
 have pm:=layNew_perm t es (hashStr w k) (.str k tk);have pf:=layNew_fits t es (hashStr w k) (.str k tk);have pl:=sk t es (hashStr w k) (.str k tk);rw[hL]at pm pf pl;obtain⟨e1,t1,b1,b2⟩:=L
 dsimp only at pm pf pl ⊢
 rw[E7]at pm;have hsz:=x.size;have z1:e1.size=ss.length+1:=by
  have:=pm.length_eq;rw[Bu,Bh,Bh]at this;rw[this,hsz];rfl
 have mk:∀{e2:Array (Int×zz9)}{t2:SetTable}{o2:Obj}{Kf:Nat},e2.toList.Perm e1.toList->o2.cls=.type "set"->o2.dict=none->o2.slots=#[]->o2.data=.set e2 Kf t2->t2.fits e2.size=true->t2.led=t.led->t2.plain=false->bH w o2 (k::ss) e2 Kf t2:=by
  intro e2 t2 o2 Kf p1 c1 c2 c3 c4 c5 c6 c7;have p2:=p1.trans pm;refine⟨c1,c2,c3,c4,λe he=>?_,?_,?_,?_,c5,c6.trans x.led,.inr c7⟩
  .rcases A1.mp (p2.mem_iff.mp he)with q|q
   .exact x.els e q
   .rw [AQ.mp q];exact⟨tk,rfl,rfl⟩
  .refine (p2.map _).trans ?_
   rw[AX];exact(List.perm_append_comm).trans (List.Perm.cons k x.all)
  .exact Bj.mpr ⟨hk,x.one⟩
  .rw [Bd];exact few
 have fz:({ t1 with plain:=false }:SetTable).fits e1.size=true:=SetTable.fits_plain_off pf;refine AF (DZ ho x.dat ?_ (by rw[z1,Bw];omega));have g1:=gM (es':=e1) (t':={ t1 with plain:=false }) ho x.dat;have sb:=BZ s.heap a (Obj.putSet e1 { t1 with plain:=false });split
 .have rp:=relayAll_perm { t1 with plain:=false } e1 (SetTable.grown e1.size)
  have rf:=relayAll_fits { t1 with plain:=false } e1 (SetTable.grown e1.size);have rl:=qX { t1 with plain:=false } e1 (SetTable.grown e1.size);generalize relayAll { t1 with plain:=false } e1 (SetTable.grown e1.size)=R2 at rp rf rl ⊢;have z2:R2.1.size=ss.length+1:=by
   have:=rp.length_eq;rw[Bh,Bh]at this;rw[this,z1]
  refine AF (hg _ _ _ ?_);refine AF (DZ g1 rfl ?_ (by rw[z2,Bw];omega));have g2:=gM (es':=R2.1) (t':=R2.2.1) g1 rfl;exact AI (h _ _ R2.1 _ R2.2.1 (sb.trans (BZ _ a _)) g2 (mk rp x.cls x.dic x.slo rfl rf (rl.1.trans pl) (rl.2 rfl)))
 .exact AI (h _ _ e1 _ _ sb g1 (mk (EG _) x.cls x.dic x.slo rfl fz pl rfl))
end
def aW:List Str->List Str
 | []=>[]
 | k::r=>if k∈aW r then aW r else k::aW r
theorem jc (l:List Str) (k:Str):k∈aW l ↔ k∈l:=by
 induction l with
 | nil=>exact Iff.rfl
 | cons a r ih =>
  unfold aW;split
  .rename_i q
   rw[ih,AO];exact⟨Or.inr,λz=>z.elim (λe=>by rw[e];exact WB ih q e) id⟩
  .rw [AO,AO,ih]
where WB {r:List Str}{a k:Str} (ih:k∈aW r ↔ k∈r) (q:a∈aW r) (e:k=a):a∈r:=by subst e;exact ih.mp q
theorem uY (l:List Str):(aW l).length<=l.length:=by
 induction l with
 | nil=>exact AY _
 | cons a r ih =>
  unfold aW;split
  .rw [Bd];omega
  .rw [Bd,Bd];omega
theorem iW (l:List Str):(aW l).Nodup:=by
 induction l with
 | nil=>exact Dz
 | cons a r ih =>
  unfold aW;split
  .exact ih
  .rename_i q;exact Bj.mpr ⟨q,ih⟩
section
variable {prog:Program}{w:World}{A:Around}{E:zz9->zz8->Prop}{s:zz8}
theorem vP {a:Addr}{o:Obj}{l:List Str}{k:Str}{tk:Tok}{es:Array (Int×zz9)}{ep:Nat}{t:SetTable}{Q:Bool->zz8->Prop}
  (ho:s.heap.get? a=some o) (x:bH w o (aW l) es ep t) (few:l.length+1<4000)
  (h:∀(b:Bool) (h':Heap) (o':Obj) es' FX t',Heap.SameBut a s.heap h'->h'.get? a=some o'->bH w o' (aW (k::l)) es' FX t'->Q b { s with heap:=h' }) :
  wpAny (model prog w) A (setAddHashed a (.str k tk) (hashStr w k)) Q E s:=by
 have hl:=uY l;have hsz:=x.size;have OA:=x.elems (P:=prog);have Lz:=Ed prog w k tk;unfold setAddHashed setAddHashedIn;refine Bo (AF (B7 ho x.dat x.fit ?_))
 dsimp only
 rw[byScan_of (knd:=PySem.strKind prog w) rfl (by rw[hsz];have:scanBound=4096:=rfl;omega) OA];rw[if_pos rfl];unfold setAddByScan;refine AF (AF (Dc ?_));refine AF (wpAny_setScan_of (knd:=PySem.strKind prog w) (k:=k) Lz ho x.dat x.fit OA ?_);have mem:∀e∈es.toList,(PySem.strKind prog w).is k e.2=true ↔ cL e.2=k:=by
  intro e he;obtain⟨t',h1,_⟩:=x.els e he;rw[h1];show Value.isStrOf k (.str (cL e.2) t')=true ↔ cL (.str (cL e.2) t')=k;simp[Value.isStrOf,cL]
 cases hf:List.findIdx? (λe=>(PySem.strKind prog w).is k e.2) es.toList with
 | some j =>
  dsimp only
  obtain⟨hj,hp,_⟩:=List.findIdx?_eq_some_iff_getElem.mp hf;have GH:k∈aW l:=x.all.mem_iff.mp (AL.mpr ⟨_,Bk hj,(mem _ (Bk hj)).mp hp⟩);refine AI (AI ?_);have e2:aW (k::l)=aW l:=by show(if k∈aW l then _ else _)=_;rw[if_pos GH]
  exact h false s.heap o es ep t (E3 a s.heap) ho (by rw[e2];exact x)
 | none =>
  dsimp only
  have GH:k∉aW l:=by
   intro hk;obtain⟨e,he,ee⟩:=AL.mp (x.all.mem_iff.mpr hk);have:=List.findIdx?_eq_none_iff.mp hf e he;rw[(mem e he).mpr ee]at this;cases this
  have e2:aW (k::l)=k::aW l:=by show(if k∈aW l then _ else _)=_;rw[if_neg GH]
  have fin:∀(h':Heap) (o':Obj) es' FX t',Heap.SameBut a s.heap h'->h'.get? a=some o'->bH w o' (k::aW l) es' FX t'->Q true { s with heap:=h' }:=λh' o' es' FX t' c1 c2 c3=>h true h' o' es' FX t' c1 c2 (by rw[e2];exact c3);have Nz:∀(b:Bool) (s₁:zz8) (Q':Unit->zz8->Prop),Q' () s₁->wpAny (model prog w) A (match b with|true=>rule "set.scan.the-table-gave-way" | false=>pure ()) Q' E s₁:=λb s₁ Q' q=>by
   cases b
   .exact AI q
   .exact Dc q
  generalize hL:layNew t es (hashStr w k) (.str k tk)=L;obtain⟨e1,t1,b1,b2⟩:=L
  dsimp only
  refine AF (Nz _ _ _ ?_);have tail:=λ(g:Bool->Sem Unit) hg=>vb (A:=A) (E:=E) (prog:=prog) (R:=λr s'=>wpAny (model prog w) A (match r with|some added=>pure added|none=>setAddHashedIn a (.str k tk) (hashStr w k) 99999) Q E s') ho x GH (by omega) hL (λh' o' es' FX t' c1 c2 c3=>AI (fin h' o' es' FX t' c1 c2 c3)) g hg
  dsimp only at tail
  split
  .refine AF ?_
   rw[hashByValue_scannable 8 rfl];refine AI ?_;exact tail _ Nz
  .rename_i Ga
   refine AF (AI ?_);have hp:t1.plain=false:=by cases q:t1.plain with|false=>rfl|true=>exact absurd q Ga
   have et:t1={ t1 with plain:=false }:=by cases t1;cases hp;rfl
   rw[if_pos rfl];rw[et];exact tail _ Nz
theorem sJ {I S:Addr}{fp:List Addr}{FC:List zz9}{ss:List Str}{St:Nat->Heap->Prop}{R:Result->zz8->Prop}{m:Nat} (hm:m=FC.length)
  (W:Walks prog w A.in1 I fp [I] m (λi v=>FC[i]?=some v) St) (hS:S∉fp) (hv:ar (ss.map V.str) FC) (few:ss.length+1<4000) :
  ∀(k i:Nat) (s:zz8) (o:Obj) (es:Array (Int×zz9)) (ep:Nat) (t:SetTable),FC.length-i=k->i<=FC.length->St i s.heap->s.heap.get? S=some o->bH w o (aW (ss.take i).reverse) es ep t ->
   (∀(h':Heap) (tk:Nat) (o':Obj) es' FX t',(∀b ob,b≠S->b≠I->s.heap.get? b=some ob->h'.get? b=some ob)->h'.get? S=some o'->bH w o' (aW ss.reverse) es' FX t'->R (.ok (.ret .none)) { s with heap:=h',toks:=tk }) ->
   codeAny (model prog w) A (.builtin "set.update.loop" ⟨[.ref S,.ref I],[]⟩) R s:=by
 have FJ:ss.length=FC.length:=by have:=hv.length;rwa [AG]at this
 subst hm;have NS:S≠I:=λe=>hS (by rw[e];exact W.sub I (AQ.mpr rfl));intro k
 induction k with
 | zero =>
  intro i s o es ep t hk hi st ho x q;have e:i=FC.length:=by omega
  subst e;refine BF Dl ?_;rw[BB Cs _];show wpAny _ A.in1 (pyNext (.ref I) >>= _) _ _ s;refine AF (W.done s _ _ st λh' tk kp=>?_);show wpAny _ A.in1 (ret Value.none) _ _ _;rw[<- FJ,B3]at x;exact AI (q h' tk o es ep t (λb ob _ hb e=>kp b ob (by simpa using hb) e) (kp S o (by simpa using NS) ho) x)
 | succ k ih =>
  intro i s o es ep t hk hi st ho x q;have FM:i<FC.length:=by omega
  have Hu:i<ss.length:=by omega
  refine BF Dl ?_;rw[BB Cs _];show wpAny _ A.in1 (pyNext (.ref I) >>= _) _ _ s;refine AF (W.item i s _ _ FM st λv h1 N7 hP O8 kp=>?_);obtain⟨u,hu,ru⟩:=hv.get (i:=i) (x:=.str ss[i]) (by rw[AZ,AJ Hu];rfl);have ev:v=u:=by rw[hP]at hu;cases hu;rfl
  subst ev;obtain⟨tv,rfl⟩:=ru;have IL:h1.get? S=some o:=kp S o (by simpa using NS) ho;show wpAny _ A.in1 (holding [Value.str ss[i] tv] (setAdd S (.str ss[i] tv)) >>= _) _ _ _;refine AF (Bo ?_);unfold setAdd;refine Bo ?_;refine AF ((PySem.strKind prog w).pyHash (k:=ss[i]) (Ed prog w _ _) ?_);have Jb:(ss.take i).reverse.length+1<4000:=by rw[List.length_reverse,B0];omega
  refine vP (s:={ s with heap:=h1,toks:=N7+1 }) IL x Jb λb h2 o2 NV Kf t2 sb Ju x2=>?_;have e3:ss[i]::(ss.take i).reverse=(ss.take (i+1)).reverse:=by
   rw[Br,AJ Hu,List.reverse_append];rfl
  rw[e3]at x2;refine AI ⟨B4 Cs _,ih (i+1) _ o2 NV Kf t2 (by omega) FM (W.frame _ h1 _ O8 λb hb ob e=>?_) Ju x2 λh' tk o' es' FX t' PD c1 c2=>?_⟩
  .rw [sb.2 b (λz=>hS (by rw[<- z];exact hb))];exact e
  .refine q h' tk o' es' FX t' (λb ob b1 b2 e=>PD b ob b1 b2 ?_) c1 c2
   show h2.get? b=some ob;rw[sb.2 b b1];exact kp b ob (by simpa using b2) e
theorem mM (a:zz9) {Q₁:zz9->zz8->Prop}
  (h:Q₁ (.ref s.heap.objs.size) { s with heap:=s.heap.push { cls:=.type "set",dict:=none,data:=.set #[] 0 (.fresh 0 0 (!w.params.followText "set-order")) } }) :
  codeAny (model prog w) A (.call (.builtin "set.__new__") ⟨[.type "set",a],[]⟩) (wants Q₁ E) s:=by
 refine DO ?_;show wpAny _ A.in1 (checkBuiltinCall "set.__new__" ⟨[.type "set",a],[]⟩ >>= λ_=>again (.builtin "set.__new__" ⟨[.type "set",a],[]⟩)) _ _ s;refine AF (Cz (PySem.F.newCall_set_1 a) (AI ⟨B4 PySem.F.plain_set_new _,BF PySem.F.entry_set_new ?_⟩));rw[BB PySem.F.plain_set_new _];unfold Builtin.«set.__new__» Builtin.Frozenset.newClass;have known:=sub_set_self;obtain⟨h0,g0,d0,tk0,os0⟩:=s
 dsimp only
 wp_walk
 refine CQ (AI ?_)
 dsimp only
 simp only[newObj];exact AF (wpAny_alloc (AI (AI h)))
theorem rF (w:World):bH w { cls:=.type "set",dict:=none,data:=.set #[] 0 (.fresh 0 0 (!w.params.followText "set-order")) } [] #[] 0 (.fresh 0 0 (!w.params.followText "set-order")):=
 ⟨rfl,rfl,rfl,rfl,λe he=>(by cases he),List.Perm.nil,Dz,(by decide),rfl,rfl,.inl rfl⟩
end
end L2
set_option maxHeartbeats 8000000
namespace L2
open PySem PySem.Spec PyProof.Rows PySem.W PySem.Calls
section
variable {prog:Program}{w:World}{A:Around}{E:zz9->zz8->Prop}{s:zz8}
theorem sub_tuple_set:isSubtype (.type "tuple") (.type "set")=pure false:=by rw[CS];kernel_rfl
theorem qG:isSubtype (.type "tuple") (.type "frozenset")=pure false:=by rw[CS];kernel_rfl
theorem qx {l:Addr}{FC:List zz9}{ss:List Str}{Q:zz9->zz8->Prop}
  (hh:A.handled=none) (hl:s.heap.IsTuple l FC.toArray) (hv:ar (ss.map V.str) FC) (few:ss.length+1<4000)
  (h:∀(h':Heap) (tk:Nat) (o':Obj) es' FX t',(∀b ob,s.heap.get? b=some ob->h'.get? b=some ob)->h'.get? s.heap.objs.size=some o'->bH w o' (aW ss.reverse) es' FX t'->Q (.ref s.heap.objs.size) { s with heap:=h',toks:=tk }) :
  wpAny (model prog w) A (call (.type "set") [.ref l]) Q E s:=by
 obtain⟨Pz,Py,QH⟩:=BE.mro;have made:=BE.made;have subs:=BE.sub;have nt:=BE.notType;have cc:=BE.canCreate;have ct:=PySem.F.typeCall_set_1 (.ref l);refine Em (DO ?_);show wpAny _ _ (callAny (.type "set") _) _ _ _;refine AI ⟨Dp _ (by decide +kernel),BF PySem.F.entry_type_call ?_⟩;rw[Around.under_plain (weight_type_call_type "set" [.ref l] []) rfl]
 repeat (any_goals (first|assumption|wp_step))
 refine Cy (mM (.ref l) (E:=E) (Q₁:=λobj s₁=>obj=.ref s.heap.objs.size/\s₁={ s with heap:=s.heap.push { cls:=.type "set",dict:=none,data:=.set #[] 0 (.fresh 0 0 (!w.params.followText "set-order")) } }) ⟨rfl,rfl⟩) λr s₁ hr=>?_;generalize LF:(!w.params.followText "set-order")=bt at hr;cases r with
 | error e=>exact hr
 | ok fl =>
  cases fl with
  | ret obj =>
   obtain⟨rfl,rfl⟩:=hr;have g0:(s.heap.push { cls:=.type "set",dict:=none,data:=.set #[] 0 (.fresh 0 0 bt) }).get? s.heap.objs.size=some { cls:=.type "set",dict:=none,data:=.set #[] 0 (.fresh 0 0 bt) }:=AU _ rfl;have ty:Shared.TypeIs { s with heap:=s.heap.push { cls:=.type "set",dict:=none,data:=.set #[] 0 (.fresh 0 0 bt) } } (.ref s.heap.objs.size) "set":=⟨_,g0,rfl⟩
   have Ww:=BE.init.lookup;have Wx:=BE.init.bind (.ref s.heap.objs.size)
   repeat (any_goals (first|assumption|wp_step))
   refine Cy (DF (R:=wants (λr s₂=>r=.none/\∃h' tk o' es' FX t',s₂={ s with heap:=h',toks:=tk }/\(∀b ob,s.heap.get? b=some ob->h'.get? b=some ob)/\h'.get? s.heap.objs.size=some o'/\bH w o' (aW ss.reverse) es' FX t') E)
    BE.init.plain PySem.F.entry_set_init (check_set_init_1 ty ?_)) λr₂ s₂ Lo=>?_
   .obtain⟨ol,Nn,cl,nl,dl⟩:=hl
    obtain⟨c1,c2,c3,c4⟩:=ol;simp only at cl dl;subst cl;subst dl;have Lr:(s.heap.push { cls:=.type "set",dict:=none,data:=.set #[] 0 (.fresh 0 0 bt) }).get? l=some { cls:=.type "tuple",dict:=c2,data:=.seq FC.toArray nl,slots:=c4 }:=AH _ Nn;have n1:=sub_tuple_set;have n2:=qG;have n3:(Value.type "tuple" == Value.type "dict")=false:=by decide
    have Jd:(s.heap.push { cls:=.type "set",dict:=none,data:=.set #[] 0 (.fresh 0 0 bt) }).IsTuple l FC.toArray:=⟨_,Lr,rfl,nl,rfl⟩
    unfold Builtin.«set.__init__» noKeywords Builtin.Frozenset.updateFrom;generalize II:pyIter=Vw
    wp_walk
    subst II;refine CY Jd ?_;refine AF (EF ?_);have M5:l<s.heap.objs.size:=AN Nn;have h3:A.in1.in1.in1.handled=none:=by simp[hh]
    have ne1:l≠(s.heap.push { cls:=.type "set",dict:=none,data:=.set #[] 0 (.fresh 0 0 bt) }).objs.size:=by
     rw[Bz];exact A4 (B5 M5)
    have out:s.heap.objs.size∉[(s.heap.push { cls:=.type "set",dict:=none,data:=.set #[] 0 (.fresh 0 0 bt) }).objs.size,l]:=by
     rw[Bz];intro z
     rcases AO.mp z with z|z
     .exact absurd z (A4 (CC _))
     .exact absurd (AQ.mp z) (CG M5)
    have W:=Walks.tuple (prog:=prog) (w:=w) h3 (s.heap.push { cls:=.type "set",dict:=none,data:=.set #[] 0 (.fresh 0 0 bt) }).objs.size l ne1 FC.toArray;have hW:(λ(i:Nat) (v:zz9)=>FC.toArray[i]?=some v)=λi v=>FC[i]?=some v:=by funext i v;rw[Ej]
    rw[hW]at W;have g1:((s.heap.push { cls:=.type "set",dict:=none,data:=.set #[] 0 (.fresh 0 0 bt) }).push { cls:=.type "tuple_iterator",data:=.fields #[.ref l,.int 0 0] }).get? s.heap.objs.size=some { cls:=.type "set",dict:=none,data:=.set #[] 0 (.fresh 0 0 bt) }:=AH _ g0;refine sJ (A0) W out hv few (FC.length-0) 0 _ _ #[] 0 (.fresh 0 0 bt) rfl (Bi _)
     ⟨⟨_,AU _ rfl,rfl,rfl⟩,Jd.push _⟩ g1 (by subst LF;exact rF w) λh' tk o' es' FX t' kp c1 c2=>?_
    show wpAny _ _ _ _ _ _;refine AI ?_;show wpAny _ _ (ret Value.none) _ _ _;refine AI ⟨rfl,h',tk,o',es',FX,t',rfl,λb ob e=>kp b ob (A4 (AN e)) ?_ (AH _ (AH _ e)),c1,c2⟩;rw[Bz];exact A4 (B5 (AN e))
   .cases r₂ with
    | error e=>exact Lo
    | ok Rr =>
     cases Rr with
     | ret r =>
      obtain⟨rfl,h',tk,o',es',FX,t',rfl,kp,c1,c2⟩:=Lo
      repeat (any_goals (first|assumption|wp_step))
      exact h h' tk o' es' FX t' kp c1 c2
     | _=>exact Lo.elim
  | _=>exact hr.elim
theorem sub_list_set:isSubtype (.type "list") (.type "set")=pure false:=by rw[CS];kernel_rfl
theorem qR:isSubtype (.type "list") (.type "frozenset")=pure false:=by rw[CS];kernel_rfl
end
theorem dk:Slot "set_iterator" "__next__" "set_iterator.__next__" :=
 .of (owner:="set_iterator") (n:="__next__") (by rw[DN,C5];kernel_rfl) (by decide +kernel) (by decide +kernel) (by decide +kernel) (by first|exact .inl (by decide +kernel)|exact .inr (by decide +kernel)) (by rw[CS];kernel_rfl)
theorem gB:entryFor table "set_iterator.__next__"=some Builtin.«set_iterator.__next__»:=entryFor_of_tree (by kernel_rfl)
theorem ly:Manifest.owners.lookup (String.ofList ['r','o','t','a','r','e','t','i','_','t','e','s'].reverse)=some Manifest.sig_set_iterator:=by kernel_rfl
theorem gE (a:zz9):argsOk "set_iterator.__next__" ⟨[a],[]⟩:=by
 unfold argsOk;rw[signature?_of (id:="set_iterator.__next__") (n:=['_','_','t','x','e','n','_','_']) (o:=['r','o','t','a','r','e','t','i','_','t','e','s']) (by kernel_rfl) ly]
 kernel_rfl
theorem kz:Slot "set_iterator" "__iter__" "set_iterator.__iter__" :=
 .of (owner:="set_iterator") (n:="__iter__") (by rw[DN,C5];kernel_rfl) (by decide +kernel) (by decide +kernel) (by decide +kernel) (by first|exact .inl (by decide +kernel)|exact .inr (by decide +kernel)) (by rw[CS];kernel_rfl)
theorem qI (a:zz9):argsOk "set_iterator.__iter__" ⟨[a],[]⟩:=by
 unfold argsOk;rw[signature?_of (id:="set_iterator.__iter__") (n:=['_','_','r','e','t','i','_','_']) (o:=['r','o','t','a','r','e','t','i','_','t','e','s']) (by kernel_rfl) ly]
 kernel_rfl
theorem qv:entryFor table "set_iterator.__iter__"=some Builtin.«dict_keyiterator.__iter__» :=
 entryFor_alias (id':="dict_keyiterator.__iter__") (by kernel_rfl) (by first|rfl|decide +kernel|(unfold String.splitOn;simp +decide [String.splitOnAux])) (by decide +kernel) (by kernel_rfl)
theorem qz:entryFor table "set.__iter__"=some Builtin.«frozenset.__iter__» :=
 entryFor_alias (id':="frozenset.__iter__") (by kernel_rfl) (by first|rfl|decide +kernel|(unfold String.splitOn;simp +decide [String.splitOnAux])) (by decide +kernel) (by kernel_rfl)
def cE (first:zz9) (i:Nat) (a:Addr) (n ep:Nat):Array zz9:=#[first,rawInt (i:Int),.ref a,rawInt (n:Int),rawInt (ep:Int)]
def cw (h:Heap) (I:Addr) (first:zz9) (i:Nat) (a:Addr) (n ep:Nat):Prop:=∃o,h.get? I=some o/\o.cls=.type "set_iterator"/\o.data=.fields (cE first i a n ep)
theorem cw.typ {s:zz8}{I:Addr}{first:zz9}{i:Nat}{a:Addr}{n ep:Nat} (x:cw s.heap I first i a n ep):s.TypeIs (.ref I) "set_iterator":=let ⟨o,h1,h2,_⟩:=x;⟨o,h1,h2⟩
theorem cw.stay {h h':Heap}{I:Addr}{first:zz9}{i:Nat}{a:Addr}{n ep:Nat} (x:cw h I first i a n ep) (e:∀o,h.get? I=some o->h'.get? I=some o):cw h' I first i a n ep:=let ⟨o,h1,h2⟩:=x;⟨o,e o h1,h2⟩
theorem gD {α:Type}:∀(l:List α) (i:Nat) (h:i<l.length),(l[i]::l.eraseIdx i).Perm l
 | [],_,h=>absurd h (Et _)
 | a::r,0,_=>EG _
 | a::r,i+1,h=>by
  show(r[i]'(Nat.lt_of_succ_lt_succ h)::a::r.eraseIdx i).Perm (a::r);exact(List.Perm.swap _ _ _).trans (List.Perm.cons a (gD r i (Nat.lt_of_succ_lt_succ h)))
section
variable {prog:Program}{w:World}{A:Around}{E:zz9->zz8->Prop}{s:zz8}
theorem sL {src:Source}{n:Nat}{Q:Nat->zz8->Prop} (hn:n≠0) (h:∀i d,i<n->Q i { s with drawn:=d }):wpAny (model prog w) A (choose src n) Q E s:=by
 intro Γ p hΓ;show Sem.wp _ _ (.choose src n .pure) _ _ _ _;rw[Sem.wp_choose];refine⟨hn,?_⟩;rw[Sem.wp_pure];exact h _ _ (EB _ (Nat.pos_of_ne_zero hn))
theorem sF {α:Type}:∀(n:Nat) (xs:List α) (s:zz8) (Q:List α->zz8->Prop),n=xs.length->(∀ys d,ys.Perm xs->Q ys { s with drawn:=d })->wpAny (model prog w) A (drawOrder n xs) Q E s:=by
 intro n
 induction n with
 | zero =>
  intro xs s Q hn h;have:xs=[]:=Ct.mp hn.symm;subst this;unfold drawOrder;exact AI (h [] s.drawn (EG _))
 | succ n ih =>
  intro xs s Q hn h;cases xs with
  | nil=>cases hn
  | cons x r =>
   unfold drawOrder;refine AF (sL (by rw[Bd];exact Nat.succ_ne_zero _) λi d hi=>?_);rw[AJ hi]
   dsimp only
   have FJ:n=((x::r).eraseIdx i).length:=by
    have:=EC (l:=x::r) (i:=i);rw[if_pos hi]at this;rw[this];omega
   refine AF (ih _ _ _ FJ λys d' pm=>AI ?_);refine h _ d' ?_;exact(List.Perm.cons _ pm).trans (gD (x::r) i hi)
theorem jd {I:Addr}{first:zz9}{i:Nat}{a:Addr}{n ep:Nat}{Q:zz9->zz8->Prop} (x:cw s.heap I first i a n ep) (h:Q (.ref I) s):wpAny (model prog w) A (pyIter (.ref I)) Q E s:=by
 refine E5 x.typ kz (BH kz x.typ qv ?_ (qI _));show wpAny _ _ (ret (.ref I)) _ _ s;exact AI ⟨_,rfl,"set_iterator",_,x.typ,dk.lookup,h⟩
theorem kW {Q:Option zz9->zz8->Prop}{R:Fin->zz8->Prop} (hh:A.handled=none)
  (hQ:∀h',(∀b o,s.heap.get? b=some o->h'.get? b=some o)->Q none { s with heap:=h' }) :
  wpAny (model prog w) A.in1 (newExc (.type "StopIteration") [] >>= raiseNew) R (λe s'=>wpAny (model prog w) A (do if <- isInstance e (.type "StopIteration")then pure none else throw e) Q E s') s:=by
 refine AF ?_;simp only[newExc,newTuple];refine AF (BG ?_ (by size_fits));refine AF (m:=firstArgMember _ _) (Cz (a:=Value.none) (by first|rfl|(simp only[firstArgMember];rfl)) ?_);refine BG ?_ (by size_fits);simp only[raiseNew];refine AF (wpAny_handled ?_);rw[show A.in1.handled=none from hh];refine AF (AI (wpAny_throw ?_));refine AF (DE (T:="StopIteration") (b:=true) ⟨_,AU _ rfl,rfl⟩ isSubtype_stop ?_);exact AI (hQ _ λb o e=>AH _ (AH _ e))
end
theorem lT {α β:Type} (f:α->β) {l1:List β}{l2:List α} (h:l1.Perm (l2.map f)):∃l:List α,l.Perm l2/\l1=l.map f:=by
 generalize e:l2.map f=m at h
 induction h generalizing l2 with
 | nil =>
  cases l2 with
  | nil=>exact⟨[],.nil,rfl⟩
  | cons a b=>cases e
 | cons y _ ih =>
  cases l2 with
  | nil=>cases e
  | cons a b =>
   rw[A8]at e;obtain⟨e1,e2⟩:=EZ e;obtain⟨l,p1,p2⟩:=ih e2;exact⟨a::l,p1.cons a,by rw[A8,e1,p2]⟩
 | swap y z l =>
  cases l2 with
  | nil=>cases e
  | cons a b =>
   cases b with
   | nil=>cases e
   | cons c d =>
    rw[A8,A8]at e;obtain⟨e1,e2⟩:=EZ e;obtain⟨e3,e4⟩:=EZ e2;exact⟨c::a::d,.swap a c d,by rw[A8,A8,e1,e3,e4]⟩
 | trans _ _ WA Wz =>
  obtain⟨l,p1,p2⟩:=Wz e;obtain⟨l',p3,p4⟩:=WA p2.symm;exact⟨l',p3.trans p1,p4⟩
structure cI (w:World) (o:Obj) (n:Nat) (es:Array (Int×zz9)) (ep:Nat) (t:SetTable):Prop where
 cls:o.cls=.type "set"
 dat:o.data=.set es ep t
 size:es.size=n
 few:n<4000
 fit:t.fits es.size=true
 led:t.led=!w.params.followText "set-order"
 pla:es.size=0\/t.plain=false
theorem bH.any {w:World}{o:Obj}{ss:List Str}{es:Array (Int×zz9)}{ep:Nat}{t:SetTable} (x:bH w o ss es ep t):cI w o ss.length es ep t:=⟨x.cls,x.dat,x.size,x.few,x.fit,x.led,x.pla⟩
theorem mS (first:zz9) (i:Nat) (a:Addr) (n ep:Nat) (x:zz9):(cE first i a n ep).setIfInBounds 0 x=cE x i a n ep:=by simp[cE]
theorem mP (first:zz9) (i:Nat) (a:Addr) (n ep:Nat):(cE first i a n ep).setIfInBounds 1 (rawInt ((i:Int)+1))=cE first (i+1) a n ep:=by simp[cE]
section
variable {prog:Program}{w:World}{A:Around}{E:zz9->zz8->Prop}{s:zz8}
theorem hX {h:Heap}{I:Addr}{first:zz9}{i:Nat}{a:Addr}{n ep:Nat}{o:Obj} (ho:h.get? I=some o) (hc:o.cls=.type "set_iterator") (hd:o.data=.fields (cE first i a n ep)) (j:Nat) (y:zz9) :
  ∃o',(h.update I (Obj.mapFields (·.setIfInBounds j y))).get? I=some o'/\o'.cls=.type "set_iterator"/\o'.data=.fields ((cE first i a n ep).setIfInBounds j y):=
 ⟨_,By _ ho (CD (Ck hd _)),(DY ..).trans hc,Ck hd _⟩
theorem lr {I a:Addr}{o:Obj}{n:Nat}{es:Array (Int×zz9)}{ep:Nat}{t:SetTable}{slot next i:Nat}{v:zz9}{Q:Option zz9->zz8->Prop}
  (hit:cw s.heap I (rawInt (slot:Int)) i a es.size ep) (FQ:a≠I) (ho:s.heap.get? a=some o) (x:cI w o n es ep t)
  (nx:∀(A:Around) (E:zz9->zz8->Prop) (Q:Option (zz9×Nat)->zz8->Prop),Q (some (v,next)) s->wpAny (model prog w) A (setNext a slot i ep) Q E s)
  (hQ:∀h',cw h' I (rawInt (next:Int)) (i+1) a es.size ep->Heap.SameBut I s.heap h'->Q (some v) { s with heap:=h' }):wpAny (model prog w) A (pyNext (.ref I)) Q E s:=by
 obtain⟨oi,Iq,Mf,HP⟩:=id hit;unfold pyNext;refine AF (C8 (BQ (name:=Str.ofString "__next__") hit.typ dk (BH dk hit.typ gB ?_ (gE _))));unfold Builtin.«set_iterator.__next__»;refine AF (Cz (a:=(Value.ref I,[])) rfl ?_)
 dsimp only
 refine AF (CO Iq HP ?_);show wpAny _ _ (setEntries a >>= _) _ _ s;refine AF (Di ho x.dat x.fit ?_);show wpAny _ _ (if ((es.size:Int) != (es.size:Int))=true then _ else _) _ _ s;rw[if_neg (by simp)];show wpAny _ _ (setNext a slot i ep >>= _) _ _ s;refine AF (nx _ _ _ ?_);show wpAny _ _ (setField (.ref I) 0 (rawInt (next:Int)) >>= _) _ _ s;refine AF (Cc Iq HP (by simp[cE]) ?_);obtain⟨o1,g1,c1,d1⟩:=hX Iq Mf HP 0 (rawInt (next:Int));rw[mS]at d1;show wpAny _ _ (setField (.ref I) 1 (rawInt ((i:Int)+1)) >>= _) _ _ _;refine AF (Cc g1 d1 (by simp[cE]) ?_);obtain⟨o2,g2,c2,d2⟩:=hX g1 c1 d1 1 (rawInt ((i:Int)+1));rw[mP]at d2;exact AI ⟨v,rfl,AI (hQ _ ⟨o2,g2,c2,d2⟩ ((BZ ..).trans (BZ ..)))⟩
theorem jg {I a:Addr}{o:Obj}{n:Nat}{es:Array (Int×zz9)}{ep:Nat}{t:SetTable}{slot i:Nat}{Q:Option zz9->zz8->Prop} (hh:A.handled=none)
  (hit:cw s.heap I (rawInt (slot:Int)) i a es.size ep) (FQ:a≠I) (ho:s.heap.get? a=some o) (x:cI w o n es ep t)
  (nx:∀(A:Around) (E:zz9->zz8->Prop) (Q:Option (zz9×Nat)->zz8->Prop),Q none s->wpAny (model prog w) A (setNext a slot i ep) Q E s)
  (hQ:∀h',(∀b o,b≠I->s.heap.get? b=some o->h'.get? b=some o)->Q none { s with heap:=h' }):wpAny (model prog w) A (pyNext (.ref I)) Q E s:=by
 obtain⟨oi,Iq,Mf,HP⟩:=id hit;unfold pyNext;refine AF (C8 (BQ (name:=Str.ofString "__next__") hit.typ dk (BH dk hit.typ gB ?_ (gE _))));unfold Builtin.«set_iterator.__next__»;refine AF (Cz (a:=(Value.ref I,[])) rfl ?_)
 dsimp only
 refine AF (CO Iq HP ?_);show wpAny _ _ (setEntries a >>= _) _ _ s;refine AF (Di ho x.dat x.fit ?_);show wpAny _ _ (if ((es.size:Int) != (es.size:Int))=true then _ else _) _ _ s;rw[if_neg (by simp)];show wpAny _ _ (setNext a slot i ep >>= _) _ _ s;refine AF (nx _ _ _ ?_);show wpAny _ _ (setField (.ref I) 2 .none >>= _) _ _ s;refine AF (Cc Iq HP (by simp[cE]) ?_);refine kW hh λh' kp=>hQ h' λb ob hb e=>kp b ob ?_;exact(Ba _ _ (BX hb)).trans e
theorem sv {I a tp:Addr}{o:Obj}{n:Nat}{es:Array (Int×zz9)}{ep:Nat}{t:SetTable}{i p:Nat}{v:zz9}{ps:Array zz9}{Q:Option zz9->zz8->Prop}
  (hit:cw s.heap I (.ref tp) i a es.size ep) (ho:s.heap.get? a=some o) (x:cI w o n es ep t) (Qa:s.heap.IsTuple tp ps) (hp:ps[i]?=some (rawInt (p:Int))) (hv:(es[p]?).map (·.2)=some v)
  (hQ:∀h',cw h' I (.ref tp) (i+1) a es.size ep->Heap.SameBut I s.heap h'->Q (some v) { s with heap:=h' }):wpAny (model prog w) A (pyNext (.ref I)) Q E s:=by
 obtain⟨oi,Iq,Mf,HP⟩:=id hit;obtain⟨ot,Ma,_,nt,QZ⟩:=Qa;unfold pyNext;refine AF (C8 (BQ (name:=Str.ofString "__next__") hit.typ dk (BH dk hit.typ gB ?_ (gE _))));unfold Builtin.«set_iterator.__next__»;refine AF (Cz (a:=(Value.ref I,[])) rfl ?_)
 dsimp only
 refine AF (CO Iq HP ?_);show wpAny _ _ (setEntries a >>= _) _ _ s;refine AF (Di ho x.dat x.fit ?_);show wpAny _ _ (if ((es.size:Int) != (es.size:Int))=true then _ else _) _ _ s;rw[if_neg (by simp)];show wpAny _ _ (seqItems? (.ref tp) >>= _) _ _ s;refine AF (BP Ma QZ ?_)
 dsimp only[CK]
 rw[hp]
 dsimp only[rawInt]
 refine AF ?_;unfold setNextDrawn;refine AF (B7 ho x.dat x.fit ?_)
 dsimp only
 rw[if_neg (by simp)]
 try rw[CK]
 cases he:es[p]? with
 | none=>rw[he]at hv;cases hv
 | some ev =>
  rw[he]at hv;cases hv;refine AI ?_;show wpAny _ _ (setField (.ref I) 1 (rawInt ((i:Int)+1)) >>= _) _ _ _;refine AF (Cc Iq HP (by simp[cE]) ?_);obtain⟨o2,g2,c2,d2⟩:=hX Iq Mf HP 1 (rawInt ((i:Int)+1));rw[mP]at d2;exact AI ⟨_,rfl,AI (hQ _ ⟨o2,g2,c2,d2⟩ (BZ ..))⟩
theorem sY {I a tp:Addr}{o:Obj}{n:Nat}{es:Array (Int×zz9)}{ep:Nat}{t:SetTable}{i:Nat}{ps:Array zz9}{Q:Option zz9->zz8->Prop} (hh:A.handled=none)
  (hit:cw s.heap I (.ref tp) i a es.size ep) (ho:s.heap.get? a=some o) (x:cI w o n es ep t) (Qa:s.heap.IsTuple tp ps) (hp:ps[i]?=none)
  (hQ:∀h',(∀b o,b≠I->s.heap.get? b=some o->h'.get? b=some o)->Q none { s with heap:=h' }):wpAny (model prog w) A (pyNext (.ref I)) Q E s:=by
 obtain⟨oi,Iq,Mf,HP⟩:=id hit;obtain⟨ot,Ma,_,nt,QZ⟩:=Qa;unfold pyNext;refine AF (C8 (BQ (name:=Str.ofString "__next__") hit.typ dk (BH dk hit.typ gB ?_ (gE _))));unfold Builtin.«set_iterator.__next__»;refine AF (Cz (a:=(Value.ref I,[])) rfl ?_)
 dsimp only
 refine AF (CO Iq HP ?_);show wpAny _ _ (setEntries a >>= _) _ _ s;refine AF (Di ho x.dat x.fit ?_);show wpAny _ _ (if ((es.size:Int) != (es.size:Int))=true then _ else _) _ _ s;rw[if_neg (by simp)];show wpAny _ _ (seqItems? (.ref tp) >>= _) _ _ s;refine AF (BP Ma QZ ?_)
 dsimp only[CK]
 rw[hp]
 dsimp only
 refine AF (Cc Iq HP (by simp[cE]) ?_);obtain⟨o1,g1,c1,d1⟩:=hX Iq Mf HP 0 (rawInt 0);rw[mS]at d1;refine AF (Cc g1 d1 (by simp[cE]) ?_);refine kW hh λh' kp=>hQ h' λb ob hb e=>kp b ob ?_;exact(Ba _ _ (BX hb)).trans ((Ba _ _ (BX hb)).trans e)
end
theorem wW {α:Type} (next:Nat->Nat):∀(n k:Nat) (left:List α) (out:Array α),n=left.length->(pickOrder.go next n k left out).toList.Perm (out.toList++left):=by
 intro n
 induction n with
 | zero =>
  intro k left out hn;have:left=[]:=Ct.mp hn.symm;subst this;unfold pickOrder.go;rw[BA]
 | succ n ih =>
  intro k left out hn;unfold pickOrder.go;have hi:next k%left.length<left.length:=EB _ (by omega);rw[AJ hi]
  dsimp only
  have hl:n=(left.eraseIdx (next k%left.length)).length:=by
   have:=EC (l:=left) (i:=next k%left.length);rw[if_pos hi]at this;rw[this];omega
  refine(ih _ _ _ hl).trans ?_;rw[E7,Co];exact List.Perm.append_left _ (gD left _ hi)
theorem iM {α:Type} (next:Nat->Nat) (xs:Array α):(pickOrder next xs).toList.Perm xs.toList:=by
 unfold pickOrder;have:=wW next xs.size 0 xs.toList #[] (Bh).symm;simpa using this
section
variable {prog:Program}{w:World}{A:Around}{E:zz9->zz8->Prop}{s:zz8}
theorem mq {a:Addr}{o:Obj}{n:Nat}{es:Array (Int×zz9)}{ep slot i:Nat}{t:SetTable} (hb:w.params.followText "set-order"=true) (ho:s.heap.get? a=some o) (x:cI w o n es ep t) {Q:Option (zz9×Nat)->zz8->Prop}
  (h:Q (((pickOrder (w.params.setOrder a ep) es)[i]?).map λe=>(e.2,slot)) s):wpAny (model prog w) A (setNext a slot i ep) Q E s:=by
 unfold setNext;refine AF (B7 ho x.dat x.fit ?_)
 dsimp only
 unfold setsByText;refine AF (AF (CQ (AI ?_)));show wpAny _ _ (if w.params.followText "set-order"=true then _ else _) _ _ s;rw[if_pos hb,if_neg (by simp)];unfold setWalk;refine AF ?_;refine AF (B7 ho x.dat x.fit ?_)
 dsimp only
 unfold setsByText;refine AF (AF (CQ (AI ?_)));show wpAny _ _ (if w.params.followText "set-order"=true then _ else _) _ _ s;rw[if_pos hb];exact AF (CQ (AI (AI h)))
theorem jw {a:Addr}{o:Obj}{n:Nat}{es:Array (Int×zz9)}{ep slot i:Nat}{t:SetTable} (hb:w.params.followText "set-order"=false) (ho:s.heap.get? a=some o) (x:cI w o n es ep t) (h1:es.size<=1) {Q:Option (zz9×Nat)->zz8->Prop}
  (h:Q (match es[SetTable.below t.place slot]?,t.place[SetTable.below t.place slot]? with|some (_,x),some j=>some (x,j+1)|_,_=>none) s):wpAny (model prog w) A (setNext a slot i ep) Q E s:=by
 have hl:t.led=true:=by rw[x.led,hb];rfl
 unfold setNext;refine AF (B7 ho x.dat x.fit ?_)
 dsimp only
 unfold setsByText;refine AF (AF (CQ (AI ?_)));show wpAny _ _ (if w.params.followText "set-order"=true then _ else if (!t.plain&&decide (es.size>1))=true then _ else _) _ _ s;rw[if_neg (by rw[hb];exact A2),if_neg (by rw[decide_eq_false (Nat.not_lt.mpr h1),Bool.and_false];exact A2)];refine AF (show wpAny _ _ (if (!t.led && !es.isEmpty)=true then unsupported "set:maker-not-led" else pure ()) _ _ s from ?_);rw[if_neg (by rw[hl];exact A2)];exact AI (AI h)
structure vG (prog:Program) (w:World) (A:Around) (s s₁:zz8) (a I:Addr) (n:Nat) (es:Array (Int×zz9)) (fp:List Addr) (ws:List zz9) (St:Nat->Heap->Prop):Prop where
 os:s₁.os=s.os
 gens:s₁.gens=s.gens
 toks:s₁.toks=s.toks
 keep:∀b o,s.heap.get? b=some o->s₁.heap.get? b=some o
 new:∀b∈fp,b=a\/s.heap.objs.size<=b
 newI:s.heap.objs.size<=I
 wk:Walks prog w A I fp [I] n (λi v=>ws[i]?=some v) St
 st:St 0 s₁.heap
 txt:ws.Perm (es.toList.map (·.2))
theorem sC {a I:Addr}{o:Obj}{n:Nat}{es:Array (Int×zz9)}{ep:Nat}{t:SetTable} (hh:A.handled=none) (hb:w.params.followText "set-order"=true) (x:cI w o n es ep t) (FQ:a≠I) :
  Walks prog w A I [I,a] [I] n (λi v=>((pickOrder (w.params.setOrder a ep) es).toList.map (·.2))[i]?=some v) (λi h=>cw h I (rawInt 0) i a es.size ep/\h.get? a=some o) where
 sub:=λb hb=>by rw[AQ.mp hb];exact .head _
 frame:=λi h h' st kp=>⟨st.1.stay λo e=>kp I (.head _) o e,kp a (.tail _ (.head _)) o st.2⟩
 item:=λi s Q E hi st hQ=>by
  have hl:(pickOrder (w.params.setOrder a ep) es).size=n:=by
   have:=(iM (w.params.setOrder a ep) es).length_eq;rw[Bh,Bh,x.size]at this;exact this
  have Gv:i<(pickOrder (w.params.setOrder a ep) es).size:=by omega
  have e1:(pickOrder (w.params.setOrder a ep) es)[i]?=some (pickOrder (w.params.setOrder a ep) es)[i]:=Bp Gv;refine lr (slot:=0) (next:=0) (v:=((pickOrder (w.params.setOrder a ep) es)[i]).2) st.1 FQ st.2 x (λA E Q q=>mq hb st.2 x (by rw[e1];exact q)) λh' Jx sb=>?_;refine hQ _ h' s.toks (by rw[AZ,BD,e1];rfl) ⟨Jx,(sb.2 a FQ).trans st.2⟩ λb ob hb e=>(sb.2 b (by simpa using hb)).trans e
 done:=λs Q E st hQ=>by
  have hl:(pickOrder (w.params.setOrder a ep) es).size=n:=by
   have:=(iM (w.params.setOrder a ep) es).length_eq;rw[Bh,Bh,x.size]at this;exact this
  have e1:(pickOrder (w.params.setOrder a ep) es)[n]?=none:=by rw[<- hl];simp
  exact jg (slot:=0) hh st.1 FQ st.2 x (λA E Q q=>mq hb st.2 x (by rw[e1];exact q)) λh' kp=>hQ h' s.toks λb ob hb e=>kp b ob (by simpa using hb) e
 self:=λi s Q E st hQ=>jd st.1 hQ
theorem rj {a I tp:Addr}{o:Obj}{n:Nat}{es:Array (Int×zz9)}{ep:Nat}{t:SetTable}{ps:List Nat} (hh:A.handled=none) (x:cI w o n es ep t) (FQ:a≠I) (Lw:tp≠I) (GF:ps.Perm (List.range es.size)) :
  Walks prog w A I [I,a,tp] [I] n (λi v=>(ps.map λp=>(es.getD p (0,.none)).2)[i]?=some v) (λi h=>cw h I (.ref tp) i a es.size ep/\h.get? a=some o/\h.IsTuple tp (ps.map λ(p:Nat)=>rawInt (p:Int)).toArray) where
 sub:=λb hb=>by rw[AQ.mp hb];exact .head _
 frame:=λi h h' st kp=>⟨st.1.stay λo e=>kp I (.head _) o e,kp a (.tail _ (.head _)) o st.2.1,st.2.2.at λo e=>kp tp (.tail _ (.tail _ (.head _))) o e⟩
 item:=λi s Q E hi st hQ=>by
  have hl:ps.length=n:=by have:=GF.length_eq;rw[Dw,x.size]at this;exact this
  have Gv:i<ps.length:=by omega
  have hp:ps[i]<es.size:=BO.mp (GF.mem_iff.mp (Bk Gv));have e1:(ps.map λ(p:Nat)=>rawInt (p:Int)).toArray[i]?=some (rawInt (ps[i]:Int)):=by rw[Ej,AZ,AJ Gv];rfl
  have e2:es[ps[i]]?=some es[ps[i]]:=Bp hp;refine sv (p:=ps[i]) (v:=(es[ps[i]]).2) st.1 st.2.1 x st.2.2 e1 (by rw[e2];rfl) λh' Jx sb=>?_;refine hQ _ h' s.toks ?_ ⟨Jx,(sb.2 a FQ).trans st.2.1,st.2.2.at λo e=>(sb.2 tp Lw).trans e⟩ λb ob hb e=>(sb.2 b (by simpa using hb)).trans e;rw[AZ,AJ Gv];show some (es.getD ps[i] (0,.none)).2=_;rw[BY,e2];rfl
 done:=λs Q E st hQ=>by
  have hl:ps.length=n:=by have:=GF.length_eq;rw[Dw,x.size]at this;exact this
  have e1:(ps.map λ(p:Nat)=>rawInt (p:Int)).toArray[n]?=none:=by rw[<- hl];simp
  exact sY hh st.1 st.2.1 x st.2.2 e1 λh' kp=>hQ h' s.toks λb ob hb e=>kp b ob (by simpa using hb) e
 self:=λi s Q E st hQ=>jd st.1 hQ
theorem sD {p:Array Nat} (h:p.size=1):SetTable.below p 0=0:=by
 unfold SetTable.below;rw[h];show(if 0<1 then if p.getD 0 0<0 then _ else _ else _)=0;rw[if_pos (by decide),if_neg (Et _)];rfl
theorem rQ {p:Array Nat}{j:Nat} (h:p.size=1) (hj:p[0]?=some j):SetTable.below p (j+1)=1:=by
 unfold SetTable.below;rw[h];show(if 0<1 then if p.getD 0 (j+1)<j+1 then _ else _ else _)=1;rw[if_pos (by decide),if_pos (by rw[BY,hj];exact CC j)];rfl
theorem tZ {p:Array Nat} (j:Nat) (h:p.size=0):SetTable.below p j=0:=by
 unfold SetTable.below;rw[h];rfl
theorem sX {a I:Addr}{o:Obj}{n:Nat}{es:Array (Int×zz9)}{ep:Nat}{t:SetTable} (hh:A.handled=none) (hb:w.params.followText "set-order"=false) (x:cI w o n es ep t) (h1:es.size<=1) (FQ:a≠I) :
  Walks prog w A I [I,a] [I] n (λi v=>(es.toList.map (·.2))[i]?=some v) (λi h=>cw h I (rawInt ((if i=0 then 0 else t.place.getD 0 0+1:Nat):Int)) i a es.size ep/\h.get? a=some o) where
 sub:=λb hb=>by rw[AQ.mp hb];exact .head _
 frame:=λi h h' st kp=>⟨st.1.stay λo e=>kp I (.head _) o e,kp a (.tail _ (.head _)) o st.2⟩
 item:=λi s Q E hi st hQ=>by
  have hs:=x.size;have Xu:i=0:=by omega
  subst Xu;have hz:es.size=1:=by omega
  have L8:t.place.size=1:=by
   have:=x.fit;unfold SetTable.fits at this;rw[hz]at this;simp at this;exact this.1
  have Kz:t.place[0]?=some t.place[0]:=Bp (by omega);have TY:es[0]?=some es[0]:=Bp (by omega);have Q0:t.place.getD 0 0=t.place[0]:=by rw[BY,Kz];rfl
  refine lr (slot:=0) (next:=t.place[0]+1) (v:=(es[0]).2) st.1 FQ st.2 x (λA E Q q=>jw hb st.2 x h1 (by rw[sD L8,Kz,TY];exact q)) λh' Jx sb=>?_;refine hQ _ h' s.toks (by rw[AZ,BD,TY];rfl) ⟨?_,(sb.2 a FQ).trans st.2⟩ λb ob hb e=>(sb.2 b (by simpa using hb)).trans e;rw[if_neg (Nat.succ_ne_zero _),Q0];exact Jx
 done:=λs Q E st hQ=>by
  have hs:=x.size;have L8:t.place.size=es.size:=by
   have:=x.fit;unfold SetTable.fits at this;simp at this;exact this.1
  by_cases hz:es.size=0
  .have e0:n=0:=by omega
   rw[e0,if_pos rfl]at st;have:es[0]?=none:=CU (by omega);exact jg (slot:=0) hh st.1 FQ st.2 x (λA E Q q=>jw hb st.2 x h1 (by rw[tZ 0 (by omega),this];exact q)) λh' kp=>hQ h' s.toks λb ob hb e=>kp b ob (by simpa using hb) e
  .have PK:es.size=1:=by omega
   have e0:n=1:=by omega
   rw[e0,if_neg (by decide)]at st;have Kz:t.place[0]?=some t.place[0]:=Bp (by omega);have Q0:t.place.getD 0 0=t.place[0]:=by rw[BY,Kz];rfl
   rw[Q0]at st;have:es[1]?=none:=CU (by omega);exact jg (slot:=t.place[0]+1) hh st.1 FQ st.2 x (λA E Q q=>jw hb st.2 x h1 (by rw[rQ (by omega) Kz,this];exact q)) λh' kp=>hQ h' s.toks λb ob hb e=>kp b ob (by simpa using hb) e
 self:=λi s Q E st hQ=>jd st.1 hQ
end
theorem sR (es:Array (Int×zz9)):(List.range es.size).map (λp=>es.getD p (0,.none))=es.toList:=by
 apply List.ext_getElem
 .simp
 .intro i h1 h2
  simp at h1;simp[h1]
section
variable {prog:Program}{w:World}{A:Around}{E:zz9->zz8->Prop}{s:zz8}
theorem rN {a:Addr}{o:Obj}{n:Nat}{es:Array (Int×zz9)}{ep:Nat}{t:SetTable}{Q:zz9->zz8->Prop} (hh:A.handled=none) (ho:s.heap.get? a=some o) (x:cI w o n es ep t)
  (h:∀(s₁:zz8) (I:Addr) (fp:List Addr) (ws:List zz9) (St:Nat->Heap->Prop),vG prog w A s s₁ a I n es fp ws St->Q (.ref I) s₁):wpAny (model prog w) A (pyIter (.ref a)) Q E s:=by
 have hT:s.TypeIs (.ref a) "set":=⟨o,ho,x.cls⟩
 have Iu:a<s.heap.objs.size:=AN ho;refine E5 hT PySem.F.slot_set_iter (BH PySem.F.slot_set_iter hT qz ?_ (PySem.F.args_set_iter_1 _));unfold Builtin.«frozenset.__iter__» Builtin.Frozenset.slot0;refine AF (AF (Cz (a:=(Value.ref a,[])) rfl (AI ?_)));unfold Builtin.Frozenset.sizeOf;refine AF (AF (Di ho x.dat x.fit (AI ?_)));unfold setDrawn;refine AF ?_;refine AF (B7 ho x.dat x.fit ?_)
 dsimp only
 unfold setsByText;refine AF (AF (CQ (AI (AI ?_))));show wpAny _ _ (if (!w.params.followText "set-order" && (!t.plain&&decide (es.size>1)))=true then _ else _) _ _ s
 by_cases hc:(!w.params.followText "set-order" && (!t.plain&&decide (es.size>1)))=true
 .rw [if_pos hc]
  refine AF (sF es.size (List.range es.size) s _ (Dw).symm λps d GF=>?_);have Ga:ps.length=n:=by have:=GF.length_eq;rw[Dw,x.size]at this;exact this
  have Jz:=x.few;refine AF (wpAny_newTuple (items:=ps.map λ(i:Nat)=>rawInt (i:Int)) ?_ (by rw[AG,Bw];omega));have IL:(s.heap.push { cls:=.type "tuple",data:=.seq (ps.map λ(i:Nat)=>rawInt (i:Int)).toArray }).get? a=some o:=AH _ ho;refine AF (wpAny_setEpoch_of (s:={ s with heap:=s.heap.push { cls:=.type "tuple",data:=.seq (ps.map λ(i:Nat)=>rawInt (i:Int)).toArray },drawn:=d }) IL x.dat x.fit ?_);refine AF (BG (AI ⟨_,rfl,"set_iterator",_,⟨_,AU _ rfl,rfl⟩,dk.lookup,?_⟩));have hsz:(s.heap.push { cls:=.type "tuple",data:=.seq (ps.map λ(i:Nat)=>rawInt (i:Int)).toArray }).objs.size=s.heap.objs.size+1:=size_push' ..;have hI:a≠(s.heap.push { cls:=.type "tuple",data:=.seq (ps.map λ(i:Nat)=>rawInt (i:Int)).toArray }).objs.size:=by rw[hsz];exact A4 (B5 Iu)
  have X1:s.heap.objs.size≠(s.heap.push { cls:=.type "tuple",data:=.seq (ps.map λ(i:Nat)=>rawInt (i:Int)).toArray }).objs.size:=by rw[hsz];exact A4 (CC _)
  have W:=rj (prog:=prog) (A:=A) hh x hI X1 GF;refine h _ _ _ _ _ ⟨rfl,rfl,rfl,λb ob e=>AH _ (AH _ e),λb hb=>?_,?_,W,?_,?_⟩
  .rcases AO.mp hb with e|hb
   .rw [e,hsz];exact .inr (CT _)
   .rcases AO.mp hb with e|hb
    .exact .inl e
    .rw [AQ.mp hb];exact .inr (AY _)
  .rw [hsz];exact CT _
  .exact⟨⟨_,AU _ rfl,rfl,rfl⟩,AH _ IL,⟨_,AH _ (AU _ rfl),rfl,_,rfl⟩⟩
  .have e1:(ps.map λp=>(es.getD p (0,.none)).2)=(ps.map λp=>es.getD p (0,.none)).map (·.2):=by rw[A6];rfl
   rw[e1];refine List.Perm.map _ ?_;have:=GF.map λp=>es.getD p ((0:Int),Value.none);rw[sR]at this;exact this
 .rw [if_neg hc]
  refine AF (AI ?_);refine AF (wpAny_setEpoch_of ho x.dat x.fit ?_);refine AF (BG (AI ⟨_,rfl,"set_iterator",_,⟨_,AU _ rfl,rfl⟩,dk.lookup,?_⟩));have hI:a≠s.heap.objs.size:=A4 Iu;have nw:∀b∈[s.heap.objs.size,a],b=a\/s.heap.objs.size<=b:=λb hb=>by
   rcases AO.mp hb with e|hb
   .rw [e];exact .inr (AY _)
   .exact .inl (AQ.mp hb)
  cases hb:w.params.followText "set-order" with
  | true=>exact h _ _ _ _ _ ⟨rfl,rfl,rfl,λb ob e=>AH _ e,nw,AY _,sC hh hb x hI,⟨⟨_,AU _ rfl,rfl,rfl⟩,AH _ ho⟩,(iM _ es).map _⟩
  | false =>
   have h1:es.size<=1:=by
    rcases x.pla with z|z
    .omega
    .rw [hb,z]at hc
     simp at hc;omega
   exact h _ _ _ _ _ ⟨rfl,rfl,rfl,λb ob e=>AH _ e,nw,AY _,sX hh hb x h1 hI,⟨⟨_,AU _ rfl,rfl,rfl⟩,AH _ ho⟩,EG _⟩
theorem qU:typeLookup (.type "set") "__len__"=pure (some (.builtin "set.__len__")):=by rw[DN,C5];kernel_rfl
theorem uT {r:Addr}{Q:Bool->zz8->Prop} (hT:s.TypeIs (.ref r) "set") (h:∀b,Q b s):wpAny (model prog w) A (Builtin.List.listLengthHint (.ref r)) Q E s:=by
 unfold Builtin.List.listLengthHint;refine AF (wpAny_specialOf hT qU ?_);generalize TQ:("set.__len__":String)=WC
 wp_delta
 rw[show splitId WC=some ("set","__len__") from by subst TQ;decide +kernel];subst TQ;refine AF (DE (T:="set") (b:=true) hT (by rw[CS];kernel_rfl) ?_);refine wpAny_ite_split (λz=>absurd z (by decide)) (λ_=>?_);refine wpAny_ite_split (λ_=>?_) (λz=>absurd (by decide +kernel) z);refine AF (Dy hT ?_);exact AI (h _)
theorem uL {ws:List zz9}{n:Nat}{FH:Array zz9} (hw:ws.length=n) (h:ItemsOf (λi v=>ws[i]?=some v) FH n):FH.toList=ws:=by
 apply D0;intro i
 by_cases hi:i<FH.size
 .have e:FH.toList[i]?=some FH[i]:=by rw[BD];exact Bp hi
  rw[e];exact(h.2 i FH[i] (Bp hi)).symm
 .have h1:=h.1
  rw[C6 (by rw[Bh];omega),C6 (by omega)]
theorem qB {R:Result->zz8->Prop}{a S:Addr}{o:Obj}{n:Nat}{es:Array (Int×zz9)}{ep:Nat}{t:SetTable} (hh:A.handled=none) (ho:s.heap.get? a=some o) (x:cI w o n es ep t) (res:zz9) (c₀:Nat)
  (Ue:S≠a) (hS:s.heap.get? S=some { cls:=.type "list",data:=.seq #[] c₀ })
  (hR:∀(s':zz8) (FH:Array zz9) c',s'.os=s.os->s'.gens=s.gens->(∀b o,b≠S->s.heap.get? b=some o->s'.heap.get? b=some o)->s'.heap.get? S=some { cls:=.type "list",dict:=none,data:=.seq FH c',slots:=#[] }->FH.toList.Perm (es.toList.map (·.2))->R (.ok (.ret res)) s') :
  wpAny (model prog w) A.in1 (Builtin.List.listExtendWith (.ref S) (.ref a) res)
   (λfin s'=>match fin with | .done f=>R (.ok f) s' | .again c'=>c'.quiet=true/\codeAny (model prog w) A c' R s') (λe s'=>R (.error e) s') s:=by
 have hT:s.TypeIs (.ref a) "set":=⟨o,ho,x.cls⟩
 have NO:S<s.heap.objs.size:=AN hS;have Jz:=x.few;unfold Builtin.List.listExtendWith;refine AF (Dy (T:="set") hT ?_);have n1:Builtin.List.listSameRef (.ref S) (.ref a)=false:=by simp[Builtin.List.listSameRef,Ue]
 have n2:(Value.type "set" == Value.type "list")=false:=by decide
 have n3:(Value.type "set" == Value.type "tuple")=false:=by decide
 simp only[n1,n2,n3,Bool.or_false,Bm,if_false];refine AF (rN (A:=A.in1) hh ho x λs₁ I fp ws St K=>?_);have PR:=K.txt;have WN:ws.length=n:=by rw[PR.length_eq,AG,Bh];exact x.size
 have Ud:S∉fp:=λz=>(K.new S z).elim Ue λq=>Bt _ (Bc NO q);have hSI:S≠I:=λe=>Bt _ (Bc NO (e ▸ K.newI));have hn:n<=sizeLine:=by rw[Bw];omega
 have key:∀(h:Heap) (c₁:Nat),St 0 h->(∀b o,b≠S->s₁.heap.get? b=some o->h.get? b=some o)->h.get? S=some { cls:=.type "list",data:=.seq #[] c₁ } ->
   codeAny (model prog w) A (.builtin "list.extend.loop" ⟨[.ref S,.ref I,res],[]⟩) R { s₁ with heap:=h }:=by
  intro h c₁ st hk LH;refine codeAny_extend_loopS K.wk.toS hn S Ud res n 0 _ #[] c₁ rfl (Bi _) st LH (ItemsOf.nil _) λs' FH c' hm Q4 Ib=>?_;rw[<- uL WN Ib]at PR;refine hR s' FH c' (hm.os.trans K.os) ((show s'.gens=s₁.gens from hm.gens).trans K.gens) (λb ob hb e=>hm.heap b ob (λz=>?_) (hk b ob hb (K.keep b ob e))) Q4 PR
  rcases AO.mp z with z|z
  .exact hb z
  .exact absurd (AN e) (by rw[AQ.mp z];exact Nat.not_lt.mpr K.newI)
 have LH:=K.keep _ _ hS;have XW:s₁.TypeIs (.ref a) "set":=⟨o,K.keep _ _ ho,x.cls⟩
 refine AF (Bo (uT XW λhb=>?_));refine wpAny_ite_split (λ_=>?_) (λ_=>AI ⟨B4 Fd _,key _ c₀ K.st (λb ob _ e=>e) LH⟩);refine AF (Dc ?_);refine AF ?_;show wpAny _ _ (updateSeq S (·.push .none) >>= λ_=>updateSeq S (·.pop)) _ _ _;refine AF (CJ LH rfl ?_);have GV:=By (Obj.mapSeq (·.push Value.none)) LH rfl;refine CJ (hz:=by seq_fits) GV rfl ?_;have XX:=By (Obj.mapSeq (·.pop)) GV rfl;refine AI ⟨B4 Fd _,key _ _ (K.wk.frame 0 _ _ K.st λb hb ob e=>?_) (λb ob hb e=>?_) XX⟩
 .have Ub:b≠S:=λz=>Ud (z ▸ hb)
  exact(Ba _ _ (BX Ub)).trans ((Ba _ _ (BX Ub)).trans e)
 .exact (Ba _ _ (BX hb)).trans ((Ba _ _ (BX hb)).trans e)
theorem ku {R:List zz9->zz8->Prop}{a:Addr}{o:Obj}{n:Nat}{es:Array (Int×zz9)}{ep:Nat}{t:SetTable} (hh:A.handled=none) (ho:s.heap.get? a=some o) (x:cI w o n es ep t)
  (h:∀(s':zz8) (FH:List zz9),s'.os=s.os->s'.gens=s.gens->(∀b o,s.heap.get? b=some o->s'.heap.get? b=some o)->FH.Perm (es.toList.map (·.2))->R FH s') :
  wpAny (model prog w) A (collect (.ref a)) R E s:=by
 unfold collect;refine AF (EF (BF entry_proto_collect' ?_));rw[BB PySem.F.plain_proto_collect _];show wpAny _ A.in1 (newList [] >>= λl=>again (.builtin "list.__iadd__" ⟨[l,.ref a],[]⟩)) _ _ s;refine AF (BG ?_);refine AI ⟨B4 PySem.F.plain_list_iadd _,BF entry_list_iadd' ?_⟩;rw[BB PySem.F.plain_list_iadd _];have LH:(s.heap.push { cls:=.type "list",data:=.seq ([]:List zz9).toArray }).get? s.heap.objs.size=some { cls:=.type "list",data:=.seq #[] }:=AU _ rfl;have Iu:s.heap.objs.size≠a:=CG (AN ho);show wpAny _ A.in1 (Builtin.List.listExtendWith (.ref s.heap.objs.size) (.ref a) (.ref s.heap.objs.size)) _ _ _;have key:=qB (prog:=prog) (A:=A) (s:={ s with heap:=s.heap.push { cls:=.type "list",data:=.seq ([]:List zz9).toArray } })
  (R:=λ(q:Result) (s':zz8)=>∃(FH:Array zz9) (c':Nat),q=.ok (.ret (.ref s.heap.objs.size))/\s'.os=s.os/\s'.gens=s.gens /\
   (∀b o,s.heap.get? b=some o->s'.heap.get? b=some o)/\s'.heap.get? s.heap.objs.size=some { cls:=.type "list",dict:=none,data:=.seq FH c',slots:=#[] }/\FH.toList.Perm (es.toList.map (·.2)))
  hh (AH _ ho) x (.ref s.heap.objs.size) 0 Iu LH
  (λs' FH c' z1 z2 z3 z4 z5=>⟨FH,c',rfl,z1,z2,λb ob e=>z3 b ob (A4 (AN e)) (AH _ e),z4,z5⟩)
 refine BK key (λfin s' y=>?_) λe s' y=>?_
 .cases fin with
  | done f =>
   obtain⟨FH,c',e,z1,z2,z3,z4,z5⟩:=y;cases e;show wpAny _ A (load s.heap.objs.size >>= _) _ _ _;exact AF (Fb z4 (AI (h s' FH.toList z1 z2 z3 z5)))
  | again c₁ =>
   refine⟨y.1,Cy y.2 λq s₂ y=>?_⟩;obtain⟨FH,c',rfl,z1,z2,z3,z4,z5⟩:=y;show wpAny _ A (load s.heap.objs.size >>= _) _ _ _;exact AF (Fb z4 (AI (h s₂ FH.toList z1 z2 z3 z5)))
 .obtain⟨_,_,e',_⟩:=y
  cases e'
theorem sN {o:Obj}{ss:List Str}{es:Array (Int×zz9)}{ep:Nat}{t:SetTable} (x:bH w o ss es ep t) {L:List (Int×zz9)} (p:L.Perm es.toList):∃FZ,StrsAre (L.map (·.2)) FZ/\FZ.Perm ss:=by
 refine⟨L.map λe=>cL e.2,?_,(p.map _).trans x.all⟩;have:∀e∈L,∃tk,e.2=.str (cL e.2) tk:=λe he=>let ⟨tk,h,_⟩:=x.els e (p.mem_iff.mp he);⟨tk,h⟩;clear p
 induction L with
 | nil=>exact .nil
 | cons e r ih =>
  obtain⟨tk,h⟩:=this e (.head _);have q:=ih λe he=>this e (.tail _ he);show StrsAre (e.2::r.map (·.2)) (cL e.2::r.map λe=>cL e.2);rw[h];exact .cons _ tk q
theorem qL {R:List zz9->zz8->Prop}{a:Addr}{o:Obj}{ss:List Str}{es:Array (Int×zz9)}{ep:Nat}{t:SetTable} (hh:A.handled=none) (ho:s.heap.get? a=some o) (x:bH w o ss es ep t)
  (h:∀(s':zz8) (FH:List zz9) FZ,s'.os=s.os->s'.gens=s.gens->(∀b o,s.heap.get? b=some o->s'.heap.get? b=some o)->StrsAre FH FZ->FZ.Perm ss->R FH s') :
  wpAny (model prog w) A (collect (.ref a)) R E s :=
 ku hh ho x.any λs' FH z1 z2 z3 z4=>by
  obtain⟨L,p,rfl⟩:=lT (λe:Int×zz9=>e.2) z4;obtain⟨FZ,h1,h2⟩:=sN x p;exact h s' _ FZ z1 z2 z3 h1 h2
end
def bF (w:World) (a:Addr) (ss:List Str):HO:=.ext λh=>∃o es ep t,h.get? a=some o/\bH w o ss es ep t
section
variable {X:Cx}
theorem wb {P:Program}{w:World}{H:Hp}{h:Heap}{a:Addr}{ss:List Str}{o:Obj}{es:Array (Int×zz9)}{ep:Nat}{t:SetTable} (ho:h.get? a=some o) (x:bH w o ss es ep t):aD P w H h a (bF w a ss):=
 ⟨⟨o,es,ep,t,ho,x⟩,⟨o,ho⟩,λh1 h2 ⟨o,es,ep,t,q,y⟩ k=>⟨o,es,ep,t,k o q,y⟩⟩
theorem Inv.draw {pins:List (Addr×Obj)}{σ:List (Option V)}{H:Hp}{s s':zz8} (I:Inv X pins σ H s) (h1:s'.os=s.os) (h2:s'.gens=s.gens) (h3:s'.heap=s.heap):Inv X pins σ H s':=by
 obtain⟨a1,a2,a3,a4,a5,a6,a7,a8,a9,KN,Yl⟩:=I;exact⟨a1,h1.trans a2,by rw[h2];exact a3,by rw[h3];exact a4,by rw[h3];exact a5,by rw[h3];exact a6,a7,a8,by rw[h3];exact a9,by rw[h3];exact KN,Yl⟩
theorem sm (hc:X.calm=true):bh X (.type "set") (λxs H Q=>∃(p:Addr) (ss:List Str),xs=[.ref p]/\FE X.K H p (ss.map V.str)/\ss.length<3000 /\
  ∀(a:Addr),H a=none->Q (.ref a) (upd H a (bF X.w a (aW ss.reverse)))):=by
 intro pins s σ H xs us Q I r h;obtain⟨p,ss,rfl,hq,h3,q⟩:=h;obtain⟨u,rfl,rx⟩:=vals1 r;cases rx;obtain⟨FC,r',hp,hz⟩:=I.tuple hq;refine qx (I.ok.hd hc) hp r' (by omega) λh' tk o' es' FX t' kp ho x=>?_;exact⟨.ref s.heap.objs.size,_,I.laid (h':=h') (t':=tk) (o:=bF X.w s.heap.objs.size (aW ss.reverse)) kp (AY _) (wb ho x),rfl,q _ (I.hok.fresh (AY _))⟩
theorem qy (hc:X.calm=true):bh X (.builtin "sorted") (λxs H Q=>∃(a:Addr) (ss:List Str),xs=[.ref a]/\H a=some (bF X.w a ss)/\ss.length<64 /\
  ∀(FZ:List Str) (q:Addr),FZ.Perm ss->sortedS FZ=true->H q=none->Q (.ref q) (upd H q (.lst (FZ.map V.str)))):=by
 intro pins s σ H xs us Q I r h;obtain⟨a,ss,rfl,ha,LM,q⟩:=h;obtain⟨u,rfl,rx⟩:=vals1 r;cases rx;obtain⟨⟨o,es,ep,t,ho,x⟩,_,_⟩:=I.hok a _ ha;refine call_function_entry kind_sorted plain_sorted entry_sorted (args_sorted1 _) ?_;unfold Builtin.«sorted»;refine AF (m:=checkCount "sorted" 1 1 _) (AI ?_);refine AF (qL (A:=X.A.in1) (I.ok.hd hc) ho x λs1 FH ss1 z1 z2 kp hS FY=>?_);have Jd:FH.length=ss.length:=by rw[StrsAre.length hS];exact FY.length_eq
 refine AF (Ea ?_ (by rw[Jd,Bw];omega));have Jc:(s1.heap.push (seqObj "list" FH.toArray 0)).get? s1.heap.objs.size=some (seqObj "list" FH.toArray 0):=AU _ rfl;show wpAny _ _ _ _ _ { s1 with heap:=s1.heap.push (seqObj "list" FH.toArray 0) };refine AF (Bo (BH slot_list_sort ⟨_,Jc,rfl⟩ entry_list_sort (list_sort_treeK (s:={ s1 with heap:=s1.heap.push (seqObj "list" FH.toArray 0) }) strKind_oneLt Jc hS.keysOf (λv₁ v₂ rest e=>keyKind_strs (by rw[<- e];exact hS)) (by rw[Jd];omega) λF8 a1 a2=>⟨_,rfl,?_⟩) (args_list_sort _)));obtain⟨FZ,h1,h2,h3⟩:=sorted_out_str hS a1 a2;refine AI ⟨_,rfl,?_⟩;obtain⟨e,he⟩:=sortedHeap_at (h:=s1.heap.push (seqObj "list" FH.toArray 0)) (out:=(arrOf F8).map (·.2)) Jc;have HD:s.heap.get? s1.heap.objs.size=none:=by
  cases e0:s.heap.get? s1.heap.objs.size with
  | none=>rfl
  | some o=>exact absurd (AN (kp _ _ e0)) (Bt _)
 have hold:∀b o,s.heap.get? b=some o->(sortedHeap (s1.heap.push (seqObj "list" FH.toArray 0)) s1.heap.objs.size FH ((arrOf F8).map (·.2))).get? b=some o:=λb o eb=>by
  have l1:=AN (kp b o eb);rw[sortedHeap_old (A4 l1) (by rw[size_push'];exact B5 l1)];exact AH _ (kp b o eb)
 have IS:H s1.heap.objs.size=none:=I.hok.freeN HD;have Ln:ar (FZ.map V.str) ((arrOf F8).map (·.2)).toList:=i3 h1;have I2:=I.laidN (h':=sortedHeap (s1.heap.push (seqObj "list" FH.toArray 0)) s1.heap.objs.size FH ((arrOf F8).map (·.2))) (t':=s1.toks) (o:=.lst (FZ.map V.str)) hold HD ⟨(by rw[AG,(h2.trans FY).length_eq,Bw];omega),((arrOf F8).map (·.2)).toList,e,Ln,(by rw[Array.toArray_toList];exact he)⟩;exact⟨.ref s1.heap.objs.size,_,I2.draw z1 z2 rfl,rfl,q FZ _ (h2.trans FY) h3 IS⟩
end
section
variable {X:Cx}{tg:Expr}
end
def Mt (vs:Array zz9) (a0:zz9):Prop:=vs[0]?=some a0/\vs[2]?=some Value.none
def gy (fl:zz9) (h:Heap) (e T:Addr) (cls a0:zz9) (dx:Option Addr):Prop:=∃oe vs oT ts,h.get? e=some oe/\oe.cls=cls/\Mt vs a0/\oe.data=Data.fields vs/\vs[1]?=some (Value.ref T)/\T≠e/\h.get? T=some oT/\oT.data=Data.fields ts/\ts[3]?=some fl/\oe.dict=dx
abbrev Hg:Heap->Addr->Addr->zz9->zz9->Option Addr->Prop:=gy .none
def Kj (P:Program) (w:World):IZ:=λouter H s E e s'=>∃(ea T:Addr) (cls a0:zz9) (dx:Option Addr) (H':Hp),e=.ref ea/\s'.os=s.os/\AllBare s'.gens/\Un (Gc outer) [] H H' s.heap s'.heap/\F0 P w H' s'.heap/\s.heap.get? ea=none/\s.heap.get? T=none/\H' ea=none/\H' T=none/\Hg s'.heap ea T cls a0 dx/\E cls dx H'
theorem fS {h base:Heap}:∀{l:List Env},h.FunFrames base l->∀b∈Gc l,∃o,h.get? b=some o/\∀vs:Array zz9,o.data≠Data.fields vs
 | [],_,b,hb=>by simp[Gc]at hb
 | e::l,k,b,hb=>by
  simp only[Heap.FunFrames]at k;obtain⟨k1,⟨L,o,k2,k3,k4,k5⟩,k6⟩:=k;unfold Gc at hb;rw[Cv,k2]at hb
  rcases AO.mp hb with z|z
  .rw [z];exact⟨o,k4,k5⟩
  .exact fS k6 b z
theorem uf (o:Obj) (f:Array zz9->Array zz9):(o.mapFields f).dict=o.dict:=by
 obtain⟨c,d,dt,sl⟩:=o;cases dt<;>rfl
structure Moved (fr:List Addr) (g:List Addr) (h h':Heap):Prop where
 keep:∀b o,h.get? b=some o->b∉fr->b∉g->h'.get? b=some o
 slot:∀b o,h.get? b=some o->b∈fr->∃sl,h'.get? b=some { o with slots:=sl }
section
variable {M:Model}{A:Around}{E:zz9->zz8->Prop}{s:zz8}{env:Env}{outer:List Env}{L e T:Addr}{base:Heap}{cls a0:zz9}{dx:Option Addr}{Q:Unit->zz8->Prop}
theorem mV {oe:Obj}{vs:Array zz9}{head:zz9}{XQ:Bool}
  (hf:A.frames=some (env::outer)) (ff:s.heap.FunFrames base (env::outer)) (hL:env.frame=some L) (he:s.heap.get? e=some oe) (hd:oe.data=Data.fields vs) (hz:1<vs.size) (h0:Mt vs a0)
  (k:∀(h':Heap) (T':Addr),Moved (Gc (env::outer)) [e] s.heap h'->s.heap.get? T'=none->gy (rawInt L) h' e T' oe.cls a0 oe.dict->Q () { s with heap:=h' }) :
  wpAny M A (do let a <- frameOf env;let pl <- entryPlaceOf L XQ;let b <- EntryCells.newEntry head a .none (rawInt L) .none pl;setField (.ref e) 1 b) Q E s:=by
 have Um:e∉Gc (env::outer):=λhm=>by
  obtain⟨o,q,nf⟩:=fS ff e hm;rw[he]at q;cases q;exact nf _ hd
 refine AF (wpAny_frameOf_fun hf ff hL λg1 so=>AF (wpAny_entryPlaceOf λpl Ga=>?_));unfold EntryCells.newEntry newFields;refine AF (BG ?_ (Ga.sizeOk5 _ _ _ _ _));generalize Mb:({ cls:=.type "traceback",dict:=none,data:=.fields ([head,.ref L,.none,rawInt L,.none]++(if pl.isEmpty then List.replicate 6 Value.none else pl)).toArray }:Obj)=ob;have VB:ob.isFreed=false:=by rw[<- Mb];rfl
 have e1:g1.get? e=some oe:=(so.2.1 e Um).trans he;have nz:g1.objs.size≠e:=CG (AN e1);have e2:=AH (h:=g1) ob e1;refine Cc e2 hd hz ?_;have LB:=Ck hd (λz=>z.setIfInBounds 1 (Value.ref g1.objs.size));have e3:=By (Obj.mapFields λz=>z.setIfInBounds 1 (Value.ref g1.objs.size)) e2 (CD LB);have fresh:s.heap.get? g1.objs.size=none:=by
  cases hc:s.heap.get? g1.objs.size with
  | none=>rfl
  | some o =>
   obtain⟨sl,q⟩:=so.2.2 _ o hc;exact absurd (AN q) (Bt _)
 have up:∀b o,b≠e->g1.get? b=some o->((g1.push ob).update e (Obj.mapFields λz=>z.setIfInBounds 1 (Value.ref g1.objs.size))).get? b=some o:=λb o n q=>by
  rw[Ba _ _ (BX n)];exact AH _ q
 refine k _ g1.objs.size ⟨λb o q hb hg=>up b o (λz=>hg (by simp[z])) ((so.2.1 b hb).trans q),λb o q hb=>?_⟩ fresh ⟨_,_,ob,_,e3,DY _ _,?_,LB,?_,nz,?_,by rw[<- Mb],?_,uf _ _⟩
 .obtain⟨sl,q1⟩:=so.2.2 b o q
  exact⟨sl,up b _ (λz=>Um (z ▸ hb)) q1⟩
 .exact⟨by rw[Ek (by decide)];exact h0.1,by rw[Ek (by decide)];exact h0.2⟩
 .simp [hz]
 .rw [Ba _ _ (BX nz)]
  exact AU g1 VB
 .first|(simp;done)|(rcases Ga with rfl|⟨_,_,_,_,_,_,_,rfl⟩<;>simp)
theorem ground {fl:zz9} (ht:gy fl s.heap e T cls a0 dx)
  (k:∀h':Heap,(∀b,b≠T->h'.get? b=s.heap.get? b)->Hg h' e T cls a0 dx->Q () { s with heap:=h' }) :
  wpAny M A (setFlight (.ref e) none) Q E s:=by
 obtain⟨oe,vs,oT,ts,h1,h2,h3,h4,h5,h6,h7,h8,h9,Rk⟩:=ht;have z3:3<ts.size:=(CA.mp h9).1;unfold setFlight;refine AF (Ce h1 h4 h5 ?_);rw[if_pos (show(Value.ref T != Value.none)=true from by simp)];refine Cc h7 h8 z3 (k _ (λb n=>Ba _ _ (BX n)) ?_);have d8:=Ck h8 (λz=>z.setIfInBounds 3 ((none:Option Addr).elim Value.none λf=>rawInt f));exact⟨oe,vs,_,_,(Ba _ _ h6).trans h1,h2,h3,h4,h5,h6,By _ h7 (CD d8),d8,by simp[z3],Rk⟩
theorem va {oe:Obj}{vs:Array zz9} (hf:A.frames=some (env::outer)) (hL:env.frame=some L) (ff:s.heap.FunFrames base (env::outer)) (h1:s.heap.get? e=some oe) (h2:oe.data=Data.fields vs) (h3:vs[1]?=some Value.none) (h4:Mt vs a0)
  (k:∀(h':Heap) (T':Addr),Moved (Gc (env::outer)) [e] s.heap h'->s.heap.get? T'=none->gy (rawInt L) h' e T' oe.cls a0 oe.dict->Q () { s with heap:=h' }) :
  wpAny M A (noteFrame (.ref e) env) Q E s:=by
 unfold noteFrame;simp only[hL];refine AF (Ce h1 h2 h3 ?_);rw[if_neg (by decide)];exact mV hf ff hL h1 h2 (CA.mp h3).1 h4 k
theorem ub (hf:A.frames=some (env::outer)) (hL:env.frame=some L) (ff:s.heap.FunFrames base (env::outer)) (ht:Hg s.heap e T cls a0 dx)
  (k:∀(h':Heap) (T':Addr),Moved (Gc (env::outer)) [e,T] s.heap h'->s.heap.get? T'=none->gy (rawInt L) h' e T' cls a0 dx->Q () { s with heap:=h' }) :
  wpAny M A (noteFrame (.ref e) env) Q E s:=by
 obtain⟨oe,vs,oT,ts,h1,rfl,h3,h4,h5,h6,h7,h8,h9,rfl⟩:=ht;unfold noteFrame;simp only[hL];refine AF (Ce h1 h4 h5 ?_);rw[if_pos (show(Value.ref T != Value.none)=true from by simp)];refine AF (Ce h7 h8 h9 ?_);rw[if_neg (show¬ ((Value.none==rawInt L)=true) from by simp[rawInt])];refine AF (Cc h7 h8 (CA.mp h9).1 ?_);have MT:∀b,b≠T->(s.heap.update T (Obj.mapFields λz=>z.setIfInBounds 3 Value.none)).get? b=s.heap.get? b:=λb n=>Ba _ _ (BX n);have nT:∀b,b∈Gc (env::outer)->b≠T:=λb hb z=>by
  obtain⟨o,q,nf⟩:=fS ff b hb;rw[z,h7]at q;cases q;exact nf _ h8
 refine mV (s:={ s with heap:=s.heap.update T (Obj.mapFields λz=>z.setIfInBounds 3 Value.none) }) hf (ff.of_keeps λb o q nf=>⟨o,(MT b λz=>?_).trans q,rfl⟩) hL ((MT e (BX h6)).trans h1) h4 (CA.mp h5).1 h3 λh' T' mv nw tr=>k h' T' ⟨λb o q hb hg=>?_,λb o q hb=>?_⟩ ?_ tr
 .rw [z,h7]at q;cases q
  exact nf _ h8
 .exact mv.keep b o ((MT b λz=>hg (by simp[z])).trans q) hb λz=>hg (by simp at z;simp[z])
 .exact mv.slot b o ((MT b (nT b hb)).trans q) hb
 .have z:T'≠T:=λz=>by
   have d8:=Ck h8 (λz=>z.setIfInBounds 3 Value.none);have g7:=By (Obj.mapFields λz=>z.setIfInBounds 3 Value.none) h7 (CD d8);have SK:(s.heap.update T (Obj.mapFields λz=>z.setIfInBounds 3 Value.none)).get? T'=none:=nw;rw[z,g7]at SK;cases SK
  exact(MT T' z).symm.trans nw
theorem Moved.ground {fr g:List Addr}{h h' Mj:Heap} (m:Moved fr g h h') (nT:h.get? T=none) (nf:∀b∈fr,∃o,h.get? b=some o) (k:∀b,b≠T->Mj.get? b=h'.get? b):Moved fr g h Mj :=
 ⟨λb o q hb hg=>(k b λz=>by rw[z,nT]at q;cases q).trans (m.keep b o q hb hg),λb o q hb=>by
  obtain⟨sl,e⟩:=m.slot b o q hb
  exact⟨sl,(k b λz=>by rw[z,nT]at q;cases q).trans e⟩⟩
theorem leave_new {oe:Obj}{vs:Array zz9} (hf:A.frames=some (env::outer)) (hL:env.frame=some L) (ff:s.heap.FunFrames base (env::outer)) (h1:s.heap.get? e=some oe) (h2:oe.data=Data.fields vs) (h3:vs[1]?=some Value.none) (h4:Mt vs a0)
  (k:∀(h':Heap) (T':Addr),Moved (Gc (env::outer)) [e] s.heap h'->s.heap.get? T'=none->Hg h' e T' oe.cls a0 oe.dict->Q () { s with heap:=h' }) :
  wpAny M A (leaving env (.ref e)) Q E s:=by
 unfold leaving;refine AF (va hf hL ff h1 h2 h3 h4 λg1 T1 mv nw tr=>ground tr λg2 same N6=>k g2 T1 (mv.ground nw (λb hb=>let ⟨o,q,_⟩:=fS ff b hb;⟨o,q⟩) same) nw N6)
theorem rq (hf:A.frames=some (env::outer)) (hL:env.frame=some L) (ff:s.heap.FunFrames base (env::outer)) (ht:Hg s.heap e T cls a0 dx)
  (k:∀(h':Heap) (T':Addr),Moved (Gc (env::outer)) [e,T] s.heap h'->s.heap.get? T'=none->Hg h' e T' cls a0 dx->Q () { s with heap:=h' }) :
  wpAny M A (noteFrame (.ref e) env) (λ_ s2=>wpAny M A (setFlight (.ref e) none) (λ_ s3=>Q () s3) E s2) E s :=
 ub hf hL ff ht λh1 T1 mv nw tr=>ground tr λh2 same N6=>k h2 T1 (mv.ground nw (λb hb=>let ⟨o,q,_⟩:=fS ff b hb;⟨o,q⟩) same) nw N6
end
theorem aD.got {P:Program}{w:World}{H:Hp}{h:Heap}{a:Addr}{o:HO} (x:aD P w H h a o):∃ob,h.get? a=some ob:=by
 cases o with
 | lst xs=>obtain⟨_,_,_,_,e⟩:=x;exact⟨_,e⟩
 | tup xs=>obtain⟨_,_,_,o,e,_⟩:=x;exact⟨_,e⟩
 | dK kvs=>obtain⟨_,_,_,_,o,_,_,e,_⟩:=x;exact⟨_,e⟩
 | dT kvs=>obtain⟨_,_,_,_,o,_,_,e,_⟩:=x;exact⟨_,e⟩
 | set S n=>obtain⟨o,_,_,_,e,_⟩:=x;exact⟨_,e⟩
 | ins C dx fs=>obtain⟨_,_,_,e,_⟩:=x;exact⟨_,e⟩
 | own y=>exact x
 | xd fs=>obtain⟨_,⟨_,_,_,e,_⟩,_⟩:=x;exact⟨_,e⟩
 | rng lo hi=>obtain⟨_,_,_,e⟩:=x;exact⟨_,e⟩
 | frz ob u=>obtain⟨e,_⟩:=x;exact⟨_,e⟩
 | tbl ps=>exact⟨_,(show h.get? a=some _ from x)⟩
 | met f y=>exact⟨_,(show h.get? a=some _ from x)⟩
 | ext φ=>obtain⟨_,e,_⟩:=x;exact e
theorem yb {CX:IZ}{P:Program}{w:World}{K:zz7}{mg:Str->Option zz9}{base:Heap}{N:List Str}{qual:Str}{scope:Scope}{f:Addr}{cd:zz9}{A:Around}{outer:List Env}{s0:zz8}{H0:Hp}{YD:XK}
  {pins:List (Addr×Obj)}{σ:St}{H':Hp}{s':zz8}{E:XK}{ea T':Addr}{cls a0:zz9}{dx:Option Addr}{h':Heap}{G:List Addr}
  (I:Inv (dO CX P w K mg base N qual scope f cd A outer s0 H0 YD) pins σ H' s')
  (mv:Moved (Gc (envOfC qual scope s0.heap.objs.size f cd::outer)) G s'.heap h')
  (hG:∀b∈G,s0.heap.get? b=none/\H' b=none) (tr:Hg h' ea T' cls a0 dx) (e1:s0.heap.get? ea=none) (e2:H' ea=none) (e3:T'∈G\/s'.heap.get? T'=none) (hE:E cls dx H') :
  Kj P w outer H0 s0 E (.ref ea) { s' with heap:=h' }:=by
 have kp:=mv.keep;have sl:=mv.slot;have GJ:=I.base;have hok:=I.hok;have nL:∀b o,s0.heap.get? b=some o->b∉Gc outer->b∉Gc (envOfC qual scope s0.heap.objs.size f cd::outer):=λb o q hb hm=>by
  have TK:b∈s0.heap.objs.size::Gc outer:=hm
  rcases AO.mp TK with z|z
  .exact absurd (AN q) (by rw[z];exact Bt _)
  .exact hb z
 have nG:∀b o,s0.heap.get? b=some o->b∉G:=λb o q hb=>by rw[(hG b hb).1]at q;cases q
 have mO:∀b,b∈Gc outer->b∈Gc (envOfC qual scope s0.heap.objs.size f cd::outer):=λb hb=>AR _ hb;have T0:s0.heap.get? T'=none:=by
  rcases e3 with z|z
  .exact (hG _ z).1
  .cases hc:s0.heap.get? T' with
   | none=>rfl
   | some o =>
    obtain⟨o',q⟩:=GJ.there T' o hc (by show T'∉[];simp);rw[z]at q;cases q
 have TH:H' T'=none:=by
  rcases e3 with z|z
  .exact (hG _ z).2
  .cases hc:H' T' with
   | none=>rfl
   | some o =>
    obtain⟨ob,q⟩:=aD.got (hok T' o hc);rw[z]at q;cases q
 refine⟨ea,T',cls,a0,dx,H',rfl,I.os,I.bare,?_,?_,e1,T0,e2,TH,tr,hE⟩
 .refine⟨λb o q n hb hx=>?_,λb o q n hb hx=>?_,λb o q n hx=>GJ.free b o q n hx,λb o q hx=>?_,GJ.tups,GJ.frzs,GJ.tbls⟩
  .exact kp b o (GJ.keep b o q n hb hx) (nL b o q hb) (nG b o q)
  .obtain⟨s1,q1⟩:=GJ.slot b o q n hb hx
   obtain⟨s2,q2⟩:=sl b _ q1 (mO b hb);exact⟨s2,q2⟩
  .obtain⟨o',q'⟩:=GJ.there b o q hx
   by_cases hb:b∈Gc (envOfC qual scope s0.heap.objs.size f cd::outer)
   .obtain⟨s2,q2⟩:=sl b _ q' hb
    exact⟨_,q2⟩
   .exact⟨o',kp b o' q' hb (nG b o q)⟩
 .intro a o hH
  have nf:∀b u,H' b=some u->b∉Gc (envOfC qual scope s0.heap.objs.size f cd::outer)/\b∉G:=λb u q=>⟨λhm=>(by
   have:=I.stkFree b hm
   rw[q]at this;cases this),λhm=>(by rw[(hG b hm).2]at q;cases q)⟩
  refine(hok a o hH).stay (λb u hb q=>?_) (λ_ q=>q) λ_ _ q=>q
  rcases hb with z|z
  .rw [z]at q ⊢;exact kp a u q (nf a o hH).1 (nf a o hH).2
  .exact kp b u q (nf b _ z).1 (nf b _ z).2
theorem xG {P:Program}{w:World}{K:zz7}{mg:Str->Option zz9}{base:Heap}{N:List Str}{qual:Str}{scope:Scope}{f:Addr}{cd:zz9}{A:Around}{outer:List Env}{s0:zz8}{H0:Hp}{E:XK}
  {pins:List (Addr×Obj)}{σ:St}{H:Hp}{s:zz8}{ea:Addr}{oe:Obj}{vs:Array zz9}{a0:zz9}
  (I:Inv (dO (Kj P w) P w K mg base N qual scope f cd A outer s0 H0 E) pins σ H s) (h1:s.heap.get? ea=some oe) (h2:oe.data=Data.fields vs) (h3:vs[1]?=some Value.none) (h4:Mt vs a0) (back:s0.heap.get? ea=none) (he:H ea=none) (hE:E oe.cls oe.dict H) :
  (dO (Kj P w) P w K mg base N qual scope f cd A outer s0 H0 E).xe (.ref ea) s:=by
 show wpAny (model P w) (A.deeper (envOfC qual scope s0.heap.objs.size f cd)) (leaving (envOfC qual scope s0.heap.objs.size f cd) (.ref ea)) _ _ s;refine leave_new (outer:=outer) (L:=s0.heap.objs.size) I.ok.frames rfl I.stack h1 h2 h3 h4 λMj T' mv nT tr=>?_
 exact yb (G:=[ea]) I mv (λb hb=>by
  have z:b=ea:=by simpa using hb
  rw[z];exact⟨back,he⟩) tr back he (.inr nT) hE
def AD (h:Heap) (C:Addr):Prop:=∃(nm q:Str) (N:Addr) (bs bm FN:List zz9) (hdct:Bool) (sn:List Str) (sub:List zz9) (ab:Bool) (col:Option Bool) (dd:Option Addr) (k0 k1 k2 k3 k5:Option zz9) (mN:Str->Option zz9) (B Bn newId VO FK Wy:String) (Yi:List zz9),
 h.get? C=some (excClassObj nm q C N bs bm hdct sn sub ab col dd k0 k1 k2 k3 k5 newId)/\h.Ns N mN/\mN (Str.ofString "__init__")=none/\OwnTail h FN bm/\bm.contains (Value.type "BaseException")=true/\ExcBaseFacts Bn newId Wy Yi/\FN.contains (Value.type Bn)=true/\ExcBaseFacts B VO FK FN
section
variable {X:Cx}{x:Str}{C:Addr}{e:Expr}{es:List Expr}{t:TA}{np FR pos:Pos}{W:Hp->Prop}
end
variable {P:Program}{w:World}{K:zz7}{mg:Str->Option zz9}{base:Heap}{f:Addr}{fd:FuncData}
theorem FS.okX {x qual:Str}{st:Stmt}{f:Addr}{fd:FuncData}{N ps:List Str}{k:Nat}{sp:Sp} (F:FS K x qual st f fd) (S:aM N ps (aE st)) (len:∀vs H Q E,sp vs H Q E->vs.length=ps.length)
  (HG:∀(Gn:zz9) (A:Around) (outer:List Env) (s:zz8) (H:Hp) (vs:List V) (Q:VK) (E:XK),aO k (A.deeper (envOfC qual (aE st) s.heap.objs.size f Gn))->sp vs H Q E ->
   ∃t,HR (dO (Kj P w) P w K mg base N qual (aE st) f Gn A outer s H E) (cR st) t/\t { nx:=λ_ H'=>Q .non H',rt:=Q } (start N vs) H):aF P w K mg base (Kj P w) (k+1) f fd ps sp:=by
 obtain⟨oc,od,kV,doc,pm,an,Gn,ct,JZ,rfl,lk,IV⟩:=F.ex;exact pw lk IV S len λA outer s H vs Q E hr Hk=>HG Gn A outer s H vs Q E hr Hk
def RQ (P:Program) (w:World) (K:zz7) (mg:Str->Option zz9) (base:Heap) (k:Nat) (x:Str) (ps:List Str) (sp:Sp):Prop :=
 ∃f fd,mg x=some (.ref f)/\PySem.W.keepIn K (.ref f)=true/\Binds K fd ps []/\aF P w K mg base (Kj P w) k f fd ps sp
def XP (X:Cx) (pins:List (Addr×Obj)) (Ex:St->zz9->Option Addr->Hp->Prop) (e:zz9) (s1:zz8):Prop :=
 ∃(σ:St) (H:Hp) (s:zz8),Inv X pins σ H s/\Kj X.prog X.w X.stack H s (λcls dx H'=>Ex σ cls dx H') e s1
abbrev NY:=(St->zz9->Option Addr->Hp->Prop)->St->Hp->VK->Prop
abbrev Mq:=(St->zz9->Option Addr->Hp->Prop)->Ends->St->Hp->Prop
def N0 (X:Cx) (e:Expr) (t:NY):Prop:=∀(pins:List (Addr×Obj)) (s:zz8) (σ:St) (H:Hp) (Q:VK) (Ex:St->zz9->Option Addr->Hp->Prop),Inv X pins σ H s->t Ex σ H Q->wpAny (model X.prog X.w) X.A (eval e X.env) (EP X pins σ Q) (XP X pins Ex) s
def Uy (X:Cx) (st:Stmt) (t:Mq):Prop:=∀(pins:List (Addr×Obj)) (s:zz8) (σ:St) (H:Hp) (D:Ends) (Ex:St->zz9->Option Addr->Hp->Prop),Inv X pins σ H s->t Ex D σ H->wpAny (model X.prog X.w) X.A (exec st X.env) (SP X pins D) (XP X pins Ex) s
section
variable {X:Cx}{k:Nat}{x:Str}{ps:List Str}{sp:Sp}{e:Expr}{es:List Expr}{t:TA}{p pos:Pos}
def yt (sp:Sp) (t:TA):NY:=λEx σ H Q=>t σ H λvs H1=>sp vs H1 Q (λcls dx H'=>Ex σ cls dx H')
theorem wx (F:RQ X.prog X.w X.K X.mg X.base k x ps sp) (hr:aO k X.A) (ha:PA X.nox (e::es) t) (hg:Gl X x:=by rfl)
  (IU:(x==("__debug__":Str))=false:=by decide) (he:starEach (e::es) X.env=(false,eval e X.env)::starEach es X.env:=by rfl) (Ga:(backTo pos (starEach es X.env)).any (·.1)=false:=by rfl) :
  N0 X (.Call (.Name x p) (e::es) [] pos) (yt sp t):=by
 obtain⟨f,fd,hm,hk,hb,F⟩:=F;intro pins s σ H Q Ex I h;refine Do (gb I hg hm ?_ IU);have I0:Inv X.nox pins σ H s:=⟨⟨I.ok.mod,I.ok.kind,I.ok.glob,I.ok.blt,I.ok.above,I.ok.inj,I.ok.has,I.ok.cab,I.ok.hd,I.ok.frames,I.ok.stk,I.ok.exf,I.ok.bs,I.ok.bsz,I.ok.noex,I.ok.exfs,I.ok.funs,I.ok.frf⟩,I.os,I.bare,I.base,I.loc,I.cell,I.free,I.freeC,I.pin,I.hok,I.len⟩
 refine PySem.W.callWith_K (h₀:=X.base) I.ok.mod.kin hk (BK (ha pos pins s σ H _ I0 h) (λus s1 hq=>?_) λ_ _ z=>False.elim z) he Ga;obtain⟨vs,H1,I1,r,q⟩:=hq;have I2:Inv X pins σ H1 s1:=⟨⟨I1.ok.mod,I1.ok.kind,I1.ok.glob,I1.ok.blt,I1.ok.above,I1.ok.inj,I1.ok.has,I1.ok.cab,I1.ok.hd,I1.ok.frames,I1.ok.stk,I1.ok.exf,I1.ok.bs,I1.ok.bsz,I1.ok.noex,I1.ok.exfs,I1.ok.funs,I1.ok.frf⟩,I1.os,I1.bare,I1.base,I1.loc,I1.cell,I1.free,I1.freeC,I1.pin,I1.hok,I1.len⟩
 refine⟨I2.kIn,?_⟩;have hl:us.length=ps.length:=by rw[<- r.length];exact F.len _ _ _ _ q
 have LG:=hb s1 us I2.kIn (by simpa using hl);simp only[BA]at LG;refine Em (Cy (F.run X.A X.stack s1 H1 ⟨us,[]⟩ us vs Q (λcls dx H'=>Ex σ cls dx H') hr I2.env0 LG r q) λr s' hq=>?_);cases r with
 | error e=>exact⟨σ,H1,s1,I2,hq⟩
 | ok fl =>
  cases fl with
  | ret u=>exact I2.after hq
  | next=>exact False.elim hq
  | brk=>exact False.elim hq
  | cont=>exact False.elim hq
def yL (i:Nat) (te:NY):Mq:=λEx D σ H=>te Ex σ H λy H1=>D.nx (σ.set i (some y)) H1
theorem xN {te:NY}{i:Nat}{y:Str}{GA:Pos} (hN:X.N.Nodup) (hi:X.N[i]?=some y) (hx:Loc X.env.scope y) (he:N0 X e te) (hs:swapsWith e (some (.Name y GA)) pos.line X.env=pure false:=by rfl) (hf:X.fn y=true\/X.env.scope.names.lookup y=some .local:=by first|exact .inl rfl|exact .inr rfl|assumption) :
  Uy X (.Assign [.Name y GA] e pos) (yL i te):=by
 intro pins s σ H D Ex I h;refine wpAny_Assign_Name (FG (he pins s σ H _ Ex I h) λv s1 ⟨z,H1,I1,r1,q1⟩=>?_) hs;exact fG I1 hN hi hx r1 (λs2 I2=>⟨_,H1,I2,q1⟩) hf
end
theorem qu:isSubtype (.type "type") (.type "tuple")=pure false:=by rw[CS];kernel_rfl
theorem sq {M:Model}{A:Around}{E:zz9->zz8->Prop}{nm q SM q':Str}{C N R N':Addr}{bs bm Us RD:List zz9}{hdct KI:Bool}{sn Sk:List Str}{sub MM:List zz9}{ab Ut:Bool}{col NX:Option Bool}{dd JO:Option Addr}{k0 k1 k2 k3 k5 l0 l1 l2 l3 l5:Option zz9}{newId Jk:String}
  {s:zz8}{e:Addr}{oe:Obj}{Q:Bool->zz8->Prop} (hC:s.heap.get? C=some (excClassObj nm q C N bs bm hdct sn sub ab col dd k0 k1 k2 k3 k5 newId)) (hR:s.heap.get? R=some (excClassObj SM q' R N' Us RD KI Sk MM Ut NX JO l0 l1 l2 l3 l5 Jk))
  (he:s.heap.get? e=some oe) (hc:oe.cls=.ref C) (hb:RD.contains (.type "BaseException")=true) (k:Q ((Value.ref C::bm).contains (.ref R)) s):wpAny M A (excMatches (.ref e) (.ref R)) Q E s:=by
 unfold excMatches;refine AF (DE (T:="type") ⟨_,hR,rfl⟩ qu ?_);simp only[Bm,if_false,pure_bind,Eo,FB];obtain⟨h,g,d,tk,os⟩:=s;have hex:∀{Q':Bool->zz8->Prop},Q' true ⟨h,g,d,tk,os⟩->wpAny M A (isExcClass (.ref R)) Q' E ⟨h,g,d,tk,os⟩:=λ{Q'} qq=>by
  unfold isExcClass isType;simp only[bind_assoc,pure_bind];refine AF (wpAny_loadPart hR ?_);simp only[if_true];refine CN hR ?_;rw[C1,hb,Fl];exact qq
 refine AF (AF (AF (hex ?_)));simp only[Eb,Bm,if_false];refine AI (AI (AF (wpAny_typeOf_ref he ?_)));rw[hc];refine AF (AF (AF (CN hC ?_)));cases c:(Value.ref C::bm).contains (Value.ref R)with
 | true =>
  rw[c]at k;exact AI (AI (AI k))
 | false =>
  rw[c]at k;exact AI (AI (AI k))
section
variable {X:Cx}{pins:List (Addr×Obj)}{σ:List (Option V)}{H H':Hp}{s:zz8}{h':Heap}
theorem Inv.stepN {g':Array GenState}{t':Nat}{d':Drawn}{ch:List Addr} (I:Inv X pins σ H s)
  (HQ:∀b∈ch,X.s₀.heap.get? b=none/\b≠X.env.locals/\(∀x c,X.env.cells.lookup x=some c->c≠b)/\∀p∈X.pn++pins,p.1≠b)
  (keep:∀b o,b≠X.env.locals->b∉X.fs->b∉ch->s.heap.get? b=some o->H b=none->h'.get? b=some o)
  (slot:∀b o,b≠X.env.locals->b∈X.fs->b∉ch->s.heap.get? b=some o->H b=none->∃sl,h'.get? b=some { o with slots:=sl }) (free:∀b o,b∉ch->s.heap.get? b=some o->H b=none->H' b=none)
  (there:∀b o,b∉ch->s.heap.get? b=some o->∃o',h'.get? b=some o')
  (tups:∀b xs,H b=some (.tup xs)->H' b=some (.tup xs)) (frzs:∀b o u,H b=some (.frz o u)->H' b=some (.frz o u)) (tbls:∀b ps,H b=some (.tbl ps)->∃more,H' b=some (.tbl (ps++more)))
  (ns:∀m,s.heap.Ns X.env.locals m->h'.Ns X.env.locals m) (hok:F0 X.prog X.w H' h') (hg:AllBare g') :
  Inv X pins σ H' { s with heap:=h',gens:=g',drawn:=d',toks:=t' }:=by
 have M0:∀b o,X.s₀.heap.get? b=some o->b≠X.env.locals:=λb o e=>A4 (Bc (AN e) I.ok.above);have HA:∀b o,X.s₀.heap.get? b=some o->b∉X.ex->b∉ch:=λb o e hx hb=>by
  rw[(HQ b hb).1]at e;cases e
 have cellK:∀x c,X.env.cells.lookup x=some c->∀v,s.heap.IsCell c v->h'.IsCell c v:=λx c e v ⟨o,ho,hd⟩=>by
  have Jl:c∉ch:=λz=>(HQ c z).2.2.1 x c e rfl
  by_cases hc:c∈X.fs
  .obtain⟨sl,q⟩:=slot c o (I.cne x c e) hc Jl ho (I.freeC x c e)
   exact⟨_,q,hd⟩
  .exact⟨o,keep c o (I.cne x c e) hc Jl ho (I.freeC x c e),hd⟩
 refine⟨I.ok,I.os,hg,⟨λb o e n hb hx=>?_,λb o e n hb hx=>?_,λb o e n hx=>?_,λb o e hx=>?_,λb xs e=>tups b xs (I.base.tups b xs e),λb o xs e=>frzs b o xs (I.base.frzs b o xs e),λb ps e=>?_⟩,?_,λx c e=>?_,?_,λx c e=>?_,λp hp=>?_,hok,I.len⟩
 .exact keep b o (M0 b o e) hb (HA b o e hx) (I.base.keep b o e n hb hx) (I.base.free b o e n hx)
 .obtain⟨sl,e1⟩:=I.base.slot b o e n hb hx
  obtain⟨Pd,e2⟩:=slot b _ (M0 b o e) hb (HA b o e hx) e1 (I.base.free b o e n hx);exact⟨Pd,e2⟩
 .obtain⟨o',e1⟩:=I.base.there b o e hx
  exact free b o' (HA b o e hx) e1 (I.base.free b o e n hx)
 .obtain⟨o',e1⟩:=I.base.there b o e hx
  exact there b o' (HA b o e hx) e1
 .obtain⟨m1,e1⟩:=I.base.tbls b ps e
  obtain⟨m2,e2⟩:=tbls b _ e1;exact⟨m1++m2,by rw[e2,Array.append_assoc]⟩
 .obtain⟨m,hn,hl⟩:=I.loc
  refine⟨m,ns m hn,λi x v e1 e2 e3=>?_⟩;obtain⟨u,r,l⟩:=hl i x v e1 e2 e3;refine⟨u,r,?_⟩
  rcases l with l|⟨k,c,e,z⟩
  .exact .inl l
  .exact .inr ⟨k,c,e,cellK x c e _ z⟩
 .obtain⟨v,z⟩:=I.cell x c e
  exact⟨v,cellK x c e v z⟩
 .obtain⟨m,⟨o,_,_,ho,_⟩,_⟩:=I.loc
  exact free _ o (λz=>(HQ _ z).2.1 rfl) ho I.free
 .obtain⟨v,o,ho,hd⟩:=I.cell x c e
  exact free c o (λz=>(HQ c z).2.2.1 x c e rfl) ho (I.freeC x c e)
 .obtain⟨e,n,ne,nf,d⟩:=I.pin p hp
  have Jl:p.1∉ch:=λz=>(HQ p.1 z).2.2.2 p hp rfl;exact⟨keep p.1 p.2 ne nf Jl e n,free p.1 p.2 Jl e n,ne,nf,d⟩
theorem Inv.moved {G:List Addr} (I:Inv X pins σ H s) (hG:∀b∈G,X.s₀.heap.get? b=none/\H b=none/\b≠X.env.locals/\(∀x c,X.env.cells.lookup x=some c->c≠b)/\∀p∈X.pn++pins,p.1≠b)
  (kp:∀b o,s.heap.get? b=some o->b∉Gc X.stack->b∉G->h'.get? b=some o) (sl:∀b o,s.heap.get? b=some o->b∈Gc X.stack->∃sl,h'.get? b=some { o with slots:=sl }) :
  Inv X pins σ H { s with heap:=h' }:=by
 refine I.stepN (g':=s.gens) (d':=s.drawn) (t':=s.toks) (ch:=G) (λb hb=>⟨(hG b hb).1,(hG b hb).2.2⟩) (λb o hL hb hc e _=>kp b o e (λz=>(AO.mp (I.stkSub b z)).elim hL hb) hc) (λb o hL hb hc e _=>?_) (λ_ _ _ _ n=>n) (λb o hc e=>?_) (λ_ _ e=>e) (λ_ _ _ e=>e) (λb ps e=>⟨#[],by rw[e];simp⟩) (λm hm=>?_) (λb u e=>?_) I.bare
 .by_cases z:b∈Gc X.stack
  .exact sl b o e z
  .exact⟨o.slots,kp b o e z hc⟩
 .by_cases z:b∈Gc X.stack
  .obtain⟨q,q'⟩:=sl b o e z
   exact⟨_,q'⟩
  .exact⟨o,kp b o e z hc⟩
 .obtain⟨o,es,ep,ho,r⟩:=hm
  by_cases z:X.env.locals∈Gc X.stack
  .obtain⟨q,q'⟩:=sl _ o ho z
   exact⟨_,es,ep,q',r⟩
  .exact⟨o,es,ep,kp _ o ho z (λy=>(hG _ y).2.2.1 rfl),r⟩
 .have nf:∀c v,H c=some v->c∉Gc X.stack/\c∉G:=λc v q=>⟨λhm=>(by
   have:=I.stkFree c hm
   rw[q]at this;cases this),λhm=>(by rw[(hG c hm).2.1]at q;cases q)⟩
  refine(I.hok b u e).stay (λc v hc q=>?_) (λ_ q=>q) λ_ _ q=>q
  rcases hc with z|z
  .rw [z]at q ⊢;exact kp b v q (nf b u e).1 (nf b u e).2
  .exact kp c v q (nf c _ z).1 (nf c _ z).2
end
section
variable {X:Cx}{pins:List (Addr×Obj)}{σ:List (Option V)}{H:Hp}{s:zz8}
theorem tW {M:Model}{A:Around}{E:zz9->zz8->Prop}{i:Nat}{x:Str}{v:V}{Q:Unit->zz8->Prop} (I:Inv X pins σ H s) (hN:X.N.Nodup) (hi:X.N[i]?=some x) (hk:X.env.scope.names.lookup x=some .local) (hv:σ[i]?=some (some v))
  (h:∀s',Inv X pins (σ.set i none) H s'->Q () s'):wpAny M A (unbindName X.env x) Q E s:=by
 obtain⟨m,hn,hl⟩:=id I.loc;have LC:(X.env.scope.kind==.class||(X.env.scope.kind==.module&&X.env.locals != X.env.globals))=false:=by rw[I.ok.kind];rfl
 have FJ:i<σ.length:=by rw[I.len];exact(A3.mp hi).1
 obtain⟨u,r,lk⟩:=hl i x v hi hv (.inl hk);have hm:m x=some u:=by
  rcases lk with ⟨_,e⟩|⟨z,_⟩
  .exact e
  .have Ny:X.env.kindOf x=some .local:=hk
   rcases z with z|z<;>(rw[Ny]at z;cases z)
 refine wpAny_unbindName_local hk hn hm LC λh' u' Hm hs=>?_;have nb:∀b o,X.s₀.heap.get? b=some o->b≠X.env.locals:=λb o e=>A4 (Bc (AN e) I.ok.above);have cne:=I.cne;refine h _ ⟨I.ok,I.os,I.bare,⟨λb o e n hb hx=>(hs.2 b (nb b o e)).trans (I.base.keep b o e n hb hx),λb o e n hb hx=>?_,I.base.free,λb o e hx=>?_,I.base.tups,I.base.frzs,I.base.tbls⟩,⟨_,Hm,λj y w e1 e2 e3=>?_⟩,λy c e=>?_,I.free,I.freeC,λp hp=>?_,λb ob e=>?_,?_⟩
 .obtain⟨sl,e1⟩:=I.base.slot b o e n hb hx
  exact⟨sl,(hs.2 b (nb b o e)).trans e1⟩
 .obtain⟨o',e1⟩:=I.base.there b o e hx
  exact⟨o',(hs.2 b (nb b o e)).trans e1⟩
 .by_cases hj:j=i
  .subst hj
   rw[Dv FJ]at e2;cases e2
  .rw [El (BX hj)]at e2
   obtain⟨u2,r2,q⟩:=hl j y w e1 e2 e3;refine⟨u2,r2,?_⟩
   rcases q with ⟨k,e⟩|⟨k,c,e,z⟩
   .refine .inl ⟨k,?_⟩
    have:y≠x:=λe=>hj (ji hN e1 (e ▸ hi));simp[this,e]
   .exact .inr ⟨k,c,e,z.sameBut hs (cne y c e)⟩
 .obtain⟨w',z⟩:=I.cell y c e
  exact⟨w',z.sameBut hs (cne y c e)⟩
 .obtain⟨e,n,ne,nf,d⟩:=I.pin p hp
  exact⟨(hs.2 p.1 ne).trans e,n,ne,nf,d⟩
 .refine (I.hok b ob e).stay (λc w' hc q=>(hs.2 c ?_).trans q) (λ_ q=>q) λ_ _ q=>q
  rintro rfl
  rcases hc with z|z
  .have:=I.free
   rw[z]at this;rw[this]at e;cases e
  .rw [I.free]at z;cases z
 .rw [List.length_set];exact I.len
end
section
variable {X:Cx}{pins:List (Addr×Obj)}{σ:St}{H:Hp}{s:zz8}{ea C:Addr}{o:HO}
theorem Inv.track (I:Inv X pins σ H s) (hn:H ea=none) (h0:X.s₀.heap.get? ea=none) (hl:ea≠X.env.locals) (hc:∀x c,X.env.cells.lookup x=some c->c≠ea) (hp:∀p∈X.pn++pins,p.1≠ea)
  (new:aD X.prog X.w (upd H ea o) s.heap ea o):Inv X pins σ (upd H ea o) s:=by
 have J:=I.stepN (h':=s.heap) (H':=upd H ea o) (g':=s.gens) (d':=s.drawn) (t':=s.toks) (ch:=[ea]) (λb hb=>by
   have z:b=ea:=by simpa using hb
   rw[z];exact⟨h0,hl,hc,hp⟩) (λb o _ _ _ e _=>e) (λb o _ _ _ e _=>⟨o.slots,e⟩) (λb o hb e n=>by rw[ag (λz=>hb (by simp[z]))];exact n) (λb o _ e=>⟨o,e⟩)
  (λb xs e=>by rw[ag (aq e hn)];exact e) (λb o u e=>by rw[ag (aq e hn)];exact e) (λb ps e=>⟨#[],by rw[ag (aq e hn),e];simp⟩) (λm hm=>hm) (λb u e=>?_) I.bare
 .exact J
 .by_cases z:b=ea
  .rw [z,ak]at e
   cases e;rw[z];exact new
  .rw [ag z]at e
   exact(I.hok b u e).stay (λ_ _ _ q=>q) (λb q=>by rw[ag (aq q hn)];exact q) (λb xs q=>by rw[ag (aq q hn)];exact q)
def eU (ea C:Addr) (dx:Option Addr):HO:=.ext λh=>∃oe vs,h.get? ea=some oe/\oe.cls=.ref C/\oe.dict=dx/\oe.data=Data.fields vs/\vs[2]?=some Value.none
theorem wf {P:Program}{w:World}{H:Hp}{h:Heap}{oe:Obj}{dx:Option Addr}{vs:Array zz9} (h1:h.get? ea=some oe) (h2:oe.cls=.ref C) (h3:oe.dict=dx) (h4:oe.data=Data.fields vs) (h5:vs[2]?=some Value.none):aD P w H h ea (eU ea C dx):=
 ⟨⟨oe,vs,h1,h2,h3,h4,h5⟩,⟨oe,h1⟩,λOG Kc ⟨o,UT,q1,q2⟩ k=>⟨o,UT,k o q1,q2⟩⟩
end
def Cx.held (X:Cx) (ea:Addr):Cx:={ X with A:=X.A.mark (some (.ref ea)),calm:=false,xe:=λ_ _=>False }
section
variable {X:Cx}{pins:List (Addr×Obj)}{σ:St}{H:Hp}{s:zz8}{ea:Addr}
theorem Inv.held (I:Inv X pins σ H s) (ea:Addr):Inv (X.held ea) pins σ H s :=
 ⟨⟨I.ok.mod,I.ok.kind,I.ok.glob,I.ok.blt,I.ok.above,I.ok.inj,I.ok.has,I.ok.cab,(λz=>by cases z),I.ok.frames,I.ok.stk,I.ok.exf,I.ok.bs,I.ok.bsz,I.ok.noex,I.ok.exfs,I.ok.funs,I.ok.frf⟩,I.os,I.bare,I.base,I.loc,I.cell,I.free,I.freeC,I.pin,I.hok,I.len⟩
theorem Inv.unheld (ok:X.Ok) (I:Inv (X.held ea) pins σ H s):Inv X pins σ H s :=
 ⟨ok,I.os,I.bare,I.base,I.loc,I.cell,I.free,I.freeC,I.pin,I.hok,I.len⟩
theorem hZ {M:Model}{A:Around}{E:zz9->zz8->Prop}{i:Nat}{n:Str}{pos:Pos}{Q:Unit->zz8->Prop} (I:Inv X pins σ H s) (hN:X.N.Nodup) (hi:X.N[i]?=some n) (hk:X.env.scope.names.lookup n=some .local)
  (h:∀s',Inv X pins (σ.set i none) H s'->Q () s'):wpAny M A (do bindName X.env n Value.none;unbindBehindTheSuite X.env n pos) Q E s:=by
 refine AF (wpAny_bindName (fG I hN hi (.inl hk) (v:=.non) rfl (λs' I'=>?_) (.inr hk)));have hl:i<σ.length:=by rw[I.len];exact(A3.mp hi).1
 unfold unbindBehindTheSuite;refine EY (tW I' hN hi hk (v:=.non) (Dv hl) λs2 I2=>h s2 ?_);rw[List.set_set]at I2;exact I2
def Under (h:Heap) (C R:Addr):Prop:=∃(nm q:Str) (N:Addr) (bs bm:List zz9) (hdct:Bool) (sn:List Str) (sub:List zz9) (ab:Bool) (col:Option Bool) (dd:Option Addr) (k0 k1 k2 k3 k5:Option zz9) (newId:String),
 h.get? C=some (excClassObj nm q C N bs bm hdct sn sub ab col dd k0 k1 k2 k3 k5 newId)/\(Value.ref C::bm).contains (.ref R)=true
def pN (D:Ends) (j:Nat):Ends:={ nx:=λσ H=>D.nx (σ.set j none) H,rt:=D.rt,bk:=λσ H=>D.bk (σ.set j none) H,ct:=λσ H=>D.ct (σ.set j none) H }
def zV (tx:Mq) (th:TS) (j:Nat) (U:Addr->Prop):TS:=λD σ H=>tx (λσ1 cls dx H'=>∃C,cls=.ref C/\U C/\∀ea,H' ea=none->th (pN D j) (σ1.set j (some (.ref ea))) (upd H' ea (eU ea C dx))) D σ H
end
section
variable {X:Cx}{st b0:Stmt}{Hx:List Stmt}{tx:Mq}{th:TS}{x n:Str}{R:Addr}{j:Nat}{np HX pos:Pos}
end
section
variable {X:Cx}{pins:List (Addr×Obj)}{σ:St}{H:Hp}{s:zz8}
theorem Inv.toNox (I:Inv X pins σ H s):Inv X.nox pins σ H s:=⟨⟨I.ok.mod,I.ok.kind,I.ok.glob,I.ok.blt,I.ok.above,I.ok.inj,I.ok.has,I.ok.cab,I.ok.hd,I.ok.frames,I.ok.stk,I.ok.exf,I.ok.bs,I.ok.bsz,I.ok.noex,I.ok.exfs,I.ok.funs,I.ok.frf⟩,I.os,I.bare,I.base,I.loc,I.cell,I.free,I.freeC,I.pin,I.hok,I.len⟩
theorem Inv.ofNox (I:Inv X.nox pins σ H s):Inv X pins σ H s:=⟨⟨I.ok.mod,I.ok.kind,I.ok.glob,I.ok.blt,I.ok.above,I.ok.inj,I.ok.has,I.ok.cab,I.ok.hd,I.ok.frames,I.ok.stk,I.ok.exf,I.ok.bs,I.ok.bsz,I.ok.noex,I.ok.exfs,I.ok.funs,I.ok.frf⟩,I.os,I.bare,I.base,I.loc,I.cell,I.free,I.freeC,I.pin,I.hok,I.len⟩
end
section
variable {X:Cx}{st:Stmt}{rest:List Stmt}{t u:Mq}{pos:Pos}
end
open Builtin Builtin.ObjectAttr
inductive bW (h:Heap) (S:List Str) (FN:List zz9):List zz9->Prop
 | base:bW h S FN FN
 | own {B:Addr}{c0:zz9}{dd:Option Addr}{cd:ClassData}{sl:Array (Option zz9)}{m:Str->Option zz9}{tl:List zz9} (e:h.get? B=some ⟨c0,dd,.cls cd,sl⟩) (n:h.Ns cd.ns m) (i:∀x∈S,m x=none) (r:bW h S FN tl):bW h S FN (.ref B::tl)
section
variable {h h':Heap}{S:List Str}{FN tl:List zz9}
theorem bW.stays (k:∀b o,h.get? b=some o->h'.get? b=some o) (x:bW h S FN tl):bW h' S FN tl:=by
 induction x with
 | base=>exact .base
 | own e n i _ ih=>exact .own (k _ _ e) (n.keeps k) i ih
theorem bW.plain (hS:Str.ofString "__init__"∈S) (x:bW h S FN tl):OwnTail h FN tl:=by
 induction x with
 | base=>exact .base
 | own e n i _ ih=>exact .own e n (i _ hS) ih
theorem bW.has (x:bW h S FN tl) {T:String}{b:Bool} (hb:FN.contains (.type T)=b):tl.contains (.type T)=b:=by
 induction x with
 | base=>exact hb
 | own _ _ _ _ ih=>rw[C1,ih];rfl
theorem bW.passes {self:zz9}{MI:Str} (x:bW h S FN tl) (hb:refuseLoop self MI FN=pure ()):refuseLoop self MI tl=pure ():=by
 induction x with
 | base=>exact hb
 | own _ _ _ _ ih=>rw[refuseLoop_ref];exact ih
end
section
variable {M:Model}{A:Around}{E:zz9->zz8->Prop}{h:Heap}{g:Array GenState}{d:Drawn}{t:Nat}{os:OsState}{S:List Str}{FN tl:List zz9}{x:Str}{y:Option zz9}{Q:Option zz9->zz8->Prop}
theorem wq (hx:x∈S) (T:bW h S FN tl) (hr:lookupAlong FN x=pure y) (hq:Q y ⟨h,g,d,t,os⟩):wpAny M A (lookupAlong tl x) Q E ⟨h,g,d,t,os⟩:=by
 induction T with
 | base=>rw[hr];exact AI hq
 | own e n i _ ih =>
  rw[lookupAlong_cons];refine AF (wpAny_classOwn_cls e n ?_);rw[i x hx];exact ih
variable {nm q:Str}{C N:Addr}{bs bm:List zz9}{hdct:Bool}{sn:List Str}{sub:List zz9}{ab:Bool}{col:Option Bool}{dd:Option Addr}{k0 k1 k2 k3 k5:Option zz9}{B newId:String}{mN:Str->Option zz9}
theorem fY (c1:h.get? C=some (excClassObj nm q C N bs bm hdct sn sub ab col dd k0 k1 k2 k3 k5 newId)) (c2:h.Ns N mN) (c3:mN x=none) (hx:x∈S) (T:bW h S FN bm) (mr:mroOf (.type B)=pure FN) (hB:typeLookup (.type B) x=pure y) (hq:Q y ⟨h,g,d,t,os⟩) :
  wpAny M A (typeLookup (.ref C) x) Q E ⟨h,g,d,t,os⟩:=by
 have hr:lookupAlong FN x=pure y:=by rw[typeLookup_eq,mr]at hB;exact hB
 rw[typeLookup_eq];refine AF (wpAny_mroOf_exc c1 ?_);rw[lookupAlong_cons];refine AF (wpAny_classOwn_exc c1 c2 ?_);rw[c3];exact wq hx T hr hq
end
structure dh (S:List Str) (h:Heap) (C f:Addr) (nm q:Str) (N:Addr) (bs bm FN:List zz9) (sn:List Str) (sub:List zz9) (ab:Bool) (col:Option Bool) (dd:Option Addr) (k0 k1 k2 k3 k5:Option zz9) (mN:Str->Option zz9) (B newId FK sa ow:String):Prop where
 at_:h.get? C=some (excClassObj nm q C N bs bm true sn sub ab col dd k0 k1 k2 k3 k5 newId)
 ns:h.Ns N mN
 init:mN (Str.ofString "__init__")=some (.ref f)
 no:∀x∈S,mN x=none
 tail:bW h (Str.ofString "__init__"::S) FN bm
 bf:ExcBaseFacts B newId FK FN
 sf:StoreFacts B FN sa ow
 af:ExcAttrBase B FN
theorem dh.stays {S:List Str}{h h':Heap}{C f:Addr}{nm q:Str}{N:Addr}{bs bm FN:List zz9}{sn:List Str}{sub:List zz9}{ab:Bool}{col:Option Bool}{dd:Option Addr}{k0 k1 k2 k3 k5:Option zz9}{mN:Str->Option zz9}{B newId FK sa ow:String}
  (x:dh S h C f nm q N bs bm FN sn sub ab col dd k0 k1 k2 k3 k5 mN B newId FK sa ow) (k:∀b o,h.get? b=some o->h'.get? b=some o):dh S h' C f nm q N bs bm FN sn sub ab col dd k0 k1 k2 k3 k5 mN B newId FK sa ow :=
 ⟨k _ _ x.at_,x.ns.keeps k,x.init,x.no,x.tail.stays k,x.bf,x.sf,x.af⟩
section
variable {prog:Program}{w:World}{A:Around}{E:zz9->zz8->Prop}{h:Heap}{g:Array GenState}{d:Drawn}{t:Nat}{os:OsState}
 {S:List Str}{C f:Addr}{nm q:Str}{N:Addr}{bs bm FN:List zz9}{sn:List Str}{sub:List zz9}{ab:Bool}{col:Option Bool}{dd:Option Addr}{k0 k1 k2 k3 k5:Option zz9}{mN:Str->Option zz9}{B newId FK sa ow:String}
theorem rP (x:dh S h C f nm q N bs bm FN sn sub ab col dd k0 k1 k2 k3 k5 mN B newId FK sa ow) {us:List zz9}{oI:Obj}{Q:Fin->zz8->Prop} (f1:h.get? f=some oI) (f2:oI.cls=.type "function")
  (k:∀h' e,h.MadeExcOf h' e (.ref C) us->wpAny (model prog w) A (call (.ref f) (.ref e::us)) (λr s'=>r=.none/\Q (.done (.ret (.ref e))) s') E ⟨h',g,d,t,os⟩) (hl:us.length<=sizeLine) :
  wpAny (model prog w) A (Builtin.«type.__call__» ⟨.ref C::us,[]⟩) Q E ⟨h,g,d,t,os⟩:=by
 have c1:=x.at_;have T:=x.tail.plain (AK ..)
 repeat (first|with_reducible refine BV c1 ?_|with_reducible refine wpAny_madeBy_exc c1 ?_|wp_step)
 refine codeAny_call_builtin_code (Dp _ x.bf.quiet) (wpAny_check_new_subT x.bf T c1 (codeAny_exc_new_subT x.bf T c1 ?_ hl));show wpAny _ _ _ _ _ _;generalize Mb:({ cls:=.ref C,data:=.fields #[.ref h.objs.size,.none,.none,.none,.bool false,.none] }:Obj)=ob;generalize Ma:({ cls:=.type "tuple",data:=.seq us.toArray }:Obj)=ot;have kp:∀b o,h.get? b=some o->((h.push ot).push ob).get? b=some o:=λb o z=>AH _ (AH _ z);have g1:((h.push ot).push ob).get? (h.objs.size+1)=some ob:=by
  have:=AU (h.push ot) (o:=ob) (by rw[<- Mb];rfl)
  rwa [Bz]at this
 have oc:ob.cls=.ref C:=by rw[<- Mb]
 have c2:=kp _ _ c1;have cC:(Value.ref C::bm).contains (.ref C)=true:=by simp
 unfold isInstance
 repeat (first|(with_reducible refine BV g1 ?_;rw[oc])|(with_reducible refine CN c2 ?_;rw[cC])|wp_step)
 show wpAny _ _ (typeLookup (.ref C) _) _ _ _;refine wpAny_typeLookup_tail c2 (x.ns.keeps kp) (T.keeps kp) x.bf.mroIs x.bf.init.lookup ?_;rw[show mN "__init__"=some (.ref f) from x.init];refine Bo (AF ?_);unfold bindSpecial;refine AF (Dy (T:="function") ⟨_,kp _ _ f1,f2⟩ ?_);rw[if_pos (by decide)];refine AI (AF (BK (k _ (h.objs.size+1) ⟨kp,DC (CT _),h.objs.size,by rw[Mb];exact g1,DC (AY _),?_⟩) (λr s' hr=>?_) λ_ _ z=>z))
 .rw [Ma]
  exact AH _ (AU h (by rw[<- Ma];rfl))
 .obtain⟨rfl,hQ⟩:=hr
  wp_walk
  exact hQ
theorem xn (x:dh S h C f nm q N bs bm FN sn sub ab col dd k0 k1 k2 k3 k5 mN B newId FK sa ow) {us:List zz9}{oI:Obj}{Q:zz9->zz8->Prop} (f1:h.get? f=some oI) (f2:oI.cls=.type "function")
  (k:∀h' e,h.MadeExcOf h' e (.ref C) us->wpAny (model prog w) (A.under (.builtin "type.__call__" ⟨.ref C::us,[]⟩)) (call (.ref f) (.ref e::us)) (λr s'=>r=.none/\Q (.ref e) s') E ⟨h',g,d,t,os⟩) (hl:us.length<=sizeLine) :
  wpAny (model prog w) A (call (.ref C) us) Q E ⟨h,g,d,t,os⟩:=by
 have l1:=tc_lookup;have l2:=tc_bind (.ref C);have c1:=x.at_;have hT:(⟨h,g,d,t,os⟩:zz8).TypeIs (.ref C) "type":=⟨_,c1,rfl⟩
 refine Em (DO ?_);show wpAny _ _ (callAny (.ref C) _) _ _ _
 repeat (any_goals (first|assumption|with_reducible refine BV c1 ?_|wp_step))
 refine⟨rfl,codeAny_call_builtin_at (Dp _ (by decide +kernel)) entry_typeCall (wpAny_check_type_call_sub c1 (rP x f1 f2 (λh' e m=>?_) hl))⟩;exact k h' e m
end
def gg (C:Addr) (dx:Option Addr) (t:Addr):Obj:={ cls:=.ref C,dict:=dx,data:=.fields #[.ref t,.none,.none,.none,.bool false,.none] }
def dQ (e C:Addr) (dx:Option Addr):HO:=.ext λh=>∃t,h.get? e=some (gg C dx t)
theorem ou {P:Program}{w:World}{H:Hp}{h:Heap}{e C t:Addr}{dx:Option Addr} (q:h.get? e=some (gg C dx t)):aD P w H h e (dQ e C dx):=
 ⟨⟨t,q⟩,⟨_,q⟩,λh1 h2 ⟨t',z⟩ k=>⟨t',k _ z⟩⟩
theorem ng {P:Program}{w:World}{H:Hp}{h:Heap}{e C:Addr}{dx:Option Addr} (x:aD P w H h e (dQ e C dx)):∃t,h.get? e=some (gg C dx t):=x.1
def del (H:Hp) (a:Addr):Hp:=λb=>if b=a then none else H b
theorem ja {H:Hp}{a:Addr}:del H a a=none:=by unfold del;rw[if_pos rfl]
theorem dJ {H:Hp}{a b:Addr} (h:b≠a):del H a b=H b:=by unfold del;rw[if_neg h]
section
variable {X:Cx}{pins:List (Addr×Obj)}{σ:St}{H:Hp}{s:zz8}{ea:Addr}{φ:Heap->Prop}
theorem Inv.untrack (I:Inv X pins σ H s) (he:H ea=some (.ext φ)):Inv X pins σ (del H ea) s:=by
 have ne:∀b u,H b=some u->(∀ψ,u≠.ext ψ)->b≠ea:=λb u q n z=>by
  rw[z,he]at q;cases q;exact n _ rfl
 have J:=I.step (h':=s.heap) (H':=del H ea) (g':=s.gens) (d':=s.drawn) (t':=s.toks) (ch:=[]) (λb hb=>absurd hb (by simp)) (λb o _ _ _ e _=>e) (λb o _ _ _ e _=>⟨o.slots,e⟩) (λb o _ _ n=>by
   by_cases z:b=ea
   .rw [z];exact ja
   .rw [dJ z];exact n) (λb o _ e=>⟨o,e⟩)
  (λb xs e=>by rw[dJ (ne b _ e λ_ z=>by cases z)];exact e) (λb o u e=>by rw[dJ (ne b _ e λ_ z=>by cases z)];exact e) (λb ps e=>⟨#[],by rw[dJ (ne b _ e λ_ z=>by cases z),e];simp⟩) (λm hm=>hm) (λb u e=>?_) I.bare
 .exact J
 .by_cases z:b=ea
  .rw [z,ja]at e;cases e
  .rw [dJ z]at e
   exact(I.hok b u e).stay (λ_ _ _ q=>q) (λb q=>by rw[dJ (ne b _ q λ_ z=>by cases z)];exact q) (λb xs q=>by rw[dJ (ne b _ q λ_ z=>by cases z)];exact q)
end
section
variable {M:Model}{A:Around}{E:zz9->zz8->Prop}{s:zz8}{env:Env}{x:Sem zz9}{Q:Flow->zz8->Prop}
 {nm q:Str}{C N:Addr}{bs bm:List zz9}{hdct:Bool}{sn:List Str}{sub:List zz9}{ab:Bool}{col:Option Bool}{dd:Option Addr}{k0 k1 k2 k3 k5:Option zz9}{newId:String}
theorem sT (hb:bm.contains (.type "BaseException")=true) (hh:A.handled=none)
  (h:wpAny M A x (λv s1=>∃e t dx,v=.ref e/\s1.heap.get? C=some (excClassObj nm q C N bs bm hdct sn sub ab col dd k0 k1 k2 k3 k5 newId)/\s1.heap.get? e=some (gg C dx t)/\E (.ref e) s1) E s) :
  wpAny M A (raiseStmt env (some x) none) Q E s:=by
 have cB:(Value.ref C::bm).contains (.type "BaseException")=true:=by rw[C1,hb,Fl]
 unfold raiseStmt;refine AF (BK h (λv s1 h1=>?_) λ_ _ z=>z);obtain⟨e,t,dx,rfl,c1,e1,hE⟩:=h1;unfold gg at e1;obtain⟨hp,g,d,tk,os⟩:=s1
 repeat (first|with_reducible refine BV e1 ?_|with_reducible refine BV c1 ?_|(with_reducible refine CN c1 ?_;rw[cB])|wp_step)
 exact wpAny_raiseNew_none hh hE
end
def dj (S:List Str) (h:Heap) (C f:Addr):Prop:=∃nm q N bs bm FN sn sub ab col dd k0 k1 k2 k3 k5 mN B newId FK sa ow,dh S h C f nm q N bs bm FN sn sub ab col dd k0 k1 k2 k3 k5 mN B newId FK sa ow/\(∀x∈S,x≠Str.ofString "__setattr__"->x≠Str.ofString "__getattribute__"->x≠Str.ofString "__getattr__"->typeLookup (.type B) x=pure none)/\∃oI,h.get? f=some oI/\oI.cls=.type "function"
def wO (C:Addr) (t:TA) (sp:Sp) (W:zz9->Option Addr->Hp->Prop):TS:=λ_ σ H=>t σ H λvs H1=>vs.length<=sizeLine/\∀e,H1 e=none ->
 sp (.ref e::vs) (upd H1 e (dQ e C none)) (λv H2=>v=.non/\∃dx,H2 e=some (dQ e C dx)/\W (.ref C) dx (del H2 e)) E0
section
variable {X:Cx}{x:Str}{C f:Addr}{fd:FuncData}{ps:List Str}{sp:Sp}{k:Nat}{e:Expr}{es:List Expr}{t:TA}{np FR pos:Pos}{W:zz9->Option Addr->Hp->Prop}{S:List Str}
theorem sW (hx:X.mg x=some (.ref C)) (hC:dj S X.base C f) (F:aF X.prog X.w X.K X.mg X.base FT k f fd ps sp) (hr:aO (k+1) X.A) (XI:Binds X.K fd ps []) (hd:X.A.handled=none) (ha:PA X (e::es) t)
  (xe:∀(pins:List (Addr×Obj)) (σ:St) (H:Hp) (s:zz8) (ea:Addr) (oe:Obj) (vs:Array zz9) (a0:zz9),Inv X pins σ H s->s.heap.get? ea=some oe->oe.data=Data.fields vs->vs[1]?=some Value.none->Mt vs a0->X.s₀.heap.get? ea=none->H ea=none->W oe.cls oe.dict H->X.xe (.ref ea) s)
  (hex:X.ex=[]) (hg:Gl X x:=by rfl) (IU:(x==("__debug__":Str))=false:=by decide) (he:starEach (e::es) X.env=(false,eval e X.env)::starEach es X.env:=by rfl) (Ga:(backTo FR (starEach (e::es) X.env)).any (·.1)=false:=by rfl) :
  PS X (.Raise (some (.Call (.Name x np) (e::es) [] FR)) none pos) (wO C t sp W):=by
 intro pins s σ H D I h;obtain⟨nm,q,N,bs,bm,FN,sn,sub,ab,col,dd,k0,k1,k2,k3,k5,mN,B,newId,FK,sa,ow,EI,_,oI,f1,f2⟩:=hC;rw[arm_exec_Raise];have hb:bm.contains (.type "BaseException")=true:=EI.tail.has EI.bf.hasBase;refine AF (Cb (sT (C:=C) (nm:=nm) (q:=q) (N:=N) (bs:=bs) (bm:=bm) (hdct:=true) (sn:=sn) (sub:=sub) (ab:=ab) (col:=col) (dd:=dd) (k0:=k0) (k1:=k1) (k2:=k2) (k3:=k3) (k5:=k5) (newId:=newId) hb hd (AF (BK (wpAny_Call_ofName (gb I hg hx ?_ IU)) (λv s3 h3=>AF (Cb (AI h3))) λ_ _ z=>z))));unfold callWith;have Ht:=ha FR pins s σ H _ I h;have eb:backTo FR (starEach (e::es) X.env)=(false,eval e X.env)::backTo FR (starEach es X.env):=by rw[he];rfl
 rw[eb]at Ht Ga ⊢;refine AF (Bo (En (FG Ht λus s2 hq=>AF (Cb ?_))));obtain⟨vs,H1,I1,r1,hl,hw⟩:=hq;simp only[Ga];have kb:=I1.bk;have UL:=EI.stays kb;obtain⟨hp,g,d,tk,os⟩:=s2;refine AF (wpAny_keeperOf_exc UL.at_ (AF (xn UL (kb _ _ f1) f2 (λh' ea m=>?_) (by show us.length<=sizeLine;rw[<- r1.length];exact hl))));obtain⟨keeps,new,t0,there,tn,tt⟩:=m;have I2:Inv X pins σ H1 ⟨h',g,d,tk,os⟩:=I1.kept (s:=⟨hp,g,d,tk,os⟩) (t':=tk) keeps;have TX:H1 ea=none:=by
  cases hc:H1 ea with
  | none=>rfl
  | some o =>
   obtain⟨ob,q⟩:=aD.got (I1.hok ea o hc);rw[new]at q;cases q
 have back:X.s₀.heap.get? ea=none:=by
  cases hc:X.s₀.heap.get? ea with
  | none=>rfl
  | some o =>
   obtain⟨o',q'⟩:=I1.base.there ea o hc (by rw[hex];simp);rw[new]at q';cases q'
 have nl:ea≠X.env.locals:=λz=>by
  obtain⟨m,⟨o,_,_,ho,_⟩,_⟩:=I1.loc;rw[<- z,new]at ho;cases ho
 have nc:∀x c,X.env.cells.lookup x=some c->c≠ea:=λy c e z=>by
  obtain⟨v,o,ho,_⟩:=I1.cell y c e;rw[z,new]at ho;cases ho
 have VJ:∀p∈X.pn++pins,p.1≠ea:=λp hp z=>by
  have:=(I1.pin p hp).1;rw[z,new]at this;cases this
 have I3:Inv X pins σ (upd H1 ea (dQ ea C none)) ⟨h',g,d,tk,os⟩:=I2.track TX back nl nc VJ (ou (t:=t0) there);have hs:=hw ea TX;have r2:ar (V.ref ea::vs) (Value.ref ea::us):=.cons rfl r1;have TM:(Value.ref ea::us).length=ps.length:=by
  rw[<- r2.length];exact F.len _ _ _ _ hs
 have LG:=XI ⟨h',g,d,tk,os⟩ (.ref ea::us) I3.kIn (by simpa using TM);simp only[BA]at LG;refine Em (Cy (F.run _ X.stack _ _ ⟨Value.ref ea::us,[]⟩ (Value.ref ea::us) _ _ E0 (hr.make C us []) (I3.env0.make C us []) LG r2 hs) λr s' Hl=>?_);cases r with
 | error e=>exact False.elim Hl
 | ok fl =>
  cases fl with
  | ret u =>
   obtain⟨v,H',J,rv,ev,dx,hd2,hW⟩:=I3.after Hl;subst ev;cases (show u=Value.none from rv);obtain⟨t1,q1⟩:=ng (J.hok ea _ hd2);refine⟨rfl,AF (Bo (wpAny_point (AI ⟨ea,t1,dx,rfl,(J.bk _ _ EI.at_),q1,?_⟩)))⟩;exact xe pins σ (del H' ea) s' ea _ _ _ (J.untrack hd2) q1 rfl rfl ⟨rfl,rfl⟩ back ja hW
  | next=>exact False.elim Hl
  | brk=>exact False.elim Hl
  | cont=>exact False.elim Hl
end
open Builtin Builtin.ObjectAttr
section
variable {prog:Program}{w:World}{A:Around}{E:zz9->zz8->Prop}{h:Heap}{g:Array GenState}{d:Drawn}{t:Nat}{os:OsState}
 {S:List Str}{C f x:Addr}{nm q:Str}{N:Addr}{bs bm FN:List zz9}{sn:List Str}{sub:List zz9}{ab:Bool}{col:Option Bool}{dd:Option Addr}{k0 k1 k2 k3 k5:Option zz9}{mN:Str->Option zz9}{B newId FK sa ow:String}
 {o:Obj}{vs:Array zz9}{name:Str}{v:zz9}
theorem sZ {M:Model}{nv:zz9}{Q:Unit->zz8->Prop} (K:dh S h C f nm q N bs bm FN sn sub ab col dd k0 k1 k2 k3 k5 mN B newId FK sa ow) (x1:h.get? x=some o) (x2:o.cls=.ref C) (hq:Q () ⟨h,g,d,t,os⟩) :
  wpAny M A (checkBuiltinCall sa ⟨[.ref x,nv,v],[]⟩) Q E ⟨h,g,d,t,os⟩:=by
 have c1:=K.at_;have cB:(Value.ref C::bm).contains (.type ow)=true:=by rw[C1,K.tail.has K.sf.hasOwner,Fl]
 have ha:=K.sf.args (.ref x) nv v;simp only[checkBuiltinCall,K.sf.kind,K.sf.split];refine AF ?_;unfold isInstance
 repeat (first|(with_reducible refine BV x1 ?_;rw[x2])|(with_reducible refine CN c1 ?_;rw[cB])|wp_step)
 cases hs:Manifest.signature? sa with
 | none=>exact AI hq
 | some sig =>
  simp only[argsOk,hs]at ha;show wpAny M A (Bind.checkArgs sa sig ⟨[.ref x,nv,v],[]⟩) Q E _;rw[show Bind.checkArgs sa sig ⟨[.ref x,nv,v],[]⟩=pure () from ha];exact AI hq
theorem tj {tk:Tok}{Q:Fin->zz8->Prop} (K:dh S h C f nm q N bs bm FN sn sub ab col dd k0 k1 k2 k3 k5 mN B newId FK sa ow) (hS:name∈S) (hB:typeLookup (.type B) name=pure none)
  (x1:h.get? x=some o) (x2:o.cls=.ref C) (x3:o.dict=none) (x4:o.data=.fields vs)
  (hq:∀h' HU,h'.get? x=some { o with dict:=some h.objs.size }->h'.Ns1 h.objs.size (λy=>if y=name then some v else none)->(∀b u,b≠x->h.get? b=some u->h'.get? b=some u)->Q (.done (.ret .none)) ⟨h',g,d,HU,os⟩) :
  wpAny (model prog w) A (Builtin.«object.__setattr__» ⟨[.ref x,.str name tk,v],[]⟩) Q E ⟨h,g,d,t,os⟩:=by
 have c1:=K.at_;have hp:refuseLoop (.ref x) "__setattr__" bm=pure ():=K.tail.passes (K.sf.passes (.ref x));have hn:=K.no name hS;unfold Builtin.«object.__setattr__»
 repeat (first|rw[refuse_eq]|(rw[refuseLoop_ref,hp])|(with_reducible refine BV x1 ?_;rw[x2])|with_reducible refine wpAny_mroOf_exc c1 ?_|with_reducible refine fY c1 K.ns hn (AR _ hS) K.tail K.sf.mro hB ?_|wp_step)
 rw[x3,if_neg (by simp[typeHasDict])];split
 .rename_i z
  cases z
 split
 .rename_i c z
  rw[x4]at z;cases z
 .generalize Lu:({ cls:=.type "dict",data:=.dict #[] }:Obj)=od
  have e1:(h.push od).get? x=some o:=AH _ x1;have nx:x≠h.objs.size:=A4 (AN x1);refine AF (wpAny_alloc' (AF (wpAny_update' e1 (AI ?_))));generalize hU:(λo:Obj=>({ cls:=o.cls,dict:=some h.objs.size,data:=o.data,slots:=o.slots }:Obj))=U;have nf:(U o).isFreed=false:=by
   rw[<- hU];have z:=(Heap.get?_some_iff.mp x1).2;obtain⟨_,_,dt,_⟩:=o;cases dt<;>first|rfl|exact z
  have gd:((h.push od).update x U).get? h.objs.size=some od:=(DL _ _ _ _ nx.symm).trans (Heap.get?_push_at rfl (by rw[<- Lu];rfl));have nd:((h.push od).update x U).Ns h.objs.size (λ_=>none):=⟨_,#[],_,gd,by rw[<- Lu],λe he=>absurd he (by simp),λ_=>rfl⟩
  show wpAny _ _ (storeInDict h.objs.size (.str name tk) name v) _ _ _;unfold storeInDict newKeyGuard;refine AF (AI (AF (wpAny_nsSet1 (Heap.Ns1.of_empty nd) λh' n' hs=>?_)));obtain⟨oD,esD,epD,Xe,XE,XG⟩:=n'.count (Within.cons name v Within.nil);refine AF (wpAny_lookBehind Xe (by rw[XE];exact pastItsLine_dict (Be XG (by rw[Bd,Es,Bw];omega))) ?_)
  wp_walk
  refine hq h' _ ?_ n' λb u n q=>(hs.2 b (A4 (AN q))).trans ((DL _ _ _ _ n).trans (AH _ q));have e2:=(hs.2 x nx).trans (By U e1 nf);rw[e2,<- hU]
theorem vm {Q:Unit->zz8->Prop} (K:dh S h C f nm q N bs bm FN sn sub ab col dd k0 k1 k2 k3 k5 mN B newId FK sa ow) (LZ:Str.ofString "__setattr__"∈S) (hS:name∈S) (hB:typeLookup (.type B) name=pure none)
  (x1:h.get? x=some o) (x2:o.cls=.ref C) (x3:o.dict=none) (x4:o.data=.fields vs)
  (hq:∀h' HU,h'.get? x=some { o with dict:=some h.objs.size }->h'.Ns1 h.objs.size (λy=>if y=name then some v else none)->(∀b u,b≠x->h.get? b=some u->h'.get? b=some u)->Q () ⟨h',g,d,HU,os⟩) :
  wpAny (model prog w) A (setAttr (.ref x) name v) Q E ⟨h,g,d,t,os⟩:=by
 have c1:=K.at_;have b3:=K.sf.slot.bind (.ref x);have hn:=K.no _ LZ;unfold setAttr callSpecial? specialOf
 repeat (any_goals (first|assumption|(with_reducible refine BV x1 ?_;rw[x2])|with_reducible refine fY c1 K.ns hn (AR _ LZ) K.tail K.sf.mro K.sf.slot.lookup ?_|wp_step))
 refine DF K.sf.slot.plain K.sf.entry (sZ K x1 x2 (tj K hS hB x1 x2 x3 x4 λh' HU a b c=>?_))
 repeat (any_goals (first|assumption|wp_step))
 exact hq h' HU a b c
end
open Builtin Builtin.ObjectAttr
section
variable {prog:Program}{w:World}{A:Around}{E:zz9->zz8->Prop}{h:Heap}{g:Array GenState}{d:Drawn}{t:Nat}{os:OsState}
 {S:List Str}{C f x dx:Addr}{nm q:Str}{N:Addr}{bs bm FN:List zz9}{sn:List Str}{sub:List zz9}{ab:Bool}{col:Option Bool}{dd:Option Addr}{k0 k1 k2 k3 k5:Option zz9}{mN mA:Str->Option zz9}{B newId FK sa ow:String}
 {o:Obj}{vs:Array zz9}{name:Str}{v:zz9}
theorem uy {M:Model}{nv:zz9}{Q:Unit->zz8->Prop} (K:dh S h C f nm q N bs bm FN sn sub ab col dd k0 k1 k2 k3 k5 mN B newId FK sa ow) (x1:h.get? x=some o) (x2:o.cls=.ref C) (hq:Q () ⟨h,g,d,t,os⟩) :
  wpAny M A (checkBuiltinCall "BaseException.__getattribute__" ⟨[.ref x,nv],[]⟩) Q E ⟨h,g,d,t,os⟩:=by
 have c1:=K.at_;have b1:builtinKind "BaseException.__getattribute__"=some .slot:=by decide +kernel
 have b2:splitId "BaseException.__getattribute__"=some ("BaseException","__getattribute__"):=by decide +kernel
 have cB:(Value.ref C::bm).contains (.type "BaseException")=true:=by rw[C1,K.tail.has K.af.hasBase];rfl
 have ha:=F.args_bexc_ga (.ref x) nv;simp only[checkBuiltinCall,b1,b2];refine AF ?_;unfold isInstance
 repeat (first|(with_reducible refine BV x1 ?_;rw[x2])|(with_reducible refine CN c1 ?_;rw[cB])|wp_step)
 exact hq
theorem tI {tk:Tok}{Q:Fin->zz8->Prop} (K:dh S h C f nm q N bs bm FN sn sub ab col dd k0 k1 k2 k3 k5 mN B newId FK sa ow) (hS:name∈S) (hB:typeLookup (.type B) name=pure none)
  (x1:h.get? x=some o) (x2:o.cls=.ref C) (x3:o.dict=some dx) (x4:o.data=.fields vs) (x5:h.Ns1 dx mA) (hv:mA name=some v) (hq:Q (.done (.ret v)) ⟨h,g,d,t,os⟩) :
  wpAny (model prog w) A (Builtin.«object.__getattribute__» ⟨[.ref x,.str name tk],[]⟩) Q E ⟨h,g,d,t,os⟩:=by
 have c1:=K.at_;have hn:=K.no name hS;unfold Builtin.«object.__getattribute__»
 repeat (first|(with_reducible refine BV x1 ?_;rw[x2])|with_reducible refine fY c1 K.ns hn (AR _ hS) K.tail K.sf.mro hB ?_|wp_step)
 split
 .rename_i c z
  rw[x4]at z;cases z
 unfold instanceDict
 repeat (first|(with_reducible refine BV x1 ?_;rw[x2])|with_reducible refine BV c1 ?_|wp_step)
 rw[x3]
 repeat (first|(with_reducible refine wpAny_nsGet x5.ns ?_;rw[hv])|wp_step)
 exact hq
theorem vI {expr:Bool}{Q:zz9->zz8->Prop} (K:dh S h C f nm q N bs bm FN sn sub ab col dd k0 k1 k2 k3 k5 mN B newId FK sa ow) (TU:Str.ofString "__getattribute__"∈S) (TR:Str.ofString "__getattr__"∈S) (hS:name∈S) (hB:typeLookup (.type B) name=pure none)
  (x1:h.get? x=some o) (x2:o.cls=.ref C) (x3:o.dict=some dx) (x4:o.data=.fields vs) (x5:h.Ns1 dx mA) (hv:mA name=some v) (hh:handedOut v=pure v) (hq:Q v ⟨h,g,d,t+1,os⟩) :
  wpAny (model prog w) A (getAttr (.ref x) name expr) Q E ⟨h,g,d,t,os⟩:=by
 have c1:=K.at_;have b3:=K.af.ga.bind (.ref x);have n1:=K.no _ TU;have n2:=K.no _ TR;have z2:(Value.builtin "BaseException.__getattribute__" == Value.builtin "object.__getattribute__")=false:=by decide +kernel
 have z0:(expr&&onTheHeap (Value.builtin "BaseException.__getattribute__"))=false:=by cases expr<;>rfl
 have z1:(onTheHeap (Value.ref C)&&Value.builtin "BaseException.__getattribute__" == Value.builtin "object.__getattribute__")=false:=by rw[z2];rfl
 unfold getAttr getAttrBy
 repeat (any_goals (first|assumption|(with_reducible refine BV x1 ?_;rw[x2])|with_reducible refine fY c1 K.ns n1 (AR _ TU) K.tail K.sf.mro K.af.ga.lookup ?_|with_reducible refine fY c1 K.ns n2 (AR _ TR) K.tail K.sf.mro K.af.noGetattr ?_|wp_step))
 refine DF K.af.ga.plain F.entry_bexc_ga (uy K x1 x2 (tI K hS hB x1 x2 x3 x4 x5 hv ?_))
 repeat (any_goals (first|assumption|wp_step))
end
section
variable {X:Cx}{S:List Str}{o e value:Expr}{n:Str}{pos GA:Pos}{ta tv:TE}{C f:Addr}
def yQ (C:Addr) (ta:TE) (n:Str):TE:=λσ H Q=>ta σ H λx H1=>∃a dx fs v,x=.ref a/\H1 a=some (eU a C (some dx))/\H1 dx=some (.xd fs)/\fs.lookup n=some v/\Q v H1
theorem vS (hC:dj S X.base C f) (h1:Str.ofString "__getattribute__"∈S) (h2:Str.ofString "__getattr__"∈S) (h3:n∈S) (h4:n≠Str.ofString "__setattr__"/\n≠Str.ofString "__getattribute__"/\n≠Str.ofString "__getattr__") (he:PE X e ta) (hb:attributeBase e n X.env (eval e X.env)=eval e X.env:=by rfl) :
  PE X (.Attribute e n pos) (yQ C ta n):=by
 intro pins s σ H Q I h;obtain⟨nm,q,N,bs,bm,FN,sn,sub,ab,col,dd,k0,k1,k2,k3,k5,mN,B,newId,FK,sa,ow,EI,Pt,_⟩:=hC;refine vV hb (FG (he pins s σ H _ I h) λu s1 ⟨x,H1,I1,rx,a,dx,fs,v,ex,ea,ed,l,q⟩=>?_);subst ex;obtain rfl:u=Value.ref a:=rx;obtain⟨⟨oe,vs,o1,o2,o3,o4,_⟩,_⟩:=(show aD X.prog X.w H1 s1.heap a (eU a C (some dx)) from I1.hok a _ ea)
 obtain⟨mA,nA,rA⟩:=(show aD X.prog X.w H1 s1.heap dx (.xd fs) from I1.hok dx _ ed)
 obtain⟨u',hu,ru⟩:=cy.some_of (v:=v) (o:=mA n) (by rw[<- l];exact rA n);obtain⟨hp,g,d,tk,os⟩:=s1;refine vI (EI.stays I1.bk) h1 h2 h3 (Pt n h3 h4.1 h4.2.1 h4.2.2) o1 o2 o3 o4 nA hu (PySem.W.handedOut_of (tw ru)) ⟨v,H1,?_,ru,q⟩;exact I1.tok (tk+1)
def yR (C:Addr) (ta tv:TE) (n:Str):TS:=λD σ H=>tv σ H λy H1=>ta σ H1 λx H2=>∃a,x=.ref a/\H2 a=some (dQ a C none)/\∀dx,H2 dx=none->dx≠a->D.nx σ (upd (upd H2 a (dQ a C (some dx))) dx (.xd [(n,y)]))
theorem wM (hC:dj S X.base C f) (h1:Str.ofString "__setattr__"∈S) (h3:n∈S) (h4:n≠Str.ofString "__setattr__"/\n≠Str.ofString "__getattribute__"/\n≠Str.ofString "__getattr__") (ha:PE X o ta) (hv:PE X value tv) (hs:swapsWith value (some (.Attribute o n GA)) pos.line X.env=pure false:=by rfl) :
  PS X (.Assign [.Attribute o n GA] value pos) (yR C ta tv n):=by
 intro pins s σ H D I h;obtain⟨nm,q,N,bs,bm,FN,sn,sub,ab,col,dd,k0,k1,k2,k3,k5,mN,B,newId,FK,sa,ow,EI,Pt,_⟩:=hC;refine plainObj_wpAny_Assign_Attribute (FG (hv pins s σ H _ I h) λu s1 ⟨y,H1,I1,ry,q⟩=>FG (ha pins s1 σ H1 _ I1 q) λov s2 ⟨x,H2,I2,rx,a,ex,ea,q2⟩=>?_) hs;subst ex;obtain rfl:ov=Value.ref a:=rx;obtain⟨t0,o1⟩:=ng (I2.hok a _ ea);obtain⟨hp,g,d,tk,os⟩:=s2;refine vm (EI.stays I2.bk) h1 h3 (Pt n h3 h4.1 h4.2.1 h4.2.2) o1 rfl rfl rfl λh' HU a1 a2 a3=>?_;have hn:H2 hp.objs.size=none:=I2.hok.fresh (AY _);have ne:hp.objs.size≠a:=CG (AN o1);refine⟨σ,_,?_,q2 hp.objs.size hn ne⟩;obtain⟨oD,es,ep,b1,b2⟩:=id a2;have J:=I2.write (x:=a) (e:=a) (o:=dQ a C (some hp.objs.size)) (h':=h') (t':=HU) (by rw[ea];exact True.intro) (.inl rfl) (λb u n q=>a3 b u n q) ⟨_,a1⟩ (ou (t:=t0) a1);refine Inv.track (s:=⟨h',g,d,HU,os⟩) J (by rw[ag ne];exact hn) ?_ ?_ ?_ ?_ ⟨_,a2,λz=>?_⟩
 .exact DC I2.sz
 .exact CG I2.lt
 .intro y c e z
  obtain⟨v,o,ho,_⟩:=I2.cell y c e;exact absurd (AN ho) (by rw[z];exact Bt _)
 .intro p IK z
  have:=(I2.pin p IK).1;exact absurd (AN this) (by rw[z];exact Bt _)
 .show cy (List.lookup z [(n,y)]) (if z=n then some u else none)
  by_cases c:z=n
  .rw [c,if_pos rfl]
   have:List.lookup n [(n,y)]=some y:=by simp[List.lookup]
   rw[this];exact ry
  .rw [if_neg c]
   have:List.lookup z [(n,y)]=none:=by
    unfold List.lookup;rw[show(z==n)=false from beq_eq_false_iff_ne.mpr c];rfl
   rw[this];exact True.intro
end
theorem sH {K:Frag}{h:Heap}{N:Addr}{m:Str->Option zz9}{x:Str}{v:zz9} (X:K.In h) (G:h.Ns N m) (e:nsIn K N x=some (some v)):m x=some v:=by
 obtain⟨o,es,ep,ho,hd,_,hf⟩:=G;unfold nsIn at e;split at e
 .rename_i c d es' n' sl q
  have q2:=X _ _ q;rw[ho]at q2;cases q2;cases hd;split at e
  .rename_i z hz
   rw[<- hf];unfold nsFind findBy;rw[<- Array.find?_toList,hz];simpa using e
  .split at e<;>simp at e
 .cases e
def iz (K:Frag) (S:List Str) (FN:List zz9):List zz9->Bool
 | []=>FN==[]
 | v::r=>(v::r)==FN||(match v with
  | .ref A=>(match K.lookup A with
   | some ⟨_,_,.cls cd,_⟩=>nsOkIn K cd.ns&&S.all (λx=>nsIn K cd.ns x==some none)&&iz K S FN r
   | _=>false)
  | _=>false)
theorem lU {K:Frag}{h:Heap}{S:List Str}{FN:List zz9} (X:K.In h):∀{l:List zz9},iz K S FN l=true->bW h S FN l
 | [],e=>by
  have z:FN=[]:=beq_iff_eq.mp e;rw[z];exact .base
 | v::r,e=>by
  unfold iz at e
  rcases Bool.or_eq_true_iff.mp e with q|q
  .rw [beq_iff_eq.mp q];exact .base
  .split at q
   .split at q
    .rename_i ho
     simp only[B9,BL,beq_iff_eq]at q;exact .own (X _ _ ho) (.of_isNs (isNs_of_in X q.1.1)) (λx hx=>nsMap_none_of_in X q.1.1 (q.1.2 x hx)) (lU X q.2)
    .cases q
   .cases q
def gj (K:Frag) (S:List Str) (C f:Addr) (FN:List zz9) (newId:String):Bool:=match K.lookup C with
 | some ⟨.type "type",_,.cls cd,sl⟩=>(match cd.mro,sl.toList with
  | .ref C'::bm,[_,_,_,_,some (.builtin n),_]=>C'==C&&n==newId && !cd.hasDel&&cd.hasDict&&iz K (Str.ofString "__init__"::S) FN bm&&nsOkIn K cd.ns&&nsIn K cd.ns (Str.ofString "__init__")==some (some (.ref f))&&S.all (λx=>nsIn K cd.ns x==some none)&&(match K.lookup f with|some o=>o.cls==.type "function" | none=>false)
  | _,_=>false)
 | _=>false
theorem v2 {K:Frag}{h:Heap}{S:List Str}{C f:Addr}{FN:List zz9}{newId FK B sa ow:String} (X:K.In h) (hx:gj K S C f FN newId=true) (b:ExcBaseFacts B newId FK FN) (sf:StoreFacts B FN sa ow) (af:ExcAttrBase B FN)
  (no:∀x∈S,x≠Str.ofString "__setattr__"->x≠Str.ofString "__getattribute__"->x≠Str.ofString "__getattr__"->typeLookup (.type B) x=pure none):dj S h C f:=by
 unfold gj at hx;split at hx
 .rename_i Up cd sl heq
  split at hx
  .rename_i C' bm k0 k1 k2 k3 n k5 hm hs
   simp only[B9,Bool.not_eq_true',beq_iff_eq,BL]at hx;obtain⟨⟨⟨⟨⟨⟨⟨⟨h1,h2⟩,h3⟩,Mh⟩,h4⟩,h5⟩,h6⟩,h7⟩,h8⟩:=hx;subst h1;subst h2;have ho:=X _ _ heq;have Hs:sl=#[k0,k1,k2,k3,some (.builtin n),k5]:=by
    rw[<- Array.toList_inj];exact hs
   obtain⟨nm,bs,mro,ns,qn,hdct,sn,sub,ab,col,XD⟩:=cd;simp only at hm h3 Mh h4 h5 h6 h7;subst hm;subst h3;subst Mh;subst Hs;have G:h.Ns ns (h.nsMap ns):=Heap.Ns.of_isNs (isNs_of_in X h5);refine⟨nm,qn,ns,bs,bm,FN,sn,sub,ab,col,Up,k0,k1,k2,k3,k5,h.nsMap ns,B,n,FK,sa,ow,⟨ho,G,sH X G h6,λx hx=>nsMap_none_of_in X h5 (h7 x hx),lU X h4,b,sf,af⟩,no,?_⟩;split at h8
   .rename_i o hf
    exact⟨o,X _ _ hf,beq_iff_eq.mp h8⟩
   .cases h8
  .cases hx
 .cases hx
def eD:List Str:=[Str.ofString "lot",Str.ofString "__setattr__",Str.ofString "__getattribute__",Str.ofString "__getattr__"]
theorem yc:∀x∈eD,x≠Str.ofString "__setattr__"->x≠Str.ofString "__getattribute__"->x≠Str.ofString "__getattr__"->typeLookup (.type "ValueError") x=pure none:=by
 intro x hx a b c;have z:x=Str.ofString "lot":=by
  unfold eD at hx;simp only[AO,Cm,or_false]at hx
  rcases hx with z|z|z|z
  .exact z
  .exact absurd z a
  .exact absurd z b
  .exact absurd z c
 rw[z,DN,C5];kernel_rfl
abbrev OV:List zz9:=[.type "ValueError",.type "Exception",.type "BaseException",.type "object"]
theorem vo {K:Frag}{h:Heap}{C f:Addr} (X:K.In h) (hx:gj K eD C f OV "ValueError.__new__"=true):dj eD h C f :=
 v2 X hx F.excBase_ValueError F.store_ValueError F.attrBase_ValueError yc
end L2
namespace L2
open PySem PySem.Spec PyProof.Rows
inductive fe (A:Around) (s:zz8):List (zz9×zz9)->List (Bool×Bool)->Prop
 | nil:fe A s [] []
 | cons {v u:zz9}{e b:Bool}{r:List (zz9×zz9)}{cs:List (Bool×Bool)}:SeqAt.EqAt A s v u e ->
   (e=false->∀(prog:Program) (w:World) (E:zz9->zz8->Prop) (Q:zz9->zz8->Prop),Q (.bool b) s->wpAny (model prog w) A (richCompare .Lt v u) Q E s)->fe A s r cs->fe A s ((v,u)::r) ((e,b)::cs)
def cN (d:Bool):List (Bool×Bool)->Bool
 | []=>d
 | (true,_)::r=>cN d r
 | (false,b)::_=>b
section
open PySem.SeqAt
open PySem.AutoSeq1 (wpAny_loadPart')
open PySem.MeetsSeq PySem.MeetsSeq2 PySem.MeetsSeq3
theorem qN (l b:Addr) (xs ys:Array zz9) (n n2:Nat) (dd RB:Option Addr) (sl Pc:Array (Option zz9)) :
  Meets (Builtin.«tuple.__lt__» ⟨[.ref l,.ref b],[]⟩)
   (λA R s=>s.heap.get? l=some { cls:=.type "tuple",dict:=dd,data:=.seq xs n,slots:=sl }/\s.heap.get? b=some { cls:=.type "tuple",dict:=RB,data:=.seq ys n2,slots:=Pc } /\
    ∃cs,fe A.in1 s (xs.toList.zip ys.toList) cs/\R (.ok (.ret (.bool (cN (decide (xs.size<ys.size)) cs)))) s):=
 .of_wp λprog w A R s h=>by
  obtain⟨hp,g,d,tk,os⟩:=s;obtain⟨hl,hb,cs,NJ,h⟩:=h;have f2:=AutoSeq1.sub_tuple_tuple
  wp_walk using wpAny_loadPart' hl,wpAny_loadPart' hb,Ee _ (λrest b s'=>b.1=none/\s'=⟨hp,g,d,tk,os⟩/\∃OK,fe A.in1 ⟨hp,g,d,tk,os⟩ rest OK/\R (.ok (.ret (.bool (cN (decide (xs.size<ys.size)) OK)))) ⟨hp,g,d,tk,os⟩) _
  case turn =>
   rintro⟨y,x⟩ rest b s' ⟨JL,rfl,OK,hc,hR⟩;cases hc with
   | @cons _ _ e bb _ Yg he FM hr =>
    refine AF (he prog w _ _ ?_);cases e with
    | true =>
     wp_walk
     exact⟨rfl,rfl,_,hr,hR⟩
    | false =>
     have FW:=FM rfl prog w
     wp_walk using FW
     exact⟨_,rfl,by simpa[cN]using hR⟩
  case fin =>
   rintro⟨b1,b2⟩ s' ⟨JL,rfl,OK,hc,hR⟩;simp only at JL;subst JL;cases hc
   wp_walk
   exact⟨_,rfl,by simpa[Builtin.Tuple.tupleCompareSizes,cN]using hR⟩
  case h =>
   exact⟨rfl,rfl,cs,NJ,h⟩
end
section
variable {prog:Program}{w:World}{A:Around}{E:zz9->zz8->Prop}{s:zz8}
theorem tQ {l b:Addr}{xs ys:Array zz9}{cs:List (Bool×Bool)}{Q:zz9->zz8->Prop} (hl:IsTup s.heap l xs) (hb:IsTup s.heap b ys) (hu:A.units<cLine) (hc:fe A.in1 s (xs.toList.zip ys.toList) cs)
  (h:Q (.bool (cN (decide (xs.size<ys.size)) cs)) s):wpAny (model prog w) A (richCompare .Lt (.ref l) (.ref b)) Q E s:=by
 obtain⟨⟨cls,dd,data,sl⟩,ho,LD,n,hd⟩:=id hl;obtain⟨⟨Yh,RB,data2,Pc⟩,Ju,Q1,n2,hd2⟩:=id hb;simp only at LD hd Q1 hd2;subst LD hd Q1 hd2;exact richCompare_meets_room (op:=.Lt) ⟨_,ho,rfl⟩ ⟨_,Ju,rfl⟩ PySem.F.slot_tuple_lt PySem.F.entry_tuple_lt (PySem.F.args_tuple_lt_2 _ _) (qN l b xs ys n n2 dd RB sl Pc)
  ⟨ho,Ju,cs,hc,show Value.bool (cN (decide (xs.size<ys.size)) cs)≠Value.notImplemented/\Q (.bool (cN (decide (xs.size<ys.size)) cs)) s from⟨(λx=>nomatch x),h⟩⟩ hu
end
theorem qe {l I:Nat} (h:l<I) (q:I+1=l):False:=by omega
section
variable {prog:Program}{w:World}{A:Around}{R:Result->zz8->Prop}{I:Addr}{fp wr:List Addr}{n:Nat}{P:Nat->zz9->Prop}{St:Nat->Heap->Prop}
def pG (prog:Program) (w:World) (A:Around) (s0:zz8) (P:Nat->zz9->Prop) (St:Nat->Heap->Prop) (bt:Nat->Nat->Bool):Prop :=
 ∀i j k x y (G:Heap) (tk:Nat) (Q:zz9->zz8->Prop) (E:zz9->zz8->Prop),St k G->P i x->P j y->Q (.bool (bt i j)) { s0 with heap:=G,toks:=tk }->wpAny (model prog w) A (richCompare .Lt x y) Q E { s0 with heap:=G,toks:=tk }
theorem tP (W:Walks prog w A.in1 I fp wr n P St) (bt:Nat->Nat->Bool) {s0:zz8} (cmp:pG prog w A.in1 s0 P St bt) (S:Addr) (nS:S∉fp) :
  ∀(k j:Nat) (G0:Heap) (k0:Nat) (y:zz9) (c:Nat),n-(j+1)=k->j+1<=n->St (j+1) G0->P (argBest bt j) y ->
  G0.get? S=some { cls:=.type "list",dict:=none,data:=.seq #[y,y] c,slots:=#[] } ->
  (∀v G tk,P (argBest bt (n-1)) v->(∀b o,b∉wr->b≠S->G0.get? b=some o->G.get? b=some o)->R (.ok (.ret v)) { s0 with heap:=G,toks:=tk }) ->
  codeAny (model prog w) A (.builtin "min.loop" ⟨[.ref I,.none,.ref S],[]⟩) R { s0 with heap:=G0,toks:=k0 }:=by
 have nw:S∉wr:=λq=>nS (W.sub _ q);have nm:(toString "min"++toString ".loop":String)="min.loop":=by decide
 intro k
 induction k with
 | zero =>
  intro j G0 k0 y c hk hj st py hS hR;have ej:j+1=n:=by omega
  refine BF Dh ?_;rw[BB BR _];refine(show wpAny _ A.in1 (seqItems? (.ref S) >>= _) _ _ { s0 with heap:=G0,toks:=k0 } from AF (BP hS rfl ?_));refine(show wpAny _ A.in1 (tryCatch (pyNext (.ref I)) _ >>= _) _ _ { s0 with heap:=G0,toks:=k0 } from AF (Cg (W.done { s0 with heap:=G0,toks:=k0 } _ _ (ej ▸ st) λG tk kp=>?_)));have GV:=kp S _ nw hS;refine(show wpAny _ A.in1 (updateSeq S (λ_=>#[]) >>= _) _ _ _ from AF (CJ GV rfl (AF (CV (AI ?_)))));exact hR y _ tk (by rw[<- ej];exact py) λb o h1 h2 e=>(Ba _ _ (BX h2)).trans (kp b o h1 e)
 | succ k ih =>
  intro j G0 k0 y c hk hj st py hS hR;have lt:j+1<n:=by omega
  refine BF Dh ?_;rw[BB BR _];refine(show wpAny _ A.in1 (seqItems? (.ref S) >>= _) _ _ { s0 with heap:=G0,toks:=k0 } from AF (BP hS rfl ?_));refine(show wpAny _ A.in1 (tryCatch (pyNext (.ref I)) _ >>= _) _ _ { s0 with heap:=G0,toks:=k0 } from AF (Cg (W.item (j+1) { s0 with heap:=G0,toks:=k0 } _ _ lt st λx G tk px GL kp=>?_)));have GV:=kp S _ nw hS;refine(show wpAny _ A.in1 (tryCatch (holding [x,x] (richCompare .Lt x y >>= _)) _ >>= _) _ _ _ from AF (Cg (Bo (AF (cmp (j+1) (argBest bt j) _ x y G tk _ _ GL px py ?_)))));refine AF (Bo (BU (AF (CV (AI ?_)))));cases hb:bt (j+1) (argBest bt j)with
  | true =>
   simp only[if_true];refine AF (CJ GV rfl (AF (CV ?_)));rw[nm];refine AI ⟨B4 BR _,ih (j+1) _ _ x _ (by omega) lt (W.frame _ _ _ GL λb hf o e=>(Ba _ _ (λq:S=b=>nS (by rw[q];exact hf))).trans e) (by simp only[argBest,hb,if_true];exact px) (By _ GV rfl) λv G2 HJ pv Ij=>?_⟩;exact hR v G2 HJ pv λb o h1 h2 e=>Ij b o h1 h2 ((Ba _ _ (BX h2)).trans (kp b o h1 e))
  | false =>
   simp only[Bm,if_false];refine AF (CV ?_);rw[nm];exact AI ⟨B4 BR _,ih (j+1) _ _ y c (by omega) lt GL (by simp only[argBest,hb,Bm,if_false];exact py) GV λv G2 HJ pv Ij=>hR v G2 HJ pv λb o h1 h2 e=>Ij b o h1 h2 (kp b o h1 e)⟩
theorem uk (W:Walks prog w A.in1 I fp wr n P St) (bt:Nat->Nat->Bool) {s0:zz8} (cmp:pG prog w A.in1 s0 P St bt) (S:Addr) (nS:S∉fp) (hn:0<n) {G0:Heap}{k0:Nat}{c:Nat} (st:St 0 G0)
  (hS:G0.get? S=some { cls:=.type "list",dict:=none,data:=.seq #[] c,slots:=#[] })
  (hR:∀v G tk,P (argBest bt (n-1)) v->(∀b o,b∉wr->b≠S->G0.get? b=some o->G.get? b=some o)->R (.ok (.ret v)) { s0 with heap:=G,toks:=tk }) :
  codeAny (model prog w) A (.builtin "min.loop" ⟨[.ref I,.none,.ref S],[]⟩) R { s0 with heap:=G0,toks:=k0 }:=by
 have nw:S∉wr:=λq=>nS (W.sub _ q);have nm:(toString "min"++toString ".loop":String)="min.loop":=by decide
 refine BF Dh ?_;rw[BB BR _];refine(show wpAny _ A.in1 (seqItems? (.ref S) >>= _) _ _ { s0 with heap:=G0,toks:=k0 } from AF (BP hS rfl ?_));refine(show wpAny _ A.in1 (tryCatch (pyNext (.ref I)) _ >>= _) _ _ { s0 with heap:=G0,toks:=k0 } from AF (Cg (W.item 0 { s0 with heap:=G0,toks:=k0 } _ _ hn st λx G tk px GL kp=>?_)));have GV:=kp S _ nw hS;refine(show wpAny _ A.in1 (updateSeq S (λ_=>#[x,x]) >>= _) _ _ _ from AF (CJ GV rfl ?_));rw[nm];refine AI ⟨B4 BR _,tP W bt cmp S nS _ 0 _ _ x _ rfl hn (W.frame _ _ _ GL λb hf o e=>(Ba _ _ (λq:S=b=>nS (by rw[q];exact hf))).trans e) px (By _ GV rfl) λv G2 HJ pv Ij=>?_⟩;exact hR v G2 HJ pv λb o h1 h2 e=>Ij b o h1 h2 ((Ba _ _ (BX h2)).trans (kp b o h1 e))
end
section
variable {prog:Program}{w:World}{A:Around}{E:zz9->zz8->Prop}{s:zz8}
theorem rM {l:Addr}{FC:Array zz9}{Q:zz9->zz8->Prop} (bt:Nat->Nat->Bool) (hh:A.handled=none) (hl:s.heap.IsList l FC) (hn:0<FC.size)
  (cmp:∀i j x y (G:Heap) (tk:Nat) (Q:zz9->zz8->Prop) (E:zz9->zz8->Prop),(∀b o,s.heap.get? b=some o->G.get? b=some o)->FC[i]?=some x->FC[j]?=some y->Q (.bool (bt i j)) { s with heap:=G,toks:=tk }->wpAny (model prog w) A.in1 (richCompare .Lt x y) Q E { s with heap:=G,toks:=tk })
  (h:∀v G tk,FC[argBest bt (FC.size-1)]?=some v->(∀b o,s.heap.get? b=some o->G.get? b=some o)->Q v { s with heap:=G,toks:=tk }):wpAny (model prog w) A (call (.builtin "min") [.ref l]) Q E s:=by
 have nm:(toString "min"++toString ".loop":String)="min.loop":=by decide
 have Jw:l<s.heap.objs.size:=by obtain⟨_,e,_⟩:=hl;exact AN e
 refine call_function_tree F.kind_min F.plain_min F.entry_min (F.args_min1 _) ?_;refine(show wpAny _ A.in1 (Builtin.Builtins.bindParams "min" ["key","default"] 0 ⟨[],[]⟩ >>= _) _ _ s from AF (Cz (show Builtin.Builtins.bindParams "min" ["key","default"] 0 ⟨[],[]⟩=pure [none,none] from rfl) (AF (AI (AF (Cn hl (AF (BG ?_))))))));generalize hG:s.heap.push { cls:=.type "list_iterator",data:=.fields #[.ref l,.int 0 0] }=G;generalize hI:s.heap.objs.size=I at *;have nl:l≠I:=A4 Jw;have gs:G.objs.size=I+1:=by rw[<- hG,Bz,hI]
 have W0:=DU (prog:=prog) (w:=w) (A:=A.in1) hh I l nl FC
 have W:Walks prog w A.in1 I ([I,l]++List.range I) [I] FC.size (λi v=>FC[i]?=some v) (λi h=>(h.IsListIter I l i/\h.IsList l FC)/\∀b o,s.heap.get? b=some o->h.get? b=some o):={
  sub:=λb hb=>A7 _ (W0.sub b hb)
  frame:=λi h h' st k=>⟨W0.frame i h h' st.1 λb hb o e=>k b (A7 _ hb) o e,λb o e=>k b (AV _ (BO.mpr (by have:=AN e;rw[hI]at this;exact this))) o (st.2 b o e)⟩
  item:=λi t Q E hi st hQ=>W0.item i t Q E hi st.1 λv G' tk pv F8 k=>hQ v G' tk pv ⟨F8,λb o e=>k b o (λz=>by
   have z':b=I:=by simpa using z
   have:=AN e;rw[hI,z']at this
   exact absurd this (Bt _)) (st.2 b o e)⟩ k
  done:=λt Q E st hQ=>W0.done t Q E st.1 hQ
  self:=λi t Q E st hQ=>W0.self i t Q E st.1 hQ }
 have nS:G.objs.size∉[I,l]++List.range I:=λz=>by
  rw[gs]at z
  rcases A1.mp z with q|q
  .simp only[AO,Cm,or_false]at q
   rcases q with q|q
   .exact absurd q (Nat.succ_ne_self I)
   .exact (qe Jw q).elim
  .exact absurd (BO.mp q) (Nat.not_lt_of_lt (CC I))
 have kp:∀b o,s.heap.get? b=some o->G.get? b=some o:=λb o e=>by rw[<- hG];exact AH _ e
 have Pa:G.IsListIter I l 0/\G.IsList l FC:=⟨⟨_,by rw[<- hG,<- hI];exact AU _ rfl,rfl,rfl⟩,by rw[<- hG];exact hl.push _⟩
 rw[nm];refine AI ⟨B4 BR _,uk (s0:=s) W bt (λi j k x y G' tk Q E st px py hq=>cmp i j x y G' tk Q E st.2 px py hq) G.objs.size nS hn (W.frame 0 G _ ⟨Pa,kp⟩ λb _ o e=>AH _ e) (AU _ rfl) λv G' tk pv k=>?_⟩
 exact h v G' tk pv λb o e=>k b o (λz=>by
  have z':b=I:=by simpa using z
  have:=AN e;rw[hI,z']at this
  exact absurd this (Bt _)) (λz=>by
  have:=AN (kp b o e);rw[z]at this
  exact absurd this (Bt _)) (AH _ (kp b o e))
end
section
variable {prog:Program}{w:World}{A:Around}{R:Result->zz8->Prop}{I:Addr}{fp wr:List Addr}{n:Nat}{P:Nat->zz9->Prop}{St:Nat->Heap->Prop}{Ik:String}{d:zz9}
def pH (prog:Program) (w:World) (A:Around) (s0:zz8) (P:Nat->zz9->Prop) (St:Nat->Heap->Prop) (Ik:String) (kf:Nat->Int):Prop :=
 ∀i k x (G:Heap) (tk:Nat) (Q:zz9->zz8->Prop) (E:zz9->zz8->Prop),St k G->P i x->(∀t HU,Q (.int (kf i) t) { s0 with heap:=G,toks:=HU })->wpAny (model prog w) A (call (.builtin Ik) [x]) Q E { s0 with heap:=G,toks:=tk }
def GI (kf:Nat->Int) (i j:Nat):Bool:=decide (kf i<kf j)
abbrev qg (d:zz9):List (Str×zz9):=[(Str.ofString "default",d)]
theorem sE (W:Walks prog w A.in1 I fp wr n P St) (kf:Nat->Int) {s0:zz8} (key:pH prog w A.in1 s0 P St Ik kf) (S:Addr) (nS:S∉fp) :
  ∀(k j:Nat) (G0:Heap) (k0:Nat) (y:zz9) (t:Tok) (c:Nat),n-(j+1)=k->j+1<=n->St (j+1) G0->P (argBest (GI kf) j) y ->
  G0.get? S=some { cls:=.type "list",dict:=none,data:=.seq #[y,.int (kf (argBest (GI kf) j)) t] c,slots:=#[] } ->
  (∀v G tk,P (argBest (GI kf) (n-1)) v->(∀b o,b∉wr->b≠S->G0.get? b=some o->G.get? b=some o)->R (.ok (.ret v)) { s0 with heap:=G,toks:=tk }) ->
  codeAny (model prog w) A (.builtin "min.loop" ⟨[.ref I,.builtin Ik,.ref S],qg d⟩) R { s0 with heap:=G0,toks:=k0 }:=by
 have nw:S∉wr:=λq=>nS (W.sub _ q);have nm:(toString "min"++toString ".loop":String)="min.loop":=by decide
 intro k
 induction k with
 | zero =>
  intro j G0 k0 y t c hk hj st py hS hR;have ej:j+1=n:=by omega
  refine BF Dh ?_;rw[BB BR _];refine(show wpAny _ A.in1 (seqItems? (.ref S) >>= _) _ _ { s0 with heap:=G0,toks:=k0 } from AF (BP hS rfl ?_));refine(show wpAny _ A.in1 (tryCatch (pyNext (.ref I)) _ >>= _) _ _ { s0 with heap:=G0,toks:=k0 } from AF (Cg (W.done { s0 with heap:=G0,toks:=k0 } _ _ (ej ▸ st) λG tk kp=>?_)));have GV:=kp S _ nw hS;refine(show wpAny _ A.in1 (updateSeq S (λ_=>#[]) >>= _) _ _ _ from AF (CJ GV rfl (AF (CV (AI ?_)))));exact hR y _ tk (by rw[<- ej];exact py) λb o h1 h2 e=>(Ba _ _ (BX h2)).trans (kp b o h1 e)
 | succ k ih =>
  intro j G0 k0 y t c hk hj st py hS hR;have lt:j+1<n:=by omega
  refine BF Dh ?_;rw[BB BR _];refine(show wpAny _ A.in1 (seqItems? (.ref S) >>= _) _ _ { s0 with heap:=G0,toks:=k0 } from AF (BP hS rfl ?_));refine(show wpAny _ A.in1 (tryCatch (pyNext (.ref I)) _ >>= _) _ _ { s0 with heap:=G0,toks:=k0 } from AF (Cg (W.item (j+1) { s0 with heap:=G0,toks:=k0 } _ _ lt st λx G tk px GL kp=>?_)));have GV:=kp S _ nw hS;refine(show wpAny _ A.in1 (tryCatch (holding [x] (call (.builtin Ik) [x])) _ >>= _) _ _ _ from AF (Cg (Bo (key (j+1) _ x G tk _ _ GL px λu HJ=>?_))));refine(show wpAny _ A.in1 (tryCatch (holding [x,.int (kf (j+1)) u] (richCompare .Lt (.int (kf (j+1)) u) (.int (kf (argBest (GI kf) j)) t) >>= _)) _ >>= _) _ _ _ from AF (Cg (Bo (AF (HT.Ar _ _ _ _ _ _ _ _ _ _ ?_)))));refine AF (Bo (BU (AF (CV (AI ?_)))))
  by_cases hb:kf (j+1)<kf (argBest (GI kf) j)
  .have JL:GI kf (j+1) (argBest (GI kf) j)=true:=decide_eq_true hb
   have ea:argBest (GI kf) (j+1)=j+1:=by simp only[argBest,JL,if_true]
   simp only[hb,decide_true,if_true];refine AF (CJ GV rfl (AF (CV ?_)));rw[nm];refine AI ⟨B4 BR _,ih (j+1) _ _ x u _ (by omega) lt (W.frame _ _ _ GL λb hf o e=>(Ba _ _ (λq:S=b=>nS (by rw[q];exact hf))).trans e) (by rw[ea];exact px) (by rw[ea];exact By _ GV rfl) λv G2 HJ pv Ij=>?_⟩;exact hR v G2 HJ pv λb o h1 h2 e=>Ij b o h1 h2 ((Ba _ _ (BX h2)).trans (kp b o h1 e))
  .have JL:GI kf (j+1) (argBest (GI kf) j)=false:=decide_eq_false hb
   have ea:argBest (GI kf) (j+1)=argBest (GI kf) j:=by simp only[argBest,JL,Bm,if_false]
   simp only[hb,decide_false,Bm,if_false];refine AF (CV ?_);rw[nm];exact AI ⟨B4 BR _,ih (j+1) _ _ y t c (by omega) lt GL (by rw[ea];exact py) (by rw[ea];exact GV) λv G2 HJ pv Ij=>hR v G2 HJ pv λb o h1 h2 e=>Ij b o h1 h2 (kp b o h1 e)⟩
theorem rR (W:Walks prog w A.in1 I fp wr n P St) (kf:Nat->Int) {s0:zz8} (key:pH prog w A.in1 s0 P St Ik kf) (S:Addr) (nS:S∉fp) {G0:Heap}{k0:Nat}{c:Nat} (st:St 0 G0)
  (hS:G0.get? S=some { cls:=.type "list",dict:=none,data:=.seq #[] c,slots:=#[] })
  (hR:0<n->∀v G tk,P (argBest (GI kf) (n-1)) v->(∀b o,b∉wr->b≠S->G0.get? b=some o->G.get? b=some o)->R (.ok (.ret v)) { s0 with heap:=G,toks:=tk })
  (hD:n=0->∀G tk,(∀b o,b∉wr->b≠S->G0.get? b=some o->G.get? b=some o)->R (.ok (.ret d)) { s0 with heap:=G,toks:=tk }) :
  codeAny (model prog w) A (.builtin "min.loop" ⟨[.ref I,.builtin Ik,.ref S],qg d⟩) R { s0 with heap:=G0,toks:=k0 }:=by
 have nw:S∉wr:=λq=>nS (W.sub _ q);have nm:(toString "min"++toString ".loop":String)="min.loop":=by decide
 refine BF Dh ?_;rw[BB BR _];refine(show wpAny _ A.in1 (seqItems? (.ref S) >>= _) _ _ { s0 with heap:=G0,toks:=k0 } from AF (BP hS rfl ?_))
 rcases Nat.eq_zero_or_pos n with e0|hn
 .refine (show wpAny _ A.in1 (tryCatch (pyNext (.ref I)) _ >>= _) _ _ { s0 with heap:=G0,toks:=k0 } from AF (Cg (W.done { s0 with heap:=G0,toks:=k0 } _ _ (e0 ▸ st) λG tk kp=>?_)))
  refine(show wpAny _ A.in1 (rule _ >>= _) _ _ _ from AF (Dc (AI ?_)));exact hD e0 G tk λb o h1 _ e=>kp b o h1 e
 refine(show wpAny _ A.in1 (tryCatch (pyNext (.ref I)) _ >>= _) _ _ { s0 with heap:=G0,toks:=k0 } from AF (Cg (W.item 0 { s0 with heap:=G0,toks:=k0 } _ _ hn st λx G tk px GL kp=>?_)));have GV:=kp S _ nw hS;refine(show wpAny _ A.in1 (tryCatch (holding [x] (call (.builtin Ik) [x])) _ >>= _) _ _ _ from AF (Cg (Bo (key 0 _ x G tk _ _ GL px λu HJ=>?_))));refine(show wpAny _ A.in1 (updateSeq S (λ_=>#[x,.int (kf 0) u]) >>= _) _ _ _ from AF (CJ GV rfl ?_));rw[nm];refine AI ⟨B4 BR _,sE W kf key S nS _ 0 _ _ x u _ rfl hn (W.frame _ _ _ GL λb hf o e=>(Ba _ _ (λq:S=b=>nS (by rw[q];exact hf))).trans e) px (By _ GV rfl) λv G2 HJ pv Ij=>?_⟩;exact hR hn v G2 HJ pv λb o h1 h2 e=>Ij b o h1 h2 ((Ba _ _ (BX h2)).trans (kp b o h1 e))
end
theorem uu (a k v:zz9):argsOk "min" ⟨[a],[(Str.ofString "key",k),(Str.ofString "default",v)]⟩:=by unfold argsOk;kernel_rfl
section
variable {prog:Program}{w:World}{A:Around}{E:zz9->zz8->Prop}{s:zz8}
theorem qW {l:Addr}{FC:Array zz9}{Q:zz9->zz8->Prop}{Ik:String}{d:zz9} (kf:Nat->Int) (hh:A.handled=none) (hl:s.heap.IsList l FC)
  (key:∀i x (G:Heap) (tk:Nat) (Q:zz9->zz8->Prop) (E:zz9->zz8->Prop),(∀b o,s.heap.get? b=some o->G.get? b=some o)->FC[i]?=some x->(∀t HU,Q (.int (kf i) t) { s with heap:=G,toks:=HU })->wpAny (model prog w) A.in1 (call (.builtin Ik) [x]) Q E { s with heap:=G,toks:=tk })
  (h:0<FC.size->∀v G tk,FC[argBest (GI kf) (FC.size-1)]?=some v->(∀b o,s.heap.get? b=some o->G.get? b=some o)->Q v { s with heap:=G,toks:=tk })
  (hd:FC.size=0->∀G tk,(∀b o,s.heap.get? b=some o->G.get? b=some o)->Q d { s with heap:=G,toks:=tk }):wpAny (model prog w) A (call (.builtin "min") [.ref l] [(Str.ofString "key",.builtin Ik),(Str.ofString "default",d)]) Q E s:=by
 have nm:(toString "min"++toString ".loop":String)="min.loop":=by decide
 have Jw:l<s.heap.objs.size:=by obtain⟨_,e,_⟩:=hl;exact AN e
 refine kmb_tree F.kind_min F.plain_min F.entry_min (uu _ _ _) ?_;refine(show wpAny _ A.in1 (Builtin.Builtins.bindParams "min" ["key","default"] 0 ⟨[],[(Str.ofString "key",.builtin Ik),(Str.ofString "default",d)]⟩ >>= _) _ _ s from AF (Cz (show Builtin.Builtins.bindParams "min" ["key","default"] 0 ⟨[],[(Str.ofString "key",.builtin Ik),(Str.ofString "default",d)]⟩=pure [some (.builtin Ik),some d] from rfl) (AF (AI (AF (Cn hl (AF (BG ?_))))))));generalize hG:s.heap.push { cls:=.type "list_iterator",data:=.fields #[.ref l,.int 0 0] }=G;generalize hI:s.heap.objs.size=I at *;have nl:l≠I:=A4 Jw;have gs:G.objs.size=I+1:=by rw[<- hG,Bz,hI]
 have W0:=DU (prog:=prog) (w:=w) (A:=A.in1) hh I l nl FC
 have W:Walks prog w A.in1 I ([I,l]++List.range I) [I] FC.size (λi v=>FC[i]?=some v) (λi h=>(h.IsListIter I l i/\h.IsList l FC)/\∀b o,s.heap.get? b=some o->h.get? b=some o):={
  sub:=λb hb=>A7 _ (W0.sub b hb)
  frame:=λi h h' st k=>⟨W0.frame i h h' st.1 λb hb o e=>k b (A7 _ hb) o e,λb o e=>k b (AV _ (BO.mpr (by have:=AN e;rw[hI]at this;exact this))) o (st.2 b o e)⟩
  item:=λi t Q E hi st hQ=>W0.item i t Q E hi st.1 λv G' tk pv F8 k=>hQ v G' tk pv ⟨F8,λb o e=>k b o (λz=>by
   have z':b=I:=by simpa using z
   have:=AN e;rw[hI,z']at this
   exact absurd this (Bt _)) (st.2 b o e)⟩ k
  done:=λt Q E st hQ=>W0.done t Q E st.1 hQ
  self:=λi t Q E st hQ=>W0.self i t Q E st.1 hQ }
 have nS:G.objs.size∉[I,l]++List.range I:=λz=>by
  rw[gs]at z
  rcases A1.mp z with q|q
  .simp only[AO,Cm,or_false]at q
   rcases q with q|q
   .exact absurd q (Nat.succ_ne_self I)
   .exact (qe Jw q).elim
  .exact absurd (BO.mp q) (Nat.not_lt_of_lt (CC I))
 have kp:∀b o,s.heap.get? b=some o->G.get? b=some o:=λb o e=>by rw[<- hG];exact AH _ e
 have Pa:G.IsListIter I l 0/\G.IsList l FC:=⟨⟨_,by rw[<- hG,<- hI];exact AU _ rfl,rfl,rfl⟩,by rw[<- hG];exact hl.push _⟩
 have back:∀{G':Heap}{H:Heap},(∀b o,G.get? b=some o->H.get? b=some o)->(∀b o,b∉[I]->b≠G.objs.size->H.get? b=some o->G'.get? b=some o)->∀b o,s.heap.get? b=some o->G'.get? b=some o:=λ{G' H} k1 k b o e=>k b o (λz=>by
  have z':b=I:=by simpa using z
  have:=AN e;rw[hI,z']at this
  exact absurd this (Bt _)) (λz=>by
  have:=AN (kp b o e);rw[z]at this
  exact absurd this (Bt _)) (k1 b o (kp b o e))
 rw[nm]
 exact AI ⟨B4 BR _,rR (s0:=s) W kf (λi k x G' tk Q E st px hq=>key i x G' tk Q E st.2 px hq) G.objs.size nS (W.frame 0 G _ ⟨Pa,kp⟩ λb _ o e=>AH _ e) (AU _ rfl)
  (λhn v G' tk pv k=>h hn v G' tk pv (back (λb o e=>AH _ e) k)) λhn G' tk k=>hd hn G' tk (back (λb o e=>AH _ e) k)⟩
end
abbrev iA (ts:List (Addr×List V)):List V:=ts.map λx=>V.ref x.1
def cO (ts:List (Addr×List V)) (i:Nat):Int:=((ts[i]?).map λx=>(x.2.length:Int)).getD 0
def shortest (ts:List (Addr×List V)):Nat:=argBest (GI (cO ts)) (ts.length-1)
theorem kS (bt:Nat->Nat->Bool):∀n,argBest bt n<=n
 | 0=>AY _
 | n+1=>by
  have:=kS bt n;simp only[argBest];split<;>omega
theorem iT (kf:Nat->Int):∀n j,j<=n->kf (argBest (GI kf) n)<=kf j
 | 0,j,h=>by
  have:j=0:=by omega
  subst this;exact Int.le_refl _
 | n+1,j,h=>by
  have ih:=iT kf n;simp only[argBest]
  by_cases c:kf (n+1)<kf (argBest (GI kf) n)
  .have c':GI kf (n+1) (argBest (GI kf) n)=true:=decide_eq_true c
   rw[if_pos c']
   by_cases e:j=n+1
   .subst e;exact Int.le_refl _
   .have:=ih j (by omega);omega
  .have c':GI kf (n+1) (argBest (GI kf) n)=false:=decide_eq_false c
   rw[if_neg (by rw[c'];exact A2)]
   by_cases e:j=n+1
   .subst e;omega
   .exact ih j (by omega)
theorem qQ {ts:List (Addr×List V)}{x:Addr×List V} (h:ts[shortest ts]?=some x):∀y∈ts,x.2.length<=y.2.length:=λy hy=>by
 obtain⟨j,hj,e⟩:=Ca hy;have hm:=iT (cO ts) (ts.length-1) j (by omega);have e1:cO ts (argBest (GI (cO ts)) (ts.length-1))=x.2.length:=by
  have h':ts[argBest (GI (cO ts)) (ts.length-1)]?=some x:=h;unfold cO at h' ⊢;rw[h'];rfl
 have e2:cO ts j=y.2.length:=by
  unfold cO;rw[AJ hj,e];rfl
 rw[e1,e2]at hm;omega
section
variable {X:Cx}{p p2 p3 p4 p5 pos:Pos}{e:Expr}{t:TE}{j:Nat}
def yF (K:zz7) (t:TE):TE:=λσ H Q=>t σ H λx H1=>∃(q:Addr) (ts:List (Addr×List V)),x=.ref q/\FF K H1 q (iA ts)/\(∀x∈ts,H1 x.1=some (.tup x.2)) /\
 (∀x,ts[shortest ts]?=some x->Q (.ref x.1) H1)/\(ts=[]->Q .non H1)
theorem tR (hc:X.calm=true) {pins:List (Addr×Obj)}{s:zz8}{σ:St}{H:Hp}{Q:VK}{q:Addr}{ts:List (Addr×List V)} (I:Inv X pins σ H s) (hq:FF X.K H q (iA ts)) (ht:∀x∈ts,H x.1=some (.tup x.2))
  (h:∀x,ts[shortest ts]?=some x->Q (.ref x.1) H) (h0:ts=[]->Q .non H) :
  wpAny (model X.prog X.w) X.A (call (.builtin "min") [.ref q] [(Str.ofString "key",.builtin "len"),(Str.ofString "default",.none)]) (EP X pins σ Q) X.xe s:=by
 obtain⟨FC,r',pl,hz⟩:=I.list hq;have FJ:=r'.length;rw[AG]at FJ;have hn:=fg;have hs:sizeLine=16777216:=Bw;have Hf:∀(i:Nat) (v:zz9),FC.toArray[i]?=some v->∃x,ts[i]?=some x/\v=Value.ref x.1:=λi v hv=>by
  have Ln:FC[i]?=some v:=by simpa using hv
  have hi:i<ts.length:=by rw[FJ];exact(A3.mp Ln).1
  have e1:(iA ts)[i]?=some (V.ref ts[i].1):=by rw[AZ,AJ hi];rfl
  obtain⟨w',e2,GM⟩:=r'.get e1;rw[Ln]at e2;cases e2;exact⟨ts[i],AJ hi,GM⟩
 refine qW (cO ts) (I.ok.hd hc) pl.isList (λi x G tk Q' E' hk hx hQ=>?_) (λ_ v G tk hv hk=>?_) λh' G tk hk=>?_
 .obtain⟨a,ha,rfl⟩:=Hf i x hx
  have I':Inv X pins σ H { s with heap:=G,toks:=tk }:=I.kept hk;obtain⟨ia,ra,ta,Ot⟩:=I'.tuple (FE.of (ht a (AW ha)));have Iu:=ra.length;have e1:cO ts i=(ia.toArray.size:Int):=by
   unfold cO;rw[ha,A0,<- Iu];rfl
  refine len_tuple ta (by simp only[A0]<;>omega) ?_;rw[<- e1];exact hQ _ _
 .rw [A0,<- FJ]at hv
  obtain⟨x,hx,rfl⟩:=Hf _ v hv;exact⟨.ref x.1,H,I.kept hk,rfl,h x hx⟩
 .rw [A0,<- FJ]at h'
  exact⟨.non,H,I.kept hk,rfl,h0 (Ct.mp h')⟩
theorem wR (hc:X.calm=true) (hg:Gl X "min") (hm:X.mg "min"=none) (NA:Gl X "len") (Xl:X.mg "len"=none) (ha:PE X e t)
  (hs:starEach [e] X.env=(false,eval e X.env)::starEach [] X.env:=by rfl) :
  PE X (.Call (.Name "min" p) [e] [⟨some "key",.Name "len" p2,p3⟩,⟨some "default",.Constant .none j p4,p5⟩] pos) (yF X.K t):=by
 intro pins s σ H Q I h;refine Do (eP I hg hm (u:=.builtin "min") rfl ?_);refine callWith_kw ?_ (by rw[hs];rfl) (by rw[hs];rfl);rw[hs];show wpAny _ _ (spliced ((false,eval e X.env)::[])) _ _ s;refine Dn (FG (ha pins s σ H _ I h) λu s1 ⟨x,H1,I1,r1,q1⟩=>DX ?_);obtain⟨q,ts,rfl,hq,ht,h1,h0⟩:=q1;cases r1;refine kws_cons (eP I1 NA Xl (u:=.builtin "len") rfl (kws_cons (Constant_none (kws_nil ?_))));exact tR hc I1 hq ht h1 h0
end
end L2
namespace L2
open PySem PySem.Spec PyProof.Rows PySem.W PySem.Calls
section
variable {prog:Program}{w:World}
theorem w6 {d:Addr}{o:Obj}{es:Array DictEntry}{ep:Nat} (lo:(d==sysModules)=false) (ex:o.ExactDict) (hd:o.data=.dict es ep):KdlSrc prog w "dict" d d es.size (λi v=>(es[i]?).map (·.key)=some v) (λh=>h.get? d=some o) where
 type:=λ_ e=>⟨o,e,ex.1⟩
 there:=λ_ e=>⟨AN e,AN e⟩
 keep:=λ_ _ e k=>k d (.inl rfl) o e
 notList:=by decide
 notTuple:=by decide
 hint:=λ_ _ _ _ e q=>kdl_hint_dict ⟨o,e,ex.1⟩ q
 iter:=λA s hh e=>by
  have nd:d≠s.heap.objs.size:=A4 (AN e);refine⟨_,λi h=>h.IsKeyIter s.heap.objs.size d i es.size ep/\h.get? d=some o,λE Q q=>nY lo e ex hd q,?_,⟨_,AU _ rfl,rfl,rfl⟩,AH _ e⟩
  exact {
   sub:=λb hb=>by rw[AQ.mp hb];simp
   frame:=λi h h' st k=>⟨st.1.at λo e=>k _ (by simp) o e,k d (by simp) o st.2⟩
   item:=λi s' Q E hi st hQ=>nF st.1 st.2 hd hi λG hG sb=>hQ _ G s'.toks (by rw[Bp hi];rfl) ⟨hG,(sb.2 d nd).trans st.2⟩ λb o' hb e'=>(sb.2 b (by simpa using hb)).trans e'
   done:=λs' Q E st hQ=>oX hh st.1 st.2 hd (AY _) λG eb=>hQ G s'.toks λb o' hb e'=>eb b o' (by simpa using hb) e'
   self:=λi s' Q E st hQ=>wpAny_pyIter_keyiter st.1 hQ }
end
section
variable {X:Cx}
theorem rS (hc:X.calm=true):bh X (.type "list") (λxs H Q=>∃(a:Addr) (kvs:List (List Key×V)),xs=[.ref a]/\H a=some (.dT kvs) /\
  ∀(ts:List Addr) (l:Addr),ts.length=kvs.length->(∀(i:Nat) (p:List Key×V) (b:Addr),kvs[i]?=some p->ts[i]?=some b->H b=some (.tup (p.1.map kV)))->H l=none->Q (.ref l) (upd H l (.lst (ts.map V.ref)))):=by
 intro pins s σ H xs us Q I r h;obtain⟨a,kvs,rfl,ha,q⟩:=h;obtain⟨u,rfl,rx⟩:=vals1 r;cases rx;obtain⟨hz,nd,ys,rel,o,es,ep,ho,ex,hd,h3,_⟩:=(show aD X.prog X.w H s.heap a (.dT kvs) from I.hok a _ ha)
 have hl:=DI rel;have QV:es.size=ys.length:=size_of_entries h3;refine kdl_call (w6 nd ex hd) (I.ok.hd hc) ho (by omega) λh' tk FH c kp hn Ib=>?_;have hit:∀(j:Nat) (v:zz9),FH[j]?=some v->∃y,ys[j]?=some y/\v=.ref y.2.1:=λj v hv=>by
  have hj:(es[j]?).map (·.key)=some v:=Ib.2 j v hv;have e3:=entry_at h3 j;rw[e3]at hj;cases c:ys[j]? with
  | none=>rw[c]at hj;cases hj
  | some y =>
   rw[c]at hj;simp only[C4,Option.some.injEq]at hj;exact⟨y,rfl,by rw[<- hj];rfl⟩
 have NM:FH.toList=(ys.map λy=>y.2.1).map Value.ref:=by
  refine D0 λj=>?_
  by_cases hj:j<FH.size
  .obtain⟨y,h1,h2⟩:=hit j FH[j] (Bp hj)
   rw[BD,Bp hj,AZ,AZ,h1,h2];rfl
  .rw [BD,CU (by omega),C6]
   rw[AG,AG,<- QV,<- Ib.1];omega
 have hv:∀l:List Addr,ar (l.map V.ref) (l.map Value.ref):=λl=>by
  induction l with
  | nil=>exact .nil
  | cons x l ih=>exact .cons rfl ih
 refine⟨.ref s.heap.objs.size,_,I.laid (t':=tk) kp (AY _) (show aD X.prog X.w _ h' _ (.lst ((ys.map λy=>y.2.1).map V.ref)) from⟨by rw[AG,AG];omega,FH.toList,c,by rw[NM];exact hv _,by rw[Array.toArray_toList];exact hn⟩),rfl,q _ _ (by rw[AG];omega) (λi p b hp hb=>?_) (I.hok.fresh (AY _))⟩;obtain⟨y,hy,r1,r2,r3⟩:=Paired.at rel hp;rw[AZ,hy]at hb;cases hb;exact r2
end
end L2
namespace CP
open PySem L2 PySem.Spec PyProof.Rows PySem.W PySem.Calls
def bv:List Str->List Str->Bool
 | x::xs,y::ys=>if x=y then bv xs ys else decide (x.cps.toList<y.cps.toList)
 | [],_::_=>true
 | _,[]=>false
def cx (fin:Bool):List Str->List Str->Bool
 | x::xs,y::ys=>if x=y then cx fin xs ys else decide (x.cps.toList<y.cps.toList)
 | _,_=>fin
theorem jv:∀ss ts:List Str,cx (decide (ss.length<ts.length)) ss ts=bv ss ts
 | [],[]=>rfl
 | [],_::_=>by simp[cx,bv]
 | _::_,[]=>by simp[cx,bv]
 | x::xs,y::ys=>by
  have ih:=jv xs ys;simp only[cx,bv,Bd];have e:decide (xs.length+1<ys.length+1)=decide (xs.length<ys.length):=by simp
  rw[e,ih]
theorem jz:∀a:List Str,bv a a=false
 | []=>rfl
 | x::xs=>by simp[bv,jz xs]
theorem jq:∀a b:List Str,a≠b->bv a b=true\/bv b a=true
 | [],[],h=>absurd rfl h
 | [],_::_,_=>.inl rfl
 | _::_,[],_=>.inr rfl
 | x::xs,y::ys,h=>by
  by_cases e:x=y
  .subst e
   have:=jq xs ys (λz=>h (by rw[z]));simpa[bv]using this
  .have e':y≠x:=λz=>e z.symm
   simp only[bv,if_neg e,if_neg e'];exact(jB e).imp decide_eq_true decide_eq_true
theorem jm (b:List Str):bv b []=false:=by cases b<;>rfl
theorem oK:∀a b c:List Str,bv a b=true->bv b c=true->bv a c=true:=by
 intro a
 induction a with
 | nil =>
  intro b c _ h2;cases c with
  | nil=>rw[jm]at h2;cases h2
  | cons z zs=>rfl
 | cons x xs ih =>
  intro b c h1 h2;cases b with
  | nil=>rw[jm]at h1;cases h1
  | cons y ys =>
   cases c with
   | nil=>rw[jm]at h2;cases h2
   | cons z zs =>
    by_cases e:x=y
    .subst e
     by_cases e2:x=z
     .subst e2
      simp only[bv,if_pos]at h1 h2 ⊢;exact ih ys zs h1 h2
     .simp only[bv,if_neg e2]at h2 ⊢
      exact h2
    .simp only[bv,if_neg e]at h1
     by_cases e2:y=z
     .subst e2
      simp only[bv,if_neg e];exact h1
     .simp only[bv,if_neg e2]at h2
      have l:=EX (of_decide_eq_true h1) (of_decide_eq_true h2);have e3:x≠z:=λq=>by subst q;exact absurd l (DW _)
      simp only[bv,if_neg e3];exact decide_eq_true l
def eA (ss ts:List Str):List (Bool×Bool):=(ss.zip ts).map λp=>(p.1==p.2,decide (p.1.cps.toList<p.2.cps.toList))
theorem mT {A:Around}{s:zz8}:∀{vs ws:List zz9}{ss ts:List Str},StrsAre vs ss->StrsAre ws ts->fe A s (vs.zip ws) (eA ss ts)
 | _,_,_,_,.nil,_=>by
  rw[E8];unfold eA;rw[E8];exact .nil
 | _,_,_,_,.cons x t h,.nil=>by
  rw[EL];unfold eA;rw[EL];exact .nil
 | _,_,_,_,.cons x t h,.cons y u g=>by
  rw[EM];exact .cons (SeqAt.EqAt.str_str x t y u) (λ_ prog w E Q q=>(PySem.P.lt_str (by simpa using q):wpAny (model prog w) A (compareOp .Lt (.str x t) (.str y u)) Q E s)) (mT h g)
theorem mD (fin:Bool):∀ss ts:List Str,cN fin (eA ss ts)=cx fin ss ts
 | [],_=>by simp[eA,cN,cx]
 | _::_,[]=>by simp[eA,cN,cx]
 | x::xs,y::ys=>by
  have ih:=mD fin xs ys;unfold eA at ih ⊢;rw[EM,A8]
  by_cases e:x=y
  .subst e
   simp only[beq_self_eq_true,cN,cx,if_true];exact ih
  .have eb:(x==y)=false:=by simpa using e
   simp only[eb,cN,cx,if_neg e]
abbrev Pr:=Addr×Addr×List Str×Int
abbrev dN (prs:List Pr):List V:=prs.map λx=>V.ref x.1
def ka (H:Hp) (prs:List Pr):Prop:=∀x∈prs,H x.1=some (.tup [.ref x.2.1,.int x.2.2.2])/\H x.2.1=some (.tup (x.2.2.1.map V.str))
theorem nU {P:Program}{w:World}{H:Hp}{h:Heap} (ok:F0 P w H h) {prs:List Pr} (hL:ka H prs) {us:List zz9} (r:ar (dN prs) us) (i:Nat) (hi:i<us.length) :
  ∃x∈prs,x.2.2.1=(prs.map (·.2.2.1)).getD i []/\us.getD i Value.none=.ref x.1/\∃o n t,h.get? x.1=some o/\o.cls=.type "tuple"/\o.data=.seq #[.ref x.2.1,.int x.2.2.2 t] n:=by
 have hl:=r.length;rw[AG]at hl;have Gv:i<prs.length:=by omega
 have e1:(dN prs)[i]?=some (V.ref prs[i].1):=by rw[AZ,AJ Gv];rfl
 obtain⟨u,e2,ru⟩:=r.get e1;cases ru;have em:(prs.map (·.2.2.1)).getD i []=prs[i].2.2.1:=by rw[Bf,AZ,AJ Gv];rfl
 obtain⟨_,FC,rv,o,ho,hc,n,hd⟩:=(show aD P w H h prs[i].1 (.tup [.ref prs[i].2.1,.int prs[i].2.2.2]) from ok _ _ (hL prs[i] (Bk Gv)).1)
 obtain⟨u1,u2,rfl,r1,t,r2⟩:=vals2 rv;cases r1;subst r2;exact⟨prs[i],Bk Gv,em.symm,by rw[Bf,e2];rfl,o,n,t,ho,hc,hd⟩
theorem pB {P:Program}{w:World}{H:Hp}{h:Heap} (ok:F0 P w H h):∀{prs:List Pr}{us:List zz9},ka H prs->ar (dN prs) us->KatTups h us (prs.map λx=>Value.ref x.2.1)
 | [],_,_,.nil=>.nil
 | x::t,_,hL,.cons rx rt=>by
  have k:=pB ok (prs:=t) (λy hy=>hL y (AR _ hy)) rt;cases rx;obtain⟨_,FC,rv,o,ho,hc,n,hd⟩:=(show aD P w H h x.1 (.tup [.ref x.2.1,.int x.2.2.2]) from ok _ _ (hL x AK).1)
  obtain⟨u1,u2,rfl,r1,r2⟩:=vals2 rv;cases r1;exact KatTups.cons ho hc hd (by simp) k
theorem An {X:Cx} (hu:X.A.units+8<cLine):bh X (.builtin "sorted") (λxs H Q=>∃(p:Addr) (prs:List Pr),xs=[.ref p]/\FF X.K H p (dN prs)/\ka H prs/\prs.length<64/\(prs.map (·.2.2.1)).Nodup /\
  ∀(Gg:List Pr) (q:Addr),Gg.Perm prs->(Gg.map (·.2.2.1)).Pairwise (λa b=>bv a b=true)->H q=none->Q (.ref q) (upd H q (.lst (dN Gg)))):=by
 intro pins s σ H xs us Q I r h;obtain⟨p,prs,rfl,hq,hL,LM,Gf,q⟩:=h;obtain⟨u,rfl,rx⟩:=vals1 r;cases rx;obtain⟨FC,r',pl,hz⟩:=I.list hq;obtain⟨o,ho,hc,n,hd⟩:=pl.isList;have hl:=r'.length;have Hv:FC.length=prs.length:=by rw[<- hl];simp
 have RX:∀i j,i<FC.length->j<FC.length->i≠j->(prs.map (·.2.2.1)).getD i []≠(prs.map (·.2.2.1)).getD j []:=λi j hi hj Gp=>by
  have GD:i<(prs.map (·.2.2.1)).length:=by simpa[<- Hv]using hi
  have GG:j<(prs.map (·.2.2.1)).length:=by simpa[<- Hv]using hj
  rw[Bf,Bf,AJ GD,AJ GG];show(prs.map (·.2.2.1))[i]≠(prs.map (·.2.2.1))[j]
  rcases C0 Gp with y|y
  .exact A5.mp Gf i j GD GG y
  .exact λz=>A5.mp Gf j i GG GD y z.symm
 have O:Ord FC.length (λi j=>bv ((prs.map (·.2.2.1)).getD i []) ((prs.map (·.2.2.1)).getD j [])):=
  ⟨λi j k h1 h2=>oK _ _ _ h1 h2,λi=>jz _,λi j hi hj Gp=>jq _ _ (RX i j hi hj Gp)⟩
 refine ny (.inl rfl) ho hc hd (by omega) O (λh2 s' GB=>?_) λpm hp ha=>?_
 .have ok:=I.hok.kept GB
  refine⟨tuples' (Value.type "tuple" != Value.type "tuple"),λQ q=>kat_kind (T:=Value.type "tuple") (pB ok hL r') (by rw[AG];omega) (λv hv=>?_) (by decide) q,λi j C hi hj Gp q=>?_⟩
  .obtain⟨x,hx,rfl⟩:=AL.mp hv
   obtain⟨_,_,_,o,ho,hc,_⟩:=(show aD X.prog X.w H s'.heap x.2.1 (.tup (x.2.2.1.map V.str)) from ok _ _ (hL x hx).2)
   rw[<- hc];exact(Looks.ld ho).andThen .now
  .obtain⟨x,hx,x1,x2,o1,n1,t1,x3,x4,x5⟩:=nU ok hL r' i hi
   obtain⟨y,hy,y1,y2,o2,n2,t2,y3,y4,y5⟩:=nU ok hL r' j hj;have FQ:=RX i j hi hj Gp;have q':C (bv ((prs.map (·.2.2.1)).getD i []) ((prs.map (·.2.2.1)).getD j [])) s':=q;rw[<- x1,<- y1]at FQ q';unfold kas_ask;rw[x2,y2];refine kat_lt x3 x5 y3 y5 ?_;show KatLex _ _ _ false _ C ((Value.ref x.2.1,Value.ref y.2.1)::_) 0 s';have key:∀(ss:List Str),ss.map V.str=(ss.map (Sum.inr:Str->Key)).map kV:=λss=>by rw[A6];rfl
   have Nb:=(hL x hx).2;have Il:=(hL y hy).2;obtain⟨_,ia,ra,ta⟩:=(show aD X.prog X.w H s'.heap x.2.1 (.tup (x.2.2.1.map V.str)) from ok _ _ Nb)
   obtain⟨_,ib,rb,tb⟩:=(show aD X.prog X.w H s'.heap y.2.1 (.tup (y.2.2.1.map V.str)) from ok _ _ Il)
   have sa:=fX ra;have sb:=fX rb;rw[key]at Nb Il;refine kat_cons (EN (by show X.A.units+1+1<cLine;omega) (fb ok Nb) (fb ok Il) ?_);rw[decide_eq_false (λz=>FQ ((List.map_inj_right (λa b h=>DK h)).mp z))];refine kat_no ?_;show wpAny _ _ (oneLt' false _ _) C _ s';refine kat_one _ _ (show wpAny _ _ (richCompare .Lt (.ref x.2.1) (.ref y.2.1)) _ _ s' from tQ ta tb (by show X.A.units+1+1<cLine;omega) (cs:=eA x.2.2.1 y.2.2.1) (by simpa using mT sa sb) ?_);show C (cN (decide (ia.toArray.size<ib.toArray.size)) (eA x.2.2.1 y.2.2.1)) s';rw[mD,A0,A0,sa.length,sb.length,jv];exact q'
 .obtain⟨e,he⟩:=sortedAll_at s.heap FC (cv FC pm).toArray
  have FY:Pm prs.length pm:=by rw[<- Hv];exact hp
  have FM:∀i∈pm.toList,i<prs.length:=λi hi=>by
   have:i∈(List.toArray (List.range prs.length)):=FY.mem_iff.mp (by simpa using hi);simpa using this
  have hv:ar ((pm.toList.map λi=>(dN prs).getD i .non)) (cv FC pm):=gJ r' λi hi=>by simpa using FM i hi
  have NF:(pm.toList.map λi=>(dN prs).getD i .non)=dN (pm.toList.map λi=>prs.getD i (0,0,[],0)):=by
   unfold dN;rw[A6];exact CM λi hi=>by simp[FM i hi]
  rw[NF]at hv;have IS:H (s.heap.objs.size+1)=none:=I.hok.fresh (CT _);have Jt:=i5 ((0,0,[],0):Pr) prs FY;refine⟨.ref (s.heap.objs.size+1),_,I.laid (t':=s.toks) (o:=.lst (dN (pm.toList.map λi=>prs.getD i (0,0,[],0)))) (λb o z=>sortedAll_old z) (CT _) ⟨?_,cv FC pm,e,hv,?_⟩,rfl,q _ _ Jt ?_ IS⟩
  .rw [AG,Jt.length_eq,Bw];omega
  .simpa [seqObj]using he
  .rw [A6,B6]
   refine A5.mpr λi j hi hj Gp=>?_;have GF:=hp.size;have Gv:i<pm.size:=by simpa using hi
   have KC:j<pm.size:=by simpa using hj
   have z:=ha i j Gp (by omega);rw[eo Gv,eo KC]at z;have b1:=FM pm.toList[i] (Bk _);have b2:=FM pm.toList[j] (Bk _);simp only[Eu]at b1 b2 ⊢;simpa[b1,b2]using z
end CP
namespace CP
section
variable {α ν:Type} [DecidableEq α]
abbrev Rw (ν α:Type):=ν×α×α
def ent (l:List α) (r:Rw ν α):Bool:=decide (r.2.2∈l) && !decide (r.2.1∈l)
theorem dF {l:List α}{r:Rw ν α}:ent l r=true ↔ r.2.2∈l/\r.2.1∉l:=by simp[ent]
inductive Pth (M:List (Rw ν α)) (a:α):α->Prop
 | nil:Pth M a a
 | snoc {r:Rw ν α}:Pth M a r.2.1->r∈M->Pth M a r.2.2
inductive de (M:List (Rw ν α)) (S:List α) (a:α):α->Prop
 | nil:de M S a a
 | snoc {r:Rw ν α}:de M S a r.2.1->r∈M->r.2.1∈S->r.2.2∈S->de M S a r.2.2
variable {M:List (Rw ν α)}
theorem Pth.trans {a b c:α} (h:Pth M a b) (g:Pth M b c):Pth M a c:=by
 induction g with
 | nil=>exact h
 | snoc _ hr ih=>exact .snoc ih hr
theorem de.mono {M':List (Rw ν α)} (hs:∀r∈M,r∈M') {S:List α}{a b:α} (h:de M S a b):de M' S a b:=by
 induction h with
 | nil=>exact .nil
 | snoc _ hr h1 h2 ih=>exact .snoc ih (hs _ hr) h1 h2
theorem Pth.leave {W:List α}{a b:α} (h:Pth M a b) (ha:a∈W) (hb:b∉W):∃r∈M,r.2.1∈W/\r.2.2∉W:=by
 induction h with
 | nil=>exact absurd ha hb
 | @snoc r _ hr ih =>
  by_cases c:r.2.1∈W
  .exact⟨r,hr,c,hb⟩
  .exact ih c
theorem de.leave {W S:List α}{a b:α} (h:de M S a b) (ha:a∈W) (hb:b∉W):∃r∈M,r.2.1∈S/\r.2.2∈S/\r.2.1∈W/\r.2.2∉W:=by
 induction h with
 | nil=>exact absurd ha hb
 | @snoc r _ hr h1 h2 ih =>
  by_cases c:r.2.1∈W
  .exact⟨r,hr,h1,h2,c,hb⟩
  .exact ih c
theorem de.enter {S L:List α}{a b:α} (h:de M L a b) (ha:a∉S) (hb:b∈S):∃r∈M,ent S r=true:=by
 induction h with
 | nil=>exact absurd hb ha
 | @snoc r _ hr h1 h2 ih =>
  by_cases c:r.2.1∈S
  .exact ih c
  .exact⟨r,hr,dF.mpr ⟨hb,c⟩⟩
theorem Pth.enter {S:List α}{a b:α} (h:Pth M a b) (ha:a∉S) (hb:b∈S):∃r∈M,ent S r=true:=by
 induction h with
 | nil=>exact absurd hb ha
 | @snoc r _ hr ih =>
  by_cases c:r.2.1∈S
  .exact ih c
  .exact⟨r,hr,dF.mpr ⟨hb,c⟩⟩
def SC (M:List (Rw ν α)) (S:List α):Prop:=∀a∈S,∀b∈S,de M S a b
theorem SC.mono {M':List (Rw ν α)} (hs:∀r∈M,r∈M') {S:List α} (h:SC M S):SC M' S:=λa ha b hb=>(h a ha b hb).mono hs
theorem SC.one (x:α):SC M [x]:=λa ha b hb=>by
 rw[AQ.mp ha,AQ.mp hb];exact .nil
theorem Pth.within {S:List α} (Gk:∀r∈M,ent S r=false) {a b:α} (h:Pth M a b) (hb:b∈S):de M S a b:=by
 induction h with
 | nil=>exact .nil
 | @snoc r p hr ih =>
  have h1:r.2.1∈S:=by
   have:=Gk r hr;cases Ci (r.2.1∈S)with
   | inl z=>exact z
   | inr z=>rw[dF.mpr ⟨hb,z⟩]at this;cases this
  exact .snoc (ih h1) hr h1 hb
theorem jI {a b:List α} (h:a.Nodup) (hs:∀x∈a,x∈b):a.length<=b.length:=by
 induction a generalizing b with
 | nil=>simp
 | cons x t ih =>
  obtain⟨h1,h2⟩:=Bj.mp h;have hx:=hs x AK;have:=ih h2 (b:=b.erase x) λy hy=>(List.mem_erase_of_ne (λ(z:y=x)=>h1 (by rw[<- z];exact hy))).mpr (hs y (AR _ hy));rw[List.length_erase_of_mem hx]at this;have hp:=List.length_pos_of_mem hx;simp only[Bd];omega
theorem yC {a b:List α} (ha:a.Nodup) (hb:b.Nodup) (hs:∀x∈a,x∈b) (hl:b.length<=a.length):∀x∈b,x∈a:=λx hx=>by
 cases Ci (x∈a)with
 | inl z=>exact z
 | inr z =>
  have:=jI (a:=x::a) (b:=b) (Bj.mpr ⟨z,ha⟩) λy hy=>(AO.mp hy).elim (λe=>e ▸ hx) (hs y);simp only[Bd]at this;omega
theorem Ao {ps:List α}{root x0:α}{lots:α->List α} (hm:∀x∈ps,∀y,y∈lots x ↔ y∈ps/\Pth M y x) (hn:∀x∈ps,(lots x).Nodup) (hM:∀r∈M,r.2.1∈ps) (h0:x0∈ps) (hr:root∉lots x0) (Jv:∀y∈ps,root∉lots y->(lots x0).length<=(lots y).length) :
  SC M (lots x0)/\∀r∈M,ent (lots x0) r=false:=by
 have Gk:∀r∈M,ent (lots x0) r=false:=λr FO=>by
  cases c:ent (lots x0) r with
  | false=>rfl
  | true =>
   obtain⟨c1,c2⟩:=dF.mp c;have:=(hm x0 h0 _).mp c1;exact absurd ((hm x0 h0 _).mpr ⟨hM r FO,(Pth.snoc Pth.nil FO:Pth M r.2.1 r.2.2).trans this.2⟩) c2
 refine⟨λa ha b hb=>?_,Gk⟩;obtain⟨a1,a2⟩:=(hm x0 h0 a).mp ha;obtain⟨b1,b2⟩:=(hm x0 h0 b).mp hb;have HB:∀y∈lots b,y∈lots x0:=λy hy=>by
  obtain⟨y1,y2⟩:=(hm b b1 y).mp hy;exact(hm x0 h0 y).mpr ⟨y1,y2.trans b2⟩
 have hx:=yC (hn b b1) (hn x0 h0) HB (Jv b b1 λz=>hr (HB root z));have h2:=(hm b b1 x0).mp (hx x0 ((hm x0 h0 x0).mpr ⟨h0,.nil⟩));exact Pth.within Gk (a2.trans h2.2) hb
def Lam (F:List (List α)):Prop:=∀A∈F,∀B∈F,(∀x∈A,x∈B)\/(∀x∈B,x∈A)\/∀x∈A,x∉B
theorem Lam.add {F:List (List α)}{S:List α} (h:Lam F) (J7:∀L∈F,SC M L) (Gk:∀r∈M,ent S r=false):Lam (F++[S]):=by
 have key:∀L∈F,(∀x∈L,x∈S)\/∀x∈L,x∉S:=λL hL=>by
  cases Ci (∃x∈L,x∈S)with
  | inr z=>exact .inr λx hx hs=>z ⟨x,hx,hs⟩
  | inl z =>
   obtain⟨a,ha,has⟩:=z;refine .inl λb hb=>?_;cases Ci (b∈S)with
   | inl q=>exact q
   | inr q =>
    obtain⟨r,hr,he⟩:=(J7 L hL b hb a ha).enter q has;rw[Gk r hr]at he;cases he
 intro A hA B hB
 rcases A1.mp hA with hA|hA<;>rcases A1.mp hB with hB|hB
 .exact h A hA B hB
 .rw [AQ.mp hB]
  rcases key A hA with z|z
  .exact .inl z
  .exact .inr (.inr z)
 .rw [AQ.mp hA]
  rcases key B hB with z|z
  .exact .inr (.inl z)
  .exact .inr (.inr λx hx hb=>z x hb hx)
 .rw [AQ.mp hA,AQ.mp hB]
  exact .inl λx hx=>hx
theorem As {F:List (List α)}{W:List α}{root x:α} (hl:Lam F) (hn:∀L∈F,L.Nodup) (J7:∀L∈F,SC M L) (Gj:root∈W) (hx:x∉W) (hp:Pth M root x):∃r∈M,r.2.1∈W/\r.2.2∉W/\∀L∈F,ent L r=true->∀y∈L,y∉W:=by
 have main:∀n,∀L∈F,L.length<=n->(∃a∈L,a∈W)->(∃b∈L,b∉W)->∃r∈M,r.2.1∈W/\r.2.2∉W/\∀L∈F,ent L r=true->∀y∈L,y∉W:=by
  intro n
  induction n with
  | zero =>
   intro L hL QO ⟨a,ha,_⟩ _;have:=List.length_pos_of_mem ha;omega
  | succ n ih =>
   intro L hL TM ⟨a,ha,XN⟩ ⟨b,hb,XH⟩;obtain⟨r,hr,r1,r2,r3,r4⟩:=(J7 L hL a ha b hb).leave XN XH;cases Ci (∃L'∈F,ent L' r=true/\∃y∈L',y∈W)with
   | inr z=>exact⟨r,hr,r3,r4,λL' NR he y hy hw=>z ⟨L',NR,he,y,hy,hw⟩⟩
   | inl z =>
    obtain⟨L',NR,he,y,hy,hw⟩:=z;obtain⟨e1,e2⟩:=dF.mp he;have HB:∀x∈L',x∈L:=by
     rcases hl L' NR L hL with q|q|q
     .exact q
     .exact absurd (q _ r1) e2
     .exact absurd r2 (q _ e1)
    have FM:L'.length<L.length:=by
     have:=jI (a:=r.2.1::L') (b:=L) (Bj.mpr ⟨e2,hn L' NR⟩) λx hx=>(AO.mp hx).elim (λe=>e ▸ r1) (HB x);simp only[Bd]at this;omega
    exact ih L' NR (by omega) ⟨y,hy,hw⟩ ⟨r.2.2,e1,r4⟩
 cases Ci (∃L∈F,(∃a∈L,a∈W)/\∃b∈L,b∉W)with
 | inl z =>
  obtain⟨L,hL,h1,h2⟩:=z;exact main _ L hL (AY _) h1 h2
 | inr z =>
  obtain⟨r,hr,r1,r2⟩:=hp.leave Gj hx;exact⟨r,hr,r1,r2,λL hL he y hy hw=>z ⟨L,hL,⟨y,hy,hw⟩,r.2.2,(dF.mp he).1,r2⟩⟩
def ents (l:List α) (T:List (Rw ν α)):Nat:=T.countP (ent l)
def gz (F:List (List α)) (W:List α) (T:List (Rw ν α)):Prop:=∀l∈F,((∃y∈l,y∈W)->ents l T=1)/\((∀y∈l,y∉W)->ents l T=0)
theorem gz.start {F:List (List α)}{root:α} (h:∀l∈F,root∉l):gz (ν:=ν) F [root] []:=λl hl=>⟨λ⟨y,hy,hw⟩=>absurd (AQ.mp hw ▸ hy) (h l hl),λ_=>rfl⟩
theorem gz.add {F:List (List α)}{W:List α}{T:List (Rw ν α)}{r:Rw ν α} (h:gz F W T) (h1:r.2.1∈W) (h2:∀L∈F,ent L r=true->∀y∈L,y∉W):gz F (W++[r.2.2]) (T++[r]):=λl hl=>by
 obtain⟨a,b⟩:=h l hl;have hc:ents l (T++[r])=ents l T+if ent l r=true then 1 else 0:=by
  unfold ents;rw[List.countP_append];cases c:ent l r<;>simp[List.countP_cons,c]
 cases c:ent l r with
 | true =>
  have hz:=b (h2 l hl c);obtain⟨c1,c2⟩:=dF.mp c;rw[hc,c,if_pos rfl];exact⟨λ_=>by omega,λz=>absurd (AV _ (AQ.mpr rfl)) (z _ c1)⟩
 | false =>
  rw[hc,c,if_neg A2,Nat.add_zero];refine⟨λ⟨y,hy,hw⟩=>?_,λz=>b λy hy hw=>z y hy (A7 _ hw)⟩
  rcases A1.mp hw with q|q
  .exact a ⟨y,hy,q⟩
  .have e:y=r.2.2:=AQ.mp q
   subst e;cases Ci (r.2.1∈l)with
   | inl z=>exact a ⟨_,z,h1⟩
   | inr z=>rw[dF.mpr ⟨hy,z⟩]at c;cases c
def dA (P:List (List α×Int)) (r:Rw ν α):Int:=((P.filter λx=>ent x.1 r).map (·.2)).sum
theorem gI (x:List α×Int) (P:List (List α×Int)) (r:Rw ν α):dA (x::P) r=(if ent x.1 r=true then x.2 else 0)+dA P r:=by
 unfold dA;cases c:ent x.1 r<;>simp[Bs,c]
theorem jj (r:Rw ν α):dA ([]:List (List α×Int)) r=0:=rfl
theorem mC (T:List (Rw ν α)):∀P:List (List α×Int),(T.map (dA P)).sum=(P.map λx=>(ents x.1 T:Int)*x.2).sum
 | []=>by
  induction T with
  | nil=>rfl
  | cons a t ih=>rw[A8,CB,ih,jj];rfl
 | x::P=>by
  have ih:=mC T P;have e:(T.map (dA (x::P))).sum=(ents x.1 T:Int)*x.2+(T.map (dA P)).sum:=by
   clear ih
   induction T with
   | nil=>simp[ents]
   | cons a t it =>
    simp only[A8,CB,it,gI];unfold ents;rw[List.countP_cons];cases c:ent x.1 a
    .simp;omega
    .simp only[if_true]
     have:(((List.countP (ent x.1) t+1:Nat):Int))*x.2=(List.countP (ent x.1) t:Int)*x.2+x.2:=by
      push_cast;rw[Int.add_mul];omega
     rw[this];omega
  rw[e,ih,A8,CB]
theorem Aq {T:List (Rw ν α)}{P:List (List α×Int)} (h:∀x∈P,ents x.1 T=1):(T.map (dA P)).sum=(P.map (·.2)).sum:=by
 rw[mC]
 congr 1
 exact CM λx hx=>by rw[h x hx];simp
end
section
variable {α ν:Type} [DecidableEq α] [DecidableEq ν]
def met (R:List (Rw ν α)) (left:ν->Int):List (Rw ν α):=R.filter λr=>decide (left r.1=0)
theorem eY {R:List (Rw ν α)}{left:ν->Int}{r:Rw ν α}:r∈met R left ↔ r∈R/\left r.1=0:=by
 unfold met;rw[AS];simp
def enter (R:List (Rw ν α)) (S:List α):List (Rw ν α):=R.filter (ent S)
theorem lB {R:List (Rw ν α)}{S:List α}{r:Rw ν α}:r∈enter R S ↔ r∈R/\ent S r=true:=by
 unfold enter;rw[AS]
def less (R:List (Rw ν α)) (S:List α) (m:Int) (left:ν->Int):ν->Int:=λn=>if n∈(enter R S).map (·.1)then left n-m else left n
def Uni (R:List (Rw ν α)):Prop:=∀r∈R,∀q∈R,r.1=q.1->r=q
theorem eK {R:List (Rw ν α)} (hu:Uni R) {S:List α}{m:Int}{left:ν->Int}{r:Rw ν α} (hr:r∈R):less R S m left r.1=if ent S r=true then left r.1-m else left r.1:=by
 unfold less;cases c:ent S r with
 | true=>rw[if_pos (AM (lB.mpr ⟨hr,c⟩)),if_pos rfl]
 | false =>
  rw[if_neg,if_neg A2];intro z;obtain⟨q,hq,e⟩:=AL.mp z;obtain⟨q1,q2⟩:=lB.mp hq;have:=hu q q1 r hr e;rw[this,c]at q2;cases q2
structure Mn (R:List (Rw ν α)) (S:List α) (left:ν->Int) (m:Int):Prop where
 le:∀r∈R,ent S r=true->m<=left r.1
 at':∃r∈R,ent S r=true/\left r.1=m
theorem lw (P:List (List α×Int)) (x:List α×Int) (r:Rw ν α):dA (P++[x]) r=dA P r+if ent x.1 r=true then x.2 else 0:=by
 induction P with
 | nil=>rw[Fy,gI,jj];omega
 | cons y P ih=>rw[Fk,gI,gI,ih];omega
structure Rs (ps:List α) (root:α) (R:List (Rw ν α)) (cost:ν->Int) (P:List (List α×Int)) (left:ν->Int):Prop where
 eq:∀r∈R,left r.1=cost r.1-dA P r
 nd:(P.map (·.1)).Nodup
 sub:∀x∈P,x.1.Sublist ps
 ne:∀x∈P,x.1≠[]
 nr:∀x∈P,root∉x.1
 lam:Lam (P.map (·.1))
 sc:∀x∈P,SC (met R left) x.1
 en:∀x∈P,∃r∈met R left,ent x.1 r=true
 pos:∀x∈P,1<x.1.length->0<x.2
structure Rf (ps:List α) (root:α) (R:List (Rw ν α)) (cost:ν->Int) (P:List (List α×Int)) (left:ν->Int):Prop extends Rs ps root R cost P left where
 one:∀y∈ps,y≠root->[y]∈P.map (·.1)
 nn:∀r∈R,0<=left r.1
theorem Rs.start (ps:List α) (root:α) (R:List (Rw ν α)) (cost:ν->Int):Rs ps root R cost [] cost:=⟨λr _=>by rw[jj];omega,.nil,by simp,by simp,by simp,λA hA=>by simp at hA,by simp,by simp,by simp⟩
theorem vf {R:List (Rw ν α)} (hu:Uni R) {S:List α}{m:Int}{left:ν->Int} (Gk:∀r∈met R left,ent S r=false):∀r∈met R left,r∈met R (less R S m left):=λr hr=>by
 obtain⟨h1,h2⟩:=eY.mp hr;refine eY.mpr ⟨h1,?_⟩;rw[eK hu h1,Gk r hr,if_neg A2];exact h2
theorem Rs.raise {ps:List α}{root:α}{R:List (Rw ν α)}{cost:ν->Int}{P:List (List α×Int)}{left:ν->Int} (hu:Uni R) (h:Rs ps root R cost P left) {S:List α}{m:Int} (hS:S.Sublist ps) (h0:S≠[]) (hr:root∉S) (hm:Mn R S left m)
  (Gk:∀r∈met R left,ent S r=false) (J7:SC (met R left) S) (HX:1<S.length->0<m):Rs ps root R cost (P++[(S,m)]) (less R S m left):=by
 have Nr:=vf hu (m:=m) Gk;have new:∃r∈met R (less R S m left),ent S r=true:=by
  obtain⟨r,h1,h2,h3⟩:=hm.at';exact⟨r,eY.mpr ⟨h1,by rw[eK hu h1,if_pos h2,h3];omega⟩,h2⟩
 have Q4:S∉P.map (·.1):=λz=>by
  obtain⟨x,hx,e⟩:=AL.mp z;obtain⟨r,h1,h2⟩:=h.en x hx;rw[show x.1=S from e,Gk r h1]at h2;cases h2
 have IC:∀{Q:List α×Int->Prop},(∀x∈P,Q x)->Q (S,m)->∀x∈P++[(S,m)],Q x:=λ{Q} a b x hx=>(A1.mp hx).elim (a x) λz=>by rw[AQ.mp z];exact b
 refine⟨λr FO=>?_,?_,IC h.sub hS,IC h.ne h0,IC h.nr hr,?_,IC (λx hx=>(h.sc x hx).mono Nr) (J7.mono Nr),IC (λx hx=>?_) new,IC h.pos HX⟩
 .rw [eK hu FO,lw,h.eq r FO]
  cases c:ent S r<;>simp<;>omega
 .rw [AX]
  exact BW.mpr ⟨h.nd,by simp,λa ha b hb=>by
   rw[AQ.mp hb];intro z;rw[show a=S from z]at ha;exact Q4 ha⟩
 .rw [AX]
  exact Lam.add h.lam (λL hL=>by obtain⟨x,hx,e⟩:=AL.mp hL;rw[<- e];exact h.sc x hx) Gk
 .obtain⟨r,h1,h2⟩:=h.en x hx
  exact⟨r,Nr r h1,h2⟩
theorem Rf.raise {ps:List α}{root:α}{R:List (Rw ν α)}{cost:ν->Int}{P:List (List α×Int)}{left:ν->Int} (hu:Uni R) (h:Rf ps root R cost P left) {S:List α}{m:Int} (hS:S.Sublist ps) (h0:S≠[]) (hr:root∉S) (hm:Mn R S left m)
  (Gk:∀r∈met R left,ent S r=false) (J7:SC (met R left) S):Rf ps root R cost (P++[(S,m)]) (less R S m left)/\1<S.length:=by
 have Xm:0<m:=by
  obtain⟨r,h1,h2,h3⟩:=hm.at';have:=h.nn r h1;have hz:left r.1≠0:=λz=>by
   have:=Gk r (eY.mpr ⟨h1,z⟩);rw[h2]at this;cases this
  omega
 refine⟨⟨h.toRs.raise hu hS h0 hr hm Gk J7 λ_=>Xm,λy hy hn=>?_,λr FO=>?_⟩,?_⟩
 .rw [AX];exact A7 _ (h.one y hy hn)
 .rw [eK hu FO]
  cases c:ent S r with
  | true=>rw[if_pos rfl];have:=hm.le r FO c;omega
  | false=>rw[if_neg A2];exact h.nn r FO
 .cases S with
  | nil=>exact absurd rfl h0
  | cons y t =>
   cases t with
   | cons z t=>simp
   | nil =>
    exfalso
    have hy:y∈ps:=hS.subset AK;obtain⟨x,hx,e⟩:=AL.mp (h.one y hy λz=>hr (by rw[z];exact AK));obtain⟨r,h1,h2⟩:=h.en x hx;rw[show x.1=[y] from e,Gk r h1]at h2;cases h2
def subs:List α->List (List α)
 | []=>[[]]
 | x::t=>subs t++(subs t).map (x::·)
theorem mR:∀l:List α,(subs l).length=2^l.length
 | []=>rfl
 | x::t=>by rw[subs,Bu,AG,mR t,Bd,Nat.pow_succ];omega
theorem jh:∀{l s:List α},s.Sublist l->s∈subs l
 | _,_,.slnil=>by simp[subs]
 | _,_,.cons a h=>by rw[subs];exact A7 _ (jh h)
 | _,_,.cons_cons a h=>by rw[subs];exact AV _ (AL.mpr ⟨_,jh h,rfl⟩)
theorem Rs.few {ps:List α}{root:α}{R:List (Rw ν α)}{cost:ν->Int}{P:List (List α×Int)}{left:ν->Int} (h:Rs ps root R cost P left):P.length<=2^ps.length:=by
 have:=jI h.nd (b:=subs ps) λl hl=>by
  obtain⟨x,hx,e⟩:=AL.mp hl;rw[<- e];exact jh (h.sub x hx)
 rw[AG,mR]at this;exact this
structure Ro (ps:List α) (root:α) (R:List (Rw ν α)) (cost:ν->Int) (D:List α) (P:List (List α×Int)) (left:ν->Int):Prop extends Rs ps root R cost P left where
 lots:P.map (·.1)=D.map λy=>[y]
 nn:∀r∈R,r.2.2∈D->0<=left r.1
theorem Ro.add {ps:List α}{root:α}{R:List (Rw ν α)}{cost:ν->Int}{D:List α}{P:List (List α×Int)}{left:ν->Int} (hu:Uni R) (hl:∀r∈R,r.2.1≠r.2.2) (h:Ro ps root R cost D P left) {y:α}{m:Int} (hy:y∈ps) (hr:y≠root) (hn:y∉D) (hm:Mn R [y] left m) :
  Ro ps root R cost (D++[y]) (P++[([y],m)]) (less R [y] m left):=by
 have FQ:∀{r:Rw ν α},r∈R->(ent [y] r=true ↔ r.2.2=y):=λ{r} FO=>by
  rw[dF];constructor
  .exact λz=>AQ.mp z.1
  .intro z
   refine⟨AQ.mpr z,λq=>hl r FO ?_⟩;rw[AQ.mp q,z]
 have Nr:∀r∈met R left,r.2.2∈D->r∈met R (less R [y] m left):=λr FO hd=>by
  obtain⟨h1,h2⟩:=eY.mp FO;refine eY.mpr ⟨h1,?_⟩;rw[eK hu h1,if_neg]
  .exact h2
  .intro z
   rw[(FQ h1).mp z]at hd;exact hn hd
 have one:∀x∈P,∃d∈D,x.1=[d]:=λx hx=>by
  have:x.1∈D.map λy=>[y]:=by rw[<- h.lots];exact AM hx
  obtain⟨d,hd,e⟩:=AL.mp this;exact⟨d,hd,e.symm⟩
 have Kv:(P++[([y],m)]).map (·.1)=(D++[y]).map λy=>[y]:=by rw[AX,AX,h.lots];rfl
 have IC:∀{Q:List α×Int->Prop},(∀x∈P,Q x)->Q ([y],m)->∀x∈P++[([y],m)],Q x:=λ{Q} a b x hx=>(A1.mp hx).elim (a x) λz=>by rw[AQ.mp z];exact b
 refine⟨⟨λr FO=>?_,?_,IC h.sub (List.singleton_sublist.mpr hy),IC h.ne (by simp),IC h.nr (by simp;exactλz=>hr z.symm),?_,IC (λx hx=>?_) (SC.one y),IC (λx hx=>?_) ?_,IC h.pos (by simp)⟩,Kv,λr FO hd=>?_⟩
 .rw [eK hu FO,lw,h.eq r FO]
  cases c:ent [y] r<;>simp<;>omega
 .rw [AX]
  refine BW.mpr ⟨h.nd,by simp,λa ha b hb=>?_⟩;rw[AQ.mp hb];intro z;rw[h.lots]at ha;obtain⟨d,hd,e⟩:=AL.mp ha;rw[z]at e;have:d=y:=by simpa using e
  exact hn (this ▸ hd)
 .rw [Kv]
  intro A hA B hB;obtain⟨a,_,rfl⟩:=AL.mp hA;obtain⟨b,_,rfl⟩:=AL.mp hB;cases Ci (a=b)with
  | inl z=>rw[z];exact .inl λx hx=>hx
  | inr z=>exact .inr (.inr λx hx hb=>z (by rw[<- AQ.mp hx,<- AQ.mp hb]))
 .obtain⟨d,_,e⟩:=one x hx
  rw[e];exact SC.one d
 .obtain⟨d,hd,e⟩:=one x hx
  obtain⟨r,h1,h2⟩:=h.en x hx;refine⟨r,Nr r h1 ?_,h2⟩;rw[e]at h2;rw[AQ.mp (dF.mp h2).1];exact hd
 .obtain⟨r,h1,h2,h3⟩:=hm.at'
  exact⟨r,eY.mpr ⟨h1,by rw[eK hu h1,if_pos h2,h3];omega⟩,h2⟩
 .rw [eK hu FO]
  cases c:ent [y] r with
  | true=>rw[if_pos rfl];have:=hm.le r FO c;omega
  | false =>
   rw[if_neg A2]
   rcases A1.mp hd with z|z
   .exact h.nn r FO z
   .have:=(FQ FO).mpr (AQ.mp z)
    rw[c]at this;cases this
theorem Ro.start (ps:List α) (root:α) (R:List (Rw ν α)) (cost:ν->Int):Ro ps root R cost [] [] cost:=⟨Rs.start ps root R cost,rfl,by simp⟩
theorem Ro.full {ps:List α}{root:α}{R:List (Rw ν α)}{cost:ν->Int}{D:List α}{P:List (List α×Int)}{left:ν->Int} (h:Ro ps root R cost D P left) (hD:∀y∈ps,y≠root->y∈D) (hR:∀r∈R,r.2.2∈ps/\r.2.2≠root):Rf ps root R cost P left :=
 ⟨h.toRs,λy hy hn=>by rw[h.lots];exact AL.mpr ⟨y,hD y hy hn,rfl⟩,λr hr=>h.nn r hr (hD _ (hR r hr).1 (hR r hr).2)⟩
end
end CP
namespace K52
open PySem L2
def top (i:Nat):Stmt:=PySem.Challenge.pw_rootshares_k52_whole_cheapest_shown.main.body.getD i (.Pass ⟨0,0,0,0⟩)
theorem bO:bootBuiltins "isinstance"=some (.builtin "isinstance"):=by decide +kernel
theorem dM:bootBuiltins "all"=some (.builtin "all"):=by decide +kernel
theorem dE:bootBuiltins "sorted"=some (.builtin "sorted"):=by decide +kernel
theorem oP:bootBuiltins "repr"=some (.builtin "repr"):=by decide +kernel
theorem pQ:bootBuiltins "max"=some (.builtin "max"):=by decide +kernel
theorem jT:bootBuiltins "min"=some (.builtin "min"):=by decide +kernel
theorem iF:bootBuiltins "str"=some (.type "str"):=by decide +kernel
theorem bL:bootBuiltins "tuple"=some (.type "tuple"):=by decide +kernel
theorem ir:bootBuiltins "list"=some (.type "list"):=by decide +kernel
theorem oU:bootBuiltins "bool"=some (.type "bool"):=by decide +kernel
theorem jP:bootBuiltins "int"=some (.type "int"):=by decide +kernel
structure Bl (mg:Str->Option zz9):Prop where
 len:mg "len"=none
 isinstance:mg "isinstance"=none
 all:mg "all"=none
 range:mg "range"=none
 sorted:mg "sorted"=none
 repr:mg "repr"=none
 max:mg "max"=none
 min:mg "min"=none
 str:mg "str"=none
 tuple:mg "tuple"=none
 list:mg "list"=none
 int:mg "int"=none
 set:mg "set"=none
 bool:mg "bool"=none
 zip:mg "zip"=none
 sum:mg "sum"=none
 abs:mg "abs"=none
 dict:mg "dict"=none
 any:mg "any"=none
 lng:∃t,mg "LONGEST_NAME"=some (.int 8 t)
def Fn (P:Program) (w:World) (K:zz7) (mg:Str->Option zz9) (base:Heap) (k:Nat) (x:Str) (ps:List Str) (sp:Sp):Prop :=
 ∃f fd,mg x=some (.ref f)/\PySem.W.keepIn K (.ref f)=true/\Binds K fd ps []/\aF P w K mg base FT k f fd ps sp
theorem aB {X:Cx}{k:Nat}{x:Str}{ps:List Str}{sp:Sp}{e:Expr}{es:List Expr}{t:TA}{p pos:Pos} (F:Fn X.prog X.w X.K X.mg X.base k x ps sp) (hr:aO k X.A) (ha:PA X (e::es) t) (hg:Gl X x:=by rfl)
  (IU:(x==("__debug__":Str))=false:=by decide) (he:starEach (e::es) X.env=(false,eval e X.env)::starEach es X.env:=by rfl) (Ga:(backTo pos (starEach es X.env)).any (·.1)=false:=by rfl) :
  PE X (.Call (.Name x p) (e::es) [] pos) (pS sp [] E0 t):=by
 obtain⟨f,fd,h1,h2,h3,h4⟩:=F;exact v8 h4 hr hg h1 h2 h3 .nil yZ ha IU he Ga
theorem aL {X:Cx}{scope:Scope}{N:List Str}{C:Addr}{s0:zz8}{H0:Hp}{fp:List Addr}{x:Str}{pos:Pos} (i:Nat) (hN:N.Nodup) (hi:N[i]?=some x) (hx:scope.names.lookup x=some .local) :
  PG (aA X scope N C s0 H0 fp) (.Name x pos) (ck i):=
 aY (X:=aA X scope N C s0 H0 fp) hN hi (.inl (lookup_relabel_local hx)) (.inr (lookup_relabel_local hx))
theorem ki {c A B:Prop} [Decidable c] (hc:c) (h:A):if decide c=true then A else B:=by
 rw[decide_eq_true hc];exact be h
theorem ze {c A B:Prop} [Decidable c] (hc:¬ c) (h:B):if decide c=true then A else B:=by
 rw[decide_eq_false hc];exact aG h
theorem pP {c A B:Prop} [Decidable c] (hc:¬ c) (h:A):if (!decide c)=true then A else B:=by
 rw[decide_eq_false hc];exact be h
theorem S6 (a b:Nat):([a]<[b]) ↔ a<b:=by rw[List.cons_lt_cons_iff];simp
structure aK (x:Str):Prop where
 lo:1<=x.length
 hi:x.length<=8
 az:∀c∈x.cps.toList,97<=c/\c<=122
theorem aK.fits {x:Str} (h:aK x):x.length<sizeLine:=by have:=h.hi;rw[Bw];omega
theorem aK.ascii {x:Str} (h:aK x):x.cps.all (·<128)=true:=by
 rw[Array.all_eq_true'];intro c hc;have:=h.az c (by simpa using hc);simp;omega
variable {P:Program}{w:World}{K:zz7}{mg:Str->Option zz9}{base:Heap}{f:Addr}{fd:FuncData}
def jE:Sp:=λvs H Q _=>∃x,vs=[.str x]/\aK x/\∀H',aj H H'->Q (.bl true) H'
theorem Vh:aM ["thing"] ["thing"] (aE (top 8)):=⟨rfl,rfl,rfl,by decide +kernel,rfl,by decide +kernel,by decide +kernel⟩
theorem av {H H':Hp}{p:Addr}{o:HO} (h:aj H H') (hp:H' p=none):aj H (upd H' p o):=λb ob e=>by
 rw[ag (aq (h b ob e) hp)];exact h b ob e
theorem sG (F:FS K "is_name" "is_name" (top 8) f fd) (B:Bl mg):aF P w K mg base FT 1 f fd ["thing"] jE:=by
 refine F.ok Vh (λvs H Q E h=>?_) (λ_ _ _ _ H vs Q E hr h=>?_)
 .obtain⟨x,rfl,_⟩:=h
  rfl
 .obtain⟨x,rfl,hx,k⟩:=h
  obtain⟨tl,hl⟩:=B.lng
  refine⟨_,am (aV (PW.pt (bG (bu (bg (au (bV (T:="str")) rfl B.isinstance bO (aa (pv 0) (aa (bS (v:=.ty "str") rfl B.str iF rfl) ae)))))
    (cf (bu (mL pL pL ai (au qS rfl B.len Bb (aa (pv 0) ae)) (wz (v:=.int 8) rfl hl ⟨_,rfl⟩)))))) (aw (aJ cY)) aU)
   (aw (aJ (au (dC rfl) rfl B.all dM (aa (bo (N:=["letter"]) (ix:=[none]) ⟨rfl,rfl,rfl,by decide⟩ rfl (xH (pv 0)) (λ_ _ _ _=>aL 0 (by decide) rfl rfl) (λ_ _ _ _=>bq)
    (λ_ _ _ _=>vA lE lE eO (pv 0) eO)) ae)))),?_⟩
  refine⟨_,rfl,_,_,true,rfl,.str x,?kit,true,rfl,aG ?_⟩
  case kit=>rfl
  refine⟨_,rfl,x,rfl,Cq hx.fits,_,_,rfl,rfl,_,rfl,ki (by have:=hx.lo;omega) ⟨_,_,rfl,rfl,_,rfl,?_⟩⟩;refine fm (by have:=hx.hi;omega) ?_;refine⟨_,rfl,x,rfl,hx.ascii,vi hx.fits (λi ys σ H1=>ys=List.replicate i (.bl true)/\aj H H1/\∃v,σ=[v]) ⟨rfl,aj.refl _,_,rfl⟩ (λi ys σ H1 _ q=>by rw[q.1];simp) ?_ ?_⟩
  .rintro i c ys σ H1 hc ⟨rfl,hs,v,rfl⟩
   have hcm:=hx.az c (DD.mpr (Array.mem_of_getElem? hc));refine⟨_,rfl,_,_,rfl,rfl,_,rfl,pP ?_ ⟨_,_,rfl,rfl,?_,hs,_,rfl⟩⟩
   .show ¬ ([c]<[97])
    rw[S6];omega
   .have e:(!decide ([122]<[c]))=true:=by rw[decide_eq_false (by rw[S6];omega)];rfl
    show _++[V.bl (!decide ([122]<[c]))]=_;rw[e,B8]
  .rintro ys σ H1 ⟨rfl,hs,v,rfl⟩ p hp
   refine⟨p,List.replicate x.length true,rfl,FF.of (by rw[ak,Cd]),?_⟩;have e:(List.replicate x.length true).all id=true:=by simp
   rw[e];exact k _ (av hs hp)
theorem b6 (K:zz7) {X:Cx} (h:X.K=K:=by rfl):JR X (Pj K):=by subst h;exact aC
theorem ic (K:zz7) {X:Cx} (h:X.K=K:=by rfl):Gs X (compareOp .In) (Oh K false):=by subst h;exact eG
theorem gH (K:zz7) {X:Cx} (h:X.K=K:=by rfl):Gs X (compareOp .NotIn) (Oh K true):=by subst h;exact fW
theorem gh {α:Type}{xs:List α}{z:Int}{j:Nat}{v:α} (hz:z=(j:Int)) (h:xs[j]?=some v):JP xs z=some v:=by subst hz;exact xi h
def Sq (K:zz7) (H:Hp) (p:Addr) (xs:List V):Prop:=FF K H p xs\/FE K H p xs
theorem f7 {K:zz7}{H H':Hp}{a:Addr}{xs:List V} (e:aj H H') (h:FE K H a xs):FE K H' a xs:=by
 rcases h with (h|⟨o,h⟩)|h
 .exact .inl (.inl (e _ _ h))
 .exact .inl (.inr ⟨o,e _ _ h⟩)
 .exact .inr h
theorem Sq.same {K:zz7}{H H':Hp}{a:Addr}{xs:List V} (h:Sq K H a xs) (e:aj H H'):Sq K H' a xs:=h.imp (λz=>e.seq z) λz=>f7 e z
theorem ay {K:zz7}{H:Hp}{p:Addr}{xs:List V}{z:Int}{j:Nat}{v:V}{Q:VK} (h:Sq K H p xs) (hz:z=(j:Int)) (hx:xs[j]?=some v) (q:Q v H):Pj K (.ref p) (.int z) H Q :=
 h.elim (λh=>.inl ⟨p,xs,z,v,rfl,rfl,h,gh hz hx,q⟩) λh=>.inr (.inl ⟨p,xs,z,v,rfl,rfl,h,gh hz hx,q⟩)
theorem fits {n:Nat} (h:n<=1000):n<sizeLine:=tT h
theorem strAt {ss:List Str}{i:Nat} (h:i<ss.length):(ss.map V.str)[i]?=some (.str ss[i]):=by rw[AZ,AJ h];rfl
theorem bM (x:Str) (ss:List Str):Hc (.str x) (ss.map V.str)=decide (x∈ss):=by
 unfold Hc;rw[List.any_map];rw[CI,Ef,decide_eq_true_iff];constructor
 .rintro⟨y,hy,e⟩
  have e':y=x:=by simpa[JN]using e
  exact e' ▸ hy
 .intro h
  exact⟨x,h,by simp[JN]⟩
theorem bK (ss:List Str):(ss.map V.str).all eh=true:=by
 rw[List.all_map,BL];intro y _;rfl
abbrev Row:=Str×Str×Str
def dq (H:Hp) (p:Addr) (r:Row):Prop:=H p=some (.tup [.str r.1,.str r.2.1,.str r.2.2])
abbrev ao (rs:List (Addr×Row)):List V:=rs.map λr=>V.ref r.1
structure bx (H:Hp) (v pa ra:Addr) (ps:List Str) (rs:List (Addr×Row)):Prop where
 tp:H v=some (.tup [.ref pa,.ref ra])
 pl:H pa=some (.tup (ps.map V.str))
 rl:H ra=some (.tup (ao rs))
 rows:∀r∈rs,dq H r.1 r.2
structure Good (ps:List Str) (rs:List Row):Prop where
 ne:ps≠[]
 nm:∀x∈ps,aK x
 so:ps.Pairwise Gb
 rn:∀r∈rs,aK r.1/\r.2.1∈ps/\r.2.2∈ps/\r.2.1≠r.2.2
 rso:(rs.map (·.1)).Pairwise Gb
 pz:ps.length<=100
 rz:rs.length<=60
theorem bx.same {H H':Hp}{v pa ra:Addr}{ps:List Str}{rs:List (Addr×Row)} (h:bx H v pa ra ps rs) (e:aj H H'):bx H' v pa ra ps rs :=
 ⟨e _ _ h.tp,e _ _ h.pl,e _ _ h.rl,λr hr=>e _ _ (h.rows r hr)⟩
def jl (K:zz7):Sp:=λvs H Q _=>∃(p:Addr) (ss:List Str),vs=[.ref p]/\Sq K H p (ss.map V.str)/\ss.Pairwise Gb/\ss.length<=1000/\∀H',aj H H'->Q (.bl true) H'
theorem zu:aM ["names"] ["names"] (aE (top 10)):=⟨rfl,rfl,rfl,by decide +kernel,rfl,by decide +kernel,by decide +kernel⟩
theorem qY (F:FS K "is_rising" "is_rising" (top 10) f fd) (B:Bl mg):aF P w K mg base FT 1 f fd ["names"] (jl K):=by
 refine F.ok zu (λvs H Q E h=>?_) (λ_ _ _ _ H vs Q E hr h=>?_)
 .obtain⟨p,ss,rfl,_⟩:=h
  rfl
 .obtain⟨p,ss,rfl,hq,hp,hz,k⟩:=h
  refine⟨_,aw (aJ (au (dC rfl) rfl B.all dM (aa (bo (N:=["at","names"]) (ix:=[none,some 0]) ⟨rfl,rfl,rfl,by decide⟩ rfl
   (uc rfl B.range (aa ai (aa (au aX rfl B.len Bb (aa (pv 0) ae)) ae))) (λ_ _ _ _=>aL 0 (by decide) rfl rfl) (λ_ _ _ _=>bq)
   (λ_ _ _ _=>bN tM (ax (b6 K) (pv 1) (aP dH (pv 0) ai) (λ_ _=>rfl)) (ax (b6 K) (pv 1) (pv 0) (λ_ _=>rfl)) (aH _))) ae))),?_⟩
  have GK:(ss.map V.str).length<=1000:=by simpa using hz
  refine⟨_,rfl,p,ss.map V.str,rfl,hq,1,_,rfl,⟨by decide,by decide,by omega,by omega⟩,gG (fits (by omega)) (λi ys σ H1=>ys=List.replicate i (.bl true)/\aj H H1/\∃v,σ=[v,some (.ref p)])
   ⟨rfl,aj.refl _,_,rfl⟩ (λi ys σ H1 _ q=>by rw[q.1];simp) ?_ ?_⟩
  .rintro i ys σ H1 hi ⟨rfl,hs,v,rfl⟩
   have hl:i+1<ss.length:=by rw[AG]at hi;omega
   refine⟨_,rfl,_,rfl,_,_,rfl,rfl,ay (j:=i) (hq.same hs) (by omega) (strAt (by omega)) ⟨_,rfl,_,rfl,ay (j:=i+1) (hq.same hs) (by push_cast;omega) (strAt hl) ⟨_,_,rfl,rfl,?_,hs,_,rfl⟩⟩⟩;have e:ss[i].cps.toList<ss[i+1].cps.toList:=A5.mp hp i (i+1) (by omega) hl (by omega);show _++[V.bl (decide (ss[i].cps.toList<ss[i+1].cps.toList))]=_;rw[decide_eq_true e,B8]
  .rintro ys σ H1 ⟨rfl,hs,v,rfl⟩ q Nj
   refine⟨q,List.replicate _ true,rfl,FF.of (by rw[ak,Cd]),?_⟩;have e:∀n:Nat,(List.replicate n true).all id=true:=by simp
   rw[e];exact k _ (av hs Nj)
def lY:Sp:=λvs H Q _=>∃(p:Addr) (ss:List Str),vs=[.ref p]/\H p=some (.tup (ss.map V.str))/\(∀x∈ss,aK x)/\ss.Pairwise Gb/\ss.length<=1000/\∀H',aj H H'->Q (.bl true) H'
theorem zj:aM ["thing"] ["thing"] (aE (top 11)):=⟨rfl,rfl,rfl,by decide +kernel,rfl,by decide +kernel,by decide +kernel⟩
theorem rg (F:FS K "is_sorted_names" "is_sorted_names" (top 11) f fd) (B:Bl mg) (F1:Fn P w K mg base 1 "is_name" ["thing"] jE) (F2:Fn P w K mg base 1 "is_rising" ["names"] (jl K)) :
  aF P w K mg base FT 2 f fd ["thing"] lY:=by
 refine F.ok zj (λvs H Q E h=>?_) (λ_ _ _ _ H vs Q E hr h=>?_)
 .obtain⟨p,ss,rfl,_⟩:=h
  rfl
 .obtain⟨p,ss,rfl,hp,hn,hs,hz,k⟩:=h
  refine⟨_,am (aV (bu (bg (au (bV (T:="tuple")) rfl B.isinstance bO (aa (pv 0) (aa (bS (v:=.ty "tuple") rfl B.tuple bL rfl) ae))))) (aw (aJ cY)) aU)
   (aw (aJ (b8 (au (dC rfl) rfl B.all dM (aa (bo (N:=["name"]) (ix:=[none]) ⟨rfl,rfl,rfl,by decide⟩ rfl (bj (pv 0)) (λ_ _ _ _=>aL 0 (by decide) rfl rfl) (λ_ _ _ _=>bq)
    (λ_ _ _ _=>aB F1 hr (aa (pv 0) ae))) ae)) (cq (aB F2 hr (aa (pv 0) ae)))))),?_⟩
  refine⟨_,rfl,_,_,true,rfl,.tup hp,rfl,true,rfl,aG ?_⟩
  refine⟨_,rfl,p,rfl,⟨_,FE.of hp⟩,cG (xs:=ss.map V.str) (fits (by simpa using hz)) (λi ys σ H1=>ys=List.replicate i (.bl true)/\aj H H1/\∃v,σ=[v]) ⟨rfl,aj.refl _,_,rfl⟩
   (λi ys σ H1 _ q=>⟨by rw[q.1];simp,f7 q.2.1 (FE.of hp)⟩) ?_ ?_⟩
  .rintro i x ys σ H1 hx ⟨rfl,Qk,v,rfl⟩
   obtain⟨y,hy,rfl⟩:∃y∈ss,x=V.str y:=by
    obtain⟨y,e1,e2⟩:=AL.mp (AW hx);exact⟨y,e1,e2.symm⟩
   exact⟨_,rfl,y,rfl,hn y hy,λH2 He=>⟨by rw[B8],Qk.trans He,_,rfl⟩⟩
  .rintro ys σ H1 ⟨rfl,Qk,v,rfl⟩ q Nj
   refine⟨q,List.replicate _ true,rfl,FF.of (by rw[ak,Cd]),_,rfl,?_⟩;have e:∀n:Nat,(List.replicate n true).all id=true:=by simp
   rw[e];have He:=av (o:=.lst (List.replicate (ss.map V.str).length (.bl true))) Qk Nj;exact be ⟨_,rfl,p,ss,rfl,.inr (f7 He (FE.of hp)),hs,hz,λH3 Ts=>k _ (He.trans Ts)⟩
def jn (K:zz7):Sp:=λvs H Q _=>∃(x:Str) (p:Addr) (ss:List Str),vs=[.str x,.ref p]/\Sq K H p (ss.map V.str)/\Q (.bl (decide (x∈ss))) H
theorem zZ:aM ["thing","names"] ["thing","names"] (aE (top 12)):=⟨rfl,rfl,rfl,by decide +kernel,rfl,by decide +kernel,by decide +kernel⟩
theorem rO (F:FS K "is_among" "is_among" (top 12) f fd) (B:Bl mg):aF P w K mg base FT 1 f fd ["thing","names"] (jn K):=by
 refine F.ok zZ (λvs H Q E h=>?_) (λ_ _ _ _ H vs Q E hr h=>?_)
 .obtain⟨x,p,ss,rfl,_⟩:=h
  rfl
 .obtain⟨x,p,ss,rfl,hp,k⟩:=h
  refine⟨_,aw (aJ (b8 (au (bV (T:="str")) rfl B.isinstance bO (aa (pv 0) (aa (bS (v:=.ty "str") rfl B.str iF rfl) ae)))
   (cq (bN eG (pv 0) (pv 1) (by with_unfolding_all rfl))))),?_⟩
  refine⟨_,rfl,_,_,true,rfl,.str x,rfl,true,rfl,be ⟨_,rfl,_,rfl,p,ss.map V.str,rfl,hp,rfl,bK ss,?_⟩⟩;show Q (.bl (Hc (.str x) (ss.map V.str))) H;rw[bM];exact k
def mj:Sp:=λvs H Q _=>∃(p q:Addr) (r:Row) (ps:List Str),vs=[.ref p,.ref q]/\dq H p r/\H q=some (.tup (ps.map V.str))/\aK r.1/\r.2.1∈ps/\r.2.2∈ps/\r.2.1≠r.2.2/\∀H',aj H H'->Q (.bl true) H'
theorem iK:aM ["thing","places","name","start","end"] ["thing","places"] (aE (top 13)):=⟨rfl,rfl,rfl,by decide +kernel,rfl,by decide +kernel,by decide +kernel⟩
theorem qJ (F:FS K "is_tie_row" "is_tie_row" (top 13) f fd) (B:Bl mg) (F1:Fn P w K mg base 1 "is_name" ["thing"] jE) (F2:Fn P w K mg base 1 "is_among" ["thing","names"] (jn K)) :
  aF P w K mg base FT 2 f fd ["thing","places"] mj:=by
 refine F.ok iK (λvs H Q E h=>?_) (λ_ _ _ _ H vs Q E hr h=>?_)
 .obtain⟨p,q,r,ps,rfl,_⟩:=h
  rfl
 .obtain⟨p,q,r,ps,rfl,hp,hq,h1,h2,h3,h4,k⟩:=h
  have IK:H p=some (.tup [.str r.1,.str r.2.1,.str r.2.2]):=hp
  refine⟨_,am (aV (PW.pt (bG (bu (bg (au (bV (T:="tuple")) rfl B.isinstance bO (aa (pv 0) (aa (bS (v:=.ty "tuple") rfl B.tuple bL rfl) ae)))))
    (cf (aI bT (au aX rfl B.len Bb (aa (pv 0) ae)) ai (aH _))))) (aw (aJ cY)) aU)
   (am (eM (pv 0) (dI rfl (n:=3) (ba (aY (i:=2) iK.nd rfl (Or.inl rfl)) (ba (aY (i:=3) iK.nd rfl (Or.inl rfl)) (ba (aY (i:=4) iK.nd rfl (Or.inl rfl)) cH)))))
   (aw (aJ (b8 (aB F1 hr (aa (pv 2) ae)) (b8 (aB F2 hr (aa (pv 3) (aa (pv 1) ae))) (b8 (aB F2 hr (aa (pv 4) (aa (pv 1) ae))) (cq (bN bT (pv 3) (pv 4) (aH _))))))))),?_⟩
  refine⟨_,rfl,_,_,true,rfl,.tup IK,rfl,true,rfl,aG ⟨_,rfl,p,_,rfl,.inr (FE.of IK),rfl,_,rfl,fm rfl ?_⟩⟩;refine⟨_,rfl,p,_,rfl,FE.of IK,rfl,_,_,rfl,_,_,rfl,_,_,rfl,rfl,?_⟩;refine⟨_,rfl,r.1,rfl,h1,λH1 s1=>⟨true,rfl,be ⟨_,rfl,_,rfl,r.2.1,q,ps,rfl,.inr (f7 s1 (FE.of hq)),_,rfl,ki h2 ⟨_,rfl,_,rfl,r.2.2,q,ps,rfl,.inr (f7 s1 (FE.of hq)),_,rfl,ki h3 ⟨_,rfl,_,rfl,rfl,?_⟩⟩⟩⟩⟩;have e:(!decide (V.str r.2.1=V.str r.2.2))=true:=by
   rw[decide_eq_false (λz=>h4 (V.str.inj z))];rfl
  rw[e];exact k H1 s1
theorem fB {α β:Type} (f:α->β) (l:List α) (i:Nat) (x:α) (h:l[i]?=some x):(l.take (i+1)).map f=(l.take i).map f++[f x]:=by
 rw[Br,h];simp
theorem bY {rs:List (Addr×Row)}{i:Nat}{x:V} (h:(ao rs)[i]?=some x):∃r,rs[i]?=some r/\x=.ref r.1:=by
 unfold ao at h;rw[AZ]at h;cases e:rs[i]? with
 | none=>rw[e]at h;cases h
 | some r=>rw[e]at h;exact⟨r,rfl,(Bx h).symm⟩
def iy (r:V):Sp:=λvs H Q _=>∃(v pa ra:Addr) (ps:List Str) (rs:List (Addr×Row)),vs=[.ref v]/\bx H v pa ra ps rs/\Good ps (rs.map (·.2))/\∀H',aj H H'->Q r H'
theorem j8:aM ["thing","places","rows"] ["thing"] (aE (top 14)):=⟨rfl,rfl,rfl,by decide +kernel,rfl,by decide +kernel,by decide +kernel⟩
theorem ux (F:FS K "is_web" "is_web" (top 14) f fd) (B:Bl mg) (F1:Fn P w K mg base 2 "is_sorted_names" ["thing"] lY) (F2:Fn P w K mg base 2 "is_tie_row" ["thing","places"] mj)
  (F3:Fn P w K mg base 1 "is_rising" ["names"] (jl K)):aF P w K mg base FT 3 f fd ["thing"] (iy (.bl true)):=by
 refine F.ok j8 (λvs H Q E h=>?_) (λ_ _ _ _ H vs Q E hr h=>?_)
 .obtain⟨v,pa,ra,ps,rs,rfl,_⟩:=h
  rfl
 .obtain⟨v,pa,ra,ps,rs,rfl,W,G,k⟩:=h
  have GC:aO 1 _:=hr.mono (by decide)
  refine⟨_,am (aV (PW.pt (bG (bu (bg (au (bV (T:="tuple")) rfl B.isinstance bO (aa (pv 0) (aa (bS (v:=.ty "tuple") rfl B.tuple bL rfl) ae)))))
    (cf (aI bT (au aX rfl B.len Bb (aa (pv 0) ae)) ai (aH _))))) (aw (aJ cY)) aU)
   (am (eM (pv 0) (dI rfl (n:=2) (ba (aY (i:=1) j8.nd rfl (Or.inr rfl)) (ba (aY (i:=2) j8.nd rfl (Or.inl rfl)) cH))))
   (am (aV (PW.pt (bG (bu (bg (aB F1 hr (aa (pv 1) ae)))) (bG (aI ef (au aX rfl B.len Bb (aa (pv 1) ae)) ai (aH _))
    (cf (bu (bg (au (bV (T:="tuple")) rfl B.isinstance bO (aa (pv 2) (aa (bS (v:=.ty "tuple") rfl B.tuple bL rfl) ae))))))))) (aw (aJ cY)) aU)
   (aw (aJ (b8 (au (dC rfl) rfl B.all dM (aa (bo (N:=["row","places"]) (ix:=[none,some 1]) ⟨rfl,rfl,rfl,by decide⟩ rfl (bj (pv 2)) (λ_ _ _ _=>aL 0 (by decide) rfl rfl) (λ_ _ _ _=>bq)
    (λ_ _ _ _=>aB F2 hr (aa (pv 0) (aa (pv 1) ae)))) ae))
    (cq (aB F3 GC (aa (bo (N:=["row"]) (ix:=[none]) ⟨rfl,rfl,rfl,by decide⟩ rfl (bj (pv 2)) (λ_ _ _ _=>aL 0 (by decide) rfl rfl) (λ_ _ _ _=>bq)
     (λ_ _ _ _=>ax (b6 K) (pv 0) ai (λ_ _=>rfl))) ae)))))))),?_⟩
  have FJ:(ao rs).length<=1000:=by have:=G.rz;simp at this ⊢;omega
  refine⟨_,rfl,_,_,true,rfl,.tup W.tp,rfl,true,rfl,aG ⟨_,rfl,v,_,rfl,.inr (FE.of W.tp),rfl,_,rfl,fm rfl ?_⟩⟩;refine⟨_,rfl,v,_,rfl,FE.of W.tp,rfl,_,_,rfl,_,_,rfl,rfl,?_⟩;refine⟨_,rfl,pa,ps,rfl,W.pl,G.nm,G.so,by have:=G.pz;omega,λH1 s1=>⟨true,rfl,aG ?_⟩⟩;refine⟨_,rfl,pa,_,rfl,.inr (FE.of (s1 _ _ W.pl)),rfl,_,rfl,ze ?_ ?_⟩
  .intro z
   have z':((ps.map V.str).length:Int)=0:=V.int.inj z;have:ps.length≠0:=λq=>G.ne (Ct.mp q);rw[AG]at z';omega
  refine⟨_,rfl,_,_,true,rfl,.tup (s1 _ _ W.rl),rfl,true,rfl,aG ?_⟩
  refine⟨_,rfl,ra,rfl,⟨_,FE.of (s1 _ _ W.rl)⟩,cG (xs:=ao rs) (fits FJ) (λi ys σ H2=>ys=List.replicate i (.bl true)/\aj H H2/\∃x,σ=[x,some (.ref pa)]) ⟨rfl,s1,_,rfl⟩
   (λi ys σ H2 _ q=>⟨by rw[q.1];simp,FE.of (q.2.1 _ _ W.rl)⟩) ?_ ?_⟩
  .rintro i x ys σ H2 hx ⟨rfl,s2,y,rfl⟩
   obtain⟨r,FO,rfl⟩:=bY hx;have hm:=AW FO;obtain⟨g1,g2,g3,g4⟩:=G.rn r.2 (AM hm);exact⟨_,rfl,_,rfl,r.1,pa,r.2,ps,rfl,s2 _ _ (W.rows r hm),s2 _ _ W.pl,g1,g2,g3,g4,λH3 s3=>⟨by rw[B8],s2.trans s3,_,rfl⟩⟩
  .rintro ys σ H2 ⟨rfl,s2,y,rfl⟩ q Nj
   have s3:=av (o:=.lst (List.replicate (ao rs).length (.bl true))) s2 Nj;refine⟨q,List.replicate _ true,rfl,FF.of (by rw[ak,Cd]),_,rfl,?_⟩;have e:∀n:Nat,(List.replicate n true).all id=true:=by simp
   rw[e]
   refine be ⟨_,rfl,ra,rfl,⟨_,FE.of (s3 _ _ W.rl)⟩,cG (xs:=ao rs) (fits FJ) (λi ys σ H4=>ys=((rs.take i).map λr=>V.str r.2.1)/\aj H H4/\∃x,σ=[x]) ⟨rfl,s3,_,rfl⟩
    (λi ys σ H4 _ q=>⟨by rw[q.1];simp;omega,FE.of (q.2.1 _ _ W.rl)⟩) ?_ ?_⟩
   .rintro i x ys σ H4 hx ⟨rfl,s4,z,rfl⟩
    obtain⟨r,FO,rfl⟩:=bY hx;have hm:=AW FO;exact⟨_,rfl,ay (j:=0) (.inr (FE.of (s4 _ _ (W.rows r hm)))) rfl rfl ⟨(fB _ _ _ _ FO).symm,s4,_,rfl⟩⟩
   .rintro ys σ H4 ⟨rfl,s4,z,rfl⟩ q2 HW
    refine⟨q2,rs.map (·.2.1),rfl,.inl (FF.of (by rw[ak];simp)),?_,by simpa using FJ,λH5 s5=>k _ ((av s4 HW).trans s5)⟩;have:=G.rso;rw[A6]at this;exact this
theorem cF {α:Type} (p:α->Bool) (l:List α) (i:Nat) (x:α) (h:l[i]?=some x):(l.take (i+1)).filter p=(l.take i).filter p++(if p x then [x]else []):=by
 rw[Br,h,EO];simp only[Option.toList_some,Bs,List.filter_nil]
theorem take_all {α:Type} (l:List α) {n:Nat} (h:n=l.length):l.take n=l:=by subst h;exact B3
abbrev nms (rs:List (Addr×Row)):List Str:=rs.map (·.2.1)
theorem zO:aM ["thing"] ["thing"] (aE (top 15)):=⟨rfl,rfl,rfl,by decide +kernel,rfl,by decide +kernel,by decide +kernel⟩
theorem rJ (F:FS K "need_web" "need_web" (top 15) f fd) (F1:Fn P w K mg base 3 "is_web" ["thing"] (iy (.bl true))):aF P w K mg base FT 4 f fd ["thing"] (iy .non):=by
 refine F.ok zO (λvs H Q E h=>?_) (λ_ _ _ _ H vs Q E hr h=>?_)
 .obtain⟨v,pa,ra,ps,rs,rfl,_⟩:=h
  rfl
 .obtain⟨v,pa,ra,ps,rs,rfl,W,G,k⟩:=h
  refine⟨_,aw (aV (bu (bg (aB F1 hr (aa (pv 0) ae)))) bP aU),?_⟩;exact⟨_,rfl,v,pa,ra,ps,rs,rfl,W,G,λH1 s1=>⟨true,rfl,aG (k H1 s1)⟩⟩
def kF:Sp:=λvs H Q _=>∃(v pa ra:Addr) (ps:List Str) (rs:List (Addr×Row)) (x:Str),vs=[.ref v,.str x]/\bx H v pa ra ps rs/\x∈ps/\Q .non H
theorem zX:aM ["web","thing"] ["web","thing"] (aE (top 16)):=⟨rfl,rfl,rfl,by decide +kernel,rfl,by decide +kernel,by decide +kernel⟩
theorem qF (F:FS K "need_place" "need_place" (top 16) f fd) (F1:Fn P w K mg base 1 "is_among" ["thing","names"] (jn K)):aF P w K mg base FT 2 f fd ["web","thing"] kF:=by
 refine F.ok zX (λvs H Q E h=>?_) (λ_ _ _ _ H vs Q E hr h=>?_)
 .obtain⟨v,pa,ra,ps,rs,x,rfl,_⟩:=h
  rfl
 .obtain⟨v,pa,ra,ps,rs,x,rfl,W,hx,k⟩:=h
  refine⟨_,aw (aV (bu (bg (aB F1 hr (aa (pv 1) (aa (ax aC (pv 0) ai (λ_ _=>rfl)) ae))))) bP aU),?_⟩;exact⟨_,rfl,_,rfl,ay (j:=0) (.inr (FE.of W.tp)) rfl rfl ⟨x,pa,ps,rfl,.inr (FE.of W.pl),_,rfl,fm hx k⟩⟩
theorem tX (K:zz7) {X:Cx} (h:X.K=K:=by rfl):bh X (.type "tuple") (λxs H Q=>∃p ys,xs=[.ref p]/\((FF K H p ys/\∀l,H l=none->Q (.ref l) (upd H l (.tup ys)))\/(FE K H p ys/\Q (.ref p) H))):=by subst h;exact dS
theorem lD {α β:Type} (f:α->β):∀(l':List β) (l:List α),l'.Perm (l.map f)->∃Tb:List α,Tb.Perm l/\Tb.map f=l'
 | [],l,h=>by
  have:l=[]:=by simpa using h.length_eq.symm
  subst this;exact⟨[],.refl _,rfl⟩
 | b::t,l,h=>by
  obtain⟨a,ha,rfl⟩:=AL.mp (h.mem_iff.mp AK);obtain⟨u,v,rfl⟩:=ER ha;have h2:(f a::t).Perm (f a::(u++v).map f):=by
   refine h.trans ?_;rw[AX,A8,AX];exact Fq
  obtain⟨w,hw,e⟩:=lD f t (u++v) h2.cons_inv;exact⟨a::w,(hw.cons a).trans Fq.symm,by rw[A8,e]⟩
theorem bZ {ss:List Str} (h:ss.Pairwise Gb):ss.Nodup:=h.imp λ{a b} IW e=>by
 subst e;exact absurd IW (DW _)
theorem xa {rs:List (Addr×Row)} (hn:(nms rs).Nodup) {r:Addr×Row} (h:r∈rs):rs.filter (λx=>decide (x.2.1∈[r.2.1]))=[r]:=by
 induction rs with
 | nil=>cases h
 | cons x t ih =>
  have Hm:=Bj.mp (show(x.2.1::nms t).Nodup from hn)
  rcases AO.mp h with rfl|hm
  .rw [Bs,if_pos (by simp)]
   congr 1
   refine CW.mpr λy hy=>?_;have:y.2.1≠r.2.1:=λe=>Hm.1 (e ▸ AM (f:=λz:Addr×Row=>z.2.1) hy);simpa using this
  .have:x.2.1≠r.2.1:=λe=>Hm.1 (e ▸ AM (f:=λz:Addr×Row=>z.2.1) hm)
   rw[Bs,if_neg (by simpa using this)];exact ih Hm.2 hm
def FV (H:Hp) (p:Addr):Prop:=∃a b,H p=some (.lst [.int a,.int b])/\0<=b/\b<2147483629
def Kp (P:List Addr) (H H':Hp):Prop:=∀b o,H b=some o->b∉P->H' b=some o
theorem Kp.refl (P:List Addr) (H:Hp):Kp P H H:=λ_ _ h _=>h
theorem Kp.trans {P:List Addr}{H H1 H2:Hp} (a:Kp P H H1) (b:Kp P H1 H2):Kp P H H2:=λc o h n=>b c o (a c o h n) n
theorem Kp.mono {P P':List Addr}{H H':Hp} (a:Kp P H H') (h:∀b∈P,b∈P'):Kp P' H H':=λc o e n=>a c o e λz=>n (h c z)
theorem Kp.of_same {P:List Addr}{H H1 H2:Hp} (a:Kp P H H1) (b:aj H1 H2):Kp P H H2:=λc o h n=>b c o (a c o h n)
theorem Kp.inn {P:List Addr}{H H1:Hp}{p:Addr}{o:HO} (a:Kp P H H1) (hp:p∈P):Kp P H (upd H1 p o):=λc ob h n=>by rw[ag (show c≠p fromλz=>n (by rw[z];exact hp))];exact a c ob h n
theorem Kp.new {P:List Addr}{H H1:Hp}{p:Addr}{o:HO} (a:Kp P H H1) (hp:H1 p=none):Kp P H (upd H1 p o):=λc ob h n=>by rw[ag (aq (a c ob h n) hp)];exact a c ob h n
def qd (K:zz7):Sp:=λvs H Q _=>∃(a:Addr) (ns:List Int) (k:Int),vs=[.ref a,.int k]/\FF K H a (ns.map V.int)/\0<=k/\∀c,Q (.int c) H
theorem Ah:aM ["_law_script","_law_k"] ["_law_script","_law_k"] (aE (top 33)):=⟨rfl,rfl,rfl,by decide +kernel,rfl,by decide +kernel,by decide +kernel⟩
theorem yE (F:FS K "_law_at" "_law_at" (top 33) f fd) (B:Bl mg):aF P w K mg base FT 1 f fd ["_law_script","_law_k"] (qd K):=by
 refine F.ok Ah (λvs H Q E h=>?_) (λ_ _ _ _ H vs Q E hr h=>?_)
 .obtain⟨a,ns,k,rfl,_⟩:=h
  rfl
 .obtain⟨a,ns,k,rfl,ha,hk,q⟩:=h
  refine⟨_,am (aV (aI eQ (pv 1) (au aX rfl B.len Bb (aa (pv 0) ae)) (aH _)) (aw (aJ (ax aC (pv 0) (pv 1) (λ_ _=>rfl)))) aU) (aw (aJ ai)),?_⟩;refine⟨_,rfl,_,rfl,a,_,rfl,.inl ha,_,_,rfl,rfl,_,rfl,?_⟩;refine aZ (λc=>?_) (λc=>q 0);have c':k<((ns.map V.int).length:Int):=of_decide_eq_true c;rw[AG]at c';have hl:k.toNat<ns.length:=by omega
  exact⟨_,rfl,_,rfl,ay (j:=k.toNat) (v:=.int ns[k.toNat]) (.inl ha) (by omega) (by rw[AZ,AJ hl];rfl) (q _)⟩
def pE (K:zz7):Sp:=λvs H Q _=>∃(a:Addr) (ns:List Int) (k:Int),vs=[.ref a,.int k]/\FF K H a (ns.map V.int)/\0<=k/\k<=100/\∀q H',aj H H'->H q=none->FV H' q->Q (.ref q) H'
theorem pV:aM ["_law_script","_law_k","_law_cell"] ["_law_script","_law_k"] (aE (top 34)):=⟨rfl,rfl,rfl,by decide +kernel,rfl,by decide +kernel,by decide +kernel⟩
theorem ym (F:FS K "_law_pot" "_law_pot" (top 34) f fd) (B:Bl mg) (F1:Fn P w K mg base 1 "_law_at" ["_law_script","_law_k"] (qd K)):aF P w K mg base FT 2 f fd ["_law_script","_law_k"] (pE K):=by
 refine F.ok pV (λvs H Q E h=>?_) (λ_ _ _ _ H vs Q E hr h=>?_)
 .obtain⟨a,ns,k,rfl,_⟩:=h
  rfl
 .obtain⟨a,ns,k,rfl,ha,hk,hk2,q⟩:=h
  refine⟨_,am (aN (i:=2) pV.nd rfl (Or.inl rfl) (aB F1 hr (aa (pv 0) (aa (pv 1) ae))))
   (aw (aJ (cg (aa (au (lO rfl) rfl B.max pQ (aa ai (aa (aP dH (pv 2) (aP ik ai ai)) ae)))
    (aa (aP d5 (aP dG (aP d5 (pv 2) ai) (aP fM ai (aP dG (pv 1) ai))) ai) ae))))),?_⟩
  refine⟨_,rfl,_,rfl,a,ns,k,rfl,ha,hk,λc=>?_⟩;refine⟨_,rfl,_,_,rfl,rfl,⟨by decide,by decide,by decide⟩,_,_,rfl,rfl,_,_,rfl,?_⟩;refine⟨_,rfl,_,_,rfl,rfl,by show(0:Int)<2147483629;decide,_,rfl,_,_,rfl,rfl,_,_,rfl,rfl,.inl ⟨by decide,by decide⟩,_,_,rfl,rfl,_,_,rfl,rfl,by show(0:Int)<2147483629;decide,by show 2<=sizeLine;decide,λl hl=>?_⟩;exact q l _ (av (aj.refl _) hl) hl ⟨_,_,ak,Ds _ (by decide),C2 _ (by decide)⟩
theorem vn {X:Cx}:Gs X (binaryOp .FloorDiv) (rI (λ_ j=>0<j/\j<2*10^30) λi j=>.int (i / j)):=MU λi j _ _ _ _ _ hc q=>by
 have h1:(0:Int)<j:=hc.1;have h2:j<2*10^30:=hc.2;have h3:j.natAbs<2^9000:=Bc (show j.natAbs<2^101 by omega) (DG (by decide) (by decide))
 exact PyProof.Rows.floordiv_int (by omega) (by rw[EV i (by omega)];exact q) (.inl (PyProof.noPylong_of_log2 (by
  have h0:j.natAbs≠0:=by omega
  exact(Nat.log2_lt h0).mpr h3)))
def dZ:Sp:=λvs H Q _=>∃(p:Addr) (n:Int),vs=[.ref p,.int n]/\FV H p/\0<n/\n<2*10^30/\∀r H',0<=r->r<n->FV H' p->(∀b,b≠p->H' b=H b)->Q (.int r) H'
theorem qp:aM ["_law_pot_here","_law_many","_law_digit"] ["_law_pot_here","_law_many"] (aE (top 35)):=⟨rfl,rfl,rfl,by decide +kernel,rfl,by decide +kernel,by decide +kernel⟩
theorem vY (F:FS K "_law_take" "_law_take" (top 35) f fd):aF P w K mg base FT 1 f fd ["_law_pot_here","_law_many"] dZ:=by
 refine F.ok qp (λvs H Q E h=>?_) (λ_ _ _ _ H vs Q E hr h=>?_)
 .obtain⟨p,n,rfl,_⟩:=h
  rfl
 .obtain⟨p,n,rfl,⟨a,b,hp,XM,KJ⟩,hn,QF,k⟩:=h
  refine⟨_,am (aV (aI fR (ax aC (pv 0) ai (λ_ _=>rfl)) ai (aH _))
    (am (aN (i:=2) qp.nd rfl (Or.inl rfl) (aP d5 (ax aC (pv 0) ai (λ_ _=>rfl)) (pv 1)))
     (am (eM (aP vn (ax aC (pv 0) ai (λ_ _=>rfl)) (pv 1)) (oN (pv 0) ai set_list)) (aw (aJ (pv 2))))) aU)
   (am (eM (aP d5 (aP dG (aP fM (ax aC (pv 0) ai (λ_ _=>rfl)) ai) ai) ai) (oN (pv 0) ai set_list))
   (aw (aJ (aP d5 (aP m4 (aP d5 (aP fM (ax aC (pv 0) ai (λ_ _=>rfl)) (ax aC (pv 0) ai (λ_ _=>rfl))) ai) ai) (pv 1))))),?_⟩
  have hS:Sq K H p [.int a,.int b]:=.inl (FF.of hp);refine⟨_,rfl,ay (j:=0) hS rfl rfl ⟨_,_,rfl,rfl,_,rfl,?_⟩⟩;refine aZ (λc=>?_) (λc=>?_)
  .refine⟨_,rfl,ay (j:=0) hS rfl rfl ⟨_,rfl,_,_,rfl,rfl,hn,?_⟩⟩
   refine⟨_,rfl,ay (j:=0) hS rfl rfl ⟨_,rfl,_,_,rfl,rfl,⟨hn,QF⟩,_,rfl,p,[.int a,.int b],_,0,rfl,rfl,hp,rfl,?_⟩⟩;refine⟨_,rfl,k _ _ (Ds _ (by omega)) (C2 _ hn) ⟨_,_,ak,XM,KJ⟩ λc hc=>ag hc⟩
  .refine⟨_,rfl,ay (j:=1) hS rfl rfl ⟨_,_,rfl,rfl,.inl ⟨by omega,by omega⟩,_,_,rfl,rfl,_,_,rfl,rfl,by show(0:Int)<2147483629;decide,_,rfl,p,[.int a,.int b],_,1,rfl,rfl,hp,rfl,?_⟩⟩
   have m0:0<=(b*39373+7919)%2147483629:=Ds _ (by decide);have m1:(b*39373+7919)%2147483629<2147483629:=C2 _ (by decide);have GV:Sq K (upd H p (.lst ([V.int a,V.int b].set 1 (.int ((b*39373+7919)%2147483629))))) p [.int a,.int ((b*39373+7919)%2147483629)]:=.inl (FF.of ak);refine⟨_,rfl,ay (j:=1) GV rfl rfl ⟨_,rfl,ay (j:=1) GV rfl rfl ⟨_,_,rfl,rfl,.inl ⟨by omega,by omega⟩,_,_,rfl,rfl,by show(0:Int)<2147483563;decide,_,_,rfl,rfl,⟨by decide,by decide⟩,_,rfl,_,_,rfl,rfl,hn,?_⟩⟩⟩;exact k _ _ (Ds _ (by omega)) (C2 _ hn) ⟨_,_,ak,m0,m1⟩ λc hc=>ag hc
def eI:Str:=Str.ofString "abcdefghijklmnopqrstuvwxyz"
theorem rK:∀r:_root_.Fin 26,eI.cps.toList[r.val]?=some (97+r.val):=by decide +kernel
theorem iV {r:Nat} (h:r<26):eI.cps.toList[r]?=some (97+r):=rK ⟨r,h⟩
theorem iQ:eI.length<=sizeLine:=by decide
theorem join_one (cs:List Nat):(Txt.join (Str.ofString "") (cs.map λc=>(⟨#[c]⟩:Str))).cps.toList=cs:=by
 have e0:(Str.ofString "").cps=#[]:=by decide
 show(Builtin.Str.glued (Str.ofString "") _).cps.toList=cs;rw[StrLaws.glued_eq_join]
 induction cs with
 | nil=>rfl
 | cons c t ih =>
  cases t with
  | nil=>rfl
  | cons d r =>
   show(((⟨#[c]⟩:Str)++Str.ofString ""++Str.join (Str.ofString "") ((d::r).map λc=>(⟨#[c]⟩:Str))).cps).toList=_;rw[EH,EH,e0,Dj,Dj,ih];rfl
theorem ug (x:Str):∀c∈(Txt.slice x none (some 6)).cps.toList,c∈x.cps.toList:=by
 intro c hc;unfold Txt.slice at hc;split at hc
 .exact hc
 .simp only[EJ]at hc
  obtain⟨i,_,e⟩:=hc;simpa using Array.mem_of_getElem? e
theorem lN (x:Str):(Txt.slice x none (some 6)).length<=6:=by
 by_cases h:6<=x.length
 .have e:=eq_of_beq (PyProof.Rows.slice_closes_toL (x:=x) (j:=6) (by decide) (by omega))
  rw[e];simp[Str.length];omega
 .exact Be (Ey x _ _) (by omega)
def ez (x:Str) (m:Nat):Str:=Txt.slice x none (some 6)++(⟨#[97+m / 26]⟩:Str)++(⟨#[97+m%26]⟩:Str)
theorem kP (x:Str) (m:Nat):(ez x m).cps.toList=(Txt.slice x none (some 6)).cps.toList++[97+m / 26,97+m%26]:=by
 unfold ez;rw[EH,EH,Dj,Dj];simp
theorem vF (x:Str) {m n:Nat} (h:ez x m=ez x n):m=n:=by
 have e:=congrArg (λs:Str=>s.cps.toList) h;simp only[kP]at e;have e2:=List.append_cancel_left e;simp at e2;omega
theorem aK.of_codes {x:Str}{l:List Nat} (e:x.cps.toList=l) (h1:1<=l.length) (h8:l.length<=8) (h:∀c∈l,97<=c/\c<=122):aK x:=by
 have hl:x.length=l.length:=by rw[<- e];simp[Str.length]
 exact⟨by omega,by omega,by rw[e];exact h⟩
theorem ur {x:Str} (hx:aK x) {m:Nat} (hm:m<676):aK (ez x m):=by
 refine aK.of_codes (kP x m) (by simp) ?_ ?_
 .have:=lN x
  simp[Str.length]at this ⊢;omega
 .intro c hc
  rcases A1.mp hc with z|z
  .exact hx.az c (ug x c z)
  .simp at z
   omega
theorem o8 {α:Type}:∀(l m:List α),l.Nodup->(∀x∈l,x∈m)->l.length<=m.length
 | [],_,_,_=>Bi _
 | x::t,m,hn,h=>by
  obtain⟨u,v,rfl⟩:=ER (h x AK);have Hm:=Bj.mp hn;have:=o8 t (u++v) Hm.2 λy hy=>by
   have PM:=h y (AR _ hy)
   rcases A1.mp PM with z|z
   .exact A7 _ z
   .rcases AO.mp z with e|z
    .exact absurd (e ▸ hy) Hm.1
    .exact AV _ z
  simp at this ⊢;omega
abbrev cands (x:Str) (n:Nat):List Str:=(List.range n).map (ez x)
theorem sI (x:Str) (ss:List Str):∃y r,(cands x (ss.length+1)).filter (λz=>!decide (z∈ss))=y::r:=by
 cases e:(cands x (ss.length+1)).filter (λz=>!decide (z∈ss))with
 | cons y r=>exact⟨y,r,rfl⟩
 | nil =>
  have h:=CW.mp e;have nd:(cands x (ss.length+1)).Nodup:=by
   refine B6.mpr ?_;exact Fj.imp λ{a b} IW z=>IW (vF x z)
  have:=o8 (cands x (ss.length+1)) ss nd λz hz=>by simpa using h z hz
  simp at this;omega
theorem iq {H:Hp}{p t:Addr}{ss:List Str} (h1:FV H p) (h2:H t=some (.lst (ss.map V.str))):t≠p:=by
 rintro rfl;obtain⟨a,b,e,_⟩:=h1;rw[e]at h2;have h3:=HO.lst.inj (Bx h2);cases ss with
 | nil=>cases h3
 | cons x r=>rw[A8]at h3;cases EZ h3 |>.1
theorem qw {α:Type} (f:Nat->α) (i:Nat):(List.range (i+1)).map f=(List.range i).map f++[f i]:=by rw[Fz,AX];rfl
def iH:Sp:=λvs H Q _=>∃(p t:Addr) (ss:List Str),vs=[.ref p,.ref t]/\FV H p/\H t=some (.lst (ss.map V.str))/\ss.length<=600 /\
 ∀x H',aK x->x∉ss->FV H' p->H' t=some (.lst ((ss++[x]).map V.str))->Kp [p,t] H H'->Q (.str x) H'
abbrev Yr:List Str:=["_law_pot_here","_law_taken","_law_letters","_law_name_here","_law_some"]
theorem gx:aM Yr ["_law_pot_here","_law_taken"] (aE (top 36)):=⟨rfl,rfl,rfl,by decide +kernel,rfl,by decide +kernel,by decide +kernel⟩
theorem v7 (F:FS K "_law_name" "_law_name" (top 36) f fd) (B:Bl mg) (Ft:Fn P w K mg base 1 "_law_take" ["_law_pot_here","_law_many"] dZ):aF P w K mg base FT 2 f fd ["_law_pot_here","_law_taken"] iH:=by
 refine F.ok gx (λvs H Q E h=>?_) (λ_ _ _ _ H vs Q E hr h=>?_)
 .obtain⟨p,t,ss,rfl,_⟩:=h
  rfl
 .obtain⟨p,t,ss,rfl,hp,ht,hz,k⟩:=h
  have Hz:=iq hp ht
  refine⟨_,am (aN (i:=2) gx.nd rfl (Or.inr rfl) eO)
   (am (aN (i:=3) gx.nd rfl (Or.inr rfl) (da PySem.F.plainAttrs_str PySem.F.slot_str_join PySem.F.type_str_join wK eO (aa (bo (N:=["_law_k","_law_letters","_law_pot_here"]) (ix:=[none,some 2,some 0]) ⟨rfl,rfl,rfl,by decide⟩ rfl
    (fC rfl B.range (aa (aP dG ai (aP fM (aB Ft hr (aa (pv 0) (aa ai ae))) (aB Ft hr (aa (pv 0) (aa ai ae))))) ae)) (λ_ _ _ _=>aL 0 (by decide) rfl rfl) (λ_ _ _ _=>bq)
    (λ_ _ _ _=>ax (b6 K) (pv 1) (aB Ft hr (aa (pv 2) (aa ai ae))) (λ_ _=>rfl))) ae)))
   (am (aV (aI eG (pv 3) (pv 1) (by with_unfolding_all rfl))
    (am (dX (i:=4) (N:=["_law_k","_law_letters","_law_name_here"]) (ix:=[none,some 2,some 3]) gx.nd rfl (Or.inl rfl) ⟨rfl,rfl,rfl,by decide⟩ rfl (fC rfl B.range (aa (aP dG (au aX rfl B.len Bb (aa (pv 1) ae)) ai) ae))
      (λ_ _ _ _=>aL 0 (by decide) rfl rfl) (λ_ _ _ _=>bq)
      (λ_ _ _ _=>aP kL (aP kL (uN xX (pv 2) wH (vT ai)) (ax (b6 K) (pv 1) (aP m4 (pv 0) ai) (λ_ _=>rfl))) (ax (b6 K) (pv 1) (aP d5 (pv 0) ai) (λ_ _=>rfl))))
     (aw (aN (i:=3) gx.nd rfl (Or.inr rfl) (ax aC (bo (N:=["_law_one","_law_taken"]) (ix:=[none,some 1]) ⟨rfl,rfl,rfl,by decide⟩ rfl (cn (pv 4)) (λ_ _ _ _=>aL 0 (by decide) rfl rfl)
      (λ_ _ _ _=>cQ (aI (gH K) (pv 0) (pv 1) (by with_unfolding_all rfl))) (λ_ _ _ _=>pv 0)) ai (λ_ _=>rfl))))) aU)
   (am (b7 (da BI BM BN dD (pv 1) (aa (pv 3) ae)))
   (aw (aJ (pv 3)))))),?_⟩
  refine⟨rfl,_,rfl,p,2,rfl,hp,by decide,by decide,λr1 H1 a0 a1 P1 e1=>⟨_,rfl,p,8,rfl,P1,by decide,by decide,λr2 H2 b0 b1 P2 e2=>?_⟩⟩;have hj:0<=r1*r2/\r1*r2<=7:=by
   have:r1=0\/r1=1:=by omega
   rcases this with rfl|rfl<;>omega
  have Yb:∀b,b≠p->H2 b=H b:=λb hb=>(e2 b hb).trans (e1 b hb);refine⟨_,_,rfl,rfl,.inl ⟨by omega,by omega⟩,_,_,rfl,rfl,_,rfl,by omega,by omega,?_⟩;refine gG (fits (by omega)) (λi ys σ H3=>(∃cs:List Nat,cs.length=i/\(∀c∈cs,97<=c/\c<=122)/\ys=cs.map λc=>V.str ⟨#[c]⟩)/\FV H3 p/\(∀b,b≠p->H3 b=H b)/\∃x,σ=[x,some (.str eI),some (.ref p)])
   ⟨⟨[],rfl,by simp,rfl⟩,P2,Yb,_,rfl⟩ (λi ys σ H3 _ q=>by obtain⟨⟨cs,rfl,_,rfl⟩,_⟩:=q;simp) ?_ ?_
  .rintro i ys σ H3 hi ⟨⟨cs,rfl,NJ,rfl⟩,P3,e3,v,rfl⟩
   refine⟨_,rfl,_,rfl,p,26,rfl,P3,by decide,by decide,λr H4 r0 r1 P4 e4=>.inr (.inr ⟨eI,r,97+r.toNat,rfl,rfl,iQ,gh (j:=r.toNat) (by omega) (iV (by omega)),⟨cs++[97+r.toNat],by simp,λc hc=>?_,by simp⟩,P4,λb hb=>(e4 b hb).trans (e3 b hb),_,rfl⟩)⟩
   rcases A1.mp hc with z|z
   .exact NJ c z
   .simp at z
    omega
  .rintro ys σ H3 ⟨⟨cs,FJ,NJ,rfl⟩,P3,e3,v,rfl⟩ q hq
   have hn:q≠p:=by rintro rfl;obtain⟨_,_,e,_⟩:=P3;rw[hq]at e;cases e
   have hx:aK (Txt.join (Str.ofString "") (cs.map λc=>(⟨#[c]⟩:Str))):=aK.of_codes (join_one cs) (by rw[FJ];omega) (by rw[FJ];omega) NJ;have QK:(cs.map λc=>V.str ⟨#[c]⟩)=(cs.map λc=>(⟨#[c]⟩:Str)).map V.str:=by rw[A6];rfl
   refine⟨Str.ofString "",q,cs.map λc=>(⟨#[c]⟩:Str),rfl,rfl,FF.of (by rw[ak,QK]),?_,?_⟩
   .have hs:∀l:List Nat,((l.map λc=>(⟨#[c]⟩:Str)).map (·.length)).sum=l.length:=λl=>by
     induction l with
     | nil=>rfl
     | cons c r ih=>simp only[A8,CB,ih,Bd];show 1+r.length=_;omega
    have e0:(Str.ofString "").length=0:=by decide
    rw[hs,e0];omega
   generalize Txt.join (Str.ofString "") (cs.map λc=>(⟨#[c]⟩:Str))=x at hx ⊢;have P4:FV (upd H3 q (.lst (cs.map λc=>V.str ⟨#[c]⟩))) p:=by obtain⟨a,b,e,h⟩:=P3;exact⟨a,b,by rw[ag hn.symm];exact e,h⟩
   have K4:Kp [p,t] H (upd H3 q (.lst (cs.map λc=>V.str ⟨#[c]⟩))):=Kp.new (λb o e n=>by rw[e3 b (λz=>n (by rw[z];simp))];exact e) hq;have t4:upd H3 q (.lst (cs.map λc=>V.str ⟨#[c]⟩)) t=some (.lst (ss.map V.str)):=by
    rw[ag (by rintro rfl;rw[e3 _ Hz,ht]at hq;cases hq),e3 t Hz];exact ht
   generalize upd H3 q (.lst (cs.map λc=>V.str ⟨#[c]⟩))=H4 at P4 K4 t4 ⊢;have Sa:=iq P4 t4;refine⟨_,rfl,_,rfl,t,ss.map V.str,rfl,.inl (FF.of t4),rfl,bK ss,_,rfl,?_⟩;show if Hc (.str x) (ss.map V.str)=true then _ else _;rw[bM];refine aZ (λc=>?_) (λc=>?_)
   .refine⟨_,rfl,t,_,rfl,.inl (FF.of t4),_,_,rfl,rfl,_,rfl,by omega,by rw[AG];omega,?_⟩
    have QE:((((ss.map V.str).length:Nat):Int)+1).toNat=ss.length+1:=by rw[AG];omega
    rw[QE];refine gG (fits (by omega)) (λi ys σ H5=>ys=(cands x i).map V.str/\H5=H4/\∃v,σ=[v,some (.str eI),some (.str x)]) ⟨rfl,rfl,_,rfl⟩ (λi ys σ H5 _ q=>by rw[q.1];simp) ?_ ?_
    .rintro i ys σ H5 hi ⟨rfl,rfl,v,rfl⟩
     have l1:=lN x;refine⟨_,rfl,_,rfl,x,rfl,Cq hx.fits,_,rfl,_,rfl,_,_,rfl,rfl,⟨by decide,by decide⟩,.inr (.inr ⟨eI,_,97+i / 26,rfl,rfl,iQ,gh (j:=i / 26) (by omega) (iV (by omega)),_,_,rfl,rfl,?_,?_⟩)⟩
     .show (Txt.slice x none (some 6)).length+1<=sizeLine
      rw[Bw];omega
     refine⟨_,rfl,_,rfl,_,_,rfl,rfl,by show(0:Int)<26;decide,.inr (.inr ⟨eI,_,97+i%26,rfl,rfl,iQ,gh (j:=i%26) (by omega) (iV (by omega)),_,_,rfl,rfl,?_,?_,rfl,_,rfl⟩)⟩
     .rw [Cu]
      show(Txt.slice x none (some 6)).length+1+1<=sizeLine;rw[Bw];omega
     .rw [cands,cands,qw,AX];rfl
    .rintro ys σ H5 ⟨rfl,rfl,v,rfl⟩ q2 HW
     have t5:upd H5 q2 (.lst ((cands x (ss.length+1)).map V.str)) t=some (.lst (ss.map V.str)):=by rw[ag (aq t4 HW)];exact t4
     have P5:FV (upd H5 q2 (.lst ((cands x (ss.length+1)).map V.str))) p:=by
      obtain⟨a,b,e,h⟩:=P4;exact⟨a,b,by rw[ag (aq e HW)];exact e,h⟩
     have K5:=K4.new (o:=.lst ((cands x (ss.length+1)).map V.str)) HW;have c5:upd H5 q2 (.lst ((cands x (ss.length+1)).map V.str)) q2=some (.lst ((cands x (ss.length+1)).map V.str)):=ak;generalize upd H5 q2 (.lst ((cands x (ss.length+1)).map V.str))=H6 at t5 P5 K5 c5 ⊢
     refine⟨_,rfl,q2,rfl,⟨_,FF.of c5⟩,eW (xs:=(cands x (ss.length+1)).map V.str) (fits (by simp;omega)) (λi ys σ H7=>ys=(((cands x (ss.length+1)).take i).filter λz=>!decide (z∈ss)).map V.str/\H7=H6/\∃v,σ=[v,some (.ref t)])
      ⟨rfl,rfl,_,rfl⟩ (λi ys σ H7 _ q=>⟨by rw[q.1,AG];exact Be (Bg _ _) (by simp;omega),by rw[q.2.1];exact FF.of c5⟩) ?_ ?_⟩
     .rintro i y ys σ H7 hy ⟨rfl,rfl,v,rfl⟩
      rw[AZ]at hy;cases hc:(cands x (ss.length+1))[i]? with
      | none=>rw[hc]at hy;cases hy
      | some z =>
       rw[hc]at hy;cases hy;have tf:=cF (λz:Str=>!decide (z∈ss)) (cands x (ss.length+1)) i z hc;refine⟨_,rfl,_,rfl,t,ss.map V.str,rfl,.inl (FF.of t5),rfl,bK ss,_,rfl,?_⟩;show if (!Hc (.str z) (ss.map V.str))=true then _ else _;rw[bM];refine aZ (λc=>⟨_,rfl,?_,rfl,_,rfl⟩) (λc=>⟨?_,rfl,_,rfl⟩)
       .rw [tf,c];simp
       .rw [tf];simp only[Cf]at c;rw[c];simp
     .rintro ys σ H7 ⟨rfl,rfl,v,rfl⟩ q3 HM
      rw[take_all (cands x (ss.length+1)) (by simp)];obtain⟨y,r,ey⟩:=sI x ss;rw[ey];have hy:y∈(cands x (ss.length+1)).filter (λz=>!decide (z∈ss)):=by rw[ey];exact AK
      obtain⟨WK,Il⟩:=AS.mp hy;obtain⟨m,hm,rfl⟩:=AL.mp WK;have TK:=BO.mp hm;refine ay (j:=0) (.inl (FF.of ak)) rfl rfl ?_;have t7:upd H7 q3 (.lst ((ez x m::r).map V.str)) t=some (.lst (ss.map V.str)):=by rw[ag (aq t5 HM)];exact t5
      have P7:FV (upd H7 q3 (.lst ((ez x m::r).map V.str))) p:=by
       obtain⟨a,b,e,h⟩:=P5;exact⟨a,b,by rw[ag (aq e HM)];exact e,h⟩
      have K7:=K5.new (o:=.lst ((ez x m::r).map V.str)) HM;refine⟨_,rfl,.inl ⟨rfl,_,FF.of t7⟩,_,rfl,t,ss.map V.str,_,rfl,rfl,t7,by rw[AG];exact fits (by omega),?_⟩;refine⟨_,rfl,k _ _ (ur hx (by omega)) (by simpa using Il) ?_ (by rw[ak,AX];rfl) (K7.inn (by simp))⟩;obtain⟨a,b,e,h⟩:=P7;exact⟨a,b,by rw[ag Sa.symm];exact e,h⟩
   .simp only[decide_eq_true_eq]at c
    refine⟨_,rfl,.inl ⟨rfl,_,FF.of t4⟩,_,rfl,t,ss.map V.str,_,rfl,rfl,t4,by rw[AG];exact fits (by omega),?_⟩;refine⟨_,rfl,k _ _ hx c ?_ (by rw[ak,AX];rfl) (K4.inn (by simp))⟩;obtain⟨a,b,e,h⟩:=P4;exact⟨a,b,by rw[ag Sa.symm];exact e,h⟩
theorem lj:∀(r:List Str) (x:Str),PyProof.Rows.risingS x r=true->(x::r).Nodup->(x::r).Pairwise Gb
 | [],x,_,_=>by simp
 | y::r,x,h,hn=>by
  have h':(!PySem.Spec.ltCps y.cps.toList x.cps.toList&&PyProof.Rows.risingS y r)=true:=h;rw[B9,PyProof.Rows.ltCps_eq]at h';have Hm:=Bj.mp hn;have ih:=lj r y h'.2 Hm.2;have Th:Gb x y:=by
   rcases jB (λe=>Hm.1 (e ▸ AK):x≠y)with z|z
   .exact z
   .rw [decide_eq_true z]at h'
    exact absurd h'.1 (by simp)
  refine DT.mpr ⟨λz hz=>?_,ih⟩
  rcases AO.mp hz with rfl|hz
  .exact Th
  .exact EX Th ((DT.mp ih).1 z hz)
theorem dW {ss:List Str} (h:PyProof.Rows.sortedS ss=true) (hn:ss.Nodup):ss.Pairwise Gb:=by
 cases ss with
 | nil=>exact .nil
 | cons x r=>exact lj r x h hn
theorem Kp.free {P:List Addr}{H H':Hp} (k:Kp P H H') (hP:∀b∈P,∃o,H' b=some o) {q:Addr} (hq:H' q=none):H q=none:=by
 cases e:H q with
 | none=>rfl
 | some o =>
  by_cases hm:q∈P
  .obtain⟨o',e'⟩:=hP q hm
   rw[hq]at e';cases e'
  .rw [k q o e hm]at hq;cases hq
theorem FV.some {H:Hp}{p:Addr} (h:FV H p):∃o,H p=some o:=let ⟨a,b,e,_⟩:=h;⟨_,e⟩
theorem FV.keep {H H':Hp}{p:Addr} (h:FV H p) (e:∀o,H p=Option.some o->H' p=Option.some o):FV H' p:=let ⟨a,b,q,r⟩:=h;⟨a,b,e _ q,r⟩
def mm:Sp:=λvs H Q _=>∃(p:Addr) (n:Int),vs=[.ref p,.int n]/\FV H p/\0<n/\n<=8 /\
 ∀(q:Addr) (ps:List Str) (H':Hp),FV H' p->H' q=some (.lst (ps.map V.str))->H q=none->(∀x∈ps,aK x)->ps.Pairwise Gb->1<=ps.length->ps.length<=8->Kp [p] H H'->Q (.ref q) H'
theorem j7:aM ["_law_pot_here","_law_most","_law_taken","_law_k"] ["_law_pot_here","_law_most"] (aE (top 39)):=⟨rfl,rfl,rfl,by decide +kernel,rfl,by decide +kernel,by decide +kernel⟩
theorem tY (F:FS K "_law_places" "_law_places" (top 39) f fd) (B:Bl mg) (Ft:Fn P w K mg base 1 "_law_take" ["_law_pot_here","_law_many"] dZ) (Fm:Fn P w K mg base 2 "_law_name" ["_law_pot_here","_law_taken"] iH) :
  aF P w K mg base FT 3 f fd ["_law_pot_here","_law_most"] mm:=by
 refine F.ok j7 (λvs H Q E h=>?_) (λ_ _ _ _ H vs Q E hr h=>?_)
 .obtain⟨p,n,rfl,_⟩:=h
  rfl
 .obtain⟨p,n,rfl,hp,hn,hn8,k⟩:=h
  have GC:aO 1 _:=hr.mono (by decide)
  refine⟨_,am (aN (i:=2) j7.nd rfl (Or.inl rfl) (cg ae))
   (am (cj BC rfl (fC rfl B.range (aa (aP dG ai (aB Ft GC (aa (pv 0) (aa (pv 1) ae)))) ae)) (aY (i:=3) j7.nd rfl (Or.inl rfl)) (aw (b7 (aB Fm hr (aa (pv 0) (aa (pv 2) ae))))))
   (aw (aJ (au gF rfl B.sorted dE (aa (pv 2) ae))))),?_⟩
  refine⟨by show 0<=sizeLine;exact Bi _,λt ht=>?_⟩;have Hz:t≠p:=λz=>by obtain⟨o,e⟩:=hp.some;rw[<- z,ht]at e;cases e
  have Nm:FV (upd H t (.lst [])) p:=hp.keep λo e=>by rw[ag Hz.symm];exact e
  refine⟨_,rfl,_,rfl,p,n,rfl,Nm,hn,by omega,λr H1 r0 r1 P1 e1=>?_⟩;have t1:H1 t=some (.lst []):=by rw[e1 t Hz,ak]
  have K1:Kp [p,t] H H1:=λb o e nb=>by
   rw[e1 b (λz=>nb (by rw[z];simp)),ag (aq e ht)];exact e
  refine⟨_,_,rfl,rfl,_,rfl,by omega,by omega,i7 (λi σ H2=>∃(ss:List Str) (v:Option V),σ=[some (.ref p),some (.int n),some (.ref t),v]/\FV H2 p/\H2 t=some (.lst (ss.map V.str))/\ss.length=i/\ss.Nodup/\(∀x∈ss,aK x)/\Kp [p,t] H H2)
   ⟨[],none,rfl,P1,t1,rfl,Dz,by simp,K1⟩ ?_ ?_⟩
  .rintro i σ H2 hi ⟨ss,v,rfl,P2,t2,hl,nd,JI,K2⟩
   refine⟨_,rfl,_,rfl,p,t,ss,rfl,P2,t2,by omega,λx H3 hx Lm P3 t3 K3=>⟨ss++[x],_,rfl,P3,t3,by simp[hl],BW.mpr ⟨nd,by simp,λa ha b hb=>?_⟩,λy hy=>?_,K2.trans K3⟩⟩
   .have e:b=x:=by simpa using hb
    subst e;exactλz=>Lm (z ▸ ha)
   .rcases A1.mp hy with z|z
    .exact JI y z
    .have e:y=x:=by simpa using z
     subst e;exact hx
  .rintro σ H2 ⟨ss,v,rfl,P2,t2,hl,nd,JI,K2⟩
   refine⟨_,rfl,t,ss,rfl,FF.of t2,by omega,λFZ q FY GX hq=>?_⟩;have VS:FZ.Nodup:=FY.nodup_iff.mpr nd;have Jw:FZ.length=ss.length:=FY.length_eq;refine k q FZ _ (P2.keep λo e=>by rw[ag (aq e hq)];exact e) ak (K2.free (λb hb=>?_) hq) (λx hx=>JI x (FY.mem_iff.mp hx)) (dW GX VS) (by omega) (by omega) (λb o e nb=>?_)
   .rcases AO.mp hb with rfl|hb
    .exact P2.some
    .have e:b=t:=by simpa using hb
     subst e;exact⟨_,t2⟩
   .have LF:b≠t:=aq e ht
    have:=K2 b o e (by simp at nb ⊢;exact⟨nb,LF⟩);rw[ag (aq this hq)];exact this
structure bz (H:Hp) (rw tk:Addr) (rs:List (Addr×Row)):Prop where
 rl:H rw=some (.lst (ao rs))
 tl:H tk=some (.lst ((nms rs).map V.str))
 rows:∀r∈rs,dq H r.1 r.2
structure GR (ps:List Str) (rs:List (Addr×Row)):Prop where
 nd:(nms rs).Nodup
 ok:∀r∈rs,aK r.2.1/\r.2.2.1∈ps/\r.2.2.2∈ps/\r.2.2.1≠r.2.2.2
theorem tup_ne {H:Hp}{a b:Addr}{xs ys:List V} (h1:H a=some (.tup xs)) (h2:H b=some (.lst ys)):a≠b:=jZ h1 h2 (by intro z;cases z)
theorem eN {H H':Hp}{P:List Addr}{b:Addr}{xs:List V} (k:Kp P H H') (hP:∀c∈P,∃ys,H c=some (.lst ys)) (e:H b=some (.tup xs)):H' b=some (.tup xs):=
 k b _ e λhb=>by
  obtain⟨ys,e'⟩:=hP b hb;exact tup_ne e e' rfl
theorem FV.lst {H:Hp}{p:Addr} (h:FV H p):∃ys,H p=Option.some (HO.lst ys):=let ⟨a,b,e,_⟩:=h;⟨_,e⟩
theorem bz.kp {H H':Hp}{rw tk:Addr}{rs:List (Addr×Row)}{P:List Addr} (R:bz H rw tk rs) (k:Kp P H H') (hP:∀c∈P,∃ys,H c=some (.lst ys)) (h1:rw∉P) (h2:tk∉P):bz H' rw tk rs :=
 ⟨k _ _ R.rl h1,k _ _ R.tl h2,λr hr=>eN k hP (R.rows r hr)⟩
theorem bz.new {H:Hp}{rw tk q:Addr}{o:HO}{rs:List (Addr×Row)} (R:bz H rw tk rs) (hq:H q=none):bz (upd H q o) rw tk rs :=
 R.kp (P:=[]) (Kp.new (Kp.refl _ _) hq) (by simp) (by simp) (by simp)
theorem bz.off {H:Hp}{rw tk q:Addr}{o:HO}{ys:List V}{rs:List (Addr×Row)} (R:bz H rw tk rs) (h1:rw≠q) (h2:tk≠q) (hq:H q=some (.lst ys)):bz (upd H q o) rw tk rs :=
 R.kp (P:=[q]) (Kp.inn (Kp.refl _ _) (by simp)) (λc hc=>by have e:c=q:=(by simpa using hc);subst e;exact⟨ys,hq⟩) (by simpa using h1) (by simpa using h2)
theorem bz.add {H H2:Hp}{p rw tk n:Addr}{rs:List (Addr×Row)}{x a b:Str} (R:bz H rw tk rs) (hp:FV H p) (n1:rw≠p) (n2:rw≠tk) (K2:Kp [p,tk] H H2) (t2:H2 tk=some (.lst ((nms rs++[x]).map V.str))) (hn:H2 n=none) :
  bz (upd (upd H2 n (.tup [.str x,.str a,.str b])) rw (.lst (ao rs++[.ref n]))) rw tk (rs++[(n,(x,a,b))]):=by
 have hP:∀c∈[p,tk],∃ys,H c=some (.lst ys):=λc hc=>by
  rcases AO.mp hc with rfl|hc
  .exact hp.lst
  .have e:c=tk:=by simpa using hc
   subst e;exact⟨_,R.tl⟩
 have r2:H2 rw=some (.lst (ao rs)):=K2 _ _ R.rl (by simp[n1,n2]);have Pp:n≠rw:=λz=>by rw[z,r2]at hn;cases hn
 have VG:tk≠n:=aq t2 hn;refine⟨by rw[ak];simp[ao],by rw[ag n2.symm,ag VG,t2];simp[nms],λr hr=>?_⟩
 rcases A1.mp hr with z|z
 .have e2:=eN K2 hP (R.rows r z)
  show upd _ _ _ r.1=_;rw[ag (tup_ne e2 r2),ag (aq e2 hn)];exact e2
 .have e:r=(n,(x,a,b)):=by simpa using z
  subst e;show upd _ _ _ n=_;rw[ag Pp,ak]
theorem GR.add {ps:List Str}{rs:List (Addr×Row)}{n:Addr}{x a b:Str} (G:GR ps rs) (hx:aK x) (hn:x∉nms rs) (ha:a∈ps) (hb:b∈ps) (IW:a≠b):GR ps (rs++[(n,(x,a,b))]):=by
 refine⟨?_,λr hr=>?_⟩
 .rw [nms,AX]
  refine BW.mpr ⟨G.nd,by simp,λy hy z hz=>?_⟩;have e:z=x:=by simpa using hz
  subst e;exactλq=>hn (q ▸ hy)
 .rcases A1.mp hr with z|z
  .exact G.ok r z
  .have e:r=(n,(x,a,b)):=by simpa using z
   subst e;exact⟨hx,ha,hb,IW⟩
theorem sA {ps:List Str}{x:Str}:ps.Nodup->x∈ps->(ps.filter λy=>!decide (y=x)).length+1=ps.length:=by
 induction ps with
 | nil=>intro _ h;cases h
 | cons y t ih =>
  intro hn hm;have Hm:=Bj.mp hn
  by_cases e:y=x
  .subst e
   rw[Bs,if_neg (by simp),ED.mpr λz hz=>by simpa using λq:z=y=>Hm.1 (q ▸ hz)];rfl
  .rw [Bs,if_pos (by simpa using e),Bd,Bd,ih Hm.2 ((AO.mp hm).resolve_left λq=>e q.symm)]
theorem gT {x:Str} (h:aK x):PyData.strOk x=true:=by
 unfold PyData.strOk;rw[Array.all_eq_true'];intro c hc;have:=h.az c (by simpa using hc);simp;omega
theorem fF {ss:List Str} (h:∀x∈ss,aK x):PyData.canLayAll0 (ss.map PyData.str)=true/\PyData.depthAll (ss.map PyData.str)=0:=by
 induction ss with
 | nil=>exact⟨rfl,rfl⟩
 | cons x t ih =>
  have:=ih λy hy=>h y (AR _ hy);rw[A8];simp only[PyData.canLayAll0,PyData.canLay0,PyData.depthAll,PyData.depth,gT (h x AK),this.1,this.2];exact⟨rfl,rfl⟩
theorem cT {ss:List Str} (h:∀x∈ss,aK x):SeqAt.shaped (.list (ss.map PyData.str))=true/\SeqAt.shaped (.tuple (ss.map PyData.str))=true:=by
 have q:=fF h;unfold SeqAt.shaped;simp only[PyData.canLay0,PyData.depth,q.1,q.2];exact⟨by decide,by decide⟩
theorem eV:∀(a b:List Str),PyData.eqvAll (a.map PyData.str) (b.map PyData.str)=decide (a=b)
 | [],[]=>by simp[PyData.eqvAll]
 | [],y::t=>by simp[PyData.eqvAll]
 | x::s,[]=>by simp[PyData.eqvAll]
 | x::s,y::t=>by
  simp only[A8,PyData.eqvAll,PyData.eqv,eV s t];rw[CI];simp
theorem kI {α:Type}:∀{l:List α}{i:Nat} (hi:i<l.length),l.Nodup->l[i]∉l.eraseIdx i
 | x::t,0,_,hn=>(Bj.mp hn).1
 | x::t,i+1,hi,hn=>by
  have Hm:=Bj.mp hn;have Gv:i<t.length:=by simpa using hi
  show t[i]∉x::t.eraseIdx i;intro h
  rcases AO.mp h with e|h
  .exact Hm.1 (e ▸ Bk Gv)
  .exact kI Gv Hm.2 h
theorem lJ {α β:Type} (f:α->β):∀(l:List α) (i:Nat),(l.map f).eraseIdx i=(l.eraseIdx i).map f
 | [],i=>by simp
 | x::t,0=>rfl
 | x::t,i+1=>by
  show f x::(t.map f).eraseIdx i=f x::(t.eraseIdx i).map f;rw[lJ f t i]
structure Tree (root:Str) (ps:List Str) (R:List Row):Prop where
 nd:(root::R.map (·.2.2)).Nodup
 all:∀x∈ps,x∈root::R.map (·.2.2)
 rk:∃d:Str->Nat,d root=0/\∀r∈R,d r.2.2=d r.2.1+1
structure fU (root:Str) (ps ds ls ts:List Str) (R:List (Addr×Row)):Prop where
 dse:ds=root::R.map (·.2.2.2)
 st:∀r∈R,r.2.2.1∈ds
 rk:∃d:Str->Nat,d root=0/\∀r∈R,d r.2.2.2=d r.2.2.1+1
 tse:ts=R.map (·.2.1)
 nd:ds.Nodup
 all:∀x∈ps,x∈ds\/x∈ls
theorem lQ {α:Type}{l:List α}{x:α} (h:l.Nodup) (hx:x∉l):(l++[x]).Nodup:=by
 rw[BW];refine⟨h,by simp,λa ha b hb=>?_⟩;have e:b=x:=by simpa using hb
 subst e;exactλq=>hx (q ▸ ha)
theorem fU.add {root:Str}{ps ds ls ts Ja:List Str}{R:List (Addr×Row)} (G:fU root ps ds ls ts R) {n:Addr}{x a z:Str} (ha:a∈ds) (hz:z∉ds) (hl:∀y∈ls,y=z\/y∈Ja):fU root ps (ds++[z]) Ja (ts++[x]) (R++[(n,(x,a,z))]):=by
 obtain⟨d,d0,d1⟩:=G.rk;have hr:root∈ds:=by rw[G.dse];exact AK
 have hg:∀r∈R,r.2.2.2∈ds:=λr h=>by rw[G.dse];exact AR _ (AM h)
 refine⟨by rw[G.dse];simp,λr h=>?_,⟨λy=>if y=z then d a+1 else d y,?_,λr h=>?_⟩,by rw[G.tse];simp,lQ G.nd hz,λy hy=>?_⟩
 .rcases A1.mp h with q|q
  .exact A7 _ (G.st r q)
  .have e:r=(n,(x,a,z)):=by simpa using q
   subst e;exact A7 _ ha
 .show (if root=z then _ else _)=0
  have e0:¬ root=z:=λe=>hz (e ▸ hr);rw[if_neg e0];exact d0
 .rcases A1.mp h with q|q
  .show (if r.2.2.2=z then _ else _)=(if r.2.2.1=z then _ else _)+1
   have e0:¬ r.2.2.2=z:=λe=>hz (e ▸ hg r q);have e1:¬ r.2.2.1=z:=λe=>hz (e ▸ G.st r q);rw[if_neg e0,if_neg e1];exact d1 r q
  .have e:r=(n,(x,a,z)):=by simpa using q
   subst e;show(if z=z then _ else _)=(if a=z then _ else _)+1;have e0:¬ a=z:=λe=>hz (e ▸ ha);rw[if_pos rfl,if_neg e0]
 .rcases G.all y hy with q|q
  .exact .inl (A7 _ q)
  .rcases hl y q with e|e
   .exact .inl (AV _ (by simp[e]))
   .exact .inr e
theorem fU.tree {root:Str}{ps ds ts:List Str}{R:List (Addr×Row)} (G:fU root ps ds [] ts R):Tree root ps (R.map (·.2)):=by
 have e:root::(R.map (·.2)).map (·.2.2)=ds:=by rw[G.dse,A6];rfl
 refine⟨by rw[e];exact G.nd,λx hx=>by rw[e];exact(G.all x hx).resolve_right (by simp),?_⟩;obtain⟨d,d0,d1⟩:=G.rk;exact⟨d,d0,λr h=>by obtain⟨t,ht,rfl⟩:=AL.mp h;exact d1 t ht⟩
def nC:Sp:=λvs H Q _=>∃(p pl rw tk:Addr) (root:Str) (ps:List Str) (rs:List (Addr×Row)),vs=[.ref p,.ref pl,.str root,.ref rw,.ref tk]/\FV H p/\H pl=some (.lst (ps.map V.str))/\root∈ps/\ps.Nodup/\(∀x∈ps,aK x)/\ps.length<=8 /\
 bz H rw tk rs/\GR ps rs/\rs.length<=300/\rw≠p/\tk≠p/\rw≠tk /\
 ∀(q:Addr) (more:List (Addr×Row)) (ss:List Str) (H':Hp),FV H' p->bz H' rw tk (rs++more)->GR ps (rs++more)->more.length<=7->Kp [p,rw,tk] H H'->H' q=some (.tup (ss.map V.str))->ss.Pairwise Gb->ss.Perm (more.map (·.2.1))->Tree root ps (more.map (·.2))->Q (.ref q) H'
abbrev Yq:List Str:=["_law_pot_here","_law_places_here","_law_root","_law_rows","_law_taken","_law_done","_law_left","_law_tree","_law_goal"]
theorem gA:aM Yq ["_law_pot_here","_law_places_here","_law_root","_law_rows","_law_taken"] (aE (top 37)):=⟨rfl,rfl,rfl,by decide +kernel,rfl,by decide +kernel,by decide +kernel⟩
structure GS (H H1:Hp) (p rw tk d l tr:Addr) (ps:List Str) (ds ls ts:List Str) (rs more:List (Addr×Row)):Prop where
 pot:FV H1 p
 dd:H1 d=some (.lst (ds.map V.str))
 ll:H1 l=some (.lst (ls.map V.str))
 tt:H1 tr=some (.lst (ts.map V.str))
 ra:bz H1 rw tk (rs++more)
 gr:GR ps (rs++more)
 kp:Kp [p,rw,tk] H H1
structure GP (root:Str) (ps:List Str) (ds ls ts:List Str) (more:List (Addr×Row)):Prop where
 d1:∀x∈ds,x∈ps
 l1:∀x∈ls,x∈ps/\x∉ds
 ln:ls.Nodup
 n1:more.length+ls.length+1=ps.length
 n2:ds.length=more.length+1
 n3:ts.length=more.length
 gw:fU root ps ds ls ts more
theorem GS.new {H H1:Hp}{p rw tk d l tr q:Addr}{o:HO}{ps ds ls ts:List Str}{rs more:List (Addr×Row)} (S:GS H H1 p rw tk d l tr ps ds ls ts rs more) (hq:H1 q=none):GS H (upd H1 q o) p rw tk d l tr ps ds ls ts rs more :=
 ⟨S.pot.keep λob e=>by rw[ag (aq e hq)];exact e,by rw[ag (aq S.dd hq)];exact S.dd,by rw[ag (aq S.ll hq)];exact S.ll,by rw[ag (aq S.tt hq)];exact S.tt,S.ra.new hq,S.gr,S.kp.new hq⟩
theorem GS.pots {H H1 H2:Hp}{p rw tk d l tr:Addr}{ps ds ls ts:List Str}{rs more:List (Addr×Row)} (S:GS H H1 p rw tk d l tr ps ds ls ts rs more) (n1:rw≠p) (n2:tk≠p) (n3:d≠p) (n4:l≠p) (n5:tr≠p) (P2:FV H2 p) (e2:∀b,b≠p->H2 b=H1 b) :
  GS H H2 p rw tk d l tr ps ds ls ts rs more :=
 ⟨P2,by rw[e2 d n3];exact S.dd,by rw[e2 l n4];exact S.ll,by rw[e2 tr n5];exact S.tt,S.ra.kp (P:=[p]) (λb o e nb=>by rw[e2 b (by simpa using nb)];exact e) (λc hc=>by
  have e:c=p:=by simpa using hc
  subst e;exact S.pot.lst) (by simpa using n1) (by simpa using n2),S.gr,S.kp.trans λb o e nb=>by rw[e2 b (by simp at nb;exact nb.1)];exact e⟩
theorem vg (F:FS K "_law_grown" "_law_grown" (top 37) f fd) (B:Bl mg) (Ft:Fn P w K mg base 1 "_law_take" ["_law_pot_here","_law_many"] dZ) (Fm:Fn P w K mg base 2 "_law_name" ["_law_pot_here","_law_taken"] iH) :
  aF P w K mg base FT 3 f fd ["_law_pot_here","_law_places_here","_law_root","_law_rows","_law_taken"] nC:=by
 refine F.ok gA (λvs H Q E h=>?_) (λ_ _ _ _ H vs Q E hr h=>?_)
 .obtain⟨p,pl,rw,tk,root,ps,rs,rfl,_⟩:=h
  rfl
 .obtain⟨p,pl,rw,tk,root,ps,rs,rfl,hp,Ga,Gj,Ks,Oi,p8,R,G,hz,Hn,Hz,JF,k⟩:=h
  have GC:aO 1 _:=hr.mono (by decide)
  refine⟨_,am (aN (i:=5) gA.nd rfl (Or.inl rfl) (cg (aa (pv 2) ae)))
   (am (dX (i:=6) (N:=["_law_place","_law_root"]) (ix:=[none,some 2]) gA.nd rfl (Or.inl rfl) ⟨rfl,rfl,rfl,by decide⟩ rfl (cn (pv 1)) (λ_ _ _ _=>aL 0 (by decide) rfl rfl) (λ_ _ _ _=>cQ (aI bT (pv 0) (pv 1) (aH _))) (λ_ _ _ _=>pv 0))
   (am (aN (i:=7) gA.nd rfl (Or.inl rfl) (cg ae))
   (am (gS BC (aI (gm hr) (pv 6) (cg ae) (aH _))
    (am (aN (i:=8) gA.nd rfl (Or.inl rfl) (da BI PySem.F.slot_list_pop PySem.F.type_list_pop uH (pv 6) (aa (aB Ft GC (aa (pv 0) (aa (au aX rfl B.len Bb (aa (pv 6) ae)) ae))) ae)))
    (am (b7 (da BI BM BN dD (pv 3) (aa (cJ (aa (aB Fm hr (aa (pv 0) (aa (pv 4) ae)))
      (aa (ax aC (pv 5) (aB Ft GC (aa (pv 0) (aa (au aX rfl B.len Bb (aa (pv 5) ae)) ae))) (λ_ _=>rfl)) (aa (pv 8) ae)))) ae)))
    (am (b7 (da BI BM BN dD (pv 7) (aa (ax aC (ax aC (pv 3) (yz xK ai) (λ_ _=>rfl)) ai (λ_ _=>rfl)) ae)))
    (aw (b7 (da BI BM BN dD (pv 5) (aa (pv 8) ae))))))))
   (aw (aJ (bQ dS rfl B.tuple bL (aa (au gF rfl B.sorted dE (aa (pv 7) ae)) ae))))))),?_⟩
  refine⟨_,rfl,by show 1<=sizeLine;decide,λd hd=>?_⟩;have M3:d≠p:=λz=>by obtain⟨o,e⟩:=hp.some;rw[<- z,hd]at e;cases e
  have SO:d≠rw:=(aq R.rl hd).symm;have SN:d≠tk:=(aq R.tl hd).symm;have p1:FV (upd H d (.lst [.str root])) p:=hp.keep λo e=>by rw[ag M3.symm];exact e
  have R1:bz (upd H d (.lst [.str root])) rw tk rs:=R.new hd;have K1:Kp [p,rw,tk] H (upd H d (.lst [.str root])):=(Kp.refl _ _).new hd;have d1:upd H d (.lst [.str root]) d=some (.lst ([root].map V.str)):=ak;have Pn:upd H d (.lst [.str root]) pl=some (.lst (ps.map V.str)):=by rw[ag (aq Ga hd)];exact Ga
  generalize upd H d (.lst [.str root])=H1 at p1 R1 K1 d1 Pn ⊢
  refine⟨_,rfl,pl,rfl,⟨_,FF.of Pn⟩,eW (xs:=ps.map V.str) (fits (by simp;omega)) (λi ys σ H2=>ys=((ps.take i).filter λy=>!decide (y=root)).map V.str/\H2=H1/\∃v,σ=[v,some (.str root)]) ⟨rfl,rfl,_,rfl⟩
   (λi ys σ H2 _ q=>⟨by rw[q.1,AG];exact Be (Bg _ _) (by simp;omega),by rw[q.2.1];exact FF.of Pn⟩) ?_ ?_⟩
  .rintro i y ys σ H2 hy ⟨rfl,rfl,v,rfl⟩
   rw[AZ]at hy;cases hc:ps[i]? with
   | none=>rw[hc]at hy;cases hy
   | some z =>
    rw[hc]at hy;cases hy;have tf:=cF (λz:Str=>!decide (z=root)) ps i z hc;refine⟨_,rfl,_,rfl,rfl,_,rfl,?_⟩;have e:(!decide (V.str z=V.str root))=!decide (z=root):=by simp
    rw[e];refine aZ (λc=>⟨_,rfl,?_,rfl,_,rfl⟩) (λc=>⟨?_,rfl,_,rfl⟩)
    .rw [tf,c];simp
    .rw [tf];simp only[Cf]at c;rw[c];simp
  rintro ys σ H2 ⟨rfl,rfl,v,rfl⟩ l hl;rw[take_all ps (by simp)];have HL:l≠p:=λz=>by obtain⟨o,e⟩:=p1.some;rw[<- z,hl]at e;cases e
  have J1:l≠rw:=(aq R1.rl hl).symm;have GO:l≠tk:=(aq R1.tl hl).symm;have Pw:l≠d:=(aq d1 hl).symm
  have QO:H l=none:=K1.free (λb hb=>by
   rcases AO.mp hb with rfl|hb
   .exact p1.some
   rcases AO.mp hb with rfl|hb
   .exact⟨_,R1.rl⟩
   .have e:b=tk:=by simpa using hb
    subst e;exact⟨_,R1.tl⟩) hl
  have Xz:=sA Ks Gj;have HF:∀x∈ps.filter (λy=>!decide (y=root)),x∈ps/\x∉[root]:=λx hx=>by
   obtain⟨a,b⟩:=AS.mp hx;exact⟨a,by simpa using b⟩
  have KG:(ps.filter λy=>!decide (y=root)).Nodup:=Ks.filter _;have Oy:∀x∈ps,x∈[root]\/x∈ps.filter (λy=>!decide (y=root)):=λx hx=>by
   by_cases e:x=root
   .exact .inl (by simp[e])
   .exact .inr (AS.mpr ⟨hx,by simpa using e⟩)
  generalize ps.filter (λy=>!decide (y=root))=JG at Xz HF KG Oy ⊢;have p2:FV (upd H2 l (.lst (JG.map V.str))) p:=p1.keep λo e=>by rw[ag HL.symm];exact e
  have R2:=R1.new (o:=.lst (JG.map V.str)) hl;have K2:=K1.new (o:=.lst (JG.map V.str)) hl;have d2:upd H2 l (.lst (JG.map V.str)) d=some (.lst ([root].map V.str)):=by rw[ag Pw.symm];exact d1
  have l2:upd H2 l (.lst (JG.map V.str)) l=some (.lst (JG.map V.str)):=ak;generalize upd H2 l (.lst (JG.map V.str))=H3 at p2 R2 K2 d2 l2 ⊢;refine⟨Bi _,λtr J5=>?_⟩;have Ji:tr≠p:=λz=>by obtain⟨o,e⟩:=p2.some;rw[<- z,J5]at e;cases e
  have MW:tr≠rw:=(aq R2.rl J5).symm;have MV:tr≠tk:=(aq R2.tl J5).symm;have Pq:tr≠d:=(aq d2 J5).symm;have Kt:tr≠l:=(aq l2 J5).symm
  have PZ:H tr=none:=K2.free (λb hb=>by
   rcases AO.mp hb with rfl|hb
   .exact p2.some
   rcases AO.mp hb with rfl|hb
   .exact⟨_,R2.rl⟩
   .have e:b=tk:=by simpa using hb
    subst e;exact⟨_,R2.tl⟩) J5
  have S0:GS H (upd H3 tr (.lst [])) p rw tk d l tr ps [root] JG [] rs []:=
   ⟨p2.keep λo e=>by rw[ag Ji.symm];exact e,by rw[ag Pq.symm];exact d2,by rw[ag Kt.symm];exact l2,ak,by rw[BA];exact R2.new J5,by rw[BA];exact G,K2.new J5⟩
  have G0:GP root ps [root] JG [] []:=⟨λx hx=>by
   have e:x=root:=by simpa using hx
   subst e;exact Gj,HF,KG,by simp;omega,rfl,rfl,⟨rfl,by simp,⟨λ_=>0,rfl,by simp⟩,rfl,by simp,Oy⟩⟩
  refine⟨λm σ H4=>∃ds ls ts more g,σ=[some (.ref p),some (.ref pl),some (.str root),some (.ref rw),some (.ref tk),some (.ref d),some (.ref l),some (.ref tr),g]/\ls.length=m/\GS H H4 p rw tk d l tr ps ds ls ts rs more/\GP root ps ds ls ts more,⟨_,[root],JG,[],[],none,rfl,rfl,S0,G0⟩,?_⟩;rintro m σ H4 ⟨ds,ls,ts,more,g,rfl,rfl,S,C⟩;refine⟨_,rfl,Bi _,λe he=>?_⟩;have S1:=S.new (o:=.lst []) he;have e1:upd H4 e (.lst []) e=some (.lst []):=ak;generalize upd H4 e (.lst [])=H5 at S1 e1 ⊢;have Wp:∀x∈ls,aK x:=λx hx=>Oi x (C.l1 x hx).1;refine⟨.list (ls.map PyData.str),.list [],.lst S1.ll (Gq.strs ls),.lst e1 .nil,(cT Wp).1,(cT (ss:=[]) (by simp)).1,_,rfl,?_⟩;have ev:PyData.eqv (.list (ls.map PyData.str)) (.list [])=decide (ls=[]):=eV ls [];rw[ev];refine aZ (λc=>?_) (λc=>?_)
  .
   have FQ:ls≠[]:=by simpa using c
   have TL:0<ls.length:=by cases ls with|nil=>exact absurd rfl FQ|cons _ _=>simp
   have hl8:ls.length<=8:=by have:=C.n1;omega
   refine⟨λσ' H'=>∃m',m'<ls.length/\∃ds ls ts more g,σ'=[some (.ref p),some (.ref pl),some (.str root),some (.ref rw),some (.ref tk),some (.ref d),some (.ref l),some (.ref tr),g]/\ls.length=m'/\GS H H' p rw tk d l tr ps ds ls ts rs more/\GP root ps ds ls ts more,λσ' H' q=>q,?_⟩;refine⟨_,rfl,.inl ⟨rfl,_,FF.of S1.ll⟩,_,rfl,_,rfl,l,_,rfl,.inl (FF.of S1.ll),p,_,rfl,S1.pot,by rw[AG];omega,by rw[AG];omega,λi H6 i0 i1 P6 e6=>?_⟩;rw[AG]at i1;have S2:=S1.pots Hn Hz M3 HL Ji P6 e6;have GD:i.toNat<ls.length:=by omega
   refine⟨l,ls.map V.str,i,i.toNat,.str ls[i.toNat],rfl,rfl,S2.ll,by omega,by omega,seqIndex_of i0 (by rw[AG];omega),strAt GD,?_⟩;have Lj:ls[i.toNat]∈ls:=Bk GD;have M8:=C.l1 _ Lj;have QW:(ls.eraseIdx i.toNat).length+1=ls.length:=by rw[EC,if_pos GD];omega
   have HB:∀x∈ls.eraseIdx i.toNat,x∈ls:=λx hx=>List.mem_of_mem_eraseIdx hx;have QA:ls[i.toNat]∉ls.eraseIdx i.toNat:=kI GD C.ln;have Np:(ls.eraseIdx i.toNat).Nodup:=C.ln.sublist (List.eraseIdx_sublist _ _);have OD:∀y∈ls,y=ls[i.toNat]\/y∈ls.eraseIdx i.toNat:=λy hy=>by
    rcases AO.mp ((gD ls i.toNat GD).mem_iff.mpr hy)with q|q
    .exact .inl q
    .exact .inr q
   have em:(ls.map V.str).eraseIdx i.toNat=(ls.eraseIdx i.toNat).map V.str:=lJ _ _ _;rw[em];generalize ls[i.toNat]=z at Lj M8 QA OD ⊢;generalize ls.eraseIdx i.toNat=Ja at QW HB QA Np OD ⊢;have S3:GS H (upd H6 l (.lst (Ja.map V.str))) p rw tk d l tr ps ds Ja ts rs more :=
    ⟨S2.pot.keep λo q=>by rw[ag HL.symm];exact q,by rw[ag Pw.symm];exact S2.dd,ak,by rw[ag Kt];exact S2.tt,S2.ra.off J1.symm GO.symm S2.ll,S2.gr,λb o q nb=>by rw[ag (aq q QO)];exact S2.kp b o q nb⟩
   generalize upd H6 l (.lst (Ja.map V.str))=H7 at S3 ⊢;have Ip:(rs++more).length<=400:=by rw[Bu];have:=C.n1;omega
   refine⟨_,rfl,.inl ⟨rfl,_,FF.of S3.ra.rl⟩,_,rfl,_,rfl,p,tk,nms (rs++more),rfl,S3.pot,S3.ra.tl,by rw[nms,AG];omega,λx H8 hx Lm P8 t8 K8=>?_⟩;have d8:H8 d=some (.lst (ds.map V.str)):=K8 _ _ S3.dd (by simp[M3,SN]);have l8:H8 l=some (.lst (Ja.map V.str)):=K8 _ _ S3.ll (by simp[HL,GO]);have r8:H8 tr=some (.lst (ts.map V.str)):=K8 _ _ S3.tt (by simp[Ji,MV]);have hdl:=C.n2;refine⟨_,rfl,_,rfl,_,rfl,d,_,rfl,.inl (FF.of d8),p,_,rfl,P8,by rw[AG];omega,by rw[AG];have:=C.n1;omega,λj H9 j0 j1 P9 e9=>?_⟩;rw[AG]at j1;have GG:j.toNat<ds.length:=by omega
   have d9:H9 d=some (.lst (ds.map V.str)):=by rw[e9 d M3];exact d8
   have l9:H9 l=some (.lst (Ja.map V.str)):=by rw[e9 l HL];exact l8
   have r9:H9 tr=some (.lst (ts.map V.str)):=by rw[e9 tr Ji];exact r8
   have t9:H9 tk=some (.lst ((nms (rs++more)++[x]).map V.str)):=by rw[e9 tk Hz];exact t8
   have K9:Kp [p,tk] H7 H9:=K8.trans λb o q nb=>by rw[e9 b (by simp at nb;exact nb.1)];exact q
   refine ay (j:=j.toNat) (.inl (FF.of d9)) (by omega) (strAt GG) ⟨_,rfl,by show 3<=sizeLine;decide,λn hn=>?_⟩;have OC:ds[j.toNat]∈ds:=Bk GG;generalize ds[j.toNat]=a at OC ⊢;have Kh:=S3.ra.add (a:=a) (b:=z) S3.pot Hn JF K9 t9 hn;have UK:=S3.gr.add (n:=n) (a:=a) (b:=z) hx Lm (C.d1 a OC) M8.1 (λq=>M8.2 (q ▸ OC));have w9:H9 rw=some (.lst (ao (rs++more))):=K9 _ _ S3.ra.rl (by simp[Hn,JF]);have Pu:rw≠n:=aq w9 hn;have Vx:p≠n:=λq=>by obtain⟨o,e⟩:=P9.some;rw[q,hn]at e;cases e
   refine⟨rw,ao (rs++more),.ref n,rfl,rfl,by rw[ag Pu];exact w9,fits (by rw[AG];omega),?_⟩;have N1:FV (upd (upd H9 n (.tup [.str x,.str a,.str z])) rw (.lst (ao (rs++more)++[.ref n]))) p:=P9.keep λo q=>by rw[ag Hn.symm,ag Vx];exact q
   have d10:upd (upd H9 n (.tup [.str x,.str a,.str z])) rw (.lst (ao (rs++more)++[.ref n])) d=some (.lst (ds.map V.str)):=by rw[ag SO,ag (aq d9 hn)];exact d9
   have Ta:upd (upd H9 n (.tup [.str x,.str a,.str z])) rw (.lst (ao (rs++more)++[.ref n])) l=some (.lst (Ja.map V.str)):=by rw[ag J1,ag (aq l9 hn)];exact l9
   have LW:upd (upd H9 n (.tup [.str x,.str a,.str z])) rw (.lst (ao (rs++more)++[.ref n])) tr=some (.lst (ts.map V.str)):=by rw[ag MW,ag (aq r9 hn)];exact r9
   have N3:Kp [p,rw,tk] H (upd (upd H9 n (.tup [.str x,.str a,.str z])) rw (.lst (ao (rs++more)++[.ref n]))):=((S3.kp.trans (K9.mono λb hb=>by simp at hb ⊢;rcases hb with q|q<;>simp[q])).new hn).inn (by simp);generalize upd (upd H9 n (.tup [.str x,.str a,.str z])) rw (.lst (ao (rs++more)++[.ref n]))=Gy at Kh N1 d10 Ta LW N3 ⊢;have MR:Gy n=some (.tup [.str x,.str a,.str z]):=Kh.rows (n,(x,a,z)) (by simp);have Pi:Gy rw=some (.lst (ao (rs++more)++[.ref n])):=by rw[Kh.rl];simp[ao]
   refine⟨_,rfl,.inl ⟨rfl,_,FF.of LW⟩,_,rfl,1,rfl,.inl ⟨rw,_,_,.ref n,rfl,rfl,FF.of Pi,vz _ _,ay (j:=0) (.inr (FE.of MR)) rfl rfl ⟨tr,ts.map V.str,.str x,rfl,rfl,LW,fits (by have:=C.n3;have:=C.n1;simp;omega),?_⟩⟩⟩;have Uv:=Kh.off (o:=.lst (ts.map V.str++[.str x])) MW.symm MV.symm LW;have UB:FV (upd Gy tr (.lst (ts.map V.str++[.str x]))) p:=N1.keep λo q=>by rw[ag Ji.symm];exact q
   have d11:upd Gy tr (.lst (ts.map V.str++[.str x])) d=some (.lst (ds.map V.str)):=by rw[ag Pq.symm];exact d10
   have S9:upd Gy tr (.lst (ts.map V.str++[.str x])) l=some (.lst (Ja.map V.str)):=by rw[ag Kt.symm];exact Ta
   have SD:upd Gy tr (.lst (ts.map V.str++[.str x])) tr=some (.lst ((ts++[x]).map V.str)):=by rw[ak,AX];rfl
   have UD:Kp [p,rw,tk] H (upd Gy tr (.lst (ts.map V.str++[.str x]))):=λb o q nb=>by rw[ag (aq q PZ)];exact N3 b o q nb
   generalize upd Gy tr (.lst (ts.map V.str++[.str x]))=IY at Uv UB d11 S9 SD UD ⊢;refine⟨_,rfl,.inl ⟨rfl,_,FF.of d11⟩,_,rfl,d,ds.map V.str,.str z,rfl,rfl,d11,fits (by have:=C.n2;have:=C.n1;simp;omega),?_⟩;refine⟨Ja.length,by omega,ds++[z],Ja,ts++[x],more++[(n,(x,a,z))],_,rfl,rfl,⟨?_,?_,?_,?_,?_,?_,?_⟩,⟨?_,?_,?_,?_,?_,?_,C.gw.add OC M8.2 OD⟩⟩
   .exact UB.keep λo q=>by rw[ag M3.symm];exact q
   .rw [ak,AX];rfl
   .rw [ag Pw];exact S9
   .rw [ag Pq];exact SD
   .have:=Uv.off (o:=.lst (ds.map V.str++[.str z])) SO.symm SN.symm d11
    rw[Co]at this;exact this
   .rw [Co]at UK;exact UK
   .exact λb o q nb=>by rw[ag (aq q hd)];exact UD b o q nb
   .intro y hy
    rcases A1.mp hy with q|q
    .exact C.d1 y q
    .have e:y=z:=by simpa using q
     subst e;exact M8.1
   .intro y hy
    have q:=C.l1 y (HB y hy);refine⟨q.1,λhm=>?_⟩
    rcases A1.mp hm with w' | w'
    .exact q.2 w'
    .have e:y=z:=by simpa using w'
     subst e;exact QA hy
   .exact Np
   .have:=C.n1;simp;omega
   .have:=C.n2;simp;omega
   .have:=C.n3;simp;omega
  .
   refine⟨_,rfl,tr,ts,rfl,FF.of S1.tt,by have:=C.n1;have:=C.n3;omega,λFZ q FY GX hq=>?_⟩;have e0:ls=[]:=by simpa using c
   subst e0;have U0:ts.Nodup:=by
    rw[C.gw.tse];have:=S1.gr.nd;rw[nms,AX]at this;exact(BW.mp this).2.1
   have snd:FZ.Nodup:=FY.nodup_iff.mpr U0;have S2:=S1.new (o:=.lst (FZ.map V.str)) hq;refine⟨q,_,rfl,.inl ⟨FF.of ak,λu hu=>?_⟩⟩;have S3:=S2.new (o:=.tup (FZ.map V.str)) hu;exact k u more FZ _ S3.pot S3.ra S3.gr (by have:=C.n1;omega) S3.kp ak (dW GX snd) (by rw[<- C.gw.tse];exact FY) C.gw.tree
theorem xE {a r n:Int} (h1:0<=a) (h2:a<n) (h3:0<=r) (h4:r<n-1):(a+1+r)%n≠a/\0<=(a+1+r)%n/\(a+1+r)%n<n:=by
 refine⟨λe=>?_,Ds _ (by omega),C2 _ (by omega)⟩;have q:=Int.mul_ediv_add_emod (a+1+r) n;rw[e]at q;generalize (a+1+r) / n=k at q;have hk:k<=0\/1<=k:=by omega
 rcases hk with hk|hk
 .have:=Int.mul_nonpos_of_nonneg_of_nonpos (show 0<=n by omega) hk
  omega
 .have:=Int.mul_le_mul_of_nonneg_left hk (show 0<=n by omega)
  omega
def oV:Sp:=λvs H Q _=>∃(p pl rw tk:Addr) (many:Int) (ps:List Str) (rs:List (Addr×Row)),vs=[.ref p,.ref pl,.ref rw,.ref tk,.int many]/\FV H p/\H pl=some (.lst (ps.map V.str))/\ps.Nodup/\ps.length<=8 /\
 bz H rw tk rs/\GR ps rs/\rs.length<=300/\0<=many/\many<=100/\rw≠p/\tk≠p/\rw≠tk/\pl≠rw/\pl≠tk /\
 ∀(more:List (Addr×Row)) (H':Hp),FV H' p->bz H' rw tk (rs++more)->GR ps (rs++more)->(more.length:Int)<=many->Kp [p,rw,tk] H H'->Q .non H'
abbrev Yp:List Str:=["_law_pot_here","_law_places_here","_law_rows","_law_taken","_law_many","_law_k","_law_a","_law_b"]
theorem iJ:aM Yp ["_law_pot_here","_law_places_here","_law_rows","_law_taken","_law_many"] (aE (top 38)):=⟨rfl,rfl,rfl,by decide +kernel,rfl,by decide +kernel,by decide +kernel⟩
theorem xm (F:FS K "_law_more" "_law_more" (top 38) f fd) (B:Bl mg) (Ft:Fn P w K mg base 1 "_law_take" ["_law_pot_here","_law_many"] dZ) (Fm:Fn P w K mg base 2 "_law_name" ["_law_pot_here","_law_taken"] iH) :
  aF P w K mg base FT 3 f fd ["_law_pot_here","_law_places_here","_law_rows","_law_taken","_law_many"] oV:=by
 refine F.ok iJ (λvs H Q E h=>?_) (λ_ _ _ _ H vs Q E hr h=>?_)
 .obtain⟨p,pl,rw,tk,many,ps,rs,rfl,_⟩:=h
  rfl
 .obtain⟨p,pl,rw,tk,many,ps,rs,rfl,hp,Ga,Ks,p8,R,G,hz,m0,m1,Hn,Hz,JF,J1,GO,k⟩:=h
  have GC:aO 1 _:=hr.mono (by decide);have HL:pl≠p:=iq hp Ga
  refine⟨_,aw (cj BC rfl (fC rfl B.range (aa (aP fM (pv 4) (bQ uh rfl B.int jP (aa (bN fR (au aX rfl B.len Bb (aa (pv 1) ae)) ai (aH _)) ae))) ae)) (aY (i:=5) iJ.nd rfl (Or.inl rfl))
   (am (aN (i:=6) iJ.nd rfl (Or.inl rfl) (aB Ft GC (aa (pv 0) (aa (au aX rfl B.len Bb (aa (pv 1) ae)) ae))))
   (am (aN (i:=7) iJ.nd rfl (Or.inl rfl) (aP d5 (aP dG (aP dG (pv 6) ai) (aB Ft GC (aa (pv 0) (aa (aP dH (au aX rfl B.len Bb (aa (pv 1) ae)) ai) ae)))) (au aX rfl B.len Bb (aa (pv 1) ae))))
   (aw (b7 (da BI BM BN dD (pv 2) (aa (cJ (aa (aB Fm hr (aa (pv 0) (aa (pv 3) ae)))
    (aa (ax aC (pv 1) (pv 6) (λ_ _=>rfl)) (aa (ax aC (pv 1) (pv 7) (λ_ _=>rfl)) ae)))) ae))))))),?_⟩
  have FJ:(ps.map V.str).length=ps.length:=by simp
  refine⟨_,rfl,_,rfl,pl,_,rfl,.inl (FF.of Ga),_,_,rfl,rfl,.inr ⟨_,rfl,_,_,rfl,rfl,.inl ⟨by omega,by omega⟩,_,rfl,?_,?_,?_⟩⟩
  .split<;>omega
  .split<;>omega
  have hj:∀i:Nat,i<(many*(if decide ((1:Int)<((ps.map V.str).length:Int))=true then 1 else 0)).toNat->1<ps.length/\(i:Int)<many:=λi hi=>by
   rw[FJ]at hi;split at hi
   .next c=>have c':=of_decide_eq_true c;omega
   .simp at hi
  have hjm:(((many*(if decide ((1:Int)<((ps.map V.str).length:Int))=true then 1 else 0)).toNat:Nat):Int)<=many:=by split<;>omega
  refine i7 (λi σ H1=>∃(more:List (Addr×Row)) (g1 g2 g3:Option V),σ=[some (.ref p),some (.ref pl),some (.ref rw),some (.ref tk),some (.int many),g1,g2,g3]/\FV H1 p/\bz H1 rw tk (rs++more)/\GR ps (rs++more)/\more.length=i/\Kp [p,rw,tk] H H1)
   ⟨[],none,none,none,rfl,hp,by rw[BA];exact R,by rw[BA];exact G,rfl,Kp.refl _ _⟩ ?_ ?_
  .rintro i σ H1 hi ⟨more,g1,g2,g3,rfl,P1,R1,G1,JJ,K1⟩
   obtain⟨Nm,him⟩:=hj i hi;have l1:H1 pl=some (.lst (ps.map V.str)):=K1 _ _ Ga (by simp[HL,J1,GO]);refine⟨_,rfl,_,rfl,pl,_,rfl,.inl (FF.of l1),p,_,rfl,P1,by omega,by omega,λa H2 a0 a1 P2 e2=>?_⟩;have l2:H2 pl=some (.lst (ps.map V.str)):=by rw[e2 pl HL];exact l1
   refine⟨_,rfl,_,_,rfl,rfl,_,rfl,_,rfl,pl,_,rfl,.inl (FF.of l2),_,_,rfl,rfl,p,_,rfl,P2,by omega,by omega,λr H3 r0 r1 P3 e3=>?_⟩;have l3:H3 pl=some (.lst (ps.map V.str)):=by rw[e3 pl HL];exact l2
   refine⟨_,_,rfl,rfl,_,rfl,pl,_,rfl,.inl (FF.of l3),_,_,rfl,rfl,by show(0:Int)<_;omega,?_⟩;rw[FJ]at a1 r1 ⊢;obtain⟨b1,b2,b3⟩:=xE a0 a1 r0 r1;obtain⟨b,Ka⟩:∃b,b=(a+1+r)%(ps.length:Int):=⟨_,rfl⟩
   rw[<- Ka]at b1 b2 b3;have Uo:∀c,c≠p->H3 c=H1 c:=λc hc=>(e3 c hc).trans (e2 c hc)
   have R3:bz H3 rw tk (rs++more):=R1.kp (P:=[p]) (λc o e nc=>by rw[Uo c (by simpa using nc)];exact e) (λc hc=>by
    have e:c=p:=by simpa using hc
    subst e;exact P1.lst) (by simpa using Hn) (by simpa using Hz)
   have Ip:(rs++more).length<=400:=by rw[Bu];omega
   refine⟨_,rfl,.inl ⟨rfl,_,FF.of R3.rl⟩,_,rfl,_,rfl,p,tk,nms (rs++more),rfl,P3,R3.tl,by rw[nms,AG];omega,λx H4 hx Lm P4 t4 K4=>?_⟩;have l4:H4 pl=some (.lst (ps.map V.str)):=K4 _ _ l3 (by simp[HL,GO]);have ha:a.toNat<ps.length:=by omega
   have hb:b.toNat<ps.length:=by omega
   refine⟨_,rfl,_,rfl,ay (j:=a.toNat) (.inl (FF.of l4)) (by omega) (strAt ha) ⟨_,rfl,_,rfl,ay (j:=b.toNat) (.inl (FF.of l4)) (by omega) (strAt hb) ⟨by show 3<=sizeLine;decide,λn hn=>?_⟩⟩⟩;have IW:ps[a.toNat]≠ps[b.toNat]:=by
    have FQ:a.toNat≠b.toNat:=by omega
    rcases C0 FQ with y|y
    .exact A5.mp Ks _ _ ha hb y
    .exact λz=>A5.mp Ks _ _ hb ha y z.symm
   have w4:H4 rw=some (.lst (ao (rs++more))):=K4 _ _ R3.rl (by simp[Hn,JF]);have Pu:rw≠n:=aq w4 hn;have Vy:p≠n:=λq=>by obtain⟨o,e⟩:=P4.some;rw[q,hn]at e;cases e
   have R5:=R3.add (a:=ps[a.toNat]) (b:=ps[b.toNat]) P3 Hn JF K4 t4 hn;have G5:=G1.add (n:=n) hx Lm (Bk ha) (Bk hb) IW;refine⟨rw,ao (rs++more),.ref n,rfl,rfl,by rw[ag Pu];exact w4,fits (by rw[AG];omega),more++[(n,(x,ps[a.toNat],ps[b.toNat]))],_,_,_,rfl,P4.keep λo q=>by rw[ag Hn.symm,ag Vy];exact q,?_,?_,by simp[JJ],?_⟩
   .rw [Co]at R5;exact R5
   .rw [Co]at G5;exact G5
   .have K3:Kp [p,rw,tk] H H3:=K1.trans λc o e nc=>by rw[Uo c (by simp at nc;exact nc.1)];exact e
    exact((K3.trans (K4.mono λb hb=>by simp at hb ⊢;rcases hb with q|q<;>simp[q])).new hn).inn (by simp)
  .rintro σ H1 ⟨more,g1,g2,g3,rfl,P1,R1,G1,JJ,K1⟩
   exact k more H1 P1 R1 G1 (by omega) K1
theorem mE (rs:List (Addr×Row)):refs (rs.map λr=>(r.1,r.2.1))=ao rs:=by
 unfold refs ao;rw[A6];rfl
theorem Tree.perm {root:Str}{ps:List Str}{R R':List Row} (t:Tree root ps R) (p:R'.Perm R):Tree root ps R':=by
 have q:=List.Perm.cons root (p.map (λr:Row=>r.2.2));obtain⟨d,d0,d1⟩:=t.rk;exact⟨q.nodup_iff.mpr t.nd,λx hx=>q.mem_iff.mpr (t.all x hx),d,d0,λr h=>d1 r (p.mem_iff.mp h)⟩
abbrev aS (rs:List (Addr×Row)) (ss:List Str):List (Addr×Row):=rs.filter λr=>decide (r.2.1∈ss)
structure cu (root:Str) (ps:List Str) (rs:List (Addr×Row)) (ss:List Str):Prop where
 so:ss.Pairwise Gb
 nm:∀x∈ss,x∈nms rs
 tr:Tree root ps ((aS rs ss).map (·.2))
theorem cu.perm {root:Str}{ps:List Str}{rs HK:List (Addr×Row)}{ss:List Str} (t:cu root ps rs ss) (p:HK.Perm rs):cu root ps HK ss :=
 ⟨t.so,λx hx=>(p.map _).mem_iff.mpr (t.nm x hx),t.tr.perm ((p.filter _).map _)⟩
theorem cu.more {root:Str}{ps:List Str}{rs more:List (Addr×Row)}{ss:List Str} (t:cu root ps rs ss) (nd:(nms (rs++more)).Nodup):cu root ps (rs++more) ss:=by
 have e:aS (rs++more) ss=aS rs ss:=by
  unfold aS;rw[EO];have:more.filter (λr=>decide (r.2.1∈ss))=[]:=by
   rw[CW];intro r hr hc;have h1:=t.nm _ (of_decide_eq_true hc);unfold nms at nd;rw[AX]at nd;exact(BW.mp nd).2.2 _ h1 _ (AM hr) rfl
  rw[this,BA]
 exact⟨t.so,λx hx=>by unfold nms;rw[AX];exact A7 _ (t.nm x hx),by rw[e];exact t.tr⟩
theorem cu.grown {root:Str}{ps:List Str}{rs more:List (Addr×Row)}{ss:List Str} (so:ss.Pairwise Gb) (pm:ss.Perm (more.map (·.2.1))) (tr:Tree root ps (more.map (·.2))) (nd:(nms (rs++more)).Nodup):cu root ps (rs++more) ss:=by
 have e:aS (rs++more) ss=more:=by
  unfold aS;rw[EO];have h1:rs.filter (λr=>decide (r.2.1∈ss))=[]:=by
   rw[CW];intro r hr hc;have h1:=pm.mem_iff.mp (of_decide_eq_true hc);unfold nms at nd;rw[AX]at nd;exact(BW.mp nd).2.2 _ (AM hr) _ h1 rfl
  have h2:more.filter (λr=>decide (r.2.1∈ss))=more:=by
   rw[ED];intro r hr;exact decide_eq_true (pm.mem_iff.mpr (AM hr))
  rw[h1,h2,Fy]
 exact⟨so,λx hx=>by unfold nms;rw[AX];exact AV _ (pm.mem_iff.mp hx),by rw[e];exact tr⟩
abbrev Tr:=Addr×List Str
abbrev bB (ts:List Tr):List V:=ts.map λt=>V.ref t.1
def gu (H:Hp) (ts:List Tr):Prop:=∀t∈ts,H t.1=some (.tup (t.2.map V.str))
theorem pM {c:TT}{x y b:TS}{D:Ends}{σ:St}{H:Hp} (M:St->Hp->Prop) (h:∀N:St->Hp->Prop,(∀σ H,M σ H->N σ H)->kg c x y { D with nx:=N } σ H) (k:∀σ H,M σ H->b D σ H):qk (kg c x y) b D σ H:=h (b D) k
abbrev T:=Addr×Row
inductive Walk (R:List Row) (a:Str):Nat->Str->Prop
 | nil:Walk R a 0 a
 | snoc {n:Nat}{r:Row}:Walk R a n r.2.1->r∈R->Walk R a (n+1) r.2.2
def bp (R:List Row) (a:Str) (n:Nat) (x:Str):Prop:=Walk R a n x/\∀m,Walk R a m x->n<=m
section
variable {R:List Row}{a x:Str}{n m:Nat}
theorem bp.uniq (h:bp R a n x) (h':bp R a m x):n=m:=Nat.le_antisymm (h.2 m h'.1) (h'.2 n h.1)
theorem bp.zero:bp R a 0 a:=⟨.nil,λ_ _=>Bi _⟩
theorem Walk.z (h:Walk R a 0 x):x=a:=by cases h;rfl
theorem Walk.dist:∀{n:Nat}{x:Str},Walk R a n x->∃m,m<=n/\bp R a m x:=by
 intro n
 induction n using Nat.strongRecOn with
 | ind n ih =>
  intro x h
  by_cases c:∃m,m<n/\Walk R a m x
  .obtain⟨m,h1,h2⟩:=c
   obtain⟨k,h3,h4⟩:=ih m h1 h2;exact⟨k,by omega,h4⟩
  .refine⟨n,AY _,h,λm hm=>?_⟩
   rcases DB m n with q|q
   .exact absurd ⟨m,q,hm⟩ c
   .exact q
theorem bp.pred (h:bp R a (n+1) x):∃r∈R,r.2.2=x/\bp R a n r.2.1:=by
 obtain⟨hw,hm⟩:=h;generalize hn:n+1=k at hw hm;cases hw with
 | nil=>omega
 | @snoc n' r PU hr =>
  have e:n'=n:=by omega
  subst e;refine⟨r,hr,rfl,PU,λm h=>?_⟩;have:=hm (m+1) (.snoc h hr);omega
theorem bp.step {r:Row} (h:bp R a n r.2.1) (hr:r∈R) (hn:∀m,m<=n->¬ bp R a m r.2.2):bp R a (n+1) r.2.2:=by
 refine⟨.snoc h.1 hr,λm hm=>?_⟩;obtain⟨k,h1,h2⟩:=hm.dist
 rcases DB n k with q|q
 .omega
 .exact absurd h2 (hn k q)
end
def Gz (a x:Str) (tk:List T) (r:T):List T:=if r.2.2.1=x/\r.2.2.2∉a::tk.map (·.2.2.2)then tk++[r]else tk
def Gd (rs:List T) (a:Str):Nat->List T
 | 0=>[]
 | k+1=>match (a::(Gd rs a k).map (·.2.2.2))[k]? with
  | some x=>rs.foldl (Gz a x) (Gd rs a k)
  | none=>Gd rs a k
structure Hh (rs:List T) (a:Str) (fd:List (Str×Nat)) (tk:List T) (q:Nat):Prop where
 fst:fd.map (·.1)=a::tk.map (·.2.2.2)
 dist:∀p∈fd,bp (rs.map (·.2)) a p.2 p.1
 nd:(fd.map (·.1)).Nodup
 so:fd.Pairwise (λp p'=>p.2<=p'.2)
 sub:∀t∈tk,t∈rs
 par:∀t∈tk,t.2.2.1∈fd.map (·.1)/\∃n,bp (rs.map (·.2)) a n t.2.2.1/\bp (rs.map (·.2)) a (n+1) t.2.2.2
 done:∀i p,i<q->fd[i]?=some p->∀r∈rs,r.2.2.1=p.1->r.2.2.2∈fd.map (·.1)
 near:∀p,fd[q]?=some p->(∀p'∈fd,p'.2<=p.2+1)/\∀z m,bp (rs.map (·.2)) a m z->m<=p.2->z∈fd.map (·.1)
 ql:q<=fd.length
theorem Hh.start (rs:List T) (a:Str):Hh rs a [(a,0)] [] 0 where
 fst:=rfl
 dist:=λp hp=>by have e:p=(a,0):=(by simpa using hp);subst e;exact bp.zero
 nd:=by simp
 so:=by simp
 sub:=by simp
 par:=by simp
 done:=λi p hi=>absurd hi (Et _)
 near:=λp hp=>by
  have e:p=(a,0):=by simpa using hp.symm
  subst e;refine⟨by simp,λz m h hm=>?_⟩;have e:m=0:=Nat.le_zero.mp hm;subst e;simpa using h.1.z
 ql:=Bi _
theorem iX {α:Type}{l:List α}{x:α} (h:l.Nodup) (hx:x∉l):(l++[x]).Nodup:=by
 rw[BW];refine⟨h,by simp,λa ha b hb=>?_⟩;have e:b=x:=by simpa using hb
 subst e;exactλz=>hx (z ▸ ha)
section
variable {rs:List T}{a:Str}{fd:List (Str×Nat)}{tk:List T}{q:Nat}
theorem Hh.row (B:Hh rs a fd tk q) {x:Str}{n:Nat} (hq:fd[q]?=some (x,n)) {r:T} (hr:r∈rs) :
  ∃more,fd <+: fd++more/\Hh rs a (fd++more) (Gz a x tk r) q/\(r.2.2.1=x->r.2.2.2∈(fd++more).map (·.1)):=by
 have L1:q<fd.length:=(A3.mp hq).1;have TC:(x,n)∈fd:=AW hq
 by_cases c:r.2.2.1=x/\r.2.2.2∉a::tk.map (·.2.2.2)
 .have hy:r.2.2.2∉fd.map (·.1):=by rw[B.fst];exact c.2
  obtain⟨n1,n2⟩:=B.near _ hq;have hd:bp (rs.map (·.2)) a n r.2.2.1:=by rw[c.1];exact B.dist _ TC
  have OB:bp (rs.map (·.2)) a (n+1) r.2.2.2:=hd.step (AM hr) λm hm h=>hy (n2 _ m h hm);have e:Gz a x tk r=tk++[r]:=by unfold Gz;rw[if_pos c]
  rw[e];refine⟨[(r.2.2.2,n+1)],List.prefix_append _ _,⟨?_,?_,?_,?_,?_,?_,?_,?_,?_⟩,λ_=>by simp⟩
  .simp [B.fst]
  .intro p hp
   rcases A1.mp hp with z|z
   .exact B.dist p z
   .have e:p=(r.2.2.2,n+1):=by simpa using z
    subst e;exact OB
  .rw [AX];exact iX B.nd hy
  .rw [List.pairwise_append]
   refine⟨B.so,by simp,λp hp p' IK=>?_⟩;have e:p'=(r.2.2.2,n+1):=by simpa using IK
   subst e;exact n1 p hp
  .intro t ht
   rcases A1.mp ht with z|z
   .exact B.sub t z
   .have e:t=r:=by simpa using z
    subst e;exact hr
  .intro t ht
   rcases A1.mp ht with z|z
   .obtain⟨y1,y2⟩:=B.par t z
    exact⟨by rw[AX];exact A7 _ y1,y2⟩
   .have e:t=r:=by simpa using z
    subst e;exact⟨by rw[AX];exact A7 _ (by rw[c.1];exact AM (f:=(·.1)) TC),n,hd,OB⟩
  .intro i p hi hp r' FO e
   rw[Cp (by omega)]at hp;rw[AX];exact A7 _ (B.done i p hi hp r' FO e)
  .intro p hp
   rw[Cp L1,hq]at hp;cases hp;refine⟨λp' IK=>?_,λz m h hm=>by rw[AX];exact A7 _ (n2 z m h hm)⟩
   rcases A1.mp IK with z|z
   .exact n1 p' z
   .have e:p'=(r.2.2.2,n+1):=by simpa using z
    subst e;exact AY _
  .have:=B.ql;simp;omega
 .have e:Gz a x tk r=tk:=by unfold Gz;rw[if_neg c]
  rw[e];refine⟨[],by simp,by simpa using B,λh=>?_⟩;rw[BA,B.fst];exact Decidable.byContradiction λz=>c ⟨h,z⟩
theorem Hh.rows {x:Str}{n:Nat}:∀(HK:List T) (fd:List (Str×Nat)) (tk:List T),(∀r∈HK,r∈rs)->Hh rs a fd tk q->fd[q]?=some (x,n) ->
  ∃more,Hh rs a (fd++more) (HK.foldl (Gz a x) tk) q/\∀r∈HK,r.2.2.1=x->r.2.2.2∈(fd++more).map (·.1)
 | [],fd,tk,_,B,_=>⟨[],by simpa using B,by simp⟩
 | r::HK,fd,tk,hs,B,hq=>by
  obtain⟨m1,_,B1,h1⟩:=B.row hq (hs r AK);have L1:q<fd.length:=(A3.mp hq).1;obtain⟨m2,B2,h2⟩:=Hh.rows HK (fd++m1) _ (λr' FO=>hs r' (AR _ FO)) B1 (by rw[Cp L1];exact hq);refine⟨m1++m2,by rw[<- Co];exact B2,λr' FO e=>?_⟩;rw[<- Co]
  rcases AO.mp FO with z|z
  .subst z
   rw[AX];exact A7 _ (h1 e)
  .exact h2 r' z e
theorem Hh.next (B:Hh rs a fd tk q) {x:Str}{n:Nat} (hq:fd[q]?=some (x,n)):∃Rt,Hh rs a Rt (rs.foldl (Gz a x) tk) (q+1):=by
 obtain⟨more,B',h⟩:=Hh.rows rs fd tk (λ_ z=>z) B hq;have L1:q<fd.length:=(A3.mp hq).1;have Hl:(fd++more)[q]?=some (x,n):=by rw[Cp L1];exact hq
 refine⟨fd++more,B'.fst,B'.dist,B'.nd,B'.so,B'.sub,B'.par,λi p hi hp r hr e=>?_,λp hp=>?_,by simp;omega⟩
 .rcases DB i q with z|z
  .exact B'.done i p z hp r hr e
  .have ei:i=q:=by omega
   subst ei;rw[Hl]at hp;cases hp;exact h r hr e
 .obtain⟨n1,n2⟩:=B'.near _ Hl
  have FY:=AW hp;obtain⟨l1,g1⟩:=A3.mp Hl;obtain⟨l2,g2⟩:=A3.mp hp;have Ly:n<=p.2:=by
   have:=A5.mp B'.so q (q+1) l1 l2 (by omega);rw[g1,g2]at this;exact this
  have QN:=n1 p FY
  dsimp only at QN n1
  refine⟨λp' IK=>by have:=n1 p' IK;omega,λz m hz hm=>?_⟩
  rcases DB n m with y|y
  .have em:m=n+1:=by omega
   subst em;obtain⟨r,hr,rfl,hd⟩:=hz.pred;obtain⟨t,ht,rfl⟩:=AL.mp hr;have hf:=n2 _ n hd (AY _);obtain⟨p0,Kz,e0⟩:=AL.mp hf;have en:p0.2=n:=(B'.dist p0 Kz).uniq (by rw[e0];exact hd);obtain⟨i,hi⟩:=DH Kz;obtain⟨l3,g3⟩:=A3.mp hi;have hiq:i<q+1:=by
    rcases DB i (q+1)with w|w
    .exact w
    .exfalso
     rcases DB (q+1) i with v|v
     .have:=A5.mp B'.so (q+1) i l2 l3 v
      rw[g2,g3]at this;omega
     .have ei:i=q+1:=by omega
      subst ei;rw[hp]at hi;cases hi;omega
   rcases DB i q with w|w
   .exact B'.done i p0 w hi t ht e0.symm
   .have ei:i=q:=by omega
    subst ei;rw[Hl]at hi;cases hi;exact h t ht e0.symm
  .exact n2 z m hz y
end
theorem cV {α:Type}:∀{l m:List α},l.Nodup->(∀x∈l,x∈m)->l.length<=m.length
 | [],_,_,_=>Bi _
 | x::l,m,h,hs=>by
  obtain⟨h1,h2⟩:=Bj.mp h;obtain⟨u,v,rfl⟩:=ER (hs x AK);have:=cV (m:=u++v) h2 λy hy=>by
   have q:=hs y (AR _ hy)
   rcases A1.mp q with z|z
   .exact A7 _ z
   .rcases AO.mp z with e|z
    .subst e;exact absurd hy h1
    .exact AV _ z
  simp at this ⊢;omega
abbrev FL (a:Str) (tk:List T):List Str:=a::tk.map (·.2.2.2)
structure eB (rs:List T) (a:Str) (tk:List T):Prop where
 mem:∀z∈FL a tk,∃n,bp (rs.map (·.2)) a n z
 nd:(FL a tk).Nodup
 sub:∀t∈tk,t∈rs
 par:∀t∈tk,t.2.2.1∈FL a tk/\∃n,bp (rs.map (·.2)) a n t.2.2.1/\bp (rs.map (·.2)) a (n+1) t.2.2.2
 cl:∀n z,Walk (rs.map (·.2)) a n z->z∈FL a tk
theorem Hh.full {rs:List T}{a:Str}{fd:List (Str×Nat)}{tk:List T}{q:Nat} (B:Hh rs a fd tk q) (hq:fd.length<=q):eB rs a tk:=by
 have hf:FL a tk=fd.map (·.1):=B.fst.symm;refine⟨λz hz=>?_,by rw[hf];exact B.nd,B.sub,λt ht=>by rw[hf];exact B.par t ht,λn z h=>?_⟩
 .rw [hf]at hz
  obtain⟨p,hp,rfl⟩:=AL.mp hz;exact⟨_,B.dist p hp⟩
 .rw [hf]
  induction h with
  | nil=>rw[<- hf];exact AK
  | @snoc n r h hr ih =>
   obtain⟨p,hp,e⟩:=AL.mp ih;obtain⟨i,hi⟩:=DH hp;obtain⟨t,ht,rfl⟩:=AL.mp hr;exact B.done i p (Bc (A3.mp hi).1 hq) hi t ht e.symm
theorem eZ {R:List Row}{a:Str}{ps:List Str} (ha:a∈ps) (h:∀r∈R,r.2.2∈ps):∀{n:Nat}{z:Str},Walk R a n z->z∈ps:=by
 intro n z hw;cases hw with
 | nil=>exact ha
 | snoc _ hr=>exact h _ hr
theorem Hh.bound {rs:List T}{a:Str}{fd:List (Str×Nat)}{tk:List T}{q:Nat} (B:Hh rs a fd tk q) {ps:List Str} (ha:a∈ps) (h:∀r∈rs,r.2.2.2∈ps):fd.length<=ps.length:=by
 have:=cV B.nd (m:=ps) λz hz=>by
  obtain⟨p,hp,rfl⟩:=AL.mp hz;exact eZ ha (λr hr=>by obtain⟨t,ht,rfl⟩:=AL.mp hr;exact h t ht) (B.dist p hp).1
 simpa using this
theorem kR {rs:List T}{a:Str}{k:Nat} (h:(Gd rs a k).length+1<=k):∀j,Gd rs a (k+j)=Gd rs a k
 | 0=>rfl
 | j+1=>by
  have ih:=kR h j;show(match (a::(Gd rs a (k+j)).map (·.2.2.2))[k+j]? with|some x=>rs.foldl (Gz a x) (Gd rs a (k+j))|none=>Gd rs a (k+j))=_;rw[ih];have e:(a::(Gd rs a k).map (·.2.2.2))[k+j]?=none:=by
   rw[List.getElem?_eq_none_iff];simp;omega
  rw[e]
theorem mK:∃f:List T->Str->List T,∀rs a,f rs a=Gd rs a 200:=⟨_,λ_ _=>rfl⟩
def first (rs:List T) (a:Str):List T:=Classical.choose mK rs a
theorem vv (rs:List T) (a:Str):first rs a=Gd rs a 200:=Classical.choose_spec mK rs a
theorem u0 {rs:List T}{a:Str}{k:Nat} (h:(Gd rs a k).length+1<=k) (hk:k<=200):Gd rs a k=first rs a:=by
 have:=kR h (200-k);rw[show k+(200-k)=200 by omega]at this;rw[vv];exact this.symm
def zI (tk:List T) (a:Str):Nat->Str->List T
 | 0,_=>[]
 | f+1,x=>if x=a then []else match tk.find? (λt=>decide (t.2.2.2=x))with
  | some t=>zI tk a f t.2.2.1++[t]
  | none=>[]
def lst (a:Str) (w:List T):Str:=(a::w.map (·.2.2.2)).getLast (by simp)
structure AC (rs:List T) (a:Str) (w:List T) (x:Str):Prop where
 at':∀i t,w[i]?=some t->t∈rs/\t.2.2.1=lst a (w.take i)/\bp (rs.map (·.2)) a (i+1) t.2.2.2
 last:lst a w=x
theorem find_some {tk:List T}{x:Str} (h:x∈tk.map (·.2.2.2)):∃t,tk.find? (λt=>decide (t.2.2.2=x))=some t/\t∈tk/\t.2.2.2=x:=by
 obtain⟨t,ht,e⟩:=AL.mp h;cases q:tk.find? (λt=>decide (t.2.2.2=x))with
 | none=>exact absurd (ES.mp q t ht) (by simpa using e)
 | some u=>exact⟨u,rfl,Dd q,by simpa using Du q⟩
theorem om {R:List Row}{a:Str}{ps:List Str} (ha:a∈ps) (h:∀r∈R,r.2.2∈ps):∀{n:Nat}{z:Str},bp R a n z->n<ps.length:=by
 have key:∀(n:Nat) (z:Str),bp R a n z->∃l:List Str,l.length=n+1/\l.Nodup/\(∀y∈l,y∈ps)/\∀y∈l,∃m,m<=n/\bp R a m y:=by
  intro n
  induction n with
  | zero=>intro z hz;exact⟨[z],rfl,by simp,by simpa using eZ ha h hz.1,by simpa using hz⟩
  | succ n ih =>
   intro z hz;obtain⟨r,hr,rfl,hd⟩:=hz.pred;obtain⟨l,h1,h2,h3,h4⟩:=ih _ hd;refine⟨r.2.2::l,by simp[h1],Bj.mpr ⟨λhm=>?_,h2⟩,λy hy=>?_,λy hy=>?_⟩
   .obtain⟨m,h5,h6⟩:=h4 _ hm
    exact absurd (h6.uniq hz) (by omega)
   .rcases AO.mp hy with e|hy
    .subst e;exact h _ hr
    .exact h3 y hy
   .rcases AO.mp hy with e|hy
    .subst e;exact⟨_,AY _,hz⟩
    .obtain⟨m,h5,h6⟩:=h4 y hy
     exact⟨m,by omega,h6⟩
 intro n z hz;obtain⟨l,h1,h2,h3,_⟩:=key n z hz;have:=cV h2 h3;omega
end K52
namespace L2
open PySem PySem.Spec PyProof.Rows
section
variable {X:Cx}{tg:Expr}
def WE (K:zz7) (tl:TE):TI:=λσ H R=>tl σ H λx H1=>∃a,x=.ref a/\((∃xs,FF K H1 a xs)/\R (JE K a) H1\/(∃xs,FE K H1 a xs)/\R (JS K a) H1)
theorem yV {l:Expr}{tl:TE} (hl:PE X l tl):PI X tg l (WE X.K tl):=by
 intro pins s σ H R I h;refine FG (hl pins s σ H _ I h) λv s1 ⟨x,H1,I1,r1,q1⟩=>?_;obtain⟨a,e,q1⟩:=q1;subst e;cases r1;have fp:∀b∈[s1.heap.objs.size],bD X pins H1 b:=λb hb=>by
  have e:b=s1.heap.objs.size:=by simpa using hb
  subst e;exact I1.fpOk (AY _) (I1.hok.fresh (AY _))
 rcases q1 with ⟨⟨xs,hq⟩,q⟩|⟨⟨xs,hq⟩,q⟩
 .obtain⟨FC,rv,p,hz⟩:=I1.list hq
  refine Cn p.isList ?_;exact⟨s1.heap.objs.size,[s1.heap.objs.size],_,_,H1,rfl,I1.kept (t':=s1.toks) λb o e=>AH _ e,lb a _,⟨_,AU _ rfl,rfl,rfl⟩,fp,q⟩
 .obtain⟨FC,rv,p,hz⟩:=I1.tuple hq
  refine CY (show s1.heap.IsTuple a FC.toArray from p) ?_;exact⟨s1.heap.objs.size,[s1.heap.objs.size],_,_,H1,rfl,I1.kept (t':=s1.toks) λb o e=>AH _ e,kJ a _,⟨_,AU _ rfl,rfl,rfl⟩,fp,q⟩
def pO (J:It) (g:TG) (tb:TS) (D:Ends) (σ:St) (H:Hp):Prop:=∃W:Nat->Nat->St->Hp->Prop,(∃m,W 0 m σ H)/\∀i m σ H,W i m σ H ->
 (J.stop i H/\D.nx σ H)\/(J.go i H/\∃N:St->Hp->Prop,(∀σ' H',N σ' H'->∃m',m'<m/\W (i+1) m' σ' H')/\∀x H',J.yld i H x H'->g x σ H' λσ2 H2=>tb { D with nx:=N,ct:=N,bk:=D.nx } σ2 H2)
theorem yg {K:zz7}{a:Addr}{xs:List V}{g:TG}{tb:TS}{D:Ends}{σ:St}{H H0:Hp} (Pv:Nat->St->Hp->Prop) (h0:Pv 0 σ H) (hq:H0 a=some (.lst xs)\/H0 a=some (.tup xs)) (hl:∀i σ H,Pv i σ H->aj H0 H)
  (hs:∀i x σ H,xs[i]?=some x->Pv i σ H->g x σ H λσ2 H2=>tb { D with nx:=Pv (i+1),ct:=Pv (i+1),bk:=D.nx } σ2 H2) (hd:∀σ H,Pv xs.length σ H->D.nx σ H) :
  (∃xs,FF K H a xs)/\pO (JE K a) g tb D σ H\/(∃xs,FE K H a xs)/\pO (JS K a) g tb D σ H:=by
 rcases hq with q|q
 .exact .inl ⟨⟨_,FF.of (hl _ _ _ h0 _ _ q)⟩,gW Pv h0 (λi σ H _ p=>FF.of (hl i σ H p _ _ q)) hs hd⟩
 .exact .inr ⟨⟨_,FE.of (hl _ _ _ h0 _ _ q)⟩,dY Pv h0 (λi σ H _ p=>FE.of (hl i σ H p _ _ q)) hs hd⟩
end
end L2
namespace K52
open PySem L2
theorem uE (a x:Str) (r:T) (tk:List T):∃more,Gz a x tk r=tk++more/\more.length<=1:=by
 unfold Gz;split
 .exact⟨[r],rfl,by simp⟩
 .exact⟨[],by simp,by simp⟩
theorem k9 (a x:Str):∀(rs tk:List T),∃more,rs.foldl (Gz a x) tk=tk++more/\more.length<=rs.length
 | [],tk=>⟨[],by simp,by simp⟩
 | r::rs,tk=>by
  obtain⟨m1,e1,h1⟩:=uE a x r tk;obtain⟨m2,e2,h2⟩:=k9 a x rs (Gz a x tk r);refine⟨m1++m2,?_,by simp;omega⟩;rw[List.foldl_cons,e2,e1,Co]
theorem tF {a x:Str}{rs tk:List T}{i:Nat}{r:T} (h:rs[i]?=some r):(rs.take (i+1)).foldl (Gz a x) tk=Gz a x ((rs.take i).foldl (Gz a x) tk) r:=by
 rw[Br,h,E6];rfl
theorem aj.upd0 {H H':Hp}{q:Addr}{o:HO} (h:aj H H') (hq:H q=none):aj H (upd H' q o):=λb ob e=>by
 rw[ag (aq e hq)];exact h b ob e
structure cZ (H:Hp) (rs:List T):Prop where
 e:∀r∈rs,dq H r.1 r.2
theorem cZ.same {H H':Hp}{rs:List T} (h:cZ H rs) (s:aj H H'):cZ H' rs:=⟨λr hr=>s _ _ (h.e r hr)⟩
variable {P:Program}{w:World}{K:zz7}{mg:Str->Option zz9}{base:Heap}{f:Addr}{fd:FuncData}
def nj:Sp:=λvs H Q _=>∃(ra:Addr) (a:Str) (rs:List T) (ps:List Str),vs=[.ref ra,.str a]/\(H ra=some (.lst (ao rs))\/H ra=some (.tup (ao rs)))/\cZ H rs/\a∈ps/\(∀r∈rs,r.2.2.2∈ps)/\ps.length<=100/\rs.length<=60 /\
 ∀(q:Addr) (H':Hp),aj H H'->H q=none->H' q=some (.lst (ao (first rs a)))->eB rs a (first rs a)->Q (.ref q) H'
abbrev Yt:List Str:=["rows","start","found","taken","done","row"]
theorem fV:aM Yt ["rows","start"] (aE (top 18)):=⟨rfl,rfl,rfl,by decide +kernel,rfl,by decide +kernel,by decide +kernel⟩
theorem qK (F:FS K "first_rows" "first_rows" (top 18) f fd) (B:Bl mg):aF P w K mg base FT 1 f fd ["rows","start"] nj:=by
 refine F.ok fV (λvs H Q E h=>?_) (λ_ _ _ _ H vs Q E hr h=>?_)
 .obtain⟨ra,a,rs,ps,rfl,_⟩:=h
  rfl
 .obtain⟨ra,a,rs,ps,rfl,Ni,FU,Kb,GF,hz,IF,k⟩:=h
  refine⟨_,am (aN (i:=2) fV.nd rfl (Or.inl rfl) (cg (aa (pv 1) ae)))
   (am (aN (i:=3) fV.nd rfl (Or.inl rfl) (cg ae))
   (am (aN (i:=4) fV.nd rfl (Or.inl rfl) ai)
   (am (gS BC (aI eQ (pv 4) (au aX rfl B.len Bb (aa (pv 2) ae)) (aH _))
    (am (cj BC rfl (yV (pv 0)) (aY (i:=5) fV.nd rfl (Or.inl rfl))
     (aw (aV (PW.pt (fL (aI ef (ax aC (pv 5) ai (λ_ _=>rfl)) (ax aC (pv 2) (pv 4) (λ_ _=>rfl)) (aH _))
       (fJ (aI fW (ax aC (pv 5) ai (λ_ _=>rfl)) (pv 2) (by with_unfolding_all rfl)))))
      (am (b7 (da BI BM BN dD (pv 2) (aa (ax aC (pv 5) ai (λ_ _=>rfl)) ae)))
      (aw (b7 (da BI BM BN dD (pv 3) (aa (pv 5) ae))))) aU)))
    (aw (xp (i:=4) fV.nd rfl (Or.inl rfl) ai xt))))
   (aw (aJ (pv 3)))))),?_⟩
  refine⟨_,rfl,by show 1<=sizeLine;decide,λfo JK=>?_⟩;have s1:=av (o:=.lst [.str a]) (aj.refl H) JK;have f1:upd H fo (.lst [.str a]) fo=some (.lst ((FL a []).map V.str)):=ak;generalize upd H fo (.lst [.str a])=H1 at s1 f1 ⊢;refine⟨Bi _,λtk Hd=>?_⟩;have Js:=s1.free Hd;have Lf:fo≠tk:=aq f1 Hd;have s2:=av (o:=.lst []) s1 Hd;have f2:upd H1 tk (.lst []) fo=some (.lst ((FL a []).map V.str)):=by rw[ag Lf];exact f1
  have t2:upd H1 tk (.lst []) tk=some (.lst (ao [])):=ak;generalize upd H1 tk (.lst [])=H2 at s2 f2 t2 ⊢
  refine⟨λm σ H3=>∃(q:Nat) (fd:List (Str×Nat)) (g:Option V),σ=[some (.ref ra),some (.str a),some (.ref fo),some (.ref tk),some (.int q),g]/\m=200-q/\Hh rs a fd (Gd rs a q) q/\aj H H3/\H3 fo=some (.lst ((FL a (Gd rs a q)).map V.str))/\H3 tk=some (.lst (ao (Gd rs a q))),
   ⟨_,0,_,none,rfl,rfl,Hh.start rs a,s2,f2,t2⟩,?_⟩
  rintro m σ H3 ⟨q,fd,g,rfl,rfl,Bq,s3,f3,t3⟩;have Ia:(FL a (Gd rs a q)).length=fd.length:=by
   have:=congrArg List.length Bq.fst;rw[AG]at this;exact this.symm
  have QU:=Bq.bound Kb GF;have L1:=Bq.ql;refine⟨_,rfl,_,rfl,fo,_,rfl,.inl (FF.of f3),_,_,rfl,rfl,_,rfl,aZ (λc=>?_) (λc=>?_)⟩
  .have FM:q<fd.length:=by
    have:=of_decide_eq_true c;rw[AG,Ia]at this;omega
   have Tw:fd[q]?=some (fd[q].1,fd[q].2):=AJ FM;obtain⟨Rt,B'⟩:=Bq.next Tw;have hx:(FL a (Gd rs a q))[q]?=some fd[q].1:=by
    show(a::(Gd rs a q).map (·.2.2.2))[q]?=_;rw[<- Bq.fst,AZ,Tw];rfl
   have eb:Gd rs a (q+1)=rs.foldl (Gz a fd[q].1) (Gd rs a q):=by
    show(match (a::(Gd rs a q).map (·.2.2.2))[q]? with|some x=>rs.foldl (Gz a x) (Gd rs a q)|none=>Gd rs a q)=_;rw[show(a::(Gd rs a q).map (·.2.2.2))[q]?=some fd[q].1 from hx]
   rw[<- eb]at B';generalize fd[q].1=x at hx eb;refine⟨λσ' H'=>∃m',m'<200-q/\∃(q:Nat) (fd:List (Str×Nat)) (g:Option V),σ'=[some (.ref ra),some (.str a),some (.ref fo),some (.ref tk),some (.int q),g]/\m'=200-q/\Hh rs a fd (Gd rs a q) q/\aj H H'/\H' fo=some (.lst ((FL a (Gd rs a q)).map V.str))/\H' tk=some (.lst (ao (Gd rs a q))),λσ' H' q=>q,?_⟩
   refine⟨_,rfl,ra,rfl,yg (K:=K) (a:=ra) (xs:=ao rs) (H0:=H) (λi σ H4=>∃g,σ=[some (.ref ra),some (.str a),some (.ref fo),some (.ref tk),some (.int q),g]/\aj H H4/\H4 fo=some (.lst ((FL a ((rs.take i).foldl (Gz a x) (Gd rs a q))).map V.str))/\H4 tk=some (.lst (ao ((rs.take i).foldl (Gz a x) (Gd rs a q)))))
    ⟨_,rfl,s3,f3,t3⟩ Ni (λi σ H4 p=>by obtain⟨_,_,s4,_⟩:=p;exact s4) ?_ ?_⟩
   .rintro i y σ H4 hy ⟨g,rfl,s4,f4,t4⟩
    obtain⟨r,FW,rfl⟩:=bY hy;have GD:i<rs.length:=(A3.mp FW).1;have GY:=s4 _ _ (FU.e r (AW FW));obtain⟨more,em,JJ⟩:=k9 a x (rs.take i) (Gd rs a q);have FJ:((rs.take i).foldl (Gz a x) (Gd rs a q)).length<=160:=by
     rw[em,Bu];have h1:(Gd rs a q).length+1=fd.length:=by simpa using Ia
     have h2:(rs.take i).length<=60:=by rw[B0];omega
     omega
    have Tj:(FL a ((rs.take i).foldl (Gz a x) (Gd rs a q)))[q]?=some x:=by
     rw[em];show(a::(Gd rs a q++more).map (·.2.2.2))[q]?=_
     rw[AX,<- Fk,Cp (by
      have:=Ia;simp at this ⊢;omega)]
     exact hx
    have tf:=tF (a:=a) (x:=x) (tk:=Gd rs a q) FW;rw[tf];generalize (rs.take i).foldl (Gz a x) (Gd rs a q)=tl at f4 t4 FJ Tj ⊢;have WL:((FL a tl).map V.str)[q]?=some (.str x):=by rw[AZ,Tj];rfl
    refine⟨_,rfl,ay (j:=1) (.inr (FE.of GY)) rfl rfl ⟨_,rfl,_,rfl,ay (j:=q) (.inl (FF.of f4)) rfl WL ⟨rfl,_,rfl,?_⟩⟩⟩
    by_cases c1:r.2.2.1=x
    .rw [decide_eq_true (show V.str r.2.2.1=V.str x by rw[c1])]
     refine be ⟨_,rfl,ay (j:=2) (.inr (FE.of GY)) rfl rfl ⟨_,rfl,fo,_,rfl,.inl (FF.of f4),rfl,bK _,_,rfl,?_⟩⟩;rw[bM]
     by_cases c2:r.2.2.2∈FL a tl
     .have es:Gz a x tl r=tl:=by unfold Gz;rw[if_neg (λz=>z.2 c2)]
      rw[es];show if (!decide (r.2.2.2∈FL a tl))=true then _ else _;exact fm c2 ⟨_,rfl,s4,f4,t4⟩
     .have es:Gz a x tl r=tl++[r]:=by unfold Gz;rw[if_pos ⟨c1,c2⟩]
      rw[es];show if (!decide (r.2.2.2∈FL a tl))=true then _ else _;refine pP c2 ?_;refine⟨_,rfl,.inl ⟨rfl,_,FF.of f4⟩,_,rfl,ay (j:=2) (.inr (FE.of GY)) rfl rfl ⟨fo,_,_,rfl,rfl,f4,fits (by simp;omega),?_⟩⟩;have s5:=aj.upd0 s4 (o:=.lst ((FL a tl).map V.str++[.str r.2.2.2])) (q:=fo) JK;have f5:upd H4 fo (.lst ((FL a tl).map V.str++[.str r.2.2.2])) fo=some (.lst ((FL a (tl++[r])).map V.str)):=by rw[ak];simp
      have t5:upd H4 fo (.lst ((FL a tl).map V.str++[.str r.2.2.2])) tk=some (.lst (ao tl)):=by rw[ag Lf.symm];exact t4
      generalize upd H4 fo (.lst ((FL a tl).map V.str++[.str r.2.2.2]))=H5 at s5 f5 t5 ⊢;refine⟨_,rfl,.inl ⟨rfl,_,FF.of t5⟩,_,rfl,tk,_,_,rfl,rfl,t5,fits (by simp;omega),_,rfl,aj.upd0 s5 Js,by rw[ag Lf];exact f5,by rw[ak];simp[ao]⟩
    .have es:Gz a x tl r=tl:=by unfold Gz;rw[if_neg (λz=>c1 z.1)]
     rw[es,decide_eq_false (λz=>c1 (V.str.inj z))];exact aG (aG ⟨_,rfl,s4,f4,t4⟩)
   .rintro σ H4 ⟨g,rfl,s4,f4,t4⟩
    have et:rs.take (ao rs).length=rs:=take_all rs (by simp);rw[et,<- eb]at f4 t4;exact⟨_,rfl,_,_,rfl,rfl,_,by omega,q+1,Rt,_,rfl,rfl,B',s4,f4,t4⟩
  .have LA:fd.length<=q:=by
    have:=of_decide_eq_false (E9.mpr c);rw[AG,Ia]at this;omega
   have e1:Gd rs a q=first rs a:=u0 (by have:=Ia;simp at this;omega) (by omega);have Fu:=Bq.full LA;rw[e1]at t3 Fu;exact⟨_,rfl,k tk H3 s3 Js t3 Fu⟩
def jL:Sp:=λvs H Q _=>∃(ra:Addr) (a:Str) (rs:List T) (ps:List Str),vs=[.ref ra,.str a]/\(H ra=some (.lst (ao rs))\/H ra=some (.tup (ao rs)))/\cZ H rs/\a∈ps/\(∀r∈rs,r.2.2.2∈ps)/\ps.length<=100/\rs.length<=60 /\
 ∀(q:Addr) (H':Hp),aj H H'->H q=none->H' q=some (.lst ((FL a (first rs a)).map V.str))->eB rs a (first rs a)->Q (.ref q) H'
theorem gQ {rs tk:List T}{a:Str}{ps:List Str} (F:eB rs a tk) (ha:a∈ps) (h:∀r∈rs,r.2.2.2∈ps):tk.length+1<=ps.length:=by
 have:=cV F.nd (m:=ps) λz hz=>by
  obtain⟨n,hd⟩:=F.mem z hz;exact eZ ha (λr hr=>by obtain⟨t,ht,rfl⟩:=AL.mp hr;exact h t ht) hd.1
 simpa using this
theorem zS:aM ["rows","start"] ["rows","start"] (aE (top 19)):=⟨rfl,rfl,rfl,by decide +kernel,rfl,by decide +kernel,by decide +kernel⟩
theorem si (F:FS K "come_to" "come_to" (top 19) f fd) (F1:Fn P w K mg base 1 "first_rows" ["rows","start"] nj):aF P w K mg base FT 2 f fd ["rows","start"] jL:=by
 refine F.ok zS (λvs H Q E h=>?_) (λ_ _ _ _ H vs Q E hr h=>?_)
 .obtain⟨ra,a,rs,ps,rfl,_⟩:=h
  rfl
 .obtain⟨ra,a,rs,ps,rfl,Ni,FU,Kb,GF,hz,IF,k⟩:=h
  refine⟨_,aw (aJ (aP xZ (cg (aa (pv 1) ae)) (bo (N:=["row"]) (ix:=[none]) ⟨rfl,rfl,rfl,by decide⟩ rfl (cn (aB F1 hr (aa (pv 0) (aa (pv 1) ae)))) (λ_ _ _ _=>aL 0 (by decide) rfl rfl) (λ_ _ _ _=>bq)
   (λ_ _ _ _=>ax (b6 K) (pv 0) ai (λ_ _=>rfl))))),?_⟩
  refine⟨_,rfl,by show 1<=sizeLine;decide,λl hl=>?_⟩;have s1:=av (o:=.lst [.str a]) (aj.refl H) hl;have l1:upd H l (.lst [.str a]) l=some (.lst [.str a]):=ak;generalize upd H l (.lst [.str a])=H1 at s1 l1 ⊢;refine⟨_,rfl,_,rfl,ra,a,rs,ps,rfl,Ni.imp (s1 _ _) (s1 _ _),FU.same s1,Kb,GF,hz,IF,λq H2 s2 HW q2 Fu=>?_⟩;have FJ:=gQ Fu Kb GF;have r2:cZ H2 (first rs a):=⟨λr hr=>s2 _ _ (s1 _ _ (FU.e r (Fu.sub r hr)))⟩
  refine⟨q,rfl,⟨_,FF.of q2⟩,i4 (xs:=ao (first rs a)) (fits (by simp;omega)) (λi ys σ H3=>ys=((first rs a).take i).map (λt=>V.str t.2.2.2)/\aj H2 H3/\∃v,σ=[v]) ⟨rfl,aj.refl _,_,rfl⟩
   (λi ys σ H3 _ p=>⟨by rw[p.1];simp;omega,FF.of (p.2.1 _ _ q2)⟩) ?_ ?_⟩
  .rintro i x ys σ H3 hx ⟨rfl,s3,v,rfl⟩
   obtain⟨r,FW,rfl⟩:=bY hx;exact⟨_,rfl,ay (j:=2) (.inr (FE.of (s3 _ _ (r2.e r (AW FW))))) rfl rfl ⟨(fB _ _ _ _ FW).symm,s3,_,rfl⟩⟩
  .rintro ys σ H3 ⟨rfl,s3,v,rfl⟩ c hc
   rw[take_all (first rs a) (by simp)];have s4:=av (o:=.lst ((first rs a).map λt=>V.str t.2.2.2)) s3 hc;have c4:upd H3 c (.lst ((first rs a).map λt=>V.str t.2.2.2)) c=some (.lst ((first rs a).map λt=>V.str t.2.2.2)):=ak;generalize upd H3 c (.lst ((first rs a).map λt=>V.str t.2.2.2))=H4 at s4 c4 ⊢;have Of:=s1.trans (s2.trans s4);refine⟨l,c,_,_,rfl,rfl,s4 _ _ (s2 _ _ l1),c4,Cq (fits (by simp;omega)),λp hp=>k p _ (av Of hp) (Of.free hp) (by rw[ak];simp[A6]) Fu⟩
structure br (root:Str) (ps:List Str) (tk:List T):Prop where
 tr:Tree root ps (tk.map (·.2))
 st:∀t∈tk,t.2.2.1∈ps/\t.2.2.2∈ps
 rt:root∈ps
section
variable {root:Str}{ps:List Str}{tk:List T}
theorem br.goals (W:br root ps tk):(tk.map (·.2.2.2)).Nodup:=by
 have:=W.tr.nd;rw[A6]at this;exact(Bj.mp this).2
theorem br.nroot (W:br root ps tk) {t:T} (h:t∈tk):t.2.2.2≠root:=by
 have:=W.tr.nd;rw[A6]at this;exactλe=>(Bj.mp this).1 (e ▸ AM (f:=λt:T=>t.2.2.2) h)
theorem br.inn (W:br root ps tk) {x:Str} (h:x∈ps):x∈FL root tk:=by
 have:=W.tr.all x h;rw[A6]at this;exact this
theorem br.out (W:br root ps tk) {x:Str} (h:x∈FL root tk):x∈ps:=by
 rcases AO.mp h with e|h
 .rw [e];exact W.rt
 .obtain⟨t,ht,rfl⟩:=AL.mp h
  exact(W.st t ht).2
theorem br.one (W:br root ps tk) {t t':T} (h:t∈tk) (h':t'∈tk) (e:t.2.2.2=t'.2.2.2):t=t':=by
 have nd:=W.goals;have Yj:∀(l:List T),(l.map (·.2.2.2)).Nodup->∀a∈l,∀b∈l,a.2.2.2=b.2.2.2->a=b:=by
  intro l
  induction l with
  | nil=>intro _ a ha;cases ha
  | cons c r ih =>
   intro nd a ha b hb e;obtain⟨n1,n2⟩:=Bj.mp (show(c.2.2.2::r.map (·.2.2.2)).Nodup from nd)
   rcases AO.mp ha with rfl|ha2
   .rcases AO.mp hb with rfl|hb
    .rfl
    .exact absurd (e ▸ AM (f:=λt:T=>t.2.2.2) hb) n1
   .have OE:=ha2
    rcases AO.mp hb with rfl|hb
    .exact absurd (by rw[<- e];exact AM (f:=λt:T=>t.2.2.2) OE) n1
    .exact ih n2 a ha2 b hb e
 exact Yj tk nd t h t' h' e
theorem br.find (W:br root ps tk) {t:T} (h:t∈tk):tk.find? (λu=>decide (u.2.2.2=t.2.2.2))=some t:=by
 obtain⟨u,e,hu,hx⟩:=find_some (tk:=tk) (x:=t.2.2.2) (AM (f:=λt:T=>t.2.2.2) h);rw[e,W.one hu h hx]
theorem tO {d:Str->Nat} (hd:∀r∈tk.map (·.2),d r.2.2=d r.2.1+1) {a x:Str}{n:Nat} (h:Walk (tk.map (·.2)) a n x):d x=d a+n:=by
 induction h with
 | nil=>rfl
 | @snoc n r h hr ih=>rw[hd r hr,ih];omega
theorem br.walk (W:br root ps tk) {d:Str->Nat} (h0:d root=0) (hd:∀r∈tk.map (·.2),d r.2.2=d r.2.1+1):∀(k:Nat) (x:Str),d x<=k->x∈ps->Walk (tk.map (·.2)) root (d x) x:=by
 intro k
 induction k with
 | zero =>
  intro x hx hp
  rcases AO.mp (W.inn hp)with e|h
  .subst e;rw[h0];exact .nil
  .obtain⟨t,ht,rfl⟩:=AL.mp h
   have:=hd t.2 (AM ht);omega
 | succ k ih =>
  intro x hx hp
  rcases AO.mp (W.inn hp)with e|h
  .subst e;rw[h0];exact .nil
  .obtain⟨t,ht,rfl⟩:=AL.mp h
   have e:=hd t.2 (AM ht);have:=ih t.2.2.1 (by omega) (W.st t ht).1;rw[e];exact .snoc this (AM ht)
theorem br.dist (W:br root ps tk):∃d:Str->Nat,d root=0/\(∀r∈tk.map (·.2),d r.2.2=d r.2.1+1)/\∀x∈ps,bp (tk.map (·.2)) root (d x) x/\d x<ps.length:=by
 obtain⟨d,h0,hd⟩:=W.tr.rk;have D:∀x∈ps,bp (tk.map (·.2)) root (d x) x:=λx hx=>⟨W.walk h0 hd _ x (AY _) hx,λm hm=>by have:=tO hd hm;omega⟩
 exact⟨d,h0,hd,λx hx=>⟨D x hx,om W.rt (λr hr=>by obtain⟨t,ht,rfl⟩:=AL.mp hr;exact(W.st t ht).2) (D x hx)⟩⟩
theorem br.full (W:br root ps tk):eB tk root tk:=by
 obtain⟨d,h0,hd,D⟩:=W.dist;refine⟨λz hz=>⟨_,(D z (W.out hz)).1⟩,?_,λt h=>h,λt ht=>⟨W.inn (W.st t ht).1,d t.2.2.1,(D _ (W.st t ht).1).1,?_⟩,λn z h=>W.inn (eZ W.rt (λr hr=>by obtain⟨t,ht,rfl⟩:=AL.mp hr;exact(W.st t ht).2) h)⟩
 .have:=W.tr.nd
  rw[A6]at this;exact this
 .rw [<- hd t.2 (AM ht)];exact(D _ (W.st t ht).2).1
end
def JV (F:List T) (x:Str):Str:=match F.find? (λt=>decide (t.2.2.2=x))with|some t=>t.2.2.1|none=>x
def upN (F:List T):Nat->Str->Str
 | 0,x=>x
 | n+1,x=>JV F (upN F n x)
def isTr (root:Str) (ps:List Str) (F:List T):Bool:=ps.all λp=>decide (upN F ps.length p=root)
section
variable {root:Str}{ps:List Str}{tk:List T}
theorem br.upN (W:br root ps tk) {d:Str->Nat} (hd:∀r∈tk.map (·.2),d r.2.2=d r.2.1+1) (h0:d root=0) {x:Str} (hx:x∈ps):∀n,upN tk n x∈ps/\d (K52.upN tk n x)=d x-n:=by
 intro n
 induction n with
 | zero=>exact⟨hx,rfl⟩
 | succ n ih =>
  show JV tk (K52.upN tk n x)∈ps/\d (JV tk (K52.upN tk n x))=d x-(n+1);generalize K52.upN tk n x=y at ih
  rcases AO.mp (W.inn ih.1)with e|h
  .subst e
   have:JV tk y=y:=by
    unfold JV;cases q:tk.find? (λt=>decide (t.2.2.2=y))with
    | none=>rfl
    | some t=>exact absurd (by simpa using Du q) (W.nroot (Dd q))
   rw[this];exact⟨ih.1,by omega⟩
  .obtain⟨t,ht,rfl⟩:=AL.mp h
   have:JV tk t.2.2.2=t.2.2.1:=by unfold JV;rw[W.find ht]
   rw[this];have:=hd t.2 (AM ht);exact⟨(W.st t ht).1,by omega⟩
theorem br.isTr (W:br root ps tk):isTr root ps tk=true:=by
 obtain⟨d,h0,hd,D⟩:=W.dist;unfold K52.isTr;rw[BL];intro p hp;refine decide_eq_true ?_;obtain⟨h1,h2⟩:=W.upN hd h0 hp ps.length;have:=(D p hp).2;generalize K52.upN tk ps.length p=y at h1 h2
 rcases AO.mp (W.inn h1)with e|h
 .exact e
 .obtain⟨t,ht,rfl⟩:=AL.mp h
  have:=hd t.2 (AM ht);omega
open Classical in
end
theorem ni (x:Str):¬ Gb x x:=λh=>DW _ h
theorem wd {x y:Str} (h:Gb x y) (h':Gb y x):False:=DW _ (EX h h')
theorem fc:∀{a b:List Str},a.Pairwise Gb->b.Pairwise Gb->(∀x,x∈a ↔ x∈b)->a=b:=by
 intro a
 induction a with
 | nil =>
  intro b _ _ h;cases b with
  | nil=>rfl
  | cons y s=>exact absurd ((h y).mpr AK) (by simp)
 | cons x r ih =>
  intro b ha hb h;obtain⟨Uc,ha2⟩:=DT.mp ha;cases b with
  | nil=>exact absurd ((h x).mp AK) (by simp)
  | cons y s =>
   obtain⟨KJ,JA⟩:=DT.mp hb;have e:x=y:=by
    rcases AO.mp ((h x).mp AK)with e|e
    .exact e
    .rcases AO.mp ((h y).mpr AK)with e' | e'
     .exact e'.symm
     .exact (wd (KJ x e) (Uc y e')).elim
   subst e;rw[ih ha2 JA λz=>⟨λhz=>?_,λhz=>?_⟩]
   .rcases AO.mp ((h z).mp (AR _ hz))with e|e
    .subst e;exact(ni _ (Uc _ hz)).elim
    .exact e
   .rcases AO.mp ((h z).mpr (AR _ hz))with e|e
    .subst e;exact(ni _ (KJ _ hz)).elim
    .exact e
theorem cu.treeW {ps:List Str}{rs:List T}{root:Str}{ss:List Str} (t:cu root ps rs ss) (G:Good ps (rs.map (·.2))) (rt:root∈ps):br root ps (aS rs ss):=
 ⟨t.tr,λr hr=>by have:=G.rn r.2 (AM (AS.mp hr).1);exact⟨this.2.1,this.2.2.1⟩,rt⟩
theorem Good.names {ps:List Str}{rs:List T} (G:Good ps (rs.map (·.2))):(nms rs).Pairwise Gb:=by
 have:=G.rso;rw[A6]at this;exact this
theorem br.len {root:Str}{ps:List Str}{tk:List T} (W:br root ps tk):tk.length+1<=ps.length:=by
 have:=gQ W.full W.rt (λr hr=>(W.st r hr).2);exact this
theorem br.len2 {root:Str}{ps:List Str}{tk:List T} (W:br root ps tk) (nd:ps.Nodup):tk.length+1=ps.length:=by
 refine Nat.le_antisymm W.len ?_;have:=cV nd (m:=FL root tk) λx hx=>W.inn hx;simpa using this
structure InP (ps:List Str) (F:List T):Prop where
 st:∀t∈F,t.2.2.1∈ps/\t.2.2.2∈ps
section
variable {root:Str}{ps:List Str}{F:List T}
def pJ (root:Str) (ps:List Str) (F:List T):Prop:=F.length+1=ps.length/\(F.map (·.2.2.2)).Nodup/\root∉F.map (·.2.2.2)/\isTr root ps F=true
end
structure WP (H:Hp) (v pa ra:Addr) (ps:List Str) (rs:List T) (root:Str):Prop where
 W:bx H v pa ra ps rs
 G:Good ps (rs.map (·.2))
 pz:ps.length<=8
 rz:rs.length<=40
 rt:root∈ps
theorem WP.same {H H':Hp}{v pa ra:Addr}{ps:List Str}{rs:List T}{root:Str} (t:WP H v pa ra ps rs root) (s:aj H H'):WP H' v pa ra ps rs root:=⟨t.W.same s,t.G,t.pz,t.rz,t.rt⟩
theorem cA {k:Nat}{A:Around} (hr:aO k A):A.units+1<cLine:=zb hr
theorem oo {H:Hp}{a b:Addr}{xs:List V}{kvs:List (Key×V)} (h1:H a=some (.tup xs)) (h2:H b=some (.dK kvs)):a≠b:=jZ h1 h2 (by intro z;cases z)
theorem iC:bootBuiltins "set"=some (.type "set"):=by decide +kernel
theorem kB (K:zz7) {T:String}{X:Cx} (h:X.K=K:=by rfl):bh X (.builtin "isinstance") (λxs H Q=>∃x t b,xs=[x,.ty T]/\cM K H x t/\PySem.W.kitOne K t (.type T)=some b/\Q (.bl b) H):=by subst h;exact bV
theorem iS (w:World) {X:Cx} (hc:X.calm=true) (h:X.w=w:=by rfl):bh X (.type "set") (λxs H Q=>∃(p:Addr) (ss:List Str),xs=[.ref p]/\FE X.K H p (ss.map V.str)/\ss.length<3000 /\
  ∀(a:Addr),H a=none->Q (.ref a) (upd H a (bF w a (aW ss.reverse)))):=by subst h;exact sm hc
theorem iL (w:World) {X:Cx} (hc:X.calm=true) (h:X.w=w:=by rfl):bh X (.builtin "sorted") (λxs H Q=>∃(a:Addr) (ss:List Str),xs=[.ref a]/\H a=some (bF w a ss)/\ss.length<64 /\
  ∀(FZ:List Str) (q:Addr),FZ.Perm ss->PyProof.Rows.sortedS FZ=true->H q=none->Q (.ref q) (upd H q (.lst (FZ.map V.str)))):=by subst h;exact qy hc
abbrev Al:=Addr×T
abbrev JH (al:List Al):List (Key×V):=al.map λp=>((Sum.inr p.2.2.1:Key),V.ref p.1)
theorem qo (al:List Al) (x:Str):aR (JH al) (Sum.inr x)=(al.find? λp=>decide (p.2.2.1=x)).map λp=>V.ref p.1:=by
 unfold aR JH;rw[List.find?_map];have e:((λkv:Key×V=>decide (kv.1=Sum.inr x)) ∘ λp:Al=>((Sum.inr p.2.2.1:Key),V.ref p.1))=λp:Al=>decide (p.2.2.1=x):=by
  funext p
  simp
 rw[e,Option.map_map];rfl
theorem zG {al:List Al}{x:Str} (h:x∈al.map (·.2.2.1)):∃p∈al,p.2.2.1=x/\aR (JH al) (Sum.inr x)=some (V.ref p.1):=by
 obtain⟨u,hu,e⟩:=AL.mp h;rw[qo];cases q:al.find? (λp=>decide (p.2.2.1=x))with
 | none=>exact absurd (ES.mp q u hu) (by simpa using e)
 | some p=>exact⟨p,Dd q,by simpa using Du q,rfl⟩
abbrev Lh (F:List T):List (Key×V):=F.map λt=>((Sum.inr t.2.2.2:Key),V.str t.2.2.1)
theorem zT (F:List T) (x:Str):aR (Lh F) (Sum.inr x)=(F.find? λt=>decide (t.2.2.2=x)).map λt=>V.str t.2.2.1:=by
 unfold aR Lh;rw[List.find?_map];have e:((λkv:Key×V=>decide (kv.1=Sum.inr x)) ∘ λp:T=>((Sum.inr p.2.2.2:Key),V.str p.2.2.1))=λp:T=>decide (p.2.2.2=x):=by
  funext p
  simp
 rw[e,Option.map_map];rfl
theorem zx (F:List T) (x:Str):(aR (Lh F) (Sum.inr x)).getD (.str x)=.str (JV F x):=by
 rw[zT];unfold JV;cases F.find? (λt=>decide (t.2.2.2=x))<;>rfl
theorem tJ {ps:List Str}{rs:List T} (G:Good ps (rs.map (·.2))) {a b:T} (ha:a∈rs) (hb:b∈rs) (e:a.2.1=b.2.1):a=b:=by
 have h1:=xa (bZ G.names) ha;have:b∈rs.filter (λx=>decide (x.2.1∈[a.2.1])):=AS.mpr ⟨hb,by rw[e];simp⟩;rw[h1]at this;exact(by simpa using this:b=a).symm
theorem uO {ps:List Str}{rs:List T}{ss:List Str} (G:Good ps (rs.map (·.2))) (so:ss.Pairwise Gb) (nm:∀x∈ss,x∈nms rs):(aS rs ss).map (·.2.1)=ss:=by
 refine fc (G.names.sublist (BJ.map _)) so λx=>⟨λh=>?_,λh=>?_⟩
 .obtain⟨r,hr,rfl⟩:=AL.mp h
  exact of_decide_eq_true (AS.mp hr).2
 .obtain⟨r,hr,e⟩:=AL.mp (nm x h)
  exact AL.mpr ⟨r,AS.mpr ⟨hr,decide_eq_true (by rw[e];exact h)⟩,e⟩
structure fq (F:List T) (j:Nat) (kvs:List (Key×V)):Prop where
 le:kvs.length<=j
 nd:((F.take j).map (·.2.2.2)).Nodup->kvs=Lh (F.take j)
 no:¬ ((F.take j).map (·.2.2.2)).Nodup->kvs.length<j
 mem:∀x,(aR kvs (Sum.inr x)).isSome=true ↔ x∈(F.take j).map (·.2.2.2)
theorem fq.start (F:List T):fq F 0 []:=⟨AY _,λ_=>rfl,λh=>absurd Dz h,λx=>by simp[aR]⟩
theorem fq.put {F:List T}{j:Nat}{kvs:List (Key×V)} (A:fq F j kvs) {t:T} (h:F[j]?=some t):fq F (j+1) (putK kvs (Sum.inr t.2.2.2) (.str t.2.2.1)):=by
 have e:(F.take (j+1)).map (·.2.2.2)=(F.take j).map (·.2.2.2)++[t.2.2.2]:=by rw[Br,h];simp
 have hm:∀x,(aR (putK kvs (Sum.inr t.2.2.2) (.str t.2.2.1)) (Sum.inr x)).isSome=true ↔ x∈(F.take (j+1)).map (·.2.2.2):=λx=>by
  rw[uQ,e,A1]
  by_cases c:x=t.2.2.2
  .subst c;simp
  .have c':¬ (Sum.inr x:Key)=Sum.inr t.2.2.2:=λq=>c (by injection q)
   rw[if_neg c',A.mem];constructor
   .exact .inl
   .rintro (q|q)
    .exact q
    .exact absurd (by simpa using q) c
 cases hv:aR kvs (Sum.inr t.2.2.2)with
 | none =>
  have hn:t.2.2.2∉(F.take j).map (·.2.2.2):=λq=>by
   have:=(A.mem _).mpr q;rw[hv]at this;cases this
  rw[gX _ hv]at hm ⊢;refine⟨by rw[Bu];have:=A.le;simpa using this,λq=>?_,λq=>?_,hm⟩
  .rw [e]at q
   rw[A.nd (BW.mp q).1,Br,h];simp[Lh]
  .have:¬ ((F.take j).map (·.2.2.2)).Nodup:=λz=>q (by rw[e];exact lQ z hn)
   have:=A.no this;rw[Bu];simpa using this
 | some y =>
  have hs:t.2.2.2∈(F.take j).map (·.2.2.2):=(A.mem _).mp (by rw[hv];rfl);have hl:(putK kvs (Sum.inr t.2.2.2) (V.str t.2.2.1)).length=kvs.length:=by
   unfold putK;have:(kvs.any λkv=>decide (kv.1=(Sum.inr t.2.2.2:Key)))=true:=by rw[eX,hv];rfl
   rw[if_pos this,AG]
  have Ly:=A.le;refine⟨by omega,λq=>?_,λ_=>by omega,hm⟩;rw[e]at q;exact absurd rfl ((BW.mp q).2.2 _ hs _ (by simp))
def nE:Sp:=λvs H Q _=>∃(v pa ra th:Addr) (ps:List Str) (rs:List T) (root:Str) (ss:List Str),vs=[.ref v,.str root,.ref th]/\WP H v pa ra ps rs root/\H th=some (.tup (ss.map V.str))/\(∀x∈ss,x∈nms rs)/\ss.length<=900 /\
 ∀(b:Bool) (H':Hp),aj H H'->(b=true ↔ ss.Pairwise Gb/\pJ root ps (aS rs ss))->Q (.bl b) H'
abbrev Yn:List Str:=["_law_web_here","_law_root","_law_thing","_law_led","_law_tie","_law_begin","_law_goal","_law_ahead","_law_place","_law_here","_law_step"]
theorem dr:aM Yn ["_law_web_here","_law_root","_law_thing"] (aE (top 41)):=⟨rfl,rfl,rfl,by decide +kernel,rfl,by decide +kernel,by decide +kernel⟩
theorem vc (F:FS K "_law_is_tree" "_law_is_tree" (top 41) f fd) (B:Bl mg):aF P w K mg base FT 1 f fd ["_law_web_here","_law_root","_law_thing"] nE:=by
 refine F.ok dr (λvs H Q E h=>?_) (λ_ _ _ _ H vs Q E hr h=>?_)
 .obtain⟨v,pa,ra,th,ps,rs,root,ss,rfl,_⟩:=h
  rfl
 .obtain⟨v,pa,ra,th,ps,rs,root,ss,rfl,wp,IE,nm,hz9,k⟩:=h
  obtain⟨W,G,L8,IF,IG⟩:=wp
  refine⟨_,am (aN (i:=3) dr.nd rfl (Or.inr rfl) mI)
   (am (cj BC rfl (bj (ax aC (pv 0) ai (λ_ _=>rfl))) (dI rfl (n:=3) (ba (aY (i:=4) dr.nd rfl (Or.inl rfl)) (ba (aY (i:=5) dr.nd rfl (Or.inl rfl)) (ba (aY (i:=6) dr.nd rfl (Or.inl rfl)) cH))))
    (aw (jr (cA hr) (pv 3) (pv 4) (cJ (aa (pv 5) (aa (pv 6) ae))) rfl)))
   (am (aV (PW.pt (bG (bu (bg (au (bV (T:="tuple")) rfl B.isinstance bO (aa (pv 2) (aa (bS (v:=.ty "tuple") rfl B.tuple bL rfl) ae)))))
     (cf (bu (bg (au (dC rfl) rfl B.all dM (aa (bo (N:=["_law_one","_law_led"]) (ix:=[none,some 3]) ⟨rfl,rfl,rfl,by decide⟩ rfl (bj (pv 2)) (λ_ _ _ _=>aL 0 (by decide) rfl rfl) (λ_ _ _ _=>bq)
      (λ_ _ _ _=>b8 (au (kB K (T:="str")) rfl B.isinstance bO (aa (pv 0) (aa (bS (v:=.ty "str") rfl B.str iF rfl) ae))) (cq (xT (oR (cA hr) (pv 0) (pv 1)) (by with_unfolding_all rfl))))) ae))))))) bP aU)
   (am (aV (PW.pt (bG (aI (gm hr) (bQ iN rfl B.list ir (aa (pv 2) ae)) (au (iL w rfl) rfl B.sorted dE (aa (bQ (iS w rfl) rfl B.set iC (aa (pv 2) ae)) ae)) (aH _))
     (cf (aI bT (au aX rfl B.len Bb (aa (pv 2) ae)) (aP dH (au aX rfl B.len Bb (aa (ax aC (pv 0) ai (λ_ _=>rfl)) ae)) ai) (aH _))))) (aw (aJ cY)) aU)
   (am (aN (i:=7) dr.nd rfl (Or.inl rfl) mI)
   (am (cj BC rfl (bj (pv 2)) (aY (i:=4) dr.nd rfl (Or.inl rfl))
    (aw (jr (cA hr) (pv 7) (ax aC (eJ (cA hr) (pv 3) (pv 4) (λ_ _=>rfl)) ai (λ_ _=>rfl)) (ax aC (eJ (cA hr) (pv 3) (pv 4) (λ_ _=>rfl)) ai (λ_ _=>rfl)) rfl)))
   (am (aV (PW.pt (bG (aI eQ (au uA rfl B.len Bb (aa (pv 7) ae)) (au aX rfl B.len Bb (aa (pv 2) ae)) (aH _)) (cf (ye (oR (cA hr) (pv 1) (pv 7)) (by with_unfolding_all rfl))))) (aw (aJ cY)) aU)
   (am (cj BC rfl (bj (ax aC (pv 0) ai (λ_ _=>rfl))) (aY (i:=8) dr.nd rfl (Or.inl rfl))
    (am (aN (i:=9) dr.nd rfl (Or.inl rfl) (pv 8))
    (am (cj BC rfl (bj (ax aC (pv 0) ai (λ_ _=>rfl))) (aY (i:=10) dr.nd rfl (Or.inl rfl))
     (aw (aN (i:=9) dr.nd rfl (Or.inl rfl) (vq (cA hr) (pv 7) (pv 9) (pv 9) ⟨rfl,rfl,rfl,rfl⟩))))
    (aw (aV (aI bT (pv 9) (pv 1) (aH _)) (aw (aJ cY)) aU)))))
   (aw (aJ cY))))))))),?_⟩
  have Gf:(nms rs).Nodup:=bZ G.names;intro ld Ir;have s1:=av (o:=.dK []) (aj.refl H) Ir;have d1:upd H ld (.dK []) ld=some (.dK (JH [])):=ak;generalize upd H ld (.dK [])=H1 at s1 d1 ⊢;have W1:=W.same s1;refine⟨_,rfl,ay (j:=1) (.inr (FE.of W1.tp)) rfl rfl ⟨ra,rfl,⟨_,FE.of W1.rl⟩,?_⟩⟩;refine dY (K:=K) (a:=ra) (xs:=ao rs) (λj σ H2=>∃(al:List Al) (g1 g2 g3:Option V),σ=[some (.ref v),some (.str root),some (.ref th),some (.ref ld),g1,g2,g3,none,none,none,none]/\aj H H2/\H2 ld=some (.dK (JH al))/\al.map (·.2)=rs.take j/\∀p∈al,H2 p.1=some (.tup [.str p.2.2.2.1,.str p.2.2.2.2]))
   ⟨[],none,none,none,rfl,s1,d1,rfl,λp hp=>by cases hp⟩ (λj σ H2 _ p=>by obtain⟨_,_,_,_,_,s2,_⟩:=p;exact FE.of (s2 _ _ W.rl)) ?_ ?_
  .rintro j y σ H2 hy ⟨al,g1,g2,g3,rfl,s2,d2,ea,ha⟩
   obtain⟨r,FW,rfl⟩:=bY hy;have GY:=s2 _ _ (W.rows r (AW FW));refine⟨r.1,_,rfl,FE.of GY,rfl,_,_,rfl,_,_,rfl,_,_,rfl,rfl,?_⟩;refine⟨_,rfl,_,rfl,by show 2<=sizeLine;decide,λu hu=>?_⟩;have s3:=av (o:=.tup [.str r.2.2.1,.str r.2.2.2]) s2 hu;have d3:upd H2 u (.tup [.str r.2.2.1,.str r.2.2.2]) ld=some (.dK (JH al)):=by rw[ag (aq d2 hu)];exact d2
   have u3:upd H2 u (.tup [.str r.2.2.1,.str r.2.2.2]) u=some (.tup [.str r.2.2.1,.str r.2.2.2]):=ak;have a3:∀p∈al,upd H2 u (.tup [.str r.2.2.1,.str r.2.2.2]) p.1=some (.tup [.str p.2.2.2.1,.str p.2.2.2.2]):=λp hp=>by rw[ag (aq (ha p hp) hu)];exact ha p hp
   generalize upd H2 u (.tup [.str r.2.2.1,.str r.2.2.2])=H3 at s3 d3 u3 a3 ⊢;have OD:al.length<=40:=by
    have:=congrArg List.length ea;rw[AG,B0]at this;omega
   refine⟨_,rfl,_,rfl,ld,_,rfl,dz.k (k:=Sum.inr r.2.1) d3 (fits (by rw[AG];omega)),al++[(u,r)],_,_,_,rfl,aj.upd0 s3 Ir,?_,by rw[AX,ea,Br,FW];rfl,λp hp=>?_⟩
   .have hv:aR (JH al) (Sum.inr r.2.1)=none:=by
     rw[qo];cases q:al.find? (λp=>decide (p.2.2.1=r.2.1))with
     | none=>rfl
     | some p =>
      have hm:p.2∈rs.take j:=by rw[<- ea];exact AM (Dd q)
      have e1:p.2.2.1=r.2.1:=by simpa using Du q
      have On:(nms (rs.take (j+1))).Nodup:=Gf.sublist ((List.take_sublist _ _).map _);rw[Br,FW]at On;unfold nms at On;rw[AX]at On;exact absurd e1 ((BW.mp On).2.2 _ (AM hm) _ (by simp))
    rw[ak,gX _ hv];simp[JH]
   .rcases A1.mp hp with q|q
    .rw [ag (oo (a3 p q) d3)];exact a3 p q
    .have e:p=(u,r):=by simpa using q
     subst e;rw[ag (oo u3 d3)];exact u3
  rintro σ H2 ⟨al,g1,g2,g3,rfl,s2,d2,ea,ha⟩;rw[show rs.take (ao rs).length=rs from take_all rs (by simp)]at ea
  have GT:∀x∈ss,∃p∈al,p.2.2.1=x/\aR (JH al) (Sum.inr x)=some (V.ref p.1):=λx hx=>zG (by
   have:al.map (·.2.2.1)=nms rs:=by unfold nms;rw[<- ea,A6];rfl
   rw[this];exact nm x hx)
  refine⟨_,rfl,_,_,true,rfl,.tup (s2 _ _ IE),rfl,true,rfl,aG ?_⟩
  refine⟨_,rfl,th,rfl,⟨_,FE.of (s2 _ _ IE)⟩,cG (xs:=ss.map V.str) (fits (by simp;omega)) (λi ys σ H3=>ys=List.replicate i (.bl true)/\H3=H2/\∃v,σ=[v,some (.ref ld)]) ⟨rfl,rfl,_,rfl⟩
   (λi ys σ H3 _ q=>⟨by rw[q.1];simp,by rw[q.2.1];exact FE.of (s2 _ _ IE)⟩) ?_ ?_⟩
  .rintro i x ys σ H3 hx ⟨rfl,rfl,v',rfl⟩
   obtain⟨y,hy,rfl⟩:∃y∈ss,x=V.str y:=by
    obtain⟨y,e1,e2⟩:=AL.mp (AW hx);exact⟨y,e1,e2.symm⟩
   obtain⟨p,hp,ep,hv⟩:=GT y hy;have dg:=bw.k (k:=Sum.inr y) d2;rw[hv]at dg;exact⟨_,rfl,_,_,true,rfl,.str y,rfl,true,rfl,be ⟨_,rfl,_,rfl,ld,_,rfl,dg,by rw[B8];rfl,rfl,_,rfl⟩⟩
  rintro ys σ H3 ⟨rfl,rfl,v',rfl⟩ q3 HM;have s4:=av (o:=.lst (List.replicate (ss.map V.str).length (.bl true))) (aj.refl H3) HM;refine⟨q3,List.replicate _ true,rfl,FF.of (by rw[ak,Cd]),_,rfl,?_⟩;have Ig:∀n:Nat,(List.replicate n true).all id=true:=by simp
  rw[Ig];refine aG ?_;generalize upd H3 q3 (.lst (List.replicate (ss.map V.str).length (.bl true)))=H4 at s4 ⊢;have Of:=s2.trans s4;have OY:=Of _ _ IE;refine⟨_,rfl,th,_,rfl,.inr (FE.of OY),λl hl=>?_⟩;have s5:=av (o:=.lst (ss.map V.str)) s4 hl;have l5:upd H4 l (.lst (ss.map V.str)) l=some (.lst (ss.map V.str)):=ak;have ML:upd H4 l (.lst (ss.map V.str)) th=some (.tup (ss.map V.str)):=by rw[ag (aq OY hl)];exact OY
  generalize upd H4 l (.lst (ss.map V.str))=H5 at s5 l5 ML ⊢;refine⟨_,rfl,th,ss,rfl,FE.of ML,by omega,λst GW=>?_⟩;have Jm:=iW ss.reverse;have GQ:∀x,x∈aW ss.reverse ↔ x∈ss:=λx=>by rw[jc,Eg]
  have Jn:(aW ss.reverse).length<=40:=by
   have:=cV Jm (m:=nms rs) λx hx=>nm x ((GQ x).mp hx);have e:(nms rs).length=rs.length:=by simp[nms]
   omega
  generalize aW ss.reverse=mt at Jm GQ Jn ⊢;have s6:=av (o:=bF w st mt) s5 GW;have l6:upd H5 st (bF w st mt) l=some (.lst (ss.map V.str)):=by rw[ag (aq l5 GW)];exact l5
  refine⟨st,mt,rfl,ak,by omega,λG7 q7 FY GX IH=>?_⟩;have LU:G7.Pairwise Gb:=dW GX (FY.nodup_iff.mpr Jm);have MO:∀x,x∈G7 ↔ x∈ss:=λx=>by rw[FY.mem_iff,GQ]
  have s7:=av (o:=.lst (G7.map V.str)) s6 IH;have l7:upd (upd H5 st (bF w st mt)) q7 (.lst (G7.map V.str)) l=some (.lst (ss.map V.str)):=by rw[ag (aq l6 IH)];exact l6
  have Jh:upd (upd H5 st (bF w st mt)) q7 (.lst (G7.map V.str)) q7=some (.lst (G7.map V.str)):=ak;generalize upd (upd H5 st (bF w st mt)) q7 (.lst (G7.map V.str))=H7 at s7 l7 Jh ⊢;have SL:∀x∈ss,aK x:=λx hx=>by
   obtain⟨r,FO,e⟩:=AL.mp (nm x hx);have:=(G.rn r.2 (AM FO)).1;rw[<- e];exact this
  have VM:∀x∈G7,aK x:=λx hx=>SL x ((MO x).mp hx);refine⟨.list (ss.map PyData.str),.list (G7.map PyData.str),.lst l7 (Gq.strs ss),.lst Jh (Gq.strs G7),(cT SL).1,(cT VM).1,_,rfl,?_⟩;have ev:PyData.eqv (.list (ss.map PyData.str)) (.list (G7.map PyData.str))=decide (ss=G7):=eV ss G7;rw[ev]
  by_cases JM:ss=G7
  case neg =>
   rw[decide_eq_false JM];exact be (be (k false H7 (s2.trans s7) ⟨λz=>(by cases z),λz=>absurd (fc z.1 LU λx=>(MO x).symm) JM⟩))
  rw[decide_eq_true JM];subst JM;refine aG ?_;have so:=LU;have JI:=uO G so nm;have Hs:ss.length=(aS rs ss).length:=by rw[<- JI,AG];rw[JI]
  have Kr:=s2.trans s7;have W7:=W.same Kr;refine⟨_,rfl,th,_,rfl,.inr (FE.of (Kr _ _ IE)),_,rfl,ay (j:=0) (.inr (FE.of W7.tp)) rfl rfl ⟨pa,_,rfl,.inr (FE.of W7.pl),_,_,rfl,rfl,rfl,_,rfl,?_⟩⟩
  by_cases Kd:(aS rs ss).length+1=ps.length
  case neg =>
   have en:(!decide (V.int ((ss.map V.str).length:Int)=V.int (((ps.map V.str).length:Int)-1)))=true:=by
    rw[AG,AG,Hs,decide_eq_false (λz=>Kd (by have:=V.int.inj z;omega))];rfl
   rw[en];exact be (k false H7 Kr ⟨λz=>(by cases z),λz=>absurd z.2.1 Kd⟩)
  have en:(!decide (V.int ((ss.map V.str).length:Int)=V.int (((ps.map V.str).length:Int)-1)))=false:=by
   rw[AG,AG,Hs,<- Kd];simp
  rw[en];refine aG ?_;intro ah Q3;have s8:=av (o:=.dK []) s7 Q3;have h8:upd H7 ah (.dK []) ah=some (.dK (Lh [])):=ak;have d8:upd H7 ah (.dK []) ld=some (.dK (JH al)):=by rw[ag (aq (s7 _ _ d2) Q3)];exact s7 _ _ d2
  have a8:∀p∈al,upd H7 ah (.dK []) p.1=some (.tup [.str p.2.2.2.1,.str p.2.2.2.2]):=λp hp=>s8 _ _ (ha p hp);have Q2:H3 ah=none:=s7.free Q3;generalize upd H7 ah (.dK [])=H8 at s8 h8 d8 a8 ⊢;have Oe:=s2.trans s8;refine⟨_,rfl,th,rfl,⟨_,FE.of (Oe _ _ IE)⟩,?_⟩;refine dY (K:=K) (a:=th) (xs:=ss.map V.str) (λj σ H9=>∃(g1:Option V),σ=[some (.ref v),some (.str root),some (.ref th),some (.ref ld),g1,g2,g3,some (.ref ah),none,none,none]/\aj H3 H9/\∃kvs,H9 ah=some (.dK kvs)/\fq (aS rs ss) j kvs)
   ⟨_,rfl,s8,_,h8,fq.start _⟩ (λj σ H9 _ p=>by obtain⟨_,_,s9,_⟩:=p;exact FE.of (s9 _ _ (s2 _ _ IE))) ?_ ?_
  .rintro j y σ H9 hy ⟨Rm,rfl,s9,kvs,h9,A9⟩
   rw[AZ]at hy;cases hc:ss[j]? with
   | none=>rw[hc]at hy;cases hy
   | some z =>
    rw[hc]at hy;cases hy;have GG:j<(aS rs ss).length:=by rw[<- Hs];exact(A3.mp hc).1
    have TV:(aS rs ss)[j]?=some (aS rs ss)[j]:=AJ GG;have WG:((aS rs ss)[j]).2.1=z:=by
     have:((aS rs ss).map (·.2.1))[j]?=some z:=by rw[JI];exact hc
     rw[AZ,TV]at this;simpa using this
    have HF:(aS rs ss)[j]∈aS rs ss:=Bk GG;obtain⟨p,hp,ep,hv⟩:=GT z (AW hc);have Jt:p.2=(aS rs ss)[j]:=tJ G (by rw[<- ea];exact AM hp) (AS.mp HF).1 (by rw[ep,WG]);have UM:=A9.put TV;generalize (aS rs ss)[j]=t at Jt UM;subst Jt;have QQ:=A9.le;have dg:=bw.k (k:=Sum.inr z) (s9 _ _ d2);rw[hv]at dg;have Tz:=s9 _ _ (ha p hp);refine⟨_,rfl,_,rfl,ld,_,rfl,dg,ay (j:=0) (.inr (FE.of Tz)) rfl rfl ⟨_,rfl,_,rfl,_,rfl,ld,_,rfl,dg,ay (j:=1) (.inr (FE.of Tz)) rfl rfl ?_⟩⟩;exact⟨ah,_,rfl,dz.k (k:=Sum.inr p.2.2.2.2) h9 (fits (by omega)),_,rfl,aj.upd0 s9 Q2,_,ak,UM⟩
  rintro σ H9 ⟨Rm,rfl,s9,kvs,h9,A9⟩;rw[show(ss.map V.str).length=(aS rs ss).length by rw[AG];exact Hs]at A9;have JX:=s2.trans s9;have W9:=W.same JX;refine⟨_,rfl,ah,_,rfl,h9,_,rfl,th,_,rfl,.inr (FE.of (JX _ _ IE)),_,_,rfl,rfl,_,rfl,?_⟩;have eF:(aS rs ss).take (aS rs ss).length=aS rs ss:=B3
  by_cases OJ:((aS rs ss).map (·.2.2.2)).Nodup
  case neg =>
   have:=A9.no (by rw[eF];exact OJ);have el:decide ((kvs.length:Int)<((ss.map V.str).length:Int))=true:=decide_eq_true (by rw[AG];omega);rw[el];exact be (be (k false H9 JX ⟨λz=>(by cases z),λz=>absurd z.2.2.1 OJ⟩))
  have ek:=A9.nd (by rw[eF];exact OJ);rw[eF]at ek;subst ek;have el:decide (((Lh (aS rs ss)).length:Int)<((ss.map V.str).length:Int))=false:=by
   rw[AG,AG,Hs];simp
  rw[el];refine aG ?_;refine⟨_,rfl,_,rfl,ah,_,rfl,bw.k (k:=Sum.inr root) h9,_,rfl,?_⟩;have QI:=A9.mem root;rw[eF]at QI
  by_cases OH:root∈(aS rs ss).map (·.2.2.2)
  .rw [QI.mpr OH]
   exact be (k false H9 JX ⟨λz=>(by cases z),λz=>absurd OH z.2.2.2.1⟩)
  rw[E9.mpr λz=>OH (QI.mp z)];refine aG ?_;refine⟨_,rfl,ay (j:=0) (.inr (FE.of W9.tp)) rfl rfl ⟨pa,rfl,⟨_,FE.of W9.pl⟩,?_⟩⟩;refine dY (K:=K) (a:=pa) (xs:=ps.map V.str) (λi σ Gy=>Gy=H9/\(∃g8 g9 Ml,σ=[some (.ref v),some (.str root),some (.ref th),some (.ref ld),Rm,g2,g3,some (.ref ah),g8,g9,Ml])/\∀p∈ps.take i,upN (aS rs ss) ps.length p=root)
   ⟨rfl,⟨_,_,_,rfl⟩,λp hp=>by simp at hp⟩ (λi σ Gy _ p=>by rw[p.1];exact FE.of W9.pl) ?_ ?_
  .rintro i y σ Gy hy ⟨rfl,⟨g8,g9,Ml,rfl⟩,Gm⟩
   rw[AZ]at hy;cases hc:ps[i]? with
   | none=>rw[hc]at hy;cases hy
   | some z =>
    rw[hc]at hy;cases hy;refine⟨_,rfl,_,rfl,ay (j:=0) (.inr (FE.of W9.tp)) rfl rfl ⟨pa,rfl,⟨_,FE.of W9.pl⟩,?_⟩⟩;refine dY (K:=K) (a:=pa) (xs:=ps.map V.str) (λm σ IY=>IY=Gy/\∃Ml,σ=[some (.ref v),some (.str root),some (.ref th),some (.ref ld),Rm,g2,g3,some (.ref ah),some (.str z),some (.str (upN (aS rs ss) m z)),Ml])
     ⟨rfl,_,rfl⟩ (λm σ IY _ p=>by rw[p.1];exact FE.of W9.pl) ?_ ?_
    .rintro m y2 σ IY Il ⟨rfl,Rl,rfl⟩
     refine⟨_,rfl,ah,rfl,.inl ⟨_,.inl h9⟩,_,rfl,_,rfl,_,bw.k (k:=Sum.inr (upN (aS rs ss) m z)) h9,?_⟩;rw[zx];exact⟨rfl,_,rfl⟩
    .rintro σ IY ⟨rfl,Rl,rfl⟩
     rw[AG];refine⟨_,rfl,_,rfl,rfl,_,rfl,?_⟩
     by_cases c:upN (aS rs ss) ps.length z=root
     .have e:(!decide (V.str (upN (aS rs ss) ps.length z)=V.str root))=false:=by rw[c];simp
      rw[e];refine aG ⟨rfl,⟨_,_,_,rfl⟩,λp hp=>?_⟩;rw[Br,hc]at hp
      rcases A1.mp hp with q|q
      .exact Gm p q
      .have e:p=z:=by simpa using q
       subst e;exact c
     .have e:(!decide (V.str (upN (aS rs ss) ps.length z)=V.str root))=true:=by rw[decide_eq_false (λq=>c (V.str.inj q))];rfl
      rw[e];have hf:isTr root ps (aS rs ss)=false:=by
       cases q:isTr root ps (aS rs ss)with
       | false=>rfl
       | true =>
        unfold isTr at q;exact absurd (of_decide_eq_true (BL.mp q z (AW hc))) c
      exact be (k false _ JX ⟨λz=>(by cases z),λz=>by have q:=z.2.2.2.2;rw[hf]at q;cases q⟩)
  .rintro σ Gy ⟨rfl,⟨g8,g9,Ml,rfl⟩,Gm⟩
   rw[show ps.take (ps.map V.str).length=ps from take_all ps (by simp)]at Gm;have hf:isTr root ps (aS rs ss)=true:=by
    unfold isTr;rw[BL];exactλp hp=>decide_eq_true (Gm p hp)
   exact k true _ JX ⟨λ_=>⟨so,Kd,OJ,OH,hf⟩,λ_=>rfl⟩
def pj:Sp:=λvs H Q _=>∃(p:Addr),vs=[.ref p,.int 8,.int 16]/\FV H p /\
 ∀(v u tl pa ra:Addr) (root:Str) (ps:List Str) (rs:List (Addr×Row)) (ts:List Tr) (H':Hp),FV H' p->H' v=some (.tup [.ref u,.str root,.ref tl])->bx H' u pa ra ps rs->Good ps (rs.map (·.2))->ps.length<=8->rs.length<=40->Kp [p] H H' ->
  H' tl=some (.lst (bB ts))->gu H' ts->(∀t∈ts,cu root ps rs t.2)->root∈ps->ts.length<=3->Q (.ref v) H'
abbrev Yo:List Str:=["_law_pot_here","_law_most_places","_law_most_more","_law_places_here","_law_root","_law_rows","_law_taken","_law_trees","_law_many"]
theorem eR:aM Yo ["_law_pot_here","_law_most_places","_law_most_more"] (aE (top 40)):=⟨rfl,rfl,rfl,by decide +kernel,rfl,by decide +kernel,by decide +kernel⟩
theorem xD (F:FS K "_law_web" "_law_web" (top 40) f fd) (B:Bl mg) (Ft:Fn P w K mg base 1 "_law_take" ["_law_pot_here","_law_many"] dZ) (Fp:Fn P w K mg base 3 "_law_places" ["_law_pot_here","_law_most"] mm)
  (Fg:Fn P w K mg base 3 "_law_grown" ["_law_pot_here","_law_places_here","_law_root","_law_rows","_law_taken"] nC) (Fm:Fn P w K mg base 3 "_law_more" ["_law_pot_here","_law_places_here","_law_rows","_law_taken","_law_many"] oV) :
  aF P w K mg base FT 4 f fd ["_law_pot_here","_law_most_places","_law_most_more"] pj:=by
 refine F.ok eR (λvs H Q E h=>?_) (λ_ _ _ _ H vs Q E hr h=>?_)
 .obtain⟨p,rfl,_⟩:=h
  rfl
 .obtain⟨p,rfl,hp,k⟩:=h
  have GC:aO 1 _:=hr.mono (by decide)
  refine⟨_,am (aN (i:=3) eR.nd rfl (Or.inr rfl) (aB Fp hr (aa (pv 0) (aa (pv 1) ae))))
   (am (aN (i:=4) eR.nd rfl (Or.inr rfl) (ax aC (pv 3) (aB Ft GC (aa (pv 0) (aa (au aX rfl B.len Bb (aa (pv 3) ae)) ae))) (λ_ _=>rfl)))
   (am (eM (cJ (aa (cg ae) (aa (cg ae) ae))) (dI rfl (n:=2) (ba (aY (i:=5) eR.nd rfl (Or.inr rfl)) (ba (aY (i:=6) eR.nd rfl (Or.inr rfl)) cH))))
   (am (dX (i:=7) (N:=["_law_k","_law_places_here","_law_pot_here","_law_root","_law_rows","_law_taken"]) (ix:=[none,some 3,some 0,some 4,some 5,some 6]) eR.nd rfl (Or.inl rfl) ⟨rfl,rfl,rfl,by decide⟩ rfl
    (fC rfl B.range (aa (aB Ft GC (aa (pv 0) (aa ai ae))) ae)) (λ_ _ _ _=>aL 0 (by decide) rfl rfl) (λ_ _ _ _=>bq) (λ_ _ _ _=>aB Fg hr (aa (pv 2) (aa (pv 1) (aa (pv 3) (aa (pv 4) (aa (pv 5) ae)))))))
   (am (aN (i:=8) eR.nd rfl (Or.inl rfl) (aB Ft GC (aa (pv 0) (aa (aP dG (pv 2) ai) ae))))
   (am (aV (aI ef (aB Ft GC (aa (pv 0) (aa ai ae))) ai (aH _)) (aw (aN (i:=8) eR.nd rfl (Or.inl rfl) (aP dH ai (au aX rfl B.len Bb (aa (pv 5) ae))))) aU)
   (am (b7 (aB Fm hr (aa (pv 0) (aa (pv 3) (aa (pv 5) (aa (pv 6) (aa (pv 8) ae)))))))
   (aw (aJ (cJ (aa (cJ (aa (bQ dS rfl B.tuple bL (aa (pv 3) ae)) (aa (bQ dS rfl B.tuple bL (aa (au qV rfl B.sorted dE (aa (pv 5) ae)) ae)) ae))) (aa (pv 4) (aa (pv 7) ae)))))))))))),?_⟩
  refine⟨_,rfl,_,rfl,p,8,rfl,hp,by decide,by decide,λpl ps H1 P1 l1 hlH Oi SF p1 p8 K1=>?_⟩;have HL:pl≠p:=iq P1 l1;have Ks:=bZ SF;have FJ:(ps.map V.str).length=ps.length:=by simp
  refine⟨_,rfl,_,rfl,_,rfl,pl,_,rfl,.inl (FF.of l1),p,_,rfl,P1,by omega,by omega,λi H2 i0 i1 P2 e2=>?_⟩;rw[FJ]at i1;have l2:H2 pl=some (.lst (ps.map V.str)):=by rw[e2 pl HL];exact l1
  have K2:Kp [p] H H2:=K1.trans λb o e nb=>by rw[e2 b (by simpa using nb)];exact e
  have GD:i.toNat<ps.length:=by omega
  refine ay (j:=i.toNat) (.inl (FF.of l2)) (by omega) (strAt GD) ?_;have Gj:ps[i.toNat]∈ps:=Bk GD;generalize ps[i.toNat]=root at Gj ⊢;refine⟨Bi _,λrw L0=>?_⟩;refine⟨Bi _,λtk Hd=>?_⟩;refine⟨by show 2<=sizeLine;decide,λpr HN=>?_⟩;have Hn:rw≠p:=λz=>by obtain⟨o,e⟩:=P2.some;rw[<- z,L0]at e;cases e
  have J1:pl≠rw:=aq l2 L0;have JF:rw≠tk:=λz=>by rw[z,ak]at Hd;cases Hd
  have Hz:tk≠p:=λz=>by obtain⟨o,e⟩:=P2.some;rw[z,ag Hn.symm,e]at Hd;cases Hd
  have GO:pl≠tk:=λz=>by rw[<- z,ag J1,l2]at Hd;cases Hd
  have K3:Kp [p] H (upd (upd (upd H2 rw (.lst [])) tk (.lst [])) pr (.tup [.ref rw,.ref tk])):=((K2.new L0).new Hd).new HN;have e3:∀b o,H2 b=some o->upd (upd (upd H2 rw (.lst [])) tk (.lst [])) pr (.tup [.ref rw,.ref tk]) b=some o:=((Kp.refl [] H2).new L0 |>.new Hd |>.new HN) |> λq b o e=>q b o e (by simp)
  have R3:bz (upd (upd (upd H2 rw (.lst [])) tk (.lst [])) pr (.tup [.ref rw,.ref tk])) rw tk []:=by
   have Qq:rw≠pr:=λz=>by rw[<- z,ag JF,ak]at HN;cases HN
   have Qp:tk≠pr:=λz=>by rw[<- z,ak]at HN;cases HN
   exact⟨by rw[ag Qq,ag JF,ak];rfl,by rw[ag Qp,ak];rfl,by simp⟩
  have Nl:upd (upd (upd H2 rw (.lst [])) tk (.lst [])) pr (.tup [.ref rw,.ref tk]) pr=some (.tup [.ref rw,.ref tk]):=ak;have P3:=P2.keep (e3 p);have l3:=e3 _ _ l2
  have Ql:H rw=none:=K2.free (λb hb=>by
   have e:b=p:=by simpa using hb
   subst e;exact P2.some) L0
  have Qb:H tk=none:=(K2.new (o:=.lst []) L0).free (λb hb=>by
   have e:b=p:=by simpa using hb
   subst e;rw[ag Hn.symm];exact P2.some) Hd
  generalize upd (upd (upd H2 rw (.lst [])) tk (.lst [])) pr (.tup [.ref rw,.ref tk])=H3 at K3 R3 Nl P3 l3 ⊢;have Yw:Kp [p,rw,tk] H H3:=K3.mono (by simp);refine⟨pr,_,rfl,FE.of Nl,rfl,_,_,rfl,_,_,rfl,rfl,?_⟩;refine⟨_,rfl,p,4,rfl,P3,by decide,by decide,λc H4 c0 c1 P4 e4=>⟨_,rfl,by omega,by omega,?_⟩⟩
  have R4:bz H4 rw tk []:=R3.kp (P:=[p]) (λb o e nb=>by rw[e4 b (by simpa using nb)];exact e) (λb hb=>by
   have e:b=p:=by simpa using hb
   subst e;exact P3.lst) (by simpa using Hn) (by simpa using Hz)
  have l4:H4 pl=some (.lst (ps.map V.str)):=by rw[e4 pl HL];exact l3
  have K4:Kp [p,rw,tk] H H4:=Yw.trans λb o e nb=>by rw[e4 b (by simp at nb;exact nb.1)];exact e
  refine gG (fits (by omega)) (λi ys σ H5=>(∃v,σ=[v,some (.ref pl),some (.ref p),some (.str root),some (.ref rw),some (.ref tk)])/\FV H5 p/\H5 pl=some (.lst (ps.map V.str))/\Kp [p,rw,tk] H H5/\∃rs ts,ys=bB ts/\ts.length=i/\gu H5 ts/\(∀t∈ts,cu root ps rs t.2)/\bz H5 rw tk rs/\GR ps rs/\rs.length<=7*i)
   ⟨⟨_,rfl⟩,P4,l4,K4,[],[],rfl,rfl,(λt ht=>by cases ht),(λt ht=>by cases ht),R4,⟨Dz,by simp⟩,by simp⟩ (λi ys σ H5 _ q=>by obtain⟨_,_,_,_,rs,ts,e,e',_⟩:=q;rw[e,AG,e'];exact AY _) ?_ ?_
  .rintro i ys σ H5 hi ⟨⟨v,rfl⟩,P5,l5,K5,rs,ts,rfl,Hr,T5,O5,R5,G5,z5⟩
   refine⟨_,rfl,_,rfl,_,rfl,_,rfl,_,rfl,p,pl,rw,tk,root,ps,rs,rfl,P5,l5,Gj,Ks,Oi,p8,R5,G5,by omega,Hn,Hz,JF,λq more ss H6 P6 R6 G6 m7 K6 q6 Ve Vu UY=>?_⟩;refine⟨⟨_,rfl⟩,P6,K6 _ _ l5 (by simp[HL,J1,GO]),K5.trans K6,rs++more,ts++[(q,ss)],by simp,by simp[Hr],λt ht=>?_,λt ht=>?_,R6,G6,by rw[Bu];omega⟩
   .rcases A1.mp ht with z|z
    .exact eN K6 (λc hc=>by
      rcases AO.mp hc with rfl|hc
      .exact P5.lst
      rcases AO.mp hc with rfl|hc
      .exact⟨_,R5.rl⟩
      .have e:c=tk:=by simpa using hc
       subst e;exact⟨_,R5.tl⟩) (T5 t z)
    .have e:t=(q,ss):=by simpa using z
     subst e;exact q6
   .rcases A1.mp ht with z|z
    .exact (O5 t z).more G6.nd
    .have e:t=(q,ss):=by simpa using z
     subst e;exact cu.grown Ve Vu UY G6.nd
  rintro ys σ H5 ⟨⟨v,rfl⟩,P5,l5,K5,rs,ts,rfl,Hr,T5,O5,R5,G5,z5⟩ tl Jb;have z5':rs.length<=21:=by omega
  have Vc:ts.length<=3:=by omega
  clear Hr;have Ld:tl≠p:=λz=>by obtain⟨o,e⟩:=P5.some;rw[<- z,Jb]at e;cases e
  have P6:FV (upd H5 tl (.lst (bB ts))) p:=P5.keep λo e=>by rw[ag Ld.symm];exact e
  have R6:=R5.new (o:=.lst (bB ts)) Jb;have K6:=K5.new (o:=.lst (bB ts)) Jb;have T6:gu (upd H5 tl (.lst (bB ts))) ts:=λt ht=>by rw[ag (aq (T5 t ht) Jb)];exact T5 t ht
  have Sb:upd H5 tl (.lst (bB ts)) tl=some (.lst (bB ts)):=ak;have l6:upd H5 tl (.lst (bB ts)) pl=some (.lst (ps.map V.str)):=by rw[ag (aq l5 Jb)];exact l5
  have VF:tl≠rw:=(aq R5.rl Jb).symm;have VE:tl≠tk:=(aq R5.tl Jb).symm;generalize upd H5 tl (.lst (bB ts))=H6 at P6 R6 K6 l6 T6 Sb ⊢;have Tg:(ao rs).length=rs.length:=by simp
  refine⟨_,rfl,_,rfl,_,_,rfl,rfl,p,_,rfl,P6,by decide,by decide,λmn H7 Wn mn1 P7 e7=>?_⟩
  dsimp only
  refine pM (λσ H'=>∃z:Int,σ=[some (.ref p),some (.int 8),some (.int 16),some (.ref pl),some (.str root),some (.ref rw),some (.ref tk),some (.ref tl),some (.int z)]/\0<=z/\z+rs.length<=40/\FV H' p/\∀b,b≠p->H' b=H7 b) (λN hN=>?_) ?_
  .refine⟨_,rfl,p,8,rfl,P7,by decide,by decide,λc8 H8 _ _ P8 e8=>⟨rfl,_,rfl,aZ (λc=>?_) (λc=>hN _ _ ⟨mn,rfl,Wn,by omega,P8,e8⟩)⟩⟩
   have r8:H8 rw=some (.lst (ao rs)):=by rw[e8 rw Hn,e7 rw Hn];exact R6.rl
   exact⟨_,rfl,rw,_,rfl,.inl (FF.of r8),_,_,rfl,rfl,hN _ _ ⟨_,rfl,by rw[Tg];omega,by rw[Tg];omega,P8,e8⟩⟩
  rintro σ H8 ⟨z,rfl,z0,z1,P8,e8⟩;have NW:∀b,b≠p->H8 b=H6 b:=λb hb=>(e8 b hb).trans (e7 b hb)
  have R8:bz H8 rw tk rs:=R6.kp (P:=[p]) (λb o e nb=>by rw[NW b (by simpa using nb)];exact e) (λb hb=>by
   have e:b=p:=by simpa using hb
   subst e;exact P6.lst) (by simpa using Hn) (by simpa using Hz)
  have l8:H8 pl=some (.lst (ps.map V.str)):=by rw[NW pl HL];exact l6
  have U2:H8 tl=some (.lst (bB ts)):=by rw[NW tl Ld];exact Sb
  have T8:gu H8 ts:=λt ht=>by rw[NW t.1 (λz=>by obtain⟨ys,e⟩:=P6.lst;rw[<- z,T6 t ht]at e;cases e)];exact T6 t ht
  have K8:Kp [p,rw,tk] H H8:=K6.trans λb o e nb=>by rw[NW b (by simp at nb;exact nb.1)];exact e
  refine⟨_,rfl,_,rfl,_,rfl,_,rfl,_,rfl,p,pl,rw,tk,_,ps,rs,rfl,P8,l8,Ks,p8,R8,G5,by omega,z0,by omega,Hn,Hz,JF,J1,GO,λmore H9 P9 R9 G9 z9 K9=>?_⟩;have M9:(rs++more).length<=40:=by rw[Bu];omega
  clear z9;have l9:H9 pl=some (.lst (ps.map V.str)):=K9 _ _ l8 (by simp[HL,J1,GO]);have U1:H9 tl=some (.lst (bB ts)):=K9 _ _ U2 (by simp[Ld,VF,VE])
  have T9:gu H9 ts:=λt ht=>eN K9 (λc hc=>by
   rcases AO.mp hc with rfl|hc
   .exact P8.lst
   rcases AO.mp hc with rfl|hc
   .exact⟨_,R8.rl⟩
   .have e:c=tk:=by simpa using hc
    subst e;exact⟨_,R8.tl⟩) (T8 t ht)
  have O9:∀t∈ts,cu root ps (rs++more) t.2:=λt ht=>(O5 t ht).more G9.nd
  have KH:Kp [p] H H9:=λb o e nb=>(K8.trans K9) b o e (by
   simp at nb ⊢
   exact⟨nb,aq e Ql,aq e Qb⟩)
  generalize rs++more=Vp at R9 G9 M9 O9;refine⟨_,rfl,pl,_,rfl,.inl ⟨FF.of l9,λpa Ht=>?_⟩⟩;have Kh:=R9.new (o:=.tup (ps.map V.str)) Ht;have N3:=KH.new (o:=.tup (ps.map V.str)) Ht;have N1:FV (upd H9 pa (.tup (ps.map V.str))) p:=P9.keep λo e=>by rw[ag (aq e Ht)];exact e
  have KN:upd H9 pa (.tup (ps.map V.str)) pa=some (.tup (ps.map V.str)):=ak;have RA:∀b o,H9 b=some o->upd H9 pa (.tup (ps.map V.str)) b=some o:=λb o e=>by rw[ag (aq e Ht)];exact e
  generalize upd H9 pa (.tup (ps.map V.str))=Gy at Kh N3 N1 KN RA ⊢;refine⟨_,rfl,rw,Vp.map λr=>(r.1,r.2.1),rfl,.inl (FF.of (by rw[mE];exact Kh.rl)),λy hy=>?_,by rw[AG];omega,?_,λVo q FY L9 hq=>?_⟩
  .obtain⟨x,hx,rfl⟩:=AL.mp hy
   exact⟨_,Kh.rows x hx⟩
  .rw [A6];exact G9.nd
  obtain⟨HK,Lq,Mp⟩:=lD (λr:Addr×Row=>(r.1,r.2.1)) Vo _ FY;subst Mp;rw[mE];have s1:=av (o:=.lst (ao HK)) (aj.refl Gy) hq;refine⟨q,_,rfl,.inl ⟨FF.of ak,λra Ni=>?_⟩⟩;have s2:=av (o:=.tup (ao HK)) s1 Ni;refine⟨by show 2<=sizeLine;decide,λu hu=>?_⟩;have s3:=av (o:=.tup [.ref pa,.ref ra]) s2 hu;refine⟨_,rfl,_,rfl,by show 3<=sizeLine;decide,λv hv=>?_⟩;have s4:=av (o:=.tup [.ref u,.str root,.ref tl]) s3 hv;have Tn:ra≠u:=λz=>by rw[<- z,ak]at hu;cases hu
  have WO:u≠v:=λz=>by rw[<- z,ak]at hv;cases hv
  have WQ:ra≠v:=λz=>by rw[<- z,ag Tn,ak]at hv;cases hv
  refine k v u tl pa ra root ps HK ts _ (N1.keep λo e=>s4 _ _ e) ak ⟨?_,s4 _ _ KN,?_,λx hx=>s4 _ _ (Kh.rows x (Lq.mem_iff.mp hx))⟩ ⟨?_,Oi,SF,λr hr=>?_,?_,by omega,?_⟩ p8 (by rw[Lq.length_eq];exact M9) (N3.of_same s4) (s4 _ _ (RA _ _ U1)) (λt ht=>s4 _ _ (RA _ _ (T9 t ht))) (λt ht=>(O9 t ht).perm Lq) Gj Vc
  .rw [ag WO,ak]
  .rw [ag WQ,ag Tn,ak]
  .intro z;rw[z]at p1;simp at p1
  .obtain⟨x,hx,rfl⟩:=AL.mp hr
   exact G9.ok x (Lq.mem_iff.mp hx)
  .rw [A6]at L9 ⊢;exact L9
  .rw [AG,Lq.length_eq];omega
def lead (ls:List Str) (r:Addr×Row):Bool:=decide (r.2.2.2∈ls) && !decide (r.2.2.1∈ls)
def fK:Sp:=λvs H Q _=>∃(l:Addr) (r:Addr×Row) (ls:List Str),vs=[.ref r.1,.ref l]/\dq H r.1 r.2/\H l=some (.tup (ls.map V.str))/\Q (.bl (lead ls r)) H
theorem zW:aM ["row","lot"] ["row","lot"] (aE (top 17)):=⟨rfl,rfl,rfl,by decide +kernel,rfl,by decide +kernel,by decide +kernel⟩
theorem qC (F:FS K "leads_into" "leads_into" (top 17) f fd):aF P w K mg base FT 1 f fd ["row","lot"] fK:=by
 refine F.ok zW (λvs H Q E h=>?_) (λ_ _ _ _ H vs Q E hr h=>?_)
 .obtain⟨l,r,ls,rfl,_⟩:=h
  rfl
 .obtain⟨l,r,ls,rfl,HC,hl,k⟩:=h
  refine⟨_,aw (aJ (b8 (bN eG (ax aC (pv 0) ai (λ_ _=>rfl)) (pv 1) (by with_unfolding_all rfl)) (cq (bN fW (ax aC (pv 0) ai (λ_ _=>rfl)) (pv 1) (by with_unfolding_all rfl))))),?_⟩;have hS:Sq K H l (ls.map V.str):=.inr (FE.of hl);refine⟨_,rfl,ay (j:=2) (.inr (FE.of HC)) rfl rfl ⟨_,rfl,l,ls.map V.str,rfl,hS,rfl,bK ls,?_⟩⟩;have e1:(Hc (.str r.2.2.2) (ls.map V.str))=decide (r.2.2.2∈ls):=bM _ _;have e2:(Hc (.str r.2.2.1) (ls.map V.str))=decide (r.2.2.1∈ls):=bM _ _;refine⟨Hc (.str r.2.2.2) (ls.map V.str),rfl,?_⟩;rw[e1];refine aZ (λc=>⟨_,rfl,ay (j:=1) (.inr (FE.of HC)) rfl rfl ⟨_,rfl,l,ls.map V.str,rfl,hS,rfl,bK ls,?_⟩⟩) (λc=>?_)
  .show Q (.bl (!Hc (.str r.2.2.1) (ls.map V.str))) H
   rw[e2];have:lead ls r=!decide (r.2.2.1∈ls):=by unfold lead;rw[c];rfl
   rw[<- this];exact k
  .simp only[Cf]at c
   have:lead ls r=false:=by unfold lead;rw[c];rfl
   rw[this]at k
   first|exact k|(rw[c];exact k)|skip
def dP (r:Row):PyData:=.tuple [.str r.1,.str r.2.1,.str r.2.2]
def cD (ps:List Str) (rows:List Row):PyData:=.tuple [.tuple (ps.map PyData.str),.tuple (rows.map dP)]
theorem oF {H:Hp}:∀{rs:List (Addr×Row)},(∀r∈rs,dq H r.1 r.2)->Gq H (ao rs) ((rs.map (·.2)).map dP)
 | [],_=>.nil
 | r::t,h=>.cons (.tup (h r AK) (.cons (.str _) (.cons (.str _) (.cons (.str _) .nil)))) (oF λx hx=>h x (AR _ hx))
theorem bx.dv {H:Hp}{v pa ra:Addr}{ps:List Str}{rs:List (Addr×Row)} (W:bx H v pa ra ps rs):DV H (.ref v) (cD ps (rs.map (·.2))):=
 .tup W.tp (.cons (.tup W.pl (Gq.strs ps)) (.cons (.tup W.rl (oF W.rows)) .nil))
mutual
theorem uK:∀d:PyData,d.canLay0=true->PyData.eqv d d=true
 | .none,_=>by simp[PyData.eqv]
 | .bool b,_=>by simp[PyData.eqv]
 | .int i,_=>by simp[PyData.eqv]
 | .str x,_=>by simp[PyData.eqv]
 | .list xs,h=>by rw[PyData.eqv];exact iR xs (by simpa[PyData.canLay0]using h)
 | .tuple xs,h=>by rw[PyData.eqv];exact iR xs (by simpa[PyData.canLay0]using h)
 | .dict _,h=>by simp[PyData.canLay0]at h
theorem iR:∀ds:List PyData,PyData.canLayAll0 ds=true->PyData.eqvAll ds ds=true
 | [],_=>by simp[PyData.eqvAll]
 | d::ds,h=>by
  simp only[PyData.canLayAll0,B9]at h;rw[PyData.eqvAll,uK d h.1,iR ds h.2];rfl
end
theorem Good.ends {ps:List Str}{rows:List Row} (G:Good ps rows):∀r∈rows,aK r.1/\aK r.2.1/\aK r.2.2:=λr hr =>
 let ⟨a,b,c,_⟩:=G.rn r hr;⟨a,G.nm _ b,G.nm _ c⟩
theorem mG:∀{rows:List Row},(∀r∈rows,aK r.1/\aK r.2.1/\aK r.2.2)->PyData.canLayAll0 (rows.map dP)=true/\PyData.depthAll (rows.map dP)<=1
 | [],_=>⟨rfl,Bi _⟩
 | r::t,h=>by
  have ih:=mG (rows:=t) λx hx=>h x (AR _ hx);obtain⟨a,b,c⟩:=h r AK;rw[A8];have i2:=ih.2;simp only[PyData.canLayAll0,PyData.canLay0,PyData.depthAll,PyData.depth,dP,gT a,gT b,gT c,ih.1];exact⟨rfl,by omega⟩
theorem Good.shaped {ps:List Str}{rows:List Row} (G:Good ps rows):SeqAt.shaped (cD ps rows)=true/\(cD ps rows).canLay0=true/\(cD ps rows).depth<=3:=by
 have h1:=fF G.nm;have h2:=mG G.ends;have i2:=h2.2;have hc:(cD ps rows).canLay0=true:=by
  simp only[cD,PyData.canLay0,PyData.canLayAll0,h1.1,h2.1];rfl
 have hd:(cD ps rows).depth<=3:=by
  simp only[cD,PyData.depth,PyData.depthAll,h1.2];omega
 refine⟨?_,hc,hd⟩;unfold SeqAt.shaped;rw[hc,decide_eq_true (by omega)];rfl
theorem bx.kp {H H':Hp}{p v pa ra:Addr}{ps:List Str}{rs:List (Addr×Row)} (W:bx H v pa ra ps rs) (hp:FV H p) (k:Kp [p] H H'):bx H' v pa ra ps rs:=by
 have hP:∀c∈[p],∃ys,H c=some (.lst ys):=λc hc=>by
  have e:c=p:=by simpa using hc
  subst e;exact hp.lst
 exact⟨eN k hP W.tp,eN k hP W.pl,eN k hP W.rl,λr hr=>eN k hP (W.rows r hr)⟩
theorem join_le (B:Nat):∀ts:List Str,(∀t∈ts,t.length<=B)->(Str.join ", " ts).length<=ts.length*(B+2)
 | [],_=>by show(0:Nat)<=_;exact Bi _
 | [x],h=>by
  have:=h x AK;show x.length<=1*(B+2);omega
 | x::y::r,h=>by
  have ih:=join_le B (y::r) λt ht=>h t (AR _ ht);have hx:=h x AK;show(x++(", ":Str)++Str.join ", " (y::r)).length<=_;have e2:((", ":Str)).length=2:=by decide
  rw[Cu,Cu,e2];simp only[Bd]at ih ⊢;rw[Nat.add_mul (r.length+1) 1 (B+2)];omega
theorem qT {B:Nat}{ts:List Str} (h:∀t∈ts,t.length<=B):(tupleText ts).length<=3+ts.length*(B+2):=by
 have:=join_le B ts h;unfold tupleText;rw[Cu,Cu];have e1:(("(":Str)).length=1:=by decide
 rw[e1]
 by_cases c:(ts.length==1)=true
 .rw [if_pos c]
  have e3:((",)":String):Str).length=2:=by decide
  rw[e3];omega
 .rw [if_neg c]
  have e3:((")":String):Str).length=1:=by decide
  rw[e3];omega
theorem v4 {x:Str} (h:aK x):(reprText x).length<=82:=by
 have:=StrLaws.reprText_len x λc hc=>by have:=h.az c hc;omega
 have h8:=h.hi;omega
theorem iP:∀{ds:List PyData}{t:Str},t∈PyData.shownAll ds->∃d∈ds,t=d.shown
 | [],t,h=>by simp[PyData.shownAll]at h
 | d::ds,t,h=>by
  rw[PyData.shownAll]at h
  rcases AO.mp h with e|h
  .exact⟨d,AK,e⟩
  .obtain⟨d',h1,h2⟩:=iP h
   exact⟨d',AR _ h1,h2⟩
theorem iO:∀ds:List PyData,(PyData.shownAll ds).length=ds.length
 | []=>rfl
 | d::ds=>by rw[PyData.shownAll,Bd,Bd,iO ds]
theorem shown_tuple {B:Nat}{ds:List PyData} (h:∀d∈ds,d.shown.length<=B):(PyData.tuple ds).shown.length<=3+ds.length*(B+2):=by
 rw[PyData.shown,<- iO ds];refine qT λt ht=>?_;obtain⟨d,hd,rfl⟩:=iP ht;exact h d hd
theorem kM {ss:List Str} (h:∀x∈ss,aK x):(PyData.tuple (ss.map PyData.str)).shown.length<=3+ss.length*84:=by
 have:=shown_tuple (B:=82) (ds:=ss.map PyData.str) λd hd=>by
  obtain⟨x,hx,rfl⟩:=AL.mp hd;rw[PyData.shown];exact v4 (h x hx)
 simpa using this
theorem kZ:∀ss:List Str,PyData.showableAll (ss.map PyData.str)=true
 | []=>rfl
 | x::t=>by rw[A8,PyData.showableAll,kZ t];rfl
theorem lq:∀rows:List Row,PyData.showableAll (rows.map dP)=true
 | []=>rfl
 | r::t=>by rw[A8,PyData.showableAll,lq t];rfl
theorem uS (ps:List Str) (rows:List Row):(cD ps rows).showable=true:=by
 simp only[cD,PyData.showable,PyData.showableAll,kZ,lq];rfl
theorem jS:bootBuiltins "sum"=some (.builtin "sum"):=by decide +kernel
theorem pA:bootBuiltins "abs"=some (.builtin "abs"):=by decide +kernel
theorem f9 (K:zz7) {X:Cx}{es:List Expr}{k:Nat}{t:KO}{n:Nat}{pos:Pos} (hc:X.calm=true) (h:NZ X es t) (hK:X.K=K:=by rfl) (hn:(assignEach es X.env).length=n:=by rfl) (GW:(assignEach es X.env).findIdx? (·.1)=none:=by rfl) :
  PG X (.Tuple es k pos) (qb K n t):=by subst hK;exact dI hc h hn GW
theorem ie {ns:List Int}{i:Nat}{x:V} (h:(ns.map V.int)[i]?=some x):∃n,ns[i]?=some n/\x=.int n:=by
 rw[AZ]at h;cases e:ns[i]? with
 | none=>rw[e]at h;cases h
 | some r=>rw[e]at h;exact⟨r,rfl,(Bx h).symm⟩
theorem eL {ns:List Str}{i:Nat}{x:V} (h:(ns.map V.str)[i]?=some x):∃n,ns[i]?=some n/\x=.str n:=by
 rw[AZ]at h;cases e:ns[i]? with
 | none=>rw[e]at h;cases h
 | some r=>rw[e]at h;exact⟨r,rfl,(Bx h).symm⟩
def nN:Sp:=λvs H Q _=>∃z:Int,vs=[.int z]/\Q (.bl true) H
theorem zJ:aM ["thing"] ["thing"] (aE (top 9)):=⟨rfl,rfl,rfl,by decide +kernel,rfl,by decide +kernel,by decide +kernel⟩
theorem rh (F:FS K "is_whole" "is_whole" (top 9) f fd) (B:Bl mg):aF P w K mg base FT 1 f fd ["thing"] nN:=by
 refine F.ok zJ (λvs H Q E h=>?_) (λ_ _ _ _ H vs Q E hr h=>?_)
 .obtain⟨z,rfl,_⟩:=h
  rfl
 .obtain⟨z,rfl,k⟩:=h
  refine⟨_,aw (aJ (b8 (au (bV (T:="int")) rfl B.isinstance bO (aa (pv 0) (aa (bS (v:=.ty "int") rfl B.int jP rfl) ae)))
   (cq (ph (au (bV (T:="bool")) rfl B.isinstance bO (aa (pv 0) (aa (bS (v:=.ty "bool") rfl B.bool oU rfl) ae))))))),?_⟩
  exact⟨_,rfl,_,_,true,rfl,.int z,rfl,true,rfl,be ⟨_,rfl,_,_,false,rfl,.int z,rfl,false,rfl,k⟩⟩
def kC:Sp:=λvs H Q _=>∃(v c pa ra:Addr) (ps:List Str) (rs:List (Addr×Row)) (cs:List Int),vs=[.ref v,.ref c]/\bx H v pa ra ps rs/\rs.length<=100/\H c=some (.tup (cs.map V.int))/\cs.length=rs.length/\∀H',aj H H'->Q .non H'
theorem Aa:aM ["web","thing"] ["web","thing"] (aE (top 21)):=⟨rfl,rfl,rfl,by decide +kernel,rfl,by decide +kernel,by decide +kernel⟩
theorem qA (F:FS K "need_costs" "need_costs" (top 21) f fd) (B:Bl mg) (F1:Fn P w K mg base 1 "is_whole" ["thing"] nN):aF P w K mg base FT 2 f fd ["web","thing"] kC:=by
 refine F.ok Aa (λvs H Q E h=>?_) (λ_ _ _ _ H vs Q E hr h=>?_)
 .obtain⟨v,c,pa,ra,ps,rs,cs,rfl,_⟩:=h
  rfl
 .obtain⟨v,c,pa,ra,ps,rs,cs,rfl,W,hz,hc,hl,k⟩:=h
  refine⟨_,am (aV (PW.pt (bG (bu (bg (au (bV (T:="tuple")) rfl B.isinstance bO (aa (pv 1) (aa (bS (v:=.ty "tuple") rfl B.tuple bL rfl) ae)))))
    (cf (aI bT (au aX rfl B.len Bb (aa (pv 1) ae)) (au aX rfl B.len Bb (aa (ax aC (pv 0) ai (λ_ _=>rfl)) ae)) (aH _))))) bP aU)
   (aw (aV (bu (bg (au (dC rfl) rfl B.all dM (aa (bo (N:=["cost"]) (ix:=[none]) ⟨rfl,rfl,rfl,by decide⟩ rfl (bj (pv 1)) (λ_ _ _ _=>aL 0 (by decide) rfl rfl) (λ_ _ _ _=>bq)
    (λ_ _ _ _=>aB F1 hr (aa (pv 0) ae))) ae)))) bP aU)),?_⟩
  have h1:(cs.map V.int).length=rs.length:=by simp[hl]
  have h2:(ao rs).length=rs.length:=by simp
  refine⟨_,rfl,_,_,true,rfl,.tup hc,rfl,true,rfl,aG ⟨_,rfl,c,_,rfl,.inr (FE.of hc),_,rfl,ay (j:=1) (.inr (FE.of W.tp)) rfl rfl ⟨ra,_,rfl,.inr (FE.of W.rl),rfl,_,rfl,fm (by rw[h1,h2]) ?_⟩⟩⟩;refine⟨_,rfl,c,rfl,⟨_,FE.of hc⟩,cG (xs:=cs.map V.int) (fits (by omega)) (λi ys σ H1=>ys=List.replicate i (.bl true)/\H1=H/\∃x,σ=[x]) ⟨rfl,rfl,_,rfl⟩ (λi ys σ H1 _ q=>⟨by rw[q.1];simp,by rw[q.2.1];exact FE.of hc⟩) ?_ ?_⟩
  .rintro i x ys σ H1 hx ⟨rfl,rfl,g,rfl⟩
   obtain⟨n,hn,rfl⟩:=ie hx;exact⟨_,rfl,n,rfl,by rw[B8],rfl,_,rfl⟩
  .rintro ys σ H1 ⟨rfl,rfl,g,rfl⟩ q hq
   refine⟨q,List.replicate (cs.map V.int).length true,rfl,FF.of (by rw[ak,Cd]),?_⟩;have e:(List.replicate (cs.map V.int).length true).all id=true:=by simp
   rw[e];exact⟨true,rfl,aG (k _ (av (aj.refl _) hq))⟩
def cS (z:Int):Prop:=-(10^31)<z/\z<10^31
def nW:Sp:=λvs H Q _=>∃p:Addr,vs=[.ref p]/\FV H p/\∀(z:Int) (H':Hp),cS z->FV H' p->Kp [p] H H'->Q (.int z) H'
abbrev zN:List Str:=["_law_pot_here","_law_near","_law_far"]
theorem j5:aM zN ["_law_pot_here"] (aE (top 42)):=⟨rfl,rfl,rfl,by decide +kernel,rfl,by decide +kernel,by decide +kernel⟩
theorem wj (F:FS K "_law_cost" "_law_cost" (top 42) f fd) (B:Bl mg) (Ft:Fn P w K mg base 1 "_law_take" ["_law_pot_here","_law_many"] dZ):aF P w K mg base FT 2 f fd ["_law_pot_here"] nW:=by
 refine F.ok j5 (λvs H Q E h=>?_) (λ_ _ _ _ H vs Q E hr h=>?_)
 .obtain⟨p,rfl,_⟩:=h
  rfl
 .obtain⟨p,rfl,hp,k⟩:=h
  refine⟨_,am (aN (i:=1) j5.nd rfl (Or.inl rfl) (aP dH (aB Ft hr (aa (pv 0) (aa ai ae))) ai))
   (am (aN (i:=2) j5.nd rfl (Or.inl rfl) (aP dG (aP dH (aB Ft hr (aa (pv 0) (aa (aP dH (aP fM ai (aP ik ai ai)) ai) ae))) (aP ik ai ai)) ai))
   (aw (aJ (ax aC (cg (aa (pv 1) (aa (pv 1) (aa (pv 1) (aa (aP d5 (au kU rfl B.abs pA (aa (pv 1) ae)) ai) (aa ai (aa (pv 2)
    (aa (aP dH (aP dH (aP ik ai ai) ai) (au kU rfl B.abs pA (aa (pv 1) ae))) ae)))))))) (aB Ft hr (aa (pv 0) (aa ai ae))) (λ_ _=>rfl))))),?_⟩
  have cp:pX 10 30:=⟨by decide,by decide,by decide⟩
  refine⟨_,rfl,p,41,rfl,hp,by decide,by decide,λa H1 a0 a1 P1 e1=>⟨_,_,rfl,rfl,?_⟩⟩;have K1:Kp [p] H H1:=λb o e nb=>by rw[e1 b (by simpa using nb)];exact e
  refine⟨_,rfl,_,_,rfl,rfl,cp,_,_,rfl,rfl,.inl ⟨by decide,by decide⟩,_,_,rfl,rfl,p,_,rfl,P1,by decide,by decide,λb H2 b0 b1 P2 e2=>⟨_,_,rfl,rfl,cp,_,_,rfl,rfl,_,_,rfl,rfl,?_⟩⟩;have K2:Kp [p] H H2:=K1.trans λb o e nb=>by rw[e2 b (by simpa using nb)];exact e
  refine⟨_,rfl,_,rfl,_,rfl,_,rfl,_,rfl,_,_,rfl,rfl,by show(0:Int)<4;decide,_,rfl,_,_,rfl,rfl,cp,_,_,rfl,rfl,_,rfl,_,rfl,_,_,rfl,rfl,by show 7<=sizeLine;decide,λt ht=>?_⟩;have P3:=P2.keep (H':=upd H2 t (.lst [.int (a-20),.int (a-20),.int (a-20),.int ((if a-20<0 then -(a-20)else a-20)%4),.int 0,.int (b-10^Int.toNat 30+1),.int (10^Int.toNat 30-1-(if a-20<0 then -(a-20)else a-20))])) λo e=>by rw[ag (aq e ht)];exact e
  have t3:upd H2 t (.lst [.int (a-20),.int (a-20),.int (a-20),.int ((if a-20<0 then -(a-20)else a-20)%4),.int 0,.int (b-10^Int.toNat 30+1),.int (10^Int.toNat 30-1-(if a-20<0 then -(a-20)else a-20))]) t=some (.lst [.int (a-20),.int (a-20),.int (a-20),.int ((if a-20<0 then -(a-20)else a-20)%4),.int 0,.int (b-10^Int.toNat 30+1),.int (10^Int.toNat 30-1-(if a-20<0 then -(a-20)else a-20))]):=ak;have K3:=K2.new (o:=.lst [.int (a-20),.int (a-20),.int (a-20),.int ((if a-20<0 then -(a-20)else a-20)%4),.int 0,.int (b-10^Int.toNat 30+1),.int (10^Int.toNat 30-1-(if a-20<0 then -(a-20)else a-20))]) ht;have Hz:t≠p:=λz=>by obtain⟨o,e⟩:=P2.some;rw[<- z,ht]at e;cases e
  refine⟨_,rfl,p,7,rfl,P3,by decide,by decide,λc H4 c0 c1 P4 e4=>?_⟩;have t4:=(e4 t Hz).trans t3;have K4:Kp [p] H H4:=K3.trans λb o e nb=>by rw[e4 b (by simpa using nb)];exact e
  have Ya:(10:Int)^Int.toNat 30=1000000000000000000000000000000:=by decide
  rw[Ya]at t4;have b1':b<2*1000000000000000000000000000000-1:=b1;have cl:∀(j:Nat) (z:Int),[V.int (a-20),.int (a-20),.int (a-20),.int ((if a-20<0 then -(a-20)else a-20)%4),.int 0,.int (b-1000000000000000000000000000000+1),.int (1000000000000000000000000000000-1-(if a-20<0 then -(a-20)else a-20))][j]?=some (.int z)->cS z:=λj z hz=>by
   have RC:(10:Int)^31=10000000000000000000000000000000:=by decide
   unfold cS;rw[RC]
   match j,hz with
   | 0,hz|1,hz|2,hz|4,hz|5,hz=>simp at hz;omega
   | 3,hz|6,hz=>simp at hz;split at hz<;>omega
   | j+7,hz=>simp at hz
  have hc:c.toNat<7:=by omega
  obtain⟨z,hz⟩:∃z,[V.int (a-20),.int (a-20),.int (a-20),.int ((if a-20<0 then -(a-20)else a-20)%4),.int 0,.int (b-1000000000000000000000000000000+1),.int (1000000000000000000000000000000-1-(if a-20<0 then -(a-20)else a-20))][c.toNat]?=some (.int z):=by
   generalize c.toNat=j at hc
   match j,hc with
   | 0,_|1,_|2,_|3,_|4,_|5,_|6,_=>exact⟨_,rfl⟩
  exact ay (j:=c.toNat) (.inl (FF.of t4)) (by omega) hz (k z H4 (cl _ _ hz) P4 K4)
def nZ:Sp:=λvs H Q _=>∃(p v pa ra:Addr) (ps:List Str) (rs:List (Addr×Row)),vs=[.ref p,.ref v]/\FV H p/\bx H v pa ra ps rs/\rs.length<=40 /\
 ∀(q:Addr) (cs:List Int) (H':Hp),FV H' p->H' q=some (.tup (cs.map V.int))->cs.length=rs.length->(∀z∈cs,cS z)->Kp [p] H H'->Q (.ref q) H'
theorem yM:aM ["_law_pot_here","_law_web_here"] ["_law_pot_here","_law_web_here"] (aE (top 43)):=⟨rfl,rfl,rfl,by decide +kernel,rfl,by decide +kernel,by decide +kernel⟩
theorem uI (F:FS K "_law_costs" "_law_costs" (top 43) f fd) (B:Bl mg) (Ft:Fn P w K mg base 1 "_law_take" ["_law_pot_here","_law_many"] dZ) (Fc:Fn P w K mg base 2 "_law_cost" ["_law_pot_here"] nW):aF P w K mg base FT 3 f fd ["_law_pot_here","_law_web_here"] nZ:=by
 refine F.ok yM (λvs H Q E h=>?_) (λ_ _ _ _ H vs Q E hr h=>?_)
 .obtain⟨p,v,pa,ra,ps,rs,rfl,_⟩:=h
  rfl
 .obtain⟨p,v,pa,ra,ps,rs,rfl,hp,W,Pk,k⟩:=h
  have GC:aO 1 _:=hr.mono (by decide)
  refine⟨_,am (aV (aI ef (aB Ft GC (aa (pv 0) (aa ai ae))) ai (aH _))
    (aw (aJ (bQ dS rfl B.tuple bL (aa (bo (N:=["_law_row","_law_pot_here"]) (ix:=[none,some 0]) ⟨rfl,rfl,rfl,by decide⟩ rfl (bj (ax aC (pv 1) ai (λ_ _=>rfl))) (λ_ _ _ _=>aL 0 (by decide) rfl rfl) (λ_ _ _ _=>bq) (λ_ _ _ _=>aB Ft GC (aa (pv 1) (aa ai ae)))) ae)))) aU)
   (aw (aJ (bQ dS rfl B.tuple bL (aa (bo (N:=["_law_row","_law_pot_here"]) (ix:=[none,some 0]) ⟨rfl,rfl,rfl,by decide⟩ rfl (bj (ax aC (pv 1) ai (λ_ _=>rfl))) (λ_ _ _ _=>aL 0 (by decide) rfl rfl) (λ_ _ _ _=>bq) (λ_ _ _ _=>aB Fc hr (aa (pv 1) ae))) ae)))),?_⟩
  have Ip:(ao rs).length=rs.length:=by simp
  refine⟨_,rfl,p,4,rfl,hp,by decide,by decide,λa H1 a0 a1 P1 e1=>⟨rfl,_,rfl,?_⟩⟩;have K1:Kp [p] H H1:=λb o e nb=>by rw[e1 b (by simpa using nb)];exact e
  have W1:=W.kp hp K1;have fin:∀(ys:List V) (cs:List Int) (H2:Hp),ys=cs.map V.int->cs.length=rs.length->(∀z∈cs,cS z)->FV H2 p->Kp [p] H H2->∀t,H2 t=none->∃(p':Addr) (zs:List V),[V.ref t]=[.ref p']/\((FF K (upd H2 t (.lst ys)) p' zs/\∀l,upd H2 t (.lst ys) l=none->Q (.ref l) (upd (upd H2 t (.lst ys)) l (.tup zs)))\/(FE K (upd H2 t (.lst ys)) p' zs/\Q (.ref p') (upd H2 t (.lst ys)))):=λys cs H2 ey hl hc P2 K2 t ht=>by
   subst ey;refine⟨t,_,rfl,.inl ⟨FF.of ak,λl Hv=>?_⟩⟩;have s1:=av (o:=.tup (cs.map V.int)) (av (o:=.lst (cs.map V.int)) (aj.refl H2) ht) Hv;exact k l cs _ (P2.keep λo e=>s1 _ _ e) ak hl hc (K2.of_same s1)
  refine aZ (λc=>?_) (λc=>?_)
  .refine⟨_,rfl,ay (j:=1) (.inr (FE.of W1.tp)) rfl rfl ⟨ra,rfl,⟨_,FE.of W1.rl⟩,cG (xs:=ao rs) (fits (by omega)) (λi ys σ H2=>(∃cs:List Int,ys=cs.map V.int/\cs.length=i/\∀z∈cs,cS z)/\FV H2 p/\Kp [p] H H2/\bx H2 v pa ra ps rs/\∃x,σ=[x,some (.ref p)])
    ⟨⟨[],rfl,rfl,by simp⟩,P1,K1,W1,_,rfl⟩ (λi ys σ H2 _ q=>by obtain⟨⟨cs,rfl,hl,_⟩,_,_,W2,_⟩:=q;exact⟨by simp[hl],FE.of W2.rl⟩) ?_ ?_⟩⟩
   .rintro i x ys σ H2 hx ⟨⟨cs,rfl,hl,hc⟩,P2,K2,W2,g,rfl⟩
    refine⟨_,rfl,p,3,rfl,P2,by decide,by decide,λz H3 z0 z1 P3 e3=>?_⟩;have K3:Kp [p] H2 H3:=λb o e nb=>by rw[e3 b (by simpa using nb)];exact e
    refine⟨⟨cs++[z],by simp,by simp[hl],λy hy=>?_⟩,P3,K2.trans K3,W2.kp P2 K3,_,rfl⟩
    rcases A1.mp hy with q|q
    .exact hc y q
    .have e:y=z:=by simpa using q
     have RC:(10:Int)^31=10000000000000000000000000000000:=by decide
     unfold cS;rw[e,RC];omega
   .rintro ys σ H2 ⟨⟨cs,ey,hl,hc⟩,P2,K2,W2,g,rfl⟩ t ht
    exact fin ys cs H2 ey (by rw[hl,Ip]) hc P2 K2 t ht
  .refine⟨_,rfl,ay (j:=1) (.inr (FE.of W1.tp)) rfl rfl ⟨ra,rfl,⟨_,FE.of W1.rl⟩,cG (xs:=ao rs) (fits (by omega)) (λi ys σ H2=>(∃cs:List Int,ys=cs.map V.int/\cs.length=i/\∀z∈cs,cS z)/\FV H2 p/\Kp [p] H H2/\bx H2 v pa ra ps rs/\∃x,σ=[x,some (.ref p)])
    ⟨⟨[],rfl,rfl,by simp⟩,P1,K1,W1,_,rfl⟩ (λi ys σ H2 _ q=>by obtain⟨⟨cs,rfl,hl,_⟩,_,_,W2,_⟩:=q;exact⟨by simp[hl],FE.of W2.rl⟩) ?_ ?_⟩⟩
   .rintro i x ys σ H2 hx ⟨⟨cs,rfl,hl,hc⟩,P2,K2,W2,g,rfl⟩
    refine⟨_,rfl,p,rfl,P2,λz H3 cz P3 K3=>?_⟩;refine⟨⟨cs++[z],by simp,by simp[hl],λy hy=>?_⟩,P3,K2.trans K3,W2.kp P2 K3,_,rfl⟩
    rcases A1.mp hy with q|q
    .exact hc y q
    .have e:y=z:=by simpa using q
     rw[e];exact cz
   .rintro ys σ H2 ⟨⟨cs,ey,hl,hc⟩,P2,K2,W2,g,rfl⟩ t ht
    exact fin ys cs H2 ey (by rw[hl,Ip]) hc P2 K2 t ht
end K52
namespace L2
open PySem
section
variable {X:Cx}
def Oo (s:Stmt) (j:Nat):Stmt:=match s with
 | .ClassDef _ _ _ body _ _ _ _ _ _ _=>body.getD j (.Pass ⟨0,0,0,0⟩)
 | _=>.Pass ⟨0,0,0,0⟩
def oQ (C:Addr):Sp:=λvs H Q _=>∃(e:Addr) (v:V),vs=[.ref e,v]/\H e=some (dQ e C none)/\∀dx,H dx=none->dx≠e->Q .non (upd (upd H e (dQ e C (some dx))) dx (.xd [(Str.ofString "lot",v)]))
end
end L2
namespace K52
open PySem L2
variable {P:Program}{w:World}{K:zz7}{mg:Str->Option zz9}{base:Heap}{f:Addr}{fd:FuncData}
theorem Vg:aM ["self","lot"] ["self","lot"] (aE (Oo (top 5) 0)):=⟨rfl,rfl,rfl,by decide +kernel,rfl,by decide +kernel,by decide +kernel⟩
theorem wt {f C:Addr}{fd:FuncData} (F:FS K "__init__" "TooFew.__init__" (Oo (top 5) 0) f fd) (hC:dj eD base C f):aF P w K mg base FT 1 f fd ["self","lot"] (oQ C):=by
 refine F.ok Vg (λvs H Q E h=>?_) (λ_ _ _ _ H vs Q E hr h=>?_)
 .obtain⟨e,v,rfl,_⟩:=h
  rfl
 .obtain⟨e,v,rfl,he,k⟩:=h
  refine⟨_,aw (wM (n:=Str.ofString "lot") hC (by decide) (by decide) (by decide) (pv 0) (pv 1)),?_⟩;exact⟨_,rfl,_,rfl,e,rfl,he,λdx h1 h2=>k dx h1 h2⟩
def mw:Sp:=λvs H Q _=>∃(v pa ra q:Addr) (ps:List Str) (rs:List T) (fs:List Str),vs=[.ref v,.ref q]/\bx H v pa ra ps rs/\ps.length<=100/\H q=some (.lst (fs.map V.str)) /\
 ∀(u:Addr) (H':Hp),aj H H'->H u=none->H' u=some (.tup ((ps.filter λp=>!decide (p∈fs)).map V.str))->Q (.ref u) H'
theorem Ak:aM ["web","found"] ["web","found"] (aE (top 23)):=⟨rfl,rfl,rfl,by decide +kernel,rfl,by decide +kernel,by decide +kernel⟩
theorem tG (F:FS K "places_beyond" "places_beyond" (top 23) f fd) (B:Bl mg):aF P w K mg base FT 1 f fd ["web","found"] mw:=by
 refine F.ok Ak (λvs H Q E h=>?_) (λ_ _ _ _ H vs Q E hr h=>?_)
 .obtain⟨v,pa,ra,q,ps,rs,fs,rfl,_⟩:=h
  rfl
 .obtain⟨v,pa,ra,q,ps,rs,fs,rfl,W,hz,hq,k⟩:=h
  refine⟨_,aw (aJ (bQ dS rfl B.tuple bL (aa (bo (N:=["place","found"]) (ix:=[none,some 1]) ⟨rfl,rfl,rfl,by decide⟩ rfl (bj (ax aC (pv 0) ai (λ_ _=>rfl))) (λ_ _ _ _=>aL 0 (by decide) rfl rfl)
   (λ_ _ _ _=>cQ (aI (gH K) (pv 0) (pv 1) (by with_unfolding_all rfl))) (λ_ _ _ _=>pv 0)) ae))),?_⟩
  refine⟨_,rfl,ay (j:=0) (.inr (FE.of W.tp)) rfl rfl ⟨pa,rfl,⟨_,FE.of W.pl⟩,gO (xs:=ps.map V.str) (fits (by simp;omega)) (λi ys σ H3=>ys=((ps.take i).filter λp=>!decide (p∈fs)).map V.str/\aj H H3/\∃x,σ=[x,some (.ref q)]) ⟨rfl,aj.refl _,_,rfl⟩
   (λi ys σ H3 _ p=>⟨by rw[p.1];simp;exact Be (Bg _ _) (by simp;omega),FE.of (p.2.1 _ _ W.pl)⟩) ?_ ?_⟩⟩
  .rintro i y ys σ H3 hy ⟨rfl,s3,x,rfl⟩
   rw[AZ]at hy;cases hc:ps[i]? with
   | none=>rw[hc]at hy;cases hy
   | some p =>
    rw[hc]at hy;cases hy;have tf:=cF (λp:Str=>!decide (p∈fs)) ps i p hc;refine⟨_,rfl,_,rfl,q,_,rfl,.inl (FF.of (s3 _ _ hq)),rfl,bK _,_,rfl,?_⟩;rw[bM];show if (!decide (p∈fs))=true then _ else _;refine aZ (λc=>⟨_,rfl,?_,s3,_,rfl⟩) (λc=>⟨?_,s3,_,rfl⟩)
    .rw [tf,c];simp
    .rw [tf];simp only[Cf]at c;rw[c];simp
  .rintro ys σ H3 ⟨rfl,s3,x,rfl⟩ l hl
   rw[take_all ps (by simp)];refine⟨l,_,rfl,.inl ⟨FF.of ak,λu hu=>?_⟩⟩;have s4:=av (o:=.lst ((ps.filter λp=>!decide (p∈fs)).map V.str)) s3 hl;exact k u _ (av s4 hu) (s4.free hu) ak
end K52
namespace L2
open PySem PySem.Spec PyProof.Rows
def du (ns:List Int):Int:=ns.getD (argBest (GI λi=>ns.getD i 0) (ns.length-1)) 0
theorem vd {ns:List Int} (h:ns≠[]):du ns∈ns:=by
 have hp:0<ns.length:=List.length_pos_iff.mpr h;have hb:=kS (GI λi=>ns.getD i 0) (ns.length-1);unfold du;rw[Bf,AJ (by omega)];exact Bk _
theorem vW {ns:List Int}{x:Int} (h:x∈ns):du ns<=x:=by
 obtain⟨j,hj,rfl⟩:=Er.mp h;have q:=iT (λi=>ns.getD i 0) (ns.length-1) j (by omega);unfold du;have e:ns.getD j 0=ns[j]:=by rw[Bf,AJ hj];rfl
 rw[e]at q;exact q
theorem uo {X:Cx} (hc:X.calm=true):bh X (.builtin "min") (λxs H Q=>∃(p:Addr) (ns:List Int),xs=[.ref p]/\FF X.K H p (ns.map V.int)/\ns≠[]/\Q (.int (du ns)) H):=by
 intro pins s σ H xs us Q I r h;obtain⟨p,ns,rfl,hq,FQ,q⟩:=h;obtain⟨u,rfl,rx⟩:=vals1 r;cases rx;obtain⟨FC,r',pl,hz⟩:=I.list hq;have FJ:=r'.length;rw[AG]at FJ;have HX:0<ns.length:=List.length_pos_iff.mpr FQ;have Hf:∀(i:Nat) (v:zz9),FC.toArray[i]?=some v->∃t,v=Value.int (ns.getD i 0) t:=λi v hv=>by
  have Ln:FC[i]?=some v:=by simpa using hv
  have hi:i<ns.length:=by rw[FJ];exact(A3.mp Ln).1
  have e1:(ns.map V.int)[i]?=some (V.int ns[i]):=by rw[AZ,AJ hi];rfl
  obtain⟨w',e2,GM⟩:=r'.get e1;rw[Ln]at e2;cases e2;obtain⟨t,e⟩:=GM;exact⟨t,by rw[e,Bf,AJ hi];rfl⟩
 refine rM (GI λi=>ns.getD i 0) (I.ok.hd hc) pl.isList (by rw[A0];omega) (λi j x y G tk Q' E' hk hx hy hQ=>?_) λv G tk hv hk=>?_
 .obtain⟨t,rfl⟩:=Hf i x hx
  obtain⟨t',rfl⟩:=Hf j y hy;exact HT.Ar _ _ _ _ _ _ _ _ _ _ hQ
 .obtain⟨t,rfl⟩:=Hf _ v hv
  rw[A0,<- FJ];exact⟨.int (du ns),H,I.kept hk,⟨t,rfl⟩,q⟩
end L2
namespace K52
open PySem L2
def Gr (all:List (Addr×Row)) (left:Str->Int):List (Key×V):=all.map λr=>(Sum.inr r.2.1,V.int (left r.2.1))
theorem fE {left:Str->Int}{x:Str}:∀{all:List (Addr×Row)},x∈nms all->aR (Gr all left) (Sum.inr x)=some (V.int (left x))
 | r::t,h=>by
  show aR ((Sum.inr r.2.1,V.int (left r.2.1))::Gr t left) (Sum.inr x)=_
  by_cases e:r.2.1=x
  .rw [cP (p:=(Sum.inr r.2.1,V.int (left r.2.1))) (by show Sum.inr r.2.1=_;rw[e])]
   show some (V.int (left r.2.1))=_;rw[e]
  .rw [cm (p:=(Sum.inr r.2.1,V.int (left r.2.1))) (λz=>e (DK z))]
   rcases AO.mp (show x∈r.2.1::nms t from h)with q|q
   .exact absurd q.symm e
   .exact fE q
theorem uq {left:Str->Int}{x:Str}{z:Int}{all:List (Addr×Row)} (h:x∈nms all):putK (Gr all left) (Sum.inr x) (V.int z)=Gr all (λn=>if n=x then z else left n):=by
 unfold putK;rw[eX,fE h,Option.isSome_some,if_pos rfl];unfold Gr;rw[A6];refine CM λr _=>?_;show(if (Sum.inr r.2.1:Key)=Sum.inr x then (Sum.inr r.2.1,V.int z)else (Sum.inr r.2.1,V.int (left r.2.1)))=(Sum.inr r.2.1,V.int (if r.2.1=x then z else left r.2.1))
 by_cases e:r.2.1=x
 .rw [if_pos (by rw[e]),if_pos e]
 .rw [if_neg (λq=>e (DK q)),if_neg e]
variable {P:Program}{w:World}{K:zz7}{mg:Str->Option zz9}{base:Heap}{f:Addr}{fd:FuncData}
abbrev bE (rs:List (Addr×Row)) (left:Str->Int):List (Addr×Row):=rs.filter λr=>decide (left r.2.1=0)
def jQ:Sp:=λvs H Q _=>∃(rl ld:Addr) (rs all:List (Addr×Row)) (left:Str->Int),vs=[.ref rl,.ref ld]/\H rl=some (.lst (ao rs))/\(∀r∈rs,dq H r.1 r.2)/\(∀r∈rs,r.2.1∈nms all)/\rs.length<=100/\H ld=some (.dK (Gr all left)) /\
 ∀(u:Addr) (H':Hp),aj H H'->H u=none->H' u=some (.lst (ao (bE rs left)))->Q (.ref u) H'
theorem yA:aM ["rows","left"] ["rows","left"] (aE (top 26)):=⟨rfl,rfl,rfl,by decide +kernel,rfl,by decide +kernel,by decide +kernel⟩
theorem xR (F:FS K "met_rows" "met_rows" (top 26) f fd):aF P w K mg base FT 1 f fd ["rows","left"] jQ:=by
 refine F.ok yA (λvs H Q E h=>?_) (λ_ _ _ _ H vs Q E hr h=>?_)
 .obtain⟨rl,ld,rs,all,left,rfl,_⟩:=h
  rfl
 .obtain⟨rl,ld,rs,all,left,rfl,hl,FU,GH,hz,hd,k⟩:=h
  refine⟨_,aw (aJ (bo (N:=["row","left"]) (ix:=[none,some 1]) ⟨rfl,rfl,rfl,by decide⟩ rfl (cn (pv 0)) (λ_ _ _ _=>aL 0 (by decide) rfl rfl)
   (λ_ _ _ _=>cQ (aI ef (eJ (cA hr) (pv 1) (ax (b6 K) (pv 0) ai (λ_ _=>rfl)) (λ_ _=>rfl)) ai (aH _))) (λ_ _ _ _=>pv 0))),?_⟩
  refine⟨_,rfl,rl,rfl,⟨_,FF.of hl⟩,eW (xs:=ao rs) (fits (by simp;omega)) (λi ys σ H3=>ys=ao (bE (rs.take i) left)/\H3=H/\∃x,σ=[x,some (.ref ld)]) ⟨rfl,rfl,_,rfl⟩
   (λi ys σ H3 _ p=>⟨by rw[p.1];simp only[AG];exact Be (Bg _ _) (by simp;omega),by rw[p.2.1];exact FF.of hl⟩) ?_ ?_⟩
  .rintro i y ys σ H3 hy ⟨rfl,rfl,x,rfl⟩
   obtain⟨r,FW,rfl⟩:=bY hy;have hm:=AW FW;have GY:=FU r hm;have tf:=cF (λr:Addr×Row=>decide (left r.2.1=0)) rs i r FW;have dg:bw H3 ld (.str r.2.1) (some (V.int (left r.2.1))):=by
    have:=bw.k (k:=Sum.inr r.2.1) hd;rw[fE (GH r hm)]at this;exact this
   refine⟨_,rfl,_,rfl,ay (j:=0) (.inr (FE.of GY)) rfl rfl ⟨ld,V.int (left r.2.1),rfl,dg,rfl,_,rfl,?_⟩⟩;have e1:decide (V.int (left r.2.1)=V.int 0)=decide (left r.2.1=0):=by
    rw[jx];rfl
   rw[e1];refine aZ (λc=>⟨_,rfl,?_,rfl,_,rfl⟩) (λc=>⟨?_,rfl,_,rfl⟩)
   .show _=ao (List.filter _ (List.take (i+1) rs))
    rw[tf,if_pos c,ao,ao,AX];rfl
   .show _=ao (List.filter _ (List.take (i+1) rs))
    rw[tf,if_neg c,BA]
  .rintro ys σ H3 ⟨rfl,rfl,x,rfl⟩ u hu
   refine k u _ (av (aj.refl _) hu) hu ?_;rw[ak,take_all rs (by simp)]
abbrev GE (ls:List Str):List Key:=ls.map Sum.inr
def Ge (Ps:List (List Str×Int)):List (List Key×V):=Ps.map λx=>(GE x.1,V.int x.2)
theorem nB {a b:List Str} (h:GE a=GE b):a=b:=(List.map_inj_right (λx y h=>DK h)).mp h
theorem ij (ls:List Str):(GE ls).map kV=ls.map V.str:=by rw[A6];rfl
theorem iY:∀{Ps:List (List Str×Int)}{ls:List Str},ls∉Ps.map (·.1)->aR (Ge Ps) (GE ls)=none
 | [],_,_=>rfl
 | x::t,ls,h=>by
  show aR ((GE x.1,V.int x.2)::Ge t) (GE ls)=none;rw[cm (p:=(GE x.1,V.int x.2)) (λz=>h (by rw[A8,<- nB z];exact AK))];exact iY λz=>h (AR _ z)
theorem rY {Ps:List (List Str×Int)}{ls:List Str}{m:Int} (h:ls∉Ps.map (·.1)):putK (Ge Ps) (GE ls) (V.int m)=Ge (Ps++[(ls,m)]):=by
 rw[gX _ (iY h)];unfold Ge;rw[AX];rfl
theorem sQ {Ps:List (List Str×Int)}{ls:List Str}{m:Int} (h:ls∉Ps.map (·.1)):aR (Ge (Ps++[(ls,m)])) (GE ls)=some (V.int m):=by
 have:=i6 (GE ls) (GE ls) (V.int m) (Ge Ps) (iY h);rw[if_pos rfl]at this;unfold Ge at this ⊢;rw[AX];exact this
abbrev Iy (rs:List (Addr×Row)) (ls:List Str):List (Addr×Row):=rs.filter λr=>lead ls r
abbrev eC (rs:List (Addr×Row)) (left:Str->Int) (ls:List Str):Int:=du ((Iy rs ls).map λr=>left r.2.1)
def cX (ns:List Str) (m:Int) (left:Str->Int):Str->Int:=λn=>if n∈ns then left n-m else left n
theorem uB (m:Int) (left:Str->Int):cX [] m left=left:=by funext n;simp[cX]
theorem sg {ns:List Str}{x:Str}{m:Int}{left:Str->Int} (h:x∉ns):(λn=>if n=x then cX ns m left x-m else cX ns m left n)=cX (ns++[x]) m left:=by
 funext n
 unfold cX
 by_cases e:n=x
 .subst e
  simp[h]
 .simp [e]
def nO:Sp:=λvs H Q _=>∃(pd ld rl l:Addr) (Ps:List (List Str×Int)) (rs all:List (Addr×Row)) (left:Str->Int) (ls:List Str),vs=[.ref pd,.ref ld,.ref rl,.ref l]/\H pd=some (.dT (Ge Ps))/\H ld=some (.dK (Gr all left)) /\
 H rl=some (.lst (ao rs))/\(∀r∈rs,dq H r.1 r.2)/\(∀r∈rs,r.2.1∈nms all)/\(nms rs).Nodup/\rs.length<=100/\all.length<=100/\H l=some (.tup (ls.map V.str))/\ls∉Ps.map (·.1)/\Ps.length<=1000/\(∃r∈rs,lead ls r=true) /\
 ∀H':Hp,Kp [pd,ld] H H'->H' pd=some (.dT (Ge (Ps++[(ls,eC rs left ls)])))->H' ld=some (.dK (Gr all (cX (nms (Iy rs ls)) (eC rs left ls) left)))->Q .non H'
abbrev zi:List Str:=["prices","left","rows","lot","entering","name"]
theorem jN:aM zi ["prices","left","rows","lot"] (aE (top 25)):=⟨rfl,rfl,rfl,by decide +kernel,rfl,by decide +kernel,by decide +kernel⟩
theorem vH (F:FS K "raise_price" "raise_price" (top 25) f fd) (B:Bl mg) (F1:Fn P w K mg base 1 "leads_into" ["row","lot"] fK):aF P w K mg base FT 2 f fd ["prices","left","rows","lot"] nO:=by
 refine F.ok jN (λvs H Q E h=>?_) (λ_ _ _ _ H vs Q E hr h=>?_)
 .obtain⟨pd,ld,rl,l,Ps,rs,all,left,ls,rfl,_⟩:=h
  rfl
 .obtain⟨pd,ld,rl,l,Ps,rs,all,left,ls,rfl,IJ,Ir,hl,FU,GH,Gf,hz,Ot,IQ,HE,hPz,hex,k⟩:=h
  refine⟨_,am (dX (i:=4) (N:=["row","lot"]) (ix:=[none,some 3]) jN.nd rfl (Or.inl rfl) ⟨rfl,rfl,rfl,by decide⟩ rfl (cn (pv 2)) (λ_ _ _ _=>aL 0 (by decide) rfl rfl)
    (λ_ _ _ _=>cQ (bg (aB F1 hr (aa (pv 0) (aa (pv 1) ae))))) (λ_ _ _ _=>ax (b6 K) (pv 0) ai (λ_ _=>rfl)))
   (am (jr (cA hr) (pv 0) (pv 3) (au (uo rfl) rfl B.min jT (aa (bo (N:=["name","left"]) (ix:=[none,some 1]) ⟨rfl,rfl,rfl,by decide⟩ rfl (cn (pv 4)) (λ_ _ _ _=>aL 0 (by decide) rfl rfl)
    (λ_ _ _ _=>bq) (λ_ _ _ _=>eJ (cA hr) (pv 1) (pv 0) (λ_ _=>rfl))) ae)) rfl)
   (aw (cj BC rfl (cn (pv 4)) (aY (i:=5) jN.nd rfl (Or.inl rfl)) (aw (wQ (cA hr) (pv 1) (pv 5) (eJ (cA hr) (pv 0) (pv 3) (λ_ _=>rfl)) xW (λ_ _ _=>rfl)))))),?_⟩
  refine⟨_,rfl,rl,rfl,⟨_,FF.of hl⟩,eW (xs:=ao rs) (fits (by simp;omega)) (λi ys σ H3=>ys=(nms (Iy (rs.take i) ls)).map V.str/\H3=H/\∃x,σ=[x,some (.ref l)]) ⟨rfl,rfl,_,rfl⟩
   (λi ys σ H3 _ p=>⟨by rw[p.1];simp only[AG];exact Be (Bg _ _) (by simp;omega),by rw[p.2.1];exact FF.of hl⟩) ?_ ?_⟩
  .rintro i y ys σ H3 hy ⟨rfl,rfl,x,rfl⟩
   obtain⟨r,FW,rfl⟩:=bY hy;have hm:=AW FW;have GY:=FU r hm;have tf:=cF (λr:Addr×Row=>lead ls r) rs i r FW;refine⟨_,rfl,_,rfl,l,r,ls,rfl,GY,IQ,_,rfl,?_⟩;refine aZ (λc=>⟨_,rfl,ay (j:=0) (.inr (FE.of GY)) rfl rfl ⟨?_,rfl,_,rfl⟩⟩) (λc=>⟨?_,rfl,_,rfl⟩)
   .show _=(nms (List.filter _ (List.take (i+1) rs))).map V.str
    rw[tf,if_pos c,nms,nms,AX,AX];rfl
   .show _=(nms (List.filter _ (List.take (i+1) rs))).map V.str
    rw[tf,if_neg c,BA]
  .rintro ys σ H3 ⟨rfl,rfl,x,rfl⟩ en QX
   have hT:nms (Iy (rs.take (ao rs).length) ls)=nms (Iy rs ls):=by rw[take_all rs (by simp)]
   rw[hT];have XY:(nms (Iy rs ls)).Nodup:=CF (List.Sublist.map _ BJ) Gf;have Q7:∀x∈nms (Iy rs ls),x∈nms all:=λx hx=>by
    obtain⟨r,FO,rfl⟩:=AL.mp hx;exact GH r (AS.mp FO).1
   have hNz:(nms (Iy rs ls)).length<=100:=by
    rw[AG];exact Be (Bg _ _) hz
   have XZ:nms (Iy rs ls)≠[]:=by
    obtain⟨r,h1,h2⟩:=hex;exact ET (AM (AS.mpr ⟨h1,h2⟩))
   have QL:eC rs left ls=du ((nms (Iy rs ls)).map left):=by
    show du _=du _;rw[A6];rfl
   rw[QL]at k;generalize nms (Iy rs ls)=NN at *;have s1:=av (o:=.lst (NN.map V.str)) (aj.refl H3) QX;have e1:upd H3 en (.lst (NN.map V.str)) en=some (.lst (NN.map V.str)):=ak;generalize upd H3 en (.lst (NN.map V.str))=H1 at s1 e1 ⊢;have Wq:=s1 _ _ Ir
   refine⟨_,rfl,en,rfl,⟨_,FF.of e1⟩,i4 (xs:=NN.map V.str) (fits (by simp;omega)) (λi ys σ H2=>ys=((NN.take i).map left).map V.int/\H2=H1/\∃x,σ=[x,some (.ref ld)]) ⟨rfl,rfl,_,rfl⟩
    (λi ys σ H2 _ p=>⟨by rw[p.1];simp;omega,by rw[p.2.1];exact FF.of e1⟩) ?_ ?_⟩
   .rintro i y ys σ H2 hy ⟨rfl,rfl,g,rfl⟩
    obtain⟨n,hn,rfl⟩:=eL hy;have dg:bw H2 ld (.str n) (some (V.int (left n))):=by
     have:=bw.k (k:=Sum.inr n) Wq;rw[fE (Q7 n (AW hn))]at this;exact this
    refine⟨_,rfl,_,rfl,ld,V.int (left n),rfl,dg,?_,rfl,_,rfl⟩;rw[Br,hn,AX,AX];rfl
   .rintro ys σ H2 ⟨rfl,rfl,g,rfl⟩ q hq
    have XU:NN.take (NN.map V.str).length=NN:=by rw[AG,B3]
    rw[XU];have s2:=av (o:=.lst ((NN.map left).map V.int)) s1 hq;have e2:upd H2 q (.lst ((NN.map left).map V.int)) q=some (.lst ((NN.map left).map V.int)):=ak;have Mo:upd H2 q (.lst ((NN.map left).map V.int)) en=some (.lst (NN.map V.str)):=by rw[ag (aq e1 hq)];exact e1
    generalize upd H2 q (.lst ((NN.map left).map V.int))=H4 at s2 e2 Mo ⊢;refine⟨q,NN.map left,rfl,FF.of e2,by simpa using XZ,?_⟩;generalize du (NN.map left)=m at *;have M6:H4 l=some (.tup ((GE ls).map kV)):=by rw[ij];exact s2 _ _ IQ
    refine⟨_,rfl,_,rfl,pd,_,rfl,dz.t (k:=GE ls) (s2 _ _ IJ) M6 (fits (by unfold Ge;rw[AG];omega)),?_⟩;rw[rY HE];have Ol:pd≠ld:=λz=>by rw[z,Ir]at IJ;cases IJ
    have VH:l≠pd:=λz=>by rw[z,IJ]at IQ;cases IQ
    have GO:l≠ld:=λz=>by rw[z,Ir]at IQ;cases IQ
    have VI:en≠pd:=λz=>by rw[z,s2 _ _ IJ]at Mo;cases Mo
    have VN:en≠ld:=λz=>by rw[z,s2 _ _ Ir]at Mo;cases Mo
    have K5:Kp [pd,ld] H3 (upd H4 pd (.dT (Ge (Ps++[(ls,m)])))):=λc ob e n=>by
     rw[ag (λz=>n (by rw[z];simp))];exact s2 _ _ e
    have p5:upd H4 pd (.dT (Ge (Ps++[(ls,m)]))) pd=some (.dT (Ge (Ps++[(ls,m)]))):=ak;have l5:upd H4 pd (.dT (Ge (Ps++[(ls,m)]))) ld=some (.dK (Gr all (cX (NN.take 0) m left))):=by
     rw[ag (BX Ol),List.take_zero,uB];exact s2 _ _ Ir
    have t5:upd H4 pd (.dT (Ge (Ps++[(ls,m)]))) l=some (.tup ((GE ls).map kV)):=by rw[ag VH];exact M6
    have n5:upd H4 pd (.dT (Ge (Ps++[(ls,m)]))) en=some (.lst (NN.map V.str)):=by rw[ag VI];exact Mo
    generalize upd H4 pd (.dT (Ge (Ps++[(ls,m)])))=H5 at K5 p5 l5 t5 n5 ⊢
    refine⟨_,rfl,en,rfl,⟨_,FF.of n5⟩,gW (K:=K) (a:=en) (xs:=NN.map V.str) (λj σ H6=>∃g,σ=[some (.ref pd),some (.ref ld),some (.ref rl),some (.ref l),some (.ref en),g]/\Kp [pd,ld] H3 H6/\H6 pd=some (.dT (Ge (Ps++[(ls,m)])))/\H6 ld=some (.dK (Gr all (cX (NN.take j) m left)))/\H6 l=some (.tup ((GE ls).map kV))/\H6 en=some (.lst (NN.map V.str)))
     ⟨none,rfl,K5,p5,l5,t5,n5⟩ (λj σ H6 _ p=>by obtain⟨_,_,_,_,_,_,n6⟩:=p;exact FF.of n6) ?_ ?_⟩
    .rintro j y σ H6 hy ⟨g,rfl,K6,p6,l6,t6,n6⟩
     obtain⟨n,hn,rfl⟩:=eL hy;have JI:=AW hn;have dg:bw H6 ld (.str n) (some (V.int (cX (NN.take j) m left n))):=by
      have:=bw.k (k:=Sum.inr n) l6;rw[fE (Q7 n JI)]at this;exact this
     have dp:bw H6 pd (.ref l) (some (V.int m)):=by
      have:=bw.t (k:=GE ls) p6 t6;rw[sQ HE]at this;exact this
     refine⟨_,rfl,_,rfl,ld,_,rfl,dg,_,rfl,_,rfl,pd,_,rfl,dp,_,_,rfl,rfl,_,dz.k (k:=Sum.inr n) l6 (fits (by unfold Gr;rw[AG];omega)),?_⟩;rw[uq (Q7 n JI)];have Lw:n∉NN.take j:=λz=>by
      obtain⟨i,hi,e⟩:=Ca z;rw[B0]at hi;have hj:=(A3.mp hn).1;have e2:=(A3.mp hn).2;rw[D5]at e;exact A5.mp XY i j (by omega) hj (by omega) (e.trans e2.symm)
     rw[sg Lw];refine⟨_,rfl,λc ob e nn=>?_,?_,?_,?_,?_⟩
     .rw [ag (λz=>nn (by rw[z];simp))];exact K6 c ob e nn
     .rw [ag Ol];exact p6
     .rw [ak,Br,hn];rfl
     .rw [ag GO];exact t6
     .rw [ag VN];exact n6
    .rintro σ H6 ⟨g,rfl,K6,p6,l6,t6,n6⟩
     have XT:NN.take (NN.map V.str).length=NN:=by rw[AG,B3]
     rw[XT]at l6;exact k H6 K6 p6 l6
theorem uZ (K:zz7) {X:Cx} (h:X.K=K:=by rfl):bh X (.builtin "sorted") (λxs H Q=>∃(p:Addr) (ss:List Str),xs=[.ref p]/\FF K H p (ss.map V.str)/\ss.length<64/\∀(FZ:List Str) (q:Addr),FZ.Perm ss->PyProof.Rows.sortedS FZ=true->H q=none->Q (.ref q) (upd H q (.lst (FZ.map V.str)))):=by subst h;exact gF
def fj (r:Row):Row:=(r.1,r.2.2,r.2.1)
theorem tE {R:List Row}{x:Str}:∀{n:Nat}{y:Str},Walk (R.map fj) x n y->CP.Pth R y x:=by
 intro n y h
 induction h with
 | nil=>exact .nil
 | @snoc n r hw hr ih =>
  obtain⟨q,hq,rfl⟩:=AL.mp hr;exact(CP.Pth.snoc (r:=q) CP.Pth.nil hq).trans ih
theorem Walk.front {R:List Row}{x:Str}{r:Row} (hr:r∈R) (e:r.2.1=x):∀{n:Nat}{y:Str},Walk R r.2.2 n y->Walk R x (n+1) y:=by
 intro n y h
 induction h with
 | nil=>subst e;exact .snoc .nil hr
 | snoc hw hq ih=>exact .snoc ih hq
theorem tS {R:List Row}{y x:Str} (h:CP.Pth R y x):∃n,Walk (R.map fj) x n y:=by
 induction h with
 | nil=>exact⟨0,.nil⟩
 | @snoc r hp hr ih =>
  obtain⟨n,hw⟩:=ih;exact⟨n+1,Walk.front (r:=fj r) (AM hr) rfl hw⟩
structure Ms (R:List Row) (ps:List Str) (lots:Str->List Str):Prop where
 so:∀x∈ps,(lots x).Pairwise Gb
 me:∀x∈ps,∀y,y∈lots x ↔ y∈ps/\CP.Pth R y x
def df (R:List Row) (ps:List Str) (x:Str):List Str:=Classical.epsilon λl:List Str=>l.Pairwise Gb/\∀y,y∈l ↔ y∈ps/\CP.Pth R y x
theorem nk {R:List Row}{ps:List Str}{x:Str}{l:List Str} (h1:l.Pairwise Gb) (h2:∀y,y∈l ↔ y∈ps/\CP.Pth R y x):df R ps x=l:=by
 have h:=Classical.epsilon_spec (p:=λl:List Str=>l.Pairwise Gb/\∀y,y∈l ↔ y∈ps/\CP.Pth R y x) ⟨l,h1,h2⟩;exact fc h.1 h1 λy=>(h.2 y).trans (h2 y).symm
abbrev Ih:=Addr×List Str
abbrev Gi (ls:List Ih):List V:=ls.map λx=>V.ref x.1
theorem gc {ls:List Ih}{i:Nat}{x:V} (h:(Gi ls)[i]?=some x):∃r,ls[i]?=some r/\x=.ref r.1:=by
 unfold Gi at h;rw[AZ]at h;cases e:ls[i]? with
 | none=>rw[e]at h;cases h
 | some r=>rw[e]at h;exact⟨r,rfl,(Bx h).symm⟩
def iB (Ls:List (List Str)):Option (List Str):=Ls[shortest (Ls.map λL=>((0:Addr),L.map V.str))]?
theorem wL {fl:List Ih}{x:Addr×List V} (h:(fl.map λx=>(x.1,x.2.map V.str))[shortest (fl.map λx=>(x.1,x.2.map V.str))]?=some x):∃z∈fl,x=(z.1,z.2.map V.str)/\iB (fl.map (·.2))=some z.2:=by
 have e:shortest (fl.map λx=>(x.1,x.2.map V.str))=shortest ((fl.map (·.2)).map λL=>((0:Addr),L.map V.str)):=by
  unfold shortest;have e2:cO (fl.map λx=>(x.1,x.2.map V.str))=cO ((fl.map (·.2)).map λL=>((0:Addr),L.map V.str)):=by
   funext i
   unfold cO;rw[AZ,AZ,AZ];cases fl[i]?<;>rfl
  rw[e2,AG,AG,AG]
 rw[e,AZ]at h;unfold iB;cases c:fl[shortest ((fl.map (·.2)).map λL=>((0:Addr),L.map V.str))]? with
 | none=>rw[c]at h;cases h
 | some z =>
  rw[c]at h;exact⟨z,AW c,(Bx h).symm,by rw[AZ,c];rfl⟩
def dB (R:List Row) (ps:List Str) (root:Str):Option (List Str):=iB ((ps.map (df R ps)).filter λL=>!decide (root∈L))
def m8:Sp:=λvs H Q _=>∃(pa ml:Addr) (ps:List Str) (root:Str) (ms:List T),vs=[.ref pa,.str root,.ref ml]/\H pa=some (.tup (ps.map V.str))/\H ml=some (.lst (ao ms))/\cZ H ms/\(∀r∈ms,r.2.2.1∈ps/\r.2.2.2∈ps)/\ps.length<=20/\ms.length<=60 /\
 ∀(v:V) (H':Hp) (lots:Str->List Str),aj H H'->Ms (ms.map (·.2)) ps lots ->
  ((v=.non/\dB (ms.map (·.2)) ps root=none/\∀x∈ps,root∈lots x)\/∃u x0,v=.ref u/\x0∈ps/\dB (ms.map (·.2)) ps root=some (lots x0)/\H' u=some (.tup ((lots x0).map V.str))/\root∉lots x0/\∀y∈ps,root∉lots y->(lots x0).length<=(lots y).length)->Q v H'
abbrev zF:List Str:=["places","root","met","turned","lots"]
theorem jX:aM zF ["places","root","met"] (aE (top 27)):=⟨rfl,rfl,rfl,by decide +kernel,rfl,by decide +kernel,by decide +kernel⟩
theorem uG (F:FS K "unmet_lot" "unmet_lot" (top 27) f fd) (B:Bl mg) (F1:Fn P w K mg base 2 "come_to" ["rows","start"] jL):aF P w K mg base FT 3 f fd ["places","root","met"] m8:=by
 refine F.ok jX (λvs H Q E h=>?_) (λ_ _ _ _ H vs Q E hr h=>?_)
 .obtain⟨pa,ml,ps,root,ms,rfl,_⟩:=h
  rfl
 .obtain⟨pa,ml,ps,root,ms,rfl,Ht,JJ,FU,ND,hz,Xk,k⟩:=h
  refine⟨_,am (aN (i:=3) jX.nd rfl (Or.inr rfl) (bo (N:=["name","start","end"]) (ix:=[none,none,none]) ⟨rfl,rfl,rfl,by decide⟩ rfl (cn (pv 2)) (λ_ _ _ _=>f9 K rfl (n:=3) (ba (aL 0 (by decide) rfl rfl) (ba (aL 1 (by decide) rfl rfl) (ba (aL 2 (by decide) rfl rfl) cH))))
    (λ_ _ _ _=>bq) (λ_ _ _ _=>cJ (aa (pv 0) (aa (pv 2) (aa (pv 1) ae))))))
   (am (dX (i:=4) (N:=["place","turned"]) (ix:=[none,some 3]) jX.nd rfl (Or.inl rfl) ⟨rfl,rfl,rfl,by decide⟩ rfl (bj (pv 0)) (λ_ _ _ _=>aL 0 (by decide) rfl rfl) (λ_ _ _ _=>bq)
    (λ_ _ _ _=>bQ (tX K) rfl B.tuple bL (aa (au (uZ K) rfl B.sorted dE (aa (aB F1 hr (aa (pv 1) (aa (pv 0) ae))) ae)) ae)))
   (aw (aJ (wR rfl rfl B.min rfl B.len (bo (N:=["lot","root"]) (ix:=[none,some 1]) ⟨rfl,rfl,rfl,by decide⟩ rfl (cn (pv 4)) (λ_ _ _ _=>aL 0 (by decide) rfl rfl)
    (λ_ _ _ _=>cQ (aI (gH K) (pv 1) (pv 0) (by with_unfolding_all rfl))) (λ_ _ _ _=>pv 0)))))),?_⟩
  refine⟨_,rfl,ml,rfl,⟨_,FF.of JJ⟩,je (xs:=ao ms) (fits (by simp;omega)) (λi ys σ H1=>∃ts:List T,ys=ao ts/\ts.map (·.2)=(ms.take i).map (λr=>fj r.2)/\cZ H1 ts/\aj H H1/\∃a b c,σ=[a,b,c]) ⟨[],rfl,rfl,⟨λr hr=>by cases hr⟩,aj.refl _,_,_,_,rfl⟩
   (λi ys σ H1 _ p=>by
    obtain⟨ts,rfl,et,_,s1,_⟩:=p;have:=congrArg List.length et;simp only[AG,B0]at this
    exact⟨by rw[AG];omega,FF.of (s1 _ _ JJ)⟩) ?_ ?_⟩
  .rintro i y ys σ H1 hy ⟨ts,rfl,et,Hr,s1,a,b,c,rfl⟩
   obtain⟨r,FW,rfl⟩:=bY hy;have GY:=s1 _ _ (FU.e r (AW FW));refine⟨r.1,_,rfl,FE.of GY,rfl,_,_,rfl,_,_,rfl,_,_,rfl,rfl,?_⟩;unfold bX
   dsimp only
   rw[if_pos rfl];refine⟨_,rfl,_,rfl,_,rfl,by show 3<=sizeLine;decide,λu hu=>?_⟩;refine⟨ts++[(u,fj r.2)],by rw[ao,ao,AX];rfl,by rw[AX,et,Br,FW,AX];rfl,⟨λq hq=>?_⟩,av s1 hu,_,_,_,rfl⟩
   rcases A1.mp hq with q1|q1
   .show upd H1 u _ q.1=_
    rw[ag (aq (Hr.e q q1) hu)];exact Hr.e q q1
   .rw [AQ.mp q1]
    exact ak
  .rintro ys σ H1 ⟨ts,rfl,et,Hr,s1,a,b,c,rfl⟩ tn Nc
   rw[take_all ms (by simp)]at et;have s2:=av (o:=.lst (ao ts)) s1 Nc;have t2:upd H1 tn (.lst (ao ts)) tn=some (.lst (ao ts)):=ak;have r2:cZ (upd H1 tn (.lst (ao ts))) ts:=Hr.same (av (aj.refl _) Nc);generalize upd H1 tn (.lst (ao ts))=H2 at s2 t2 r2 ⊢;have hR:ts.map (·.2)=(ms.map (·.2)).map fj:=by rw[et,A6];rfl
   have Jb:ts.length=ms.length:=by have:=congrArg List.length et;simpa using this
   have Nd:∀r∈ts,r.2.2.2∈ps:=λr FO=>by
    have:r.2∈(ms.map (·.2)).map fj:=by rw[<- hR];exact AM FO
    obtain⟨q,hq,e⟩:=AL.mp this;obtain⟨t,ht,rfl⟩:=AL.mp hq;rw[<- e];exact(ND t ht).1
   have SG:=s2 _ _ Ht
   refine⟨_,rfl,pa,rfl,⟨_,FE.of SG⟩,cG (xs:=ps.map V.str) (fits (by simp;omega)) (λi ys σ H3=>∃ls:List Ih,ys=Gi ls/\(∀x∈ps.take i,(df (ms.map (·.2)) ps x).Pairwise Gb/\∀y,y∈df (ms.map (·.2)) ps x ↔ y∈ps/\CP.Pth (ms.map (·.2)) y x)/\ls.map (·.2)=(ps.take i).map (df (ms.map (·.2)) ps)/\(∀x∈ls,H3 x.1=some (.tup (x.2.map V.str)))/\aj H2 H3/\∃x,σ=[x,some (.ref tn)]) ⟨[],rfl,λx hx=>(by cases hx),rfl,λx hx=>(by cases hx),aj.refl _,_,rfl⟩
    (λi ys σ H3 _ p=>by
     obtain⟨ls,rfl,_,el,_,s3,_⟩:=p;have:=congrArg List.length el;simp only[AG,B0]at this
     exact⟨by rw[AG];omega,FE.of (s3 _ _ SG)⟩) ?_ ?_⟩
   .rintro i y ys σ H3 hy ⟨ls,rfl,hok,el,Hu,s3,x,rfl⟩
    obtain⟨x,hx,rfl⟩:=eL hy;have Kx:=AW hx;refine⟨_,rfl,_,rfl,tn,x,ts,ps,rfl,.inl (s3 _ _ t2),r2.same s3,Kx,Nd,by omega,by omega,λq H4 s4 hq4 q4 Fu=>?_⟩;have FJ:=gQ Fu Kx Nd;refine⟨q,_,rfl,FF.of q4,by simp only[FL,Bd,AG];omega,λss q' hp GX Hl=>?_⟩;have s5:=av (o:=.lst (ss.map V.str)) (s3.trans s4) Hl;have q5:upd H4 q' (.lst (ss.map V.str)) q'=some (.lst (ss.map V.str)):=ak;have l5:∀x∈ls,upd H4 q' (.lst (ss.map V.str)) x.1=some (.tup (x.2.map V.str)):=λx Ov=>by
     have:=s4 _ _ (Hu x Ov);rw[ag (aq this Hl)];exact this
    generalize upd H4 q' (.lst (ss.map V.str))=H5 at s5 q5 l5 ⊢;refine⟨q',_,rfl,.inl ⟨FF.of q5,λu hu=>?_⟩⟩;have L9:ss.Pairwise Gb:=dW GX (hp.nodup_iff.mpr Fu.nd);have QJ:∀y,y∈ss ↔ y∈ps/\CP.Pth (ms.map (·.2)) y x:=λy=>by
     rw[hp.mem_iff];constructor
     .intro PM
      obtain⟨n,hd⟩:=Fu.mem y PM;refine⟨eZ Kx (λr FO=>?_) hd.1,tE (by rw[<- hR];exact hd.1)⟩;obtain⟨t,ht,rfl⟩:=AL.mp FO;exact Nd t ht
     .rintro⟨_,Qo⟩
      obtain⟨n,hw⟩:=tS Qo;exact Fu.cl n y (by rw[hR];exact hw)
    refine⟨ls++[(u,ss)],by rw[Gi,Gi,AX];rfl,λz GK=>?_,by rw[AX,el,Br,hx,AX];simp only[Option.toList,A8,Ff,nk L9 QJ],λz GK=>?_,av s5 hu,_,rfl⟩
    .rw [Br,hx]at GK
     rcases A1.mp GK with q1|q1
     .exact hok z q1
     .rw [show z=x from AQ.mp q1,nk L9 QJ];exact⟨L9,QJ⟩
    rcases A1.mp GK with q1|q1
    .rw [ag (aq (l5 z q1) hu)];exact l5 z q1
    .rw [AQ.mp q1]
     exact ak
   .rintro ys σ H3 ⟨ls,rfl,hok,el,Hu,s3,x,rfl⟩ lo Mc
    rw[take_all ps (by simp)]at el hok;have Q8:Ms (ms.map (·.2)) ps (df (ms.map (·.2)) ps):=⟨λx hx=>(hok x hx).1,λx hx=>(hok x hx).2⟩
    have Jw:ls.length=ps.length:=by have:=congrArg List.length el;simpa using this
    have s4:=av (o:=.lst (Gi ls)) (s2.trans s3) Mc;have l4:upd H3 lo (.lst (Gi ls)) lo=some (.lst (Gi ls)):=ak;have t4:∀x∈ls,upd H3 lo (.lst (Gi ls)) x.1=some (.tup (x.2.map V.str)):=λx hx=>by
     rw[ag (aq (Hu x hx) Mc)];exact Hu x hx
    generalize upd H3 lo (.lst (Gi ls))=H4 at s4 l4 t4 ⊢
    refine⟨_,rfl,lo,rfl,⟨_,FF.of l4⟩,eW (xs:=Gi ls) (fits (by simp;omega)) (λi ys σ H5=>ys=Gi ((ls.take i).filter λx=>!decide (root∈x.2))/\H5=H4/\∃x,σ=[x,some (.str root)]) ⟨rfl,rfl,_,rfl⟩
     (λi ys σ H5 _ p=>⟨by rw[p.1];simp only[AG];exact Be (Bg _ _) (by simp;omega),by rw[p.2.1];exact FF.of l4⟩) ?_ ?_⟩
    .rintro i y ys σ H5 hy ⟨rfl,rfl,x,rfl⟩
     obtain⟨z,GK,rfl⟩:=gc hy;have tf:=cF (λx:Ih=>!decide (root∈x.2)) ls i z GK;refine⟨_,rfl,_,rfl,z.1,_,rfl,.inr (FE.of (t4 z (AW GK))),rfl,bK _,_,rfl,?_⟩;rw[bM];show if (!decide (root∈z.2))=true then _ else _;refine aZ (λc=>⟨_,rfl,?_,rfl,_,rfl⟩) (λc=>⟨?_,rfl,_,rfl⟩)
     .rw [tf,if_pos c,Gi,Gi,AX];rfl
     .rw [tf,if_neg c,BA]
    .rintro ys σ H5 ⟨rfl,rfl,x,rfl⟩ q hq
     rw[take_all ls (by simp)];have s5:=av (o:=.lst (Gi (ls.filter λx=>!decide (root∈x.2)))) s4 hq;have q5:upd H5 q (.lst (Gi (ls.filter λx=>!decide (root∈x.2)))) q=some (.lst (Gi (ls.filter λx=>!decide (root∈x.2)))):=ak;have t5:∀x∈ls,upd H5 q (.lst (Gi (ls.filter λx=>!decide (root∈x.2)))) x.1=some (.tup (x.2.map V.str)):=λx hx=>by
      rw[ag (aq (t4 x hx) hq)];exact t4 x hx
     generalize Ia:(ls.filter λx=>!decide (root∈x.2))=fl at s5 q5 t5 ⊢;generalize upd H5 q (.lst (Gi fl))=H6 at s5 q5 t5 ⊢;have HF:∀x,x∈fl ↔ x∈ls/\root∉x.2:=λx=>by rw[<- Ia,AS];simp
     have Ug:Ms (ms.map (·.2)) ps (df (ms.map (·.2)) ps):=Q8;have GU:∀{i:Nat}{x:Str},ps[i]?=some x->∃z,ls[i]?=some z/\z.2=df (ms.map (·.2)) ps x:=λ{i x} hx=>by
      have e:=congrArg (λl:List (List Str)=>l[i]?) el;simp only[AZ,hx,C4]at e;cases c:ls[i]? with
      | none=>rw[c]at e;cases e
      | some z=>rw[c]at e;exact⟨z,rfl,Bx e⟩
     have IS:∀z∈ls,∃x∈ps,z.2=df (ms.map (·.2)) ps x:=λz GK=>by
      have:z.2∈ps.map (df (ms.map (·.2)) ps):=by rw[<- el];exact AM GK
      obtain⟨x,hx,e⟩:=AL.mp this;exact⟨x,hx,e.symm⟩
     have QT:fl.map (·.2)=(ps.map (df (ms.map (·.2)) ps)).filter λL=>!decide (root∈L):=by
      rw[<- Ia,<- el,DP];rfl
     refine⟨q,fl.map λx=>(x.1,x.2.map V.str),rfl,FF.of (by rw[q5,Gi,iA,A6];rfl),λx hx=>?_,λx hx=>?_,λh0=>?_⟩
     .obtain⟨z,GK,rfl⟩:=AL.mp hx
      exact t5 z ((HF z).mp GK).1
     .have Jv:=qQ hx
      obtain⟨z,GK,rfl,Tx⟩:=wL hx;rw[QT]at Tx;obtain⟨z1,z2⟩:=(HF z).mp GK;obtain⟨x0,h1,h2⟩:=IS z z1;refine k _ H6 _ s5 Ug (.inr ⟨z.1,x0,rfl,h1,by rw[<- h2];exact Tx,by rw[<- h2];exact t5 z z1,by rw[<- h2];exact z2,λy hy WZ=>?_⟩);obtain⟨i,hi⟩:=DH hy;obtain⟨z',h3,h4⟩:=GU hi;have:=Jv (z'.1,z'.2.map V.str) (AL.mpr ⟨z',(HF z').mpr ⟨AW h3,by rw[h4];exact WZ⟩,rfl⟩);simp only[AG]at this;rw[<- h2,<- h4];exact this
     .have Mi:fl=[]:=List.map_eq_nil_iff.mp h0
      refine k _ H6 _ s5 Ug (.inl ⟨rfl,by unfold dB iB;rw[<- QT,Mi];rfl,λx hx=>?_⟩);obtain⟨i,hi⟩:=DH hx;obtain⟨z,h3,h4⟩:=GU hi;cases Ci (root∈df (ms.map (·.2)) ps x)with
      | inl c=>exact c
      | inr c =>
       have:=(HF z).mpr ⟨AW h3,by rw[h4];exact c⟩;rw[Mi]at this;cases this
abbrev Rw (rs:List T):List Row:=rs.map (·.2)
theorem jJ (rs:List T) (left:Str->Int):Rw (bE rs left)=CP.met (Rw rs) left:=by
 unfold CP.met;rw[DP];rfl
theorem uR (rs:List T) (ls:List Str):nms (Iy rs ls)=(CP.enter (Rw rs) ls).map (·.1):=by
 unfold CP.enter;rw[DP,A6];rfl
theorem oh (rs:List T) (ls:List Str) (m:Int) (left:Str->Int):cX (nms (Iy rs ls)) m left=CP.less (Rw rs) ls m left:=by
 unfold cX CP.less;rw[uR]
theorem oM {rs:List T}{ls:List Str}{left:Str->Int} (h:∃r∈rs,lead ls r=true):CP.Mn (Rw rs) ls left (eC rs left ls):=by
 have FQ:((Iy rs ls).map λr=>left r.2.1)≠[]:=by
  obtain⟨r,h1,h2⟩:=h;exact ET (AM (AS.mpr ⟨h1,h2⟩))
 refine⟨λr hr he=>?_,?_⟩
 .obtain⟨t,ht,rfl⟩:=AL.mp hr
  exact vW (AL.mpr ⟨t,AS.mpr ⟨ht,he⟩,rfl⟩)
 .obtain⟨t,ht,e⟩:=AL.mp (vd FQ)
  obtain⟨h1,h2⟩:=AS.mp ht;exact⟨t.2,AM h1,h2,e⟩
theorem oy {rs:List T} (h:(nms rs).Nodup):CP.Uni (Rw rs):=λr hr q hq e=>by
 obtain⟨t,ht,rfl⟩:=AL.mp hr;obtain⟨u,hu,rfl⟩:=AL.mp hq;obtain⟨i,hi,rfl⟩:=Ca ht;obtain⟨j,hj,rfl⟩:=Ca hu;have Gp:i=j:=by
  have:=A5.mp h
  rcases Nat.lt_trichotomy i j with c|c|c
  .exact absurd (by rw[BS,BS];exact e) (this i j (by simpa using hi) (by simpa using hj) c)
  .exact c
  .exact absurd (by rw[BS,BS];exact e.symm) (this j i (by simpa using hj) (by simpa using hi) c)
 subst Gp;rfl
structure Kg (ps:List Str) (root:Str) (rs:List T):Prop where
 so:ps.Pairwise Gb
 ro:root∈ps
 nd:(nms rs).Nodup
 en:∀r∈rs,r.2.2.1∈ps/\r.2.2.2∈ps
 lo:∀r∈rs,r.2.2.1≠r.2.2.2
 nr:∀r∈rs,r.2.2.2≠root
 re:∀x∈ps,CP.Pth (Rw rs) root x
theorem Kg.into {ps:List Str}{root:Str}{rs:List T} (W:Kg ps root rs) {S:List Str} (h0:S≠[]) (hs:∀x∈S,x∈ps) (hr:root∉S):∃r∈rs,lead S r=true:=by
 cases S with
 | nil=>exact absurd rfl h0
 | cons y t =>
  obtain⟨r,h1,h2⟩:=(W.re y (hs y AK)).enter hr AK;obtain⟨u,hu,rfl⟩:=AL.mp h1;exact⟨u,hu,h2⟩
theorem Ms.sub {R:List Row}{ps:List Str}{lots:Str->List Str} (L:Ms R ps lots) (so:ps.Pairwise Gb) {x:Str} (hx:x∈ps):(lots x).Sublist ps:=by
 have e:lots x=ps.filter λy=>decide (y∈lots x):=fc (L.so x hx) (so.sublist BJ) λy=>by
  rw[AS];constructor
  .exact λh=>⟨((L.me x hx y).mp h).1,by simpa using h⟩
  .exact λh=>by simpa using h.2
 rw[e];exact BJ
def Out (ps:List Str) (root:Str) (rs:List T) (left:Str->Int) (v:V) (H:Hp):Prop:=(v=.non/\dB (Rw (bE rs left)) ps root=none/\∀x∈ps,CP.Pth (CP.met (Rw rs) left) root x) \/
 ∃u S,v=.ref u/\dB (Rw (bE rs left)) ps root=some S/\H u=some (.tup (S.map V.str))/\S.Sublist ps/\S≠[]/\root∉S/\CP.SC (CP.met (Rw rs) left) S/\∀r∈CP.met (Rw rs) left,CP.ent S r=false
theorem oE {ps:List Str}{root:Str}{rs:List T}{left:Str->Int}{lots:Str->List Str}{v:V}{H:Hp} (W:Kg ps root rs) (L:Ms (Rw (bE rs left)) ps lots)
  (h:(v=.non/\dB (Rw (bE rs left)) ps root=none/\∀x∈ps,root∈lots x)\/∃u x0,v=.ref u/\x0∈ps/\dB (Rw (bE rs left)) ps root=some (lots x0)/\H u=some (.tup ((lots x0).map V.str))/\root∉lots x0/\∀y∈ps,root∉lots y->(lots x0).length<=(lots y).length):Out ps root rs left v H:=by
 rw[jJ]at L
 rcases h with ⟨rfl,hn,h⟩|⟨u,x0,rfl,h0,hn,hu,hr,Jv⟩
 .exact .inl ⟨rfl,hn,λx hx=>((L.me x hx root).mp (h x hx)).2⟩
 .have hM:∀r∈CP.met (Rw rs) left,r.2.1∈ps:=λr FO=>by
   obtain⟨t,ht,rfl⟩:=AL.mp (CP.eY.mp FO).1;exact(W.en t ht).1
  obtain⟨h1,h2⟩:=CP.Ao L.me (λx hx=>bZ (L.so x hx)) hM h0 hr Jv;exact .inr ⟨u,lots x0,rfl,hn,hu,L.sub W.so h0,ET ((L.me x0 h0 x0).mpr ⟨h0,.nil⟩),hr,h1,h2⟩
abbrev PL:=List (List Str×Int)×(Str->Int)
def ip (rs:List T) (s:PL) (S:List Str):PL:=(s.1++[(S,eC rs s.2 S)],CP.less (Rw rs) S (eC rs s.2 S) s.2)
def ft (root:Str) (rs:List T) (s:PL) (y:Str):PL:=if y≠root then ip rs s [y]else s
inductive JQ (ps:List Str) (root:Str) (rs:List T) (cost:Str->Int):PL->Prop
 | start:JQ ps root rs cost (ps.foldl (ft root rs) ([],cost))
 | step {s:PL}{S:List Str}:JQ ps root rs cost s->dB (Rw (bE rs s.2)) ps root=some S->JQ ps root rs cost (ip rs s S)
def Fin (ps:List Str) (root:Str) (rs:List T) (cost:Str->Int) (s:PL):Prop:=JQ ps root rs cost s/\dB (Rw (bE rs s.2)) ps root=none
def fT (ps:List Str) (root:Str) (rs:List T) (s:PL):PL:=match dB (Rw (bE rs s.2)) ps root with
 | some S=>ip rs s S
 | none=>s
def Li (ps:List Str) (root:Str) (rs:List T):Nat->PL->PL
 | 0,s=>s
 | n+1,s=>Li ps root rs n (fT ps root rs s)
theorem gZ {ps:List Str}{root:Str}{rs:List T}:∀(n m:Nat) (s:PL),Li ps root rs (n+m) s=Li ps root rs m (Li ps root rs n s)
 | 0,m,s=>by rw[Fs];rfl
 | n+1,m,s=>by rw[Nat.succ_add];exact gZ n m _
theorem jt {ps:List Str}{root:Str}{rs:List T}{s:PL} (h:dB (Rw (bE rs s.2)) ps root=none):∀n,Li ps root rs n s=s
 | 0=>rfl
 | n+1=>by
  have e:fT ps root rs s=s:=by unfold fT;rw[h]
  show Li ps root rs n (fT ps root rs s)=s;rw[e];exact jt h n
theorem JQ.it {ps:List Str}{root:Str}{rs:List T}{cost:Str->Int}{s:PL} (h:JQ ps root rs cost s):∃n,s=Li ps root rs n (ps.foldl (ft root rs) ([],cost)):=by
 induction h with
 | start=>exact⟨0,rfl⟩
 | @step s S _ hS ih =>
  obtain⟨n,e⟩:=ih;refine⟨n+1,?_⟩;rw[gZ,<- e];show ip rs s S=fT ps root rs s;unfold fT;rw[hS]
theorem Fin.eq {ps:List Str}{root:Str}{rs:List T}{cost:Str->Int}{s s':PL} (h:Fin ps root rs cost s) (h':Fin ps root rs cost s'):s=s':=by
 obtain⟨n,e⟩:=h.1.it;obtain⟨m,e'⟩:=h'.1.it
 rcases Nat.le_total n m with c|c
 .have:m=n+(m-n):=by omega
  rw[this,gZ,<- e,jt h.2]at e';exact e'.symm
 .have:n=m+(n-m):=by omega
  rw[this,gZ,<- e',jt h'.2]at e;exact e
def mJ:Sp:=λvs H Q _=>∃(pa rl ld:Addr) (ps:List Str) (root:Str) (rs all:List T) (cost:Str->Int),vs=[.ref pa,.str root,.ref rl,.ref ld]/\H pa=some (.tup (ps.map V.str))/\H rl=some (.lst (ao rs))/\cZ H rs/\(∀r∈rs,r.2.1∈nms all)/\Kg ps root rs /\
 ps.length<=8/\rs.length<=60/\all.length<=100/\H ld=some (.dK (Gr all cost)) /\
 ∀(pd:Addr) (H':Hp) (Ps:List (List Str×Int)) (left:Str->Int),Kp [ld] H H'->H pd=none->H' pd=some (.dT (Ge Ps))->H' ld=some (.dK (Gr all left))->CP.Rf ps root (Rw rs) cost Ps left->(∀x∈ps,CP.Pth (CP.met (Rw rs) left) root x)->Fin ps root rs cost (Ps,left)->Q (.ref pd) H'
abbrev zK:List Str:=["places","root","rows","left","prices","place","lot"]
theorem gq:aM zK ["places","root","rows","left"] (aE (top 28)):=⟨rfl,rfl,rfl,by decide +kernel,rfl,by decide +kernel,by decide +kernel⟩
theorem tq (F:FS K "raised_prices" "raised_prices" (top 28) f fd) (B:Bl mg) (F1:Fn P w K mg base 2 "raise_price" ["prices","left","rows","lot"] nO) (F2:Fn P w K mg base 1 "met_rows" ["rows","left"] jQ)
  (F3:Fn P w K mg base 3 "unmet_lot" ["places","root","met"] m8):aF P w K mg base FT 4 f fd ["places","root","rows","left"] mJ:=by
 refine F.ok gq (λvs H Q E h=>?_) (λ_ _ _ _ H vs Q E hr h=>?_)
 .obtain⟨pa,rl,ld,ps,root,rs,all,cost,rfl,_⟩:=h
  rfl
 .obtain⟨pa,rl,ld,ps,root,rs,all,cost,rfl,Ht,Ip,FU,GH,W,hz,IF,Ot,Ir,k⟩:=h
  refine⟨_,am (aN (i:=4) gq.nd rfl (Or.inl rfl) vM)
   (am (cj BC rfl (bj (pv 0)) (aY (i:=5) gq.nd rfl (Or.inl rfl))
    (aw (aV (aI bT (pv 5) (pv 1) (aH _)) (aw (b7 (aB F1 (hr.mono (by decide)) (aa (pv 4) (aa (pv 3) (aa (pv 2) (aa (cJ (aa (pv 5) ae)) ae))))))) aU)))
   (am (aN (i:=6) gq.nd rfl (Or.inl rfl) (aB F3 hr (aa (pv 0) (aa (pv 1) (aa (aB F2 (hr.mono (by decide)) (aa (pv 2) (aa (pv 3) ae))) ae)))))
   (am (gS BC (aI wG (pv 6) oS (aH _))
    (am (b7 (aB F1 (hr.mono (by decide)) (aa (pv 4) (aa (pv 3) (aa (pv 2) (aa (pv 6) ae))))))
    (aw (aN (i:=6) gq.nd rfl (Or.inl rfl) (aB F3 hr (aa (pv 0) (aa (pv 1) (aa (aB F2 (hr.mono (by decide)) (aa (pv 2) (aa (pv 3) ae))) ae))))))))
   (aw (aJ (pv 4)))))),?_⟩
  intro pd IJ;have hU:=oy W.nd;have TL:∀r∈Rw rs,r.2.1≠r.2.2:=λr FO=>by
   obtain⟨t,ht,rfl⟩:=AL.mp FO;exact W.lo t ht
  have Ol:pd≠ld:=λz=>by rw[z,Ir]at IJ;cases IJ
  have K1:Kp [ld] H (upd H pd (.dT [])):=λc ob e _=>by rw[ag (aq e IJ)];exact e
  have p1:upd H pd (.dT []) pd=some (.dT (Ge [])):=ak;have l1:upd H pd (.dT []) ld=some (.dK (Gr all cost)):=by rw[ag (BX Ol)];exact Ir
  generalize upd H pd (.dT [])=H1 at K1 p1 l1 ⊢;have Om:pa∉[ld]:=λz=>by rw[AQ.mp z,Ir]at Ht;cases Ht
  have Kt:rl∉[ld]:=λz=>by rw[AQ.mp z,Ir]at Ip;cases Ip
  have Pp:∀r∈rs,r.1∉[ld]:=λr FO z=>by
   have:=FU.e r FO;unfold dq at this;rw[AQ.mp z,Ir]at this;cases this
  have G8:∀{H2:Hp},Kp [ld] H H2->cZ H2 rs:=λ{H2} K2=>⟨λr FO=>K2 _ _ (FU.e r FO) (Pp r FO)⟩
  have R0:∀{H2 H3:Hp},Kp [ld] H H2->Kp [pd,ld] H2 H3->Kp [ld] H H3:=λ{H2 H3} K2 K3 c ob e n=>K3 c ob (K2 c ob e n) λz=>by
   rcases AO.mp z with q|q
   .rw [q,IJ]at e;cases e
   .exact n q
  have MP:∀{H2 H3:Hp},Kp [ld] H H2->aj H2 H3->Kp [ld] H H3:=λ{H2 H3} K2 s3 c ob e n=>s3 c ob (K2 c ob e n)
  refine⟨_,rfl,pa,rfl,⟨_,FE.of (K1 _ _ Ht Om)⟩,dY (K:=K) (a:=pa) (xs:=ps.map V.str) (λj σ H2=>∃(Ps:List (List Str×Int)) (left:Str->Int) (g:Option V),σ=[some (.ref pa),some (.str root),some (.ref rl),some (.ref ld),some (.ref pd),g,none]/\Kp [ld] H H2/\H2 pd=some (.dT (Ge Ps))/\H2 ld=some (.dK (Gr all left))/\CP.Ro ps root (Rw rs) cost ((ps.take j).filter λy=>decide (y≠root)) Ps left/\(Ps,left)=(ps.take j).foldl (ft root rs) ([],cost))
   ⟨[],cost,none,rfl,K1,p1,l1,CP.Ro.start _ _ _ _,rfl⟩ (λj σ H2 _ p=>by obtain⟨_,_,_,_,K2,_⟩:=p;exact FE.of (K2 _ _ Ht Om)) ?_ ?_⟩
  .rintro j y σ H2 hy ⟨Ps,left,g,rfl,K2,p2,l2,R2,D2⟩
   obtain⟨y,Ou,rfl⟩:=eL hy;have hyp:=AW Ou;have tf:=cF (λy:Str=>decide (y≠root)) ps j y Ou;have td:(ps.take (j+1)).foldl (ft root rs) ([],cost)=ft root rs (Ps,left) y:=by rw[Br,Ou,E6,<- D2];rfl
   refine⟨_,rfl,_,rfl,rfl,_,rfl,?_⟩;have e1:(!decide (V.str y=V.str root))=decide (y≠root):=by
    by_cases c:y=root
    .subst c;simp
    .simp [c]
   rw[e1];refine aZ (λc=>?_) (λc=>?_)
   .have Ll:y≠root:=of_decide_eq_true c
    refine⟨_,rfl,_,rfl,_,rfl,_,rfl,by show 1<=sizeLine;decide,λu hu=>?_⟩;have s3:=av (o:=.tup [.str y]) (aj.refl H2) hu;have u3:upd H2 u (.tup [.str y]) u=some (.tup ([y].map V.str)):=ak;generalize upd H2 u (.tup [.str y])=H3 at s3 u3 ⊢;have K3:=MP K2 s3;have Gf:y∉(ps.take j).filter λy=>decide (y≠root):=λz=>by
     obtain⟨i,hi,e⟩:=Ca (AS.mp z).1;rw[B0]at hi;obtain⟨hj,e2⟩:=A3.mp Ou;rw[D5]at e;exact A5.mp (bZ W.so) i j (by omega) hj (by omega) (e.trans e2.symm)
    have Q5:[y]∉Ps.map (·.1):=λz=>by
     rw[R2.lots]at z;obtain⟨d,hd,e⟩:=AL.mp z;rw[List.singleton_inj]at e;exact Gf (e ▸ hd)
    have hex:=W.into (S:=[y]) (by simp) (λx hx=>by rw[AQ.mp hx];exact hyp) (λz=>Ll (AQ.mp z).symm);have Jz:=R2.toRs.few;have Rj:2^ps.length<=256:=by have:=DG (show 0<2 by decide) hz;simpa using this
    refine⟨pd,ld,rl,u,Ps,rs,all,left,[y],rfl,s3 _ _ p2,s3 _ _ l2,K3 _ _ Ip Kt,(G8 K3).e,GH,W.nd,by omega,Ot,u3,Q5,by omega,hex,λH4 K4 p4 l4=>?_⟩;refine⟨_,_,_,rfl,R0 K3 K4,p4,by rw[l4,oh],?_,?_⟩
    .have:=R2.add hU TL hyp Ll Gf (oM (left:=left) hex)
     rw[tf,if_pos c];exact this
    .rw [td,ft,if_pos Ll];rfl
   .refine⟨Ps,left,_,rfl,K2,p2,l2,?_,?_⟩
    .rw [tf,if_neg c,BA];exact R2
    .rw [td,ft,if_neg (λz=>c (decide_eq_true z))]
  .rintro σ H2 ⟨Ps,left,g,rfl,K2,p2,l2,R2,D2⟩
   have hT:ps.take (ps.map V.str).length=ps:=by rw[AG,B3]
   rw[hT]at R2 D2;have D3:JQ ps root rs cost (Ps,left):=by rw[D2];exact .start
   have RF:CP.Rf ps root (Rw rs) cost Ps left:=R2.full (λy hy hn=>AS.mpr ⟨hy,decide_eq_true hn⟩) λr FO=>by
    obtain⟨t,ht,rfl⟩:=AL.mp FO;exact⟨(W.en t ht).2,W.nr t ht⟩
   clear R2 hT D2;have Rj:2^ps.length<=256:=by have:=DG (show 0<2 by decide) hz;simpa using this
   refine⟨_,rfl,_,rfl,_,rfl,_,rfl,rl,ld,rs,all,left,rfl,K2 _ _ Ip Kt,(G8 K2).e,GH,by omega,l2,λml H5 s5 TF m5=>?_⟩;have K5:=MP K2 s5;refine⟨pa,ml,ps,root,bE rs left,rfl,K5 _ _ Ht Om,m5,⟨λr FO=>(G8 K5).e r (AS.mp FO).1⟩,λr FO=>W.en r (AS.mp FO).1,by omega,Be (Bg _ _) IF,λv H6 lots s6 hL hO=>?_⟩;have O6:Out ps root rs left v H6:=oE W hL hO;have K6:=MP K5 s6;have p6:=s6 _ _ (s5 _ _ p2);have l6:=s6 _ _ (s5 _ _ l2);refine⟨λm σ H7=>∃(Ps:List (List Str×Int)) (left:Str->Int) (v:V) (g:Option V),σ=[some (.ref pa),some (.str root),some (.ref rl),some (.ref ld),some (.ref pd),g,some v]/\m=256-Ps.length/\Kp [ld] H H7/\H7 pd=some (.dT (Ge Ps))/\H7 ld=some (.dK (Gr all left))/\CP.Rf ps root (Rw rs) cost Ps left/\Out ps root rs left v H7/\JQ ps root rs cost (Ps,left),⟨_,Ps,left,v,g,rfl,rfl,K6,p6,l6,RF,O6,D3⟩,?_⟩;clear O6 K6 p6 l6 hL hO s6 m5 TF s5 K5 RF l2 p2 K2 D3;rintro m σ H7 ⟨Ps,left,v,g,rfl,rfl,K7,p7,l7,RF,O7,D7⟩;refine⟨_,rfl,rfl,_,rfl,?_⟩
   rcases O7 with ⟨rfl,PV,Gm⟩|⟨u,S,rfl,PV,hu,hS,h0,Tv,J7,Gk⟩
   .rw [show(!decide (V.non=V.non))=false by simp]
    refine aG ?_;exact⟨_,rfl,k pd H7 Ps left K7 IJ p7 l7 RF Gm ⟨D7,PV⟩⟩
   .rw [show(!decide (V.ref u=V.non))=true by simp]
    refine be ⟨λσ' H7=>∃m',m'<256-Ps.length/\∃(OP:List (List Str×Int)) (left:Str->Int) (v:V) (g:Option V),σ'=[some (.ref pa),some (.str root),some (.ref rl),some (.ref ld),some (.ref pd),g,some v]/\m'=256-OP.length/\Kp [ld] H H7/\H7 pd=some (.dT (Ge OP))/\H7 ld=some (.dK (Gr all left))/\CP.Rf ps root (Rw rs) cost OP left/\Out ps root rs left v H7/\JQ ps root rs cost (OP,left),λ_ _ h=>h,?_⟩;have Jz:=RF.toRs.few;have hex:=W.into h0 (λx hx=>hS.subset hx) Tv;have Q5:S∉Ps.map (·.1):=λz=>by
     obtain⟨x,hx,e⟩:=AL.mp z;obtain⟨r,h1,h2⟩:=RF.en x hx;rw[show x.1=S from e,Gk r h1]at h2;cases h2
    refine⟨_,rfl,_,rfl,_,rfl,_,rfl,pd,ld,rl,u,Ps,rs,all,left,S,rfl,p7,l7,K7 _ _ Ip Kt,(G8 K7).e,GH,W.nd,by omega,Ot,hu,Q5,by omega,hex,λH8 K8 p8 l8=>?_⟩;have K9:=R0 K7 K8;rw[oh]at l8;obtain⟨RK,_⟩:=RF.raise hU hS h0 Tv (oM (left:=left) hex) Gk J7;have NC:=RK.toRs.few;rw[Bu,Dx]at NC;have D8:JQ ps root rs cost (Ps++[(S,eC rs left S)],CP.less (Rw rs) S (eC rs left S) left):=D7.step PV;generalize CP.less (Rw rs) S (eC rs left S) left=Jp at l8 RK D8;refine⟨_,rfl,_,rfl,_,rfl,_,rfl,rl,ld,rs,all,Jp,rfl,K9 _ _ Ip Kt,(G8 K9).e,GH,by omega,l8,λml H5 s5 TF m5=>?_⟩;have K5:=MP K9 s5;refine⟨pa,ml,ps,root,bE rs Jp,rfl,K5 _ _ Ht Om,m5,⟨λr FO=>(G8 K5).e r (AS.mp FO).1⟩,λr FO=>W.en r (AS.mp FO).1,by omega,Be (Bg _ _) IF,λv H6 lots s6 hL hO=>?_⟩;have O6:Out ps root rs Jp v H6:=oE W hL hO;have K6:=MP K5 s6;have p6:=s6 _ _ (s5 _ _ p8);have l6:=s6 _ _ (s5 _ _ l8);exact⟨_,by rw[Bu,Dx];omega,_,_,v,_,rfl,rfl,K6,p6,l6,RK,O6,D8⟩
end K52
namespace L2
open PySem PySem.Spec PyProof.Rows
abbrev Hj (elt tg iter Gh iter2:Expr) (ifs FP:List Expr) (scope:Scope) (pos:Pos):Expr:=.ListComp elt [⟨tg,iter,ifs,0⟩,⟨Gh,iter2,FP,0⟩] scope pos
theorem vR (elt tg iter Gh iter2:Expr) (ifs FP:List Expr) (scope:Scope) (pos:Pos) (it FH:zz9) (env:Env):compTurn (Hj elt tg iter Gh iter2 ifs FP scope pos) 1 it FH env=(do
   standAt iter2.pos
   match <- pyNext it with
   | none=>pure (.done .next)
   | some v =>
    letOwnedTupleGo Gh it v
    assign Gh env v
    let mut ok:=true
    for c in FP do
     if ok then ok <- isTrue c env (eval c env)
    if ok then (do let _ <- call (.builtin "list.append") [FH,<- eval elt env])
    again (.compLoop (Hj elt tg iter Gh iter2 ifs FP scope pos) 1 it FH env)):=by rfl
theorem uW (elt tg iter Gh iter2:Expr) (ifs FP:List Expr) (scope:Scope) (pos:Pos) (it FH:zz9) (env:Env):compTurn (Hj elt tg iter Gh iter2 ifs FP scope pos) 0 it FH env=(do
   standAt iter.pos
   match <- pyNext it with
   | none=>pure (.done .next)
   | some v =>
    letOwnedTupleGo tg it v
    assign tg env v
    let mut ok:=true
    for c in ifs do
     if ok then ok <- isTrue c env (eval c env)
    if ok then
     let x <- eval iter2 env
     standAt iter2.pos
     let x <- foldedSetIterable iter2 env x
     let _ <- runOwn (.compStart (Hj elt tg iter Gh iter2 ifs FP scope pos) 1 (<- holding [x] (pyIter x)) FH env) env
    again (.compLoop (Hj elt tg iter Gh iter2 ifs FP scope pos) 0 it FH env)):=by rfl
section
variable {prog:Program}{w:World}{A:Around}{R:Result->zz8->Prop}{s:zz8}{elt tg iter Gh iter2:Expr}{ifs FP:List Expr}{scope:Scope}{pos:Pos}{it FH:zz9}{env:Env}
theorem sV (h0:codeAny (model prog w) A (.compLoop (Hj elt tg iter Gh iter2 ifs FP scope pos) 1 it FH env) R s)
  (h:wpAny (model prog w) A (pyIter it) (λPJ s'=>codeAny (model prog w) A (.compLoop (Hj elt tg iter Gh iter2 ifs FP scope pos) 1 PJ FH env) R s') (λ_ _=>False) s) :
  codeAny (model prog w) A (.compStart (Hj elt tg iter Gh iter2 ifs FP scope pos) 1 it FH env) R s:=by
 refine DO ?_;show wpAny _ _ ((compStart (Hj elt tg iter Gh iter2 ifs FP scope pos) 1 it FH env).onRaise (λx=>do noteFrame x env;standAt theWindowsPlace)) _ _ s;refine wpAny_notedAt (BK (E:=λ_ _=>False) ?_ (λ_ _ q=>q) λ_ _ f=>f.elim);unfold compStart;show wpAny _ _ (ask >>= _) _ _ s;refine AF (CQ (wpAny_ite ?_));split
 .first|exact AF (AI (AI (And.intro rfl h0)))|exact AI (And.intro rfl h0)
 .first
   | exact AF (Dc (AF (Cb (AF (BK h (λPJ s' h'=>AI (And.intro rfl h')) λ_ _ x=>x)))))
   | (refine AF (Dc ?_);show wpAny _ _ (standAt iter2.pos >>= _) _ _ s;exact AF (Cb (AF (BK h (λPJ s' h'=>AI (And.intro rfl h')) λ_ _ x=>x))))
theorem uP (J:Nat->zz8->Prop)
  (turn:∀n s,J n s->wpAny (model prog w) A (pyNext it) (λr s1=>match r with
   | none=>R (.ok .next) s1
   | some v=>wpAny (model prog w) A (letOwnedTupleGo Gh it v) (λ_ s2=>wpAny (model prog w) A (assign Gh env v) (λ_ s3 =>
     wpAny (model prog w) A (forIn FP true λc r=>if r=true then do let ok <- isTrue c env (eval c env);pure (ForInStep.yield ok)else pure (ForInStep.yield r)) (λok s4 =>
      if ok=true then wpAny (model prog w) A (eval elt env) (λx s5=>wpAny (model prog w) A (call (.builtin "list.append") [FH,x]) (λ_ s6=>∃m,m<n/\J m s6) (λ_ _=>False) s5) (λ_ _=>False) s4
      else ∃m,m<n/\J m s4) (λ_ _=>False) s3) (λ_ _=>False) s2) (λ_ _=>False) s1) (λ_ _=>False) s)
  (n:Nat) (h:J n s):codeAny (model prog w) A (.compLoop (Hj elt tg iter Gh iter2 ifs FP scope pos) 1 it FH env) R s:=by
 refine Fh rfl J (λk t hJ=>?_) n h;show wpAny _ A ((compTurn (Hj elt tg iter Gh iter2 ifs FP scope pos) 1 it FH env).onRaise (λx=>do noteFrame x env;theTreesLotGoes x)) _ _ t;refine wpAny_noted (BK (E:=λ_ _=>False) ?_ (λ_ _ q=>q) λ_ _ f=>f.elim);rw[vR];refine AF (Cb (AF (FG (turn k t hJ) λr s1 h1=>?_)));cases r with
 | none=>exact AI h1
 | some v =>
  refine AF (FG h1 λ_ s2 h2=>AF (FG h2 λ_ s3 h3=>AF (FG h3 λok s4 h4=>?_)));cases ok with
  | false=>exact AI ⟨rfl,h4⟩
  | true=>exact AF (AF (FG h4 λx s5 h5=>AF (FG h5 λ_ s6 h6=>AI (AI ⟨rfl,h6⟩))))
theorem uX (hs:∀x,foldedSetIterable iter2 env x=pure x) (J:Nat->zz8->Prop)
  (turn:∀n s,J n s->wpAny (model prog w) A (pyNext it) (λr s1=>match r with
   | none=>R (.ok .next) s1
   | some v=>wpAny (model prog w) A (letOwnedTupleGo tg it v) (λ_ s2=>wpAny (model prog w) A (assign tg env v) (λ_ s3 =>
     wpAny (model prog w) A (forIn ifs true λc r=>if r=true then do let ok <- isTrue c env (eval c env);pure (ForInStep.yield ok)else pure (ForInStep.yield r)) (λok s4 =>
      if ok=true then wpAny (model prog w) A (eval iter2 env) (λx s5=>wpAny (model prog w) A (pyIter x) (λPH s6=>codeAny (model prog w) A (.compStart (Hj elt tg iter Gh iter2 ifs FP scope pos) 1 PH FH env) (λr s7=>match r with | .ok _=>∃m,m<n/\J m s7 | .error _=>False) s6) (λ_ _=>False) s5) (λ_ _=>False) s4
      else ∃m,m<n/\J m s4) (λ_ _=>False) s3) (λ_ _=>False) s2) (λ_ _=>False) s1) (λ_ _=>False) s)
  (n:Nat) (h:J n s):codeAny (model prog w) A (.compLoop (Hj elt tg iter Gh iter2 ifs FP scope pos) 0 it FH env) R s:=by
 refine Fh rfl J (λk t hJ=>?_) n h;show wpAny _ A ((compTurn (Hj elt tg iter Gh iter2 ifs FP scope pos) 0 it FH env).onRaise (λx=>do noteFrame x env;theTreesLotGoes x)) _ _ t;refine wpAny_noted (BK (E:=λ_ _=>False) ?_ (λ_ _ q=>q) λ_ _ f=>f.elim);rw[uW];refine AF (Cb (AF (FG (turn k t hJ) λr s1 h1=>?_)));cases r with
 | none=>exact AI h1
 | some v =>
  refine AF (FG h1 λ_ s2 h2=>AF (FG h2 λ_ s3 h3=>AF (FG h3 λok s4 h4=>?_)));cases ok with
  | false=>exact AI ⟨rfl,h4⟩
  | true =>
   refine AF (FG h4 λx s5 h5=>AF (Cb (AF (Cz (hs x) (AF (Bo (FG h5 λPH s6 h6=>AF (wpAny_runOwn ?_))))))));rw[Around.mark_none];refine Cy h6 λr s7 h7=>?_;cases r with
   | error e=>exact h7.elim
   | ok f=>exact AI ⟨rfl,h7⟩
end
def pU (J:It) (g:TG) (tt:TT) (te:TE) (UP:List V) (σ':St) (fin:List V->St->Hp->Prop) (H1:Hp):Prop :=
 ∃W:Nat->Nat->List V->St->Hp->Prop,(∃m,W 0 m UP σ' H1)/\∀i m ys σ H,W i m ys σ H ->
  (J.stop i H/\ys.length<=sizeLine/\fin ys σ H)\/(J.go i H/\ys.length<sizeLine/\∃Nx:List V->St->Hp->Prop,(∀Gx σ' H',Nx Gx σ' H'->∃m',m'<m/\W (i+1) m' Gx σ' H') /\
   ∀x H',J.yld i H x H'->g x σ H' λσ2 H2=>tt σ2 H2 λb H3=>if b=true then te σ2 H3 (λv H4=>Nx (ys++[v]) σ2 H4)else Nx ys σ2 H3)
abbrev Jo (FC:List zz9) (k:Nat):Obj:={ cls:=.type "list",data:=.seq FC.toArray k }
theorem vp {Y:Cx}{D:Addr}{elt tg iter Gh iter2:Expr}{ifs FP:List Expr}{scope:Scope}{pos:Pos}{g:TG}{tt:TT}{te:TE} (hc:Y.calm=true) (G3:D≠Y.env.locals) (Mg:D∉Y.fs) (OF:Y.s₀.heap.objs.size<=D) (HI:∀x c,Y.env.cells.lookup x=some c->c≠D) (pn:Y.pn=[]) (PN:Y.xe=λ_ _=>False)
  (hg:PG Y Gh g) (ht:Je Y FP tt) (he:PE Y elt te) {P0:List (Addr×Obj)} (Q6:∀p∈P0,p.1≠D)
  {σ:St}{H:Hp}{s:zz8}{FC:List zz9}{k:Nat}{it:Addr}{fp:List Addr}{tn:Nat->Heap->Prop}{J:It}{ys:List V}{fin:List V->St->Hp->Prop}{R:Result->zz8->Prop}
  (I:Inv Y ((D,Jo FC k)::P0) σ H s) (rv:ar ys FC) (T:Turn Y.prog Y.w Y.K Gh J fp it tn) (st:tn 0 s.heap) (f2:∀b∈fp,bD Y ((D,Jo FC k)::P0) H b) (hW:pU J g tt te ys σ fin H)
  (hR:∀σ' H' s' Gx its' k',Inv Y ((D,Jo its' k')::P0) σ' H' s'->ar Gx its'->Gx.length<=sizeLine->fin Gx σ' H'->R (.ok .next) s') :
  codeAny (model Y.prog Y.w) Y.A (.compLoop (Hj elt tg iter Gh iter2 ifs FP scope pos) 1 (.ref it) (.ref D) Y.env) R s:=by
 obtain⟨W,⟨m0,w0⟩,turn⟩:=hW;have nD:∀b∈fp,b≠D:=λb hb z=>(f2 b hb).2.2.2.2.2 (D,Jo FC k) (AV _ AK) z.symm;have stat:∀{H':Hp} (its':List zz9) (k':Nat),(∀b∈fp,H' b=none)->∀b∈fp,bD Y ((D,Jo its' k')::P0) H' b:=λ{H'} its' k' hn b hb=>by
  obtain⟨_,a1,a2,a3,a4,a5⟩:=f2 b hb;refine⟨hn b hb,a1,a2,a3,a4,λp hp=>?_⟩
  rcases A1.mp hp with z|z
  .exact a5 p (A7 _ z)
  .rcases AO.mp z with q|q
   .rw [q];exactλz=>nD b hb z.symm
   .exact a5 p (AV _ (AR _ q))
 refine uP (λn s'=>∃i σ' H' ys FC k,Inv Y ((D,Jo FC k)::P0) σ' H' s'/\tn i s'.heap/\(∀b∈fp,H' b=none)/\ar ys FC/\W i n ys σ' H') ?_ m0 ⟨0,σ,H,ys,FC,k,I,st,λb hb=>(f2 b hb).1,rv,w0⟩;rintro n s' ⟨i,σ',H',ys,FC,k,I',F8,JB,rv,w'⟩
 rcases turn i n ys σ' H' w' with ⟨stop,hz,qf⟩|⟨go,hz,Nx,hN,step⟩
 .refine FG (T.done Y rfl rfl rfl hc i _ s' σ' H' _ I' (stat _ _ JB) F8 stop) λr s5 ⟨hr,I5⟩=>?_
  subst hr;exact hR σ' H' s5 ys FC k I5 rv hz qf
 .refine FG (T.item Y rfl rfl rfl hc i _ s' σ' H' _ I' (stat _ _ JB) F8 go) λr s5 ⟨u,hr,h5⟩=>?_
  subst hr;refine FG h5 λ_ s6 ⟨x,H6,I6,r6,y6,Hy,LO⟩=>?_;have LR:=I6.pinned (stat _ _ LO) (T.obj _ _ Hy);have g1:=hg _ s6 σ' H6 x u _ LR r6 (step x H6 y6);rw[PN]at g1;refine FG g1 λ_ s7 ⟨σ7,H7,I7,q7⟩=>?_;have g2:=ht _ s7 σ7 H7 _ I7 q7;rw[PN]at g2;refine FG g2 λok s8 ⟨H8,I8,q8⟩=>?_;have back:∀{H9:Hp}{s9:zz8},Inv Y (((D,Jo FC k)::P0)++cW fp s6.heap) σ7 H9 s9->tn (i+1) s9.heap/\∀b∈fp,H9 b=none:=λ{H9 s9} I9=>by
   refine⟨T.keep _ _ _ Hy λb hb o e=>(I9.pin (b,o) (AV _ (AV _ (cU hb e)))).1,λb hb=>?_⟩;obtain⟨o,e,d⟩:=T.obj _ _ Hy b hb;exact(I9.pin (b,o) (AV _ (AV _ (cU hb e)))).2.1
  cases ok with
  | false =>
   rw[if_neg A2]at q8 ⊢;obtain⟨m',hm,w8⟩:=hN _ _ _ q8;obtain⟨KZ,LN⟩:=back I8;exact⟨m',hm,i+1,σ7,H8,ys,FC,k,I8.unpinned,KZ,LN,rv,w8⟩
  | true =>
   rw[if_pos rfl]at q8 ⊢;have g3:=he _ s8 σ7 H8 _ I8 q8;rw[PN]at g3;refine FG g3 λy s9 ⟨v,H9,I9,r9,q9⟩=>?_;have LJ:=I9.pin (D,Jo FC k) (AV _ (A7 _ AK));obtain⟨O0,Rp⟩:=back I9;refine wpAny_list_append_plain (hsz:=by have:=rv.length;rw[A0];omega) ⟨k,LJ.1⟩ λh' Hv GB=>?_;obtain⟨m',hm,w9⟩:=hN _ _ _ q9;obtain⟨k',GZ⟩:=Hv;have IP:Inv Y P0 σ7 H9 s9:=I9.pins_of λp hp=>I9.pin p (AV _ (A7 _ (AR _ hp)))
   have KP:Inv Y P0 σ7 H9 { s9 with heap:=h' }:=IP.turned (t':=s9.toks) (it:=D) (λb o hb e=>GB.extBut b o hb e) LJ.2.1 G3 (.inr OF) HI (λp hp=>by
    rw[pn,Fy]at hp
    exact Q6 p hp)
   refine⟨m',hm,i+1,σ7,H9,ys++[v],FC++[y],k',KP.pins_of λp hp=>?_,T.keep _ _ _ O0 λb hb o e=>GB.extBut b o (nD b hb) e,Rp,rv.append (.cons r9 .nil),w9⟩
   rcases AO.mp hp with q|q
   .rw [q];exact⟨by show h'.get? D=_;rw[GZ];simp,LJ.2.1,G3,Mg,λv z=>by cases z⟩
   .exact KP.pin p (AV _ q)
def km (J:It) (g:TG) (tt:TT) (Kk:TI) (g2:TG) (Kl:TT) (te:TE) (σ':St) (fin:List V->Hp->Prop) (H1:Hp):Prop :=
 ∃W:Nat->Nat->List V->St->Hp->Prop,(∃m,W 0 m [] σ' H1)/\∀i m ys σ H,W i m ys σ H ->
  (J.stop i H/\ys.length<=sizeLine/\fin ys H)\/(J.go i H/\∃Nx:List V->St->Hp->Prop,(∀Gx σ' H',Nx Gx σ' H'->∃m',m'<m/\W (i+1) m' Gx σ' H') /\
   ∀x H',J.yld i H x H'->g x σ H' λσ2 H2=>tt σ2 H2 λb H3=>if b=true then Kk σ2 H3 (λJ2 H4=>pU J2 g2 Kl te ys σ2 Nx H4)else Nx ys σ2 H3)
def zy (wi:TI) (g:TG) (tt:TT) (Kk:TI) (g2:TG) (Kl:TT) (te:TE) (ix:List (Option Nat)):TE:=λσ H Q=>wi σ H λJ H1=>km J g tt Kk g2 Kl te (Iz ix σ) (λys H'=>∀p,H' p=none->Q (.ref p) (upd H' p (.lst ys))) H1
section
variable {X:Cx}{scope:Scope}{N:List Str}{ix:List (Option Nat)}{tg iter Gh iter2 elt:Expr}{ifs FP:List Expr}{pos:Pos}{g g2:TG}{tt Kl:TT}{te:TE}{wi Kk:TI}
theorem wo (L:bJ X scope N ix) (hc:X.calm=true) (hg:∀C s0 H0 fp,PG (aA X scope N C s0 H0 fp) tg g) (ht:∀C s0 H0 fp,Je (aA X scope N C s0 H0 fp) ifs tt) (IR:∀C s0 H0 fp,PI (aA X scope N C s0 H0 fp) Gh iter2 Kk) (He:∀C s0 H0 fp x,foldedSetIterable iter2 (aA X scope N C s0 H0 fp).env x=pure x) (NA:∀C s0 H0 fp,PG (aA X scope N C s0 H0 fp) Gh g2) (Nf:∀C s0 H0 fp,Je (aA X scope N C s0 H0 fp) FP Kl) (he:∀C s0 H0 fp,PE (aA X scope N C s0 H0 fp) elt te)
  {pins:List (Addr×Obj)}{σ:St}{H2:Hp}{s2:zz8}{it:Addr}{fp:List Addr}{tn:Nat->Heap->Prop}{J:It}{fin:List V->Hp->Prop}{E:zz9->zz8->Prop}{RR:zz9->Addr->Result->zz8->Prop}
  (I2:Inv X pins σ H2 s2) (T:Turn X.prog X.w X.K tg J fp it tn) (st:tn 0 s2.heap) (f2:∀b∈fp,bD X pins H2 b) (hW:km J g tt Kk g2 Kl te (Iz ix σ) fin H2)
  (NP:∀D C s' m ys H',s'.heap.Ns C m->s'.os=s2.os->D≠C->bD X pins (upd H' D (.lst ys)) C->(∀h',Heap.SameBut C s'.heap h'->Inv X pins σ (upd H' D (.lst ys)) { s' with heap:=h' })->H' D=none->fin ys H'->RR (.ref D) C (.ok .next) s') :
  wpAny (model X.prog X.w) X.A (newList []) (λFH s3=>wpAny (model X.prog X.w) X.A (newFunctionEnv scope X.env.globals (bU X.env scope.names []) [] X.env.qual none .none (some X.env)) (λHH s4 =>
   codeAny (model X.prog X.w) X.A (.compStart (Hj elt tg iter Gh iter2 ifs FP scope pos) 0 (.ref it) FH { HH with scope:=relabel scope X.env }) (RR FH HH.locals) s4) E s3) E s2:=by
 obtain⟨W,⟨m0,w0⟩,turn⟩:=hW;have JA:∀b∈fp,b<s2.heap.objs.size:=λb hb=>by
  obtain⟨o,e,_⟩:=T.obj _ _ st b hb;exact AN e
 refine BG (Ep L.nocell (by intro y hy;simp at hy) (λh1 HY Im=>?_) L.kind)
 dsimp only at HY Im ⊢
 generalize hG:s2.heap.push { cls:=.type "list",dict:=none,data:=.seq ([]:List zz9).toArray }=G at HY Im ⊢;have KL:G.objs.size=s2.heap.objs.size+1:=by rw[<- hG,Bz]
 generalize LI:s2.heap.objs.size=D at KL JA;generalize LL:G.objs.size=C at KL HY Im ⊢;have G3:D≠C:=by omega
 have nq:∀b:Nat,b<s2.heap.objs.size->b≠C/\b≠D:=λb h=>⟨by omega,by omega⟩
 have Le:∀b∈fp,b≠C/\b≠D:=λb hb=>nq b (by rw[LI];exact JA b hb);have kG:∀b o,s2.heap.get? b=some o->G.get? b=some o:=λb o e=>by rw[<- hG];exact AH _ e
 have kp:∀b o,s2.heap.get? b=some o->h1.get? b=some o:=λb o e=>Im.extBut b o (nq b (AN e)).1 (AH _ (kG b o e));have oD:∃n,h1.get? D=some { cls:=.type "list",data:=.seq ([]:List zz9).toArray n }:=⟨_,Im.extBut _ _ G3 (AH _ (by rw[<- hG,<- LI];exact AU _ rfl))⟩
 have I4:=jW L (tk:=s2.toks+([]:List (Str×zz9)).length) I2 (C:=C) (by omega) f2 (by rw[LI];exact JA) kp HY;have Ko:tn 0 h1:=T.keep _ _ _ st λb _ o e=>kp b o e;have Mg:D∉(aA X scope N C s2 H2 fp).fs:=λz=>by
  have z':D∈Gc X.stack:=z
  rcases AO.mp (I2.stkSub D z')with q|q
  .exact (nq _ I2.lt).2 q.symm
  .exact I2.nofs (a:=D) (by omega) q
 have HI:∀x c,(aA X scope N C s2 H2 fp).env.cells.lookup x=some c->c≠D:=λx c e z=>by
  obtain⟨v,o,ho,_⟩:=I2.cell x c (dm e);exact(nq c (AN ho)).2 z
 have stat:∀{H':Hp}{pl:List (Addr×Obj)},(∀b∈fp,H' b=none)->(∀p∈pl,p.1=D)->∀b∈fp,bD (aA X scope N C s2 H2 fp) pl H' b:=λ{H' pl} hn hp b hb=>by
  have FM:=JA b hb;refine⟨hn b hb,(Le b hb).1,λz=>?_,.inl hb,λx c e=>(f2 b hb).2.2.2.2.1 x c (dm e),λp hq z=>?_⟩
  .exact (AO.mp (I2.stkSub b z)).elim (f2 b hb).2.1 (f2 b hb).2.2.1
  .have Hl:p∈pl:=by simpa[aA]using hq
   exact(Le b hb).2 (z.symm.trans (hp p Hl))
 have JY:∀{pl:List (Addr×Obj)}{σ':St}{H':Hp}{s':zz8}{o:Obj},Inv (aA X scope N C s2 H2 fp) pl σ' H' s'->s'.heap.get? D=some o->H' D=none->(∀v,o.data≠.cell v)->Inv (aA X scope N C s2 H2 fp) [(D,o)] σ' H' s' :=
  λ{pl σ' H' s' o} I' ho hn hd=>I'.pins_of λp hp=>by
   have e:p=(D,o):=by simpa using hp
   subst e;exact⟨ho,hn,G3,Mg,hd⟩
 have loop:∀s4:zz8,s4={ s2 with heap:=h1,toks:=s2.toks+([]:List (Str×zz9)).length } ->
   codeAny (model X.prog X.w) X.A (.compLoop (Hj elt tg iter Gh iter2 ifs FP scope pos) 0 (.ref it) (.ref D) (aA X scope N C s2 H2 fp).env) (RR (.ref D) C) s4:=by
  rintro s4 rfl;refine uX (He C s2 H2 fp) (λn s'=>∃i σ' H' ys FC k,Inv (aA X scope N C s2 H2 fp) [(D,{ cls:=.type "list",data:=.seq FC.toArray k })] σ' H' s'/\tn i s'.heap/\(∀b∈fp,H' b=none)/\ar ys FC/\W i n ys σ' H') ?_ m0 ?_
  .rintro n s' ⟨i,σ',H',ys,FC,k,I',F8,JB,rv,w'⟩
   have Re:=I'.pin _ (AV _ AK)
   rcases turn i n ys σ' H' w' with ⟨stop,hz,qf⟩|⟨go,Nx,hN,step⟩
   .refine FG (T.done (aA X scope N C s2 H2 fp) rfl rfl rfl hc i _ s' σ' H' _ I' (stat JB (by simp)) F8 stop) λr s5 ⟨hr,I5⟩=>?_
    subst hr;have LK:=I5.pin _ (AV _ AK);obtain⟨m5,Nq,_⟩:=I5.loc;refine NP D C s5 m5 ys H' Nq I5.os G3 (I2.fpOk (by omega) (by rw[ag (BX G3)];exact I5.free)) (λh' GB=>?_) LK.2.1 qf;exact pq I2 f2 I5 (by omega) (by omega) G3 LK.2.1 LK.1 rv hz λb o hb e=>GB.extBut b o hb e
   .refine FG (T.item (aA X scope N C s2 H2 fp) rfl rfl rfl hc i _ s' σ' H' _ I' (stat JB (by simp)) F8 go) λr s5 ⟨u,hr,h5⟩=>?_
    subst hr;refine FG h5 λ_ s6 ⟨x,H6,I6,r6,y6,Hy,LO⟩=>?_;have LR:=I6.pinned (stat LO (by simp)) (T.obj _ _ Hy);refine FG (hg C s2 H2 fp _ s6 σ' H6 x u _ LR r6 (step x H6 y6)) λ_ s7 ⟨σ7,H7,I7,q7⟩=>?_;refine FG (ht C s2 H2 fp _ s7 σ7 H7 _ I7 q7) λok s8 ⟨H8,I8,q8⟩=>?_;have back:∀{H9:Hp}{s9:zz8},Inv (aA X scope N C s2 H2 fp) ([(D,{ cls:=.type "list",data:=.seq FC.toArray k })]++cW fp s6.heap) σ7 H9 s9->tn (i+1) s9.heap/\∀b∈fp,H9 b=none:=λ{H9 s9} I9=>by
     refine⟨T.keep _ _ _ Hy λb hb o e=>(I9.pin (b,o) (AV _ (AV _ (cU hb e)))).1,λb hb=>?_⟩;obtain⟨o,e,d⟩:=T.obj _ _ Hy b hb;exact(I9.pin (b,o) (AV _ (AV _ (cU hb e)))).2.1
    cases ok with
    | false =>
     rw[if_neg A2]at q8 ⊢;obtain⟨m',hm,w8⟩:=hN _ _ _ q8;obtain⟨KZ,LN⟩:=back I8;exact⟨m',hm,i+1,σ7,H8,ys,FC,k,I8.unpinned,KZ,LN,rv,w8⟩
    | true =>
     rw[if_pos rfl]at q8 ⊢;have hD8:=I8.pin _ (AV _ (A7 _ AK));refine FG (IR C s2 H2 fp _ s8 σ7 H8 _ I8 q8) λx2 s9 h9=>FG h9 λPH HV Rk=>?_;obtain⟨i2,fp2,tn2,J2,Gy,rfl,KP,T2,MN,Ru,XS⟩:=Rk;have RN:Inv (aA X scope N C s2 H2 fp) ((D,Jo FC k)::cW fp s6.heap) σ7 Gy HV:=KP;have Q6:∀p∈cW fp s6.heap,p.1≠D:=λp hp=>(Le p.1 (lL hp).1).2;have inner:∀R:Result->zz8->Prop,(∀σ' H' s' Gx its' k',Inv (aA X scope N C s2 H2 fp) ((D,Jo its' k')::cW fp s6.heap) σ' H' s'->ar Gx its'->Gx.length<=sizeLine->Nx Gx σ' H'->R (.ok .next) s') ->
       codeAny (model X.prog X.w) X.A (.compStart (Hj elt tg iter Gh iter2 ifs FP scope pos) 1 (.ref i2) (.ref D) (aA X scope N C s2 H2 fp).env) R HV:=λR hR=>by
      have q:=vp (Y:=aA X scope N C s2 H2 fp) (iter:=iter) (tg:=tg) (ifs:=ifs) (iter2:=iter2) (scope:=scope) (pos:=pos) (R:=R) hc G3 Mg (by show s2.heap.objs.size<=D;omega) HI rfl rfl (NA C s2 H2 fp) (Nf C s2 H2 fp) (he C s2 H2 fp) Q6 RN rv T2 MN Ru XS hR;exact sV q (T2.self _ 0 _ _ _ MN q)
     refine inner _ λσ' H' s' Gx its' k' I' Vl GK qn=>?_
     .obtain⟨m',hm,w9⟩:=hN _ _ _ qn
      have LS:Inv (aA X scope N C s2 H2 fp) ([(D,Jo its' k')]++cW fp s6.heap) σ' H' s':=I';refine⟨m',hm,i+1,σ',H',Gx,its',k',LS.unpinned,?_,?_,Vl,w9⟩
      .exact T.keep _ _ _ Hy λb hb o e=>(LS.pin (b,o) (AV _ (AV _ (cU hb e)))).1
      .intro b hb
       obtain⟨o,e,d⟩:=T.obj _ _ Hy b hb;exact(LS.pin (b,o) (AV _ (AV _ (cU hb e)))).2.1
  .obtain⟨n,e⟩:=oD
   exact⟨0,Iz ix σ,H2,[],[],n,JY I4 e (I2.hok.fresh (by omega)) (λv z=>by cases z),Ko,λb hb=>(f2 b hb).1,.nil,w0⟩
 have q:=loop _ rfl;exact codeAny_compStart_list q (T.self _ 0 _ _ _ Ko q)
theorem xM (L:bJ X scope N ix) (hc:X.calm=true) (hi:PI X tg iter wi) (hg:∀C s0 H0 fp,PG (aA X scope N C s0 H0 fp) tg g) (ht:∀C s0 H0 fp,Je (aA X scope N C s0 H0 fp) ifs tt)
  (IR:∀C s0 H0 fp,PI (aA X scope N C s0 H0 fp) Gh iter2 Kk) (NA:∀C s0 H0 fp,PG (aA X scope N C s0 H0 fp) Gh g2) (Nf:∀C s0 H0 fp,Je (aA X scope N C s0 H0 fp) FP Kl) (he:∀C s0 H0 fp,PE (aA X scope N C s0 H0 fp) elt te)
  (hs:∀x,foldedSetIterable iter X.env x=pure x:=by intro _;rfl) (He:∀C s0 H0 fp x,foldedSetIterable iter2 (aA X scope N C s0 H0 fp).env x=pure x:=by intros;rfl):PE X (Hj elt tg iter Gh iter2 ifs FP scope pos) (zy wi g tt Kk g2 Kl te ix):=by
 intro pins s σ H Q I h;show wpAny _ _ (eval (.ListComp elt [⟨tg,iter,ifs,0⟩,⟨Gh,iter2,FP,0⟩] scope pos) _) _ _ _;rw[eval_ListComp];refine Df (use:=none) rfl hs (L.clos I.ok) L.kind L.locals (FG (hi pins s σ H _ I h) λv s1 h1=>FG h1 λLY s2 h2=>?_);obtain⟨it,fp,tn,J,H2,rfl,I2,T,GL,f2,hW⟩:=h2;refine wo (RR:=λFH C=>compPost (model X.prog X.w) X.A X.xe none (EP X pins σ Q) FH C) L hc hg ht IR He NA Nf he I2 T GL f2 hW ?_;intro D C s' m ys H' hn ho G3 hC hI hD fin;exact⟨m,hn,λh' GB=>⟨.ref D,_,hI h' GB,rfl,fin D hD⟩⟩
end
end L2
namespace K52
open PySem L2
theorem wa (K:zz7) {X:Cx}{tg l:Expr}{tl:TE} (hl:PE X l tl) (h:X.K=K:=by rfl):PI X tg l (kr K tl):=by subst h;exact bj hl
theorem oC {ss:List Str}{i:Nat} (h:i<ss.length):(ss.map V.str)[i]?=some (.str ss[i]):=by rw[AZ,AJ h];rfl
theorem tm {K:zz7}{a:Addr}{G4:List Ih}{te:TE}{f:Str->V}{σ':St}{fin:List V->Hp->Prop}{H1:Hp} (hq:H1 a=some (.lst (Gi G4))) (A:∀x∈G4,H1 x.1=some (.tup (x.2.map V.str))) (hz:∀i,((G4.take i).map (·.2)).flatten.length<=5000) (hl:∀x∈G4,x.2.length<=200) {g1 g2 g3:Option V} (hσ:σ'=[g1,g2,g3])
  (Nd:∀(u:Option V) (x:Str) (Q:VK),Q (f x) H1->te [u,some (.str x),g3] H1 Q) (hd:fin (((G4.map (·.2)).flatten).map f) H1) :
  km (JE K a) (ck 0) bX (kr K (kj 0)) (ck 1) bX te σ' fin H1:=by
 subst hσ;have hsz:∀n:Nat,n<=6000->n<sizeLine:=λn hn=>by rw[Bw];omega
 refine⟨λi m ys σ H=>m=G4.length-i/\i<=G4.length/\ys=(((G4.take i).map (·.2)).flatten).map f/\H=H1/\∃x y,σ=[x,y,g3],⟨G4.length,by simp,Bi _,rfl,rfl,_,_,rfl⟩,?_⟩;rintro i m ys σ H ⟨rfl,hi,rfl,rfl,x,y,rfl⟩
 by_cases FM:i<G4.length
 .refine .inr ⟨⟨Gi G4,.ref G4[i].1,FF.of hq,by rw[AZ,AJ FM];rfl⟩,λGx σ' H'=>Gx=(((G4.take (i+1)).map (·.2)).flatten).map f/\H'=H/\∃x y,σ'=[x,y,g3],λGx σ' H' q=>⟨G4.length-(i+1),by omega,rfl,FM,q.1,q.2.1,q.2.2⟩,λz H' yl=>?_⟩
  obtain⟨rfl,yl⟩:=yl;have Lk:=yl (Gi G4) (FF.of hq);obtain⟨t,ht,rfl⟩:=gc Lk;have To:=AW ht;have t1:=A t To;unfold ck bX;refine be ⟨_,rfl,t.1,rfl,⟨_,FE.of t1⟩,?_⟩;have Te:=hz i;have Ow:=hl t To;refine⟨λj n ys σ H2=>n=t.2.length-j/\j<=t.2.length/\ys=(((G4.take i).map (·.2)).flatten++t.2.take j).map f/\H2=H'/\∃y,σ=[some (.ref t.1),y,g3],⟨t.2.length,by simp,Bi _,by simp,rfl,_,rfl⟩,?_⟩;rintro j n ys σ H2 ⟨rfl,hj,rfl,rfl,y',rfl⟩;have Kw:((((G4.take i).map (·.2)).flatten++t.2.take j).map f).length<=6000:=by rw[AG,Bu,B0];omega
  by_cases GG:j<t.2.length
  .refine .inr ⟨⟨t.2.map V.str,.str t.2[j],FE.of t1,oC GG⟩,hsz _ Kw,λGx σ' RP=>Gx=(((G4.take i).map (·.2)).flatten++t.2.take (j+1)).map f/\RP=H2/\∃y,σ'=[some (.ref t.1),y,g3],λGx σ' RP q=>⟨t.2.length-(j+1),by omega,rfl,GG,q.1,q.2.1,q.2.2⟩,λz RP yl=>?_⟩
   obtain⟨rfl,yl⟩:=yl;have Tf:=yl _ (FE.of t1);rw[oC GG]at Tf;cases Tf;refine be (Nd _ _ _ ⟨?_,rfl,_,rfl⟩);have e:t.2.take (j+1)=t.2.take j++[t.2[j]]:=by rw[Br,AJ GG];rfl
   rw[e,<- Co,AX (l₂:=[t.2[j]])];rfl
  .have ej:j=t.2.length:=by omega
   subst ej;refine .inl ⟨⟨_,FE.of t1,by simp⟩,Cq (hsz _ Kw),?_,rfl,_,_,rfl⟩;rw[Br,ht];simp
 .have ei:i=G4.length:=by omega
  subst ei;have Te:=hz G4.length;rw[B3]at Te ⊢;exact .inl ⟨⟨_,FF.of hq,by simp⟩,Cq (hsz _ (by rw[AG];omega)),hd⟩
theorem og {n:Nat}:∀{l:List (List Str)},(∀x∈l,x.length<=n)->l.flatten.length<=l.length*n
 | [],_=>by simp
 | x::t,h=>by
  have:=og (l:=t) λy hy=>h y (AR _ hy);have hx:=h x AK;rw[List.flatten_cons,Bu,Bd,Nat.succ_mul];omega
def anew (fs:List Str) (ls:List Ih) (t:T):Bool:=decide (t.2.2.1∈fs)&&((((ls.filter λx=>lead x.2 t).map (·.2)).flatten).map λy=>!decide (y∈fs)).all id
variable {P:Program}{w:World}{K:zz7}{mg:Str->Option zz9}{base:Heap}{f:Addr}{fd:FuncData}
def oG:Sp:=λvs H Q _=>∃(t:T) (fo la:Addr) (fs:List Str) (ls:List Ih),vs=[.ref t.1,.ref fo,.ref la]/\dq H t.1 t.2/\H fo=some (.lst (fs.map V.str))/\H la=some (.lst (Gi ls))/\(∀x∈ls,H x.1=some (.tup (x.2.map V.str)))/\ls.length<=300/\(∀x∈ls,x.2.length<=8) /\
 ∀H',aj H H'->Q (.bl (anew fs ls t)) H'
abbrev zt:List Str:=["row","found","lots","entered"]
theorem pI:aM zt ["row","found","lots"] (aE (top 29)):=⟨rfl,rfl,rfl,by decide +kernel,rfl,by decide +kernel,by decide +kernel⟩
theorem wC (F:FS K "leads_anew" "leads_anew" (top 29) f fd) (B:Bl mg) (F1:Fn P w K mg base 1 "leads_into" ["row","lot"] fK):aF P w K mg base FT 2 f fd ["row","found","lots"] oG:=by
 refine F.ok pI (λvs H Q E h=>?_) (λ_ _ _ _ H vs Q E hr h=>?_)
 .obtain⟨t,fo,la,fs,ls,rfl,_⟩:=h
  rfl
 .obtain⟨t,fo,la,fs,ls,rfl,HC,JK,Iu,Hu,hz,h8,k⟩:=h
  refine⟨_,am (dX (i:=3) (N:=["lot","row"]) (ix:=[none,some 0]) pI.nd rfl (Or.inl rfl) ⟨rfl,rfl,rfl,by decide⟩ rfl (cn (pv 2)) (λ_ _ _ _=>aL 0 (by decide) rfl rfl)
    (λ_ _ _ _=>cQ (bg (aB F1 hr (aa (pv 1) (aa (pv 0) ae))))) (λ_ _ _ _=>pv 0))
   (aw (aJ (b8 (bN eG (ax aC (pv 0) ai (λ_ _=>rfl)) (pv 1) (by with_unfolding_all rfl)) (cq (au (dC rfl) rfl B.all dM (aa (xM (N:=["lot","place","found"]) (ix:=[none,none,some 1]) ⟨rfl,rfl,rfl,by decide⟩ rfl (cn (pv 3)) (λ_ _ _ _=>aL 0 (by decide) rfl rfl) (λ_ _ _ _=>bq)
    (λ_ _ _ _=>wa K (pv 0)) (λ_ _ _ _=>aL 1 (by decide) rfl rfl) (λ_ _ _ _=>bq) (λ_ _ _ _=>bN (gH K) (pv 1) (pv 2) (by with_unfolding_all rfl))) ae)))))),?_⟩
  refine⟨_,rfl,la,rfl,⟨_,FF.of Iu⟩,eW (xs:=Gi ls) (fits (by simp;omega)) (λi ys σ H3=>ys=Gi ((ls.take i).filter λx=>lead x.2 t)/\H3=H/\∃x,σ=[x,some (.ref t.1)]) ⟨rfl,rfl,_,rfl⟩
   (λi ys σ H3 _ p=>⟨by rw[p.1];simp only[AG];exact Be (Bg _ _) (by simp;omega),by rw[p.2.1];exact FF.of Iu⟩) ?_ ?_⟩
  .rintro i y ys σ H3 hy ⟨rfl,rfl,x,rfl⟩
   obtain⟨z,GK,rfl⟩:=gc hy;have tf:=cF (λx:Ih=>lead x.2 t) ls i z GK;refine⟨_,rfl,_,rfl,z.1,t,z.2,rfl,HC,Hu z (AW GK),_,rfl,?_⟩;refine aZ (λc=>⟨_,rfl,?_,rfl,_,rfl⟩) (λc=>⟨?_,rfl,_,rfl⟩)
   .rw [tf,if_pos c,Gi,Gi,AX];rfl
   .rw [tf,if_neg c,BA]
  .rintro ys σ H3 ⟨rfl,rfl,x,rfl⟩ en QX
   rw[take_all ls (by simp)];have HF:∀x∈ls.filter (λx=>lead x.2 t),x∈ls:=λx hx=>(AS.mp hx).1;have Xx:(ls.filter λx=>lead x.2 t).length<=300:=Be (Bg _ _) hz;have hk:∀b,b=anew fs ls t->∀H',aj H3 H'->Q (.bl b) H':=λb e H' s'=>e ▸ k H' s';unfold anew at hk;generalize (ls.filter λx=>lead x.2 t)=fl at HF Xx hk ⊢;have s1:=av (o:=.lst (Gi fl)) (aj.refl H3) QX;have e1:upd H3 en (.lst (Gi fl)) en=some (.lst (Gi fl)):=ak;generalize upd H3 en (.lst (Gi fl))=H1 at s1 e1 ⊢;have hS:Sq K H1 fo (fs.map V.str):=.inl (FF.of (s1 _ _ JK));refine⟨_,rfl,ay (j:=1) (.inr (FE.of (s1 _ _ HC))) rfl rfl ⟨_,rfl,fo,fs.map V.str,rfl,hS,rfl,bK fs,?_⟩⟩;refine⟨Hc (.str t.2.2.1) (fs.map V.str),rfl,?_⟩;rw[bM];refine aZ (λc=>?_) (λc=>?_)
   .refine⟨_,rfl,en,rfl,⟨_,FF.of e1⟩,tm (f:=λy=>.bl (!decide (y∈fs))) e1 (λx hx=>s1 _ _ (Hu x (HF x hx))) (λi=>?_) (λx hx=>by have:=h8 x (HF x hx);omega) rfl (λu x Q' hq=>?_) λq hq=>?_⟩
    .have:=og (n:=8) (l:=(fl.take i).map (·.2)) λy hy=>by
      obtain⟨z,GK,rfl⟩:=AL.mp hy;exact h8 z (HF z (List.mem_of_mem_take GK))
     rw[AG,B0]at this;omega
    .refine⟨_,rfl,_,rfl,fo,_,rfl,hS,rfl,bK fs,?_⟩
     rw[bM];exact hq
    .refine⟨q,((fl.map (·.2)).flatten).map λy=>!decide (y∈fs),rfl,FF.of (by rw[ak,A6];rfl),?_⟩
     exact hk _ (by rw[c,E1]) _ (av s1 hq)
   .refine hk _ ?_ _ s1
    simp only[Cf]at c;rw[c,FA]
structure KQ (ms:List T) (ps:List Str) (root:Str) (F:List (List Str)):Prop where
 lam:CP.Lam F
 nd:∀L∈F,L.Nodup
 sc:∀L∈F,CP.SC (Rw ms) L
 nr:∀L∈F,root∉L
 ro:root∈ps
 pn:ps.Nodup
 en:∀r∈ms,r.2.2.2∈ps
 lo:∀r∈ms,r.2.2.1≠r.2.2.2
 gr:∀r∈ms,r.2.2.2≠root
 re:∀x∈ps,CP.Pth (Rw ms) root x
 one:∀y∈ps,y≠root->[y]∈F
structure Gw (ms:List T) (root:Str) (F:List (List Str)) (tr:List T):Prop where
 sub:∀t∈tr,t∈ms
 nd:(FL root tr).Nodup
 st:∀t∈tr,t.2.2.1∈FL root tr
 on:CP.gz F (FL root tr) (Rw tr)
 rk:∃d:Str->Nat,d root=0/\∀r∈Rw tr,d r.2.2=d r.2.1+1
theorem gR (root:Str) (tr:List T) (t:T):FL root (tr++[t])=FL root tr++[t.2.2.2]:=by simp[FL]
theorem Gw.start {ms:List T}{ps:List Str}{root:Str}{F:List (List Str)} (A:KQ ms ps root F):Gw ms root F []:=
 ⟨by simp,by simp[FL],by simp,CP.gz.start A.nr,⟨λ_=>0,rfl,by simp⟩⟩
theorem lX {fs:List Str}{ls:List Ih}{t:T}:anew fs ls t=true ↔ t.2.2.1∈fs/\∀L∈ls.map (·.2),CP.ent L t.2=true->∀y∈L,y∉fs:=by
 unfold anew;rw[B9,decide_eq_true_iff,BL];refine and_congr Iff.rfl ⟨λh L hL he y hy hf=>?_,λh b hb=>?_⟩
 .obtain⟨x,hx,rfl⟩:=AL.mp hL
  have:=h _ (AL.mpr ⟨y,List.mem_flatten.mpr ⟨x.2,AL.mpr ⟨x,AS.mpr ⟨hx,he⟩,rfl⟩,hy⟩,rfl⟩);simp[hf]at this
 .obtain⟨y,hy,rfl⟩:=AL.mp hb
  obtain⟨L,hL,WI⟩:=List.mem_flatten.mp hy;obtain⟨x,hx,rfl⟩:=AL.mp hL;obtain⟨h1,h2⟩:=AS.mp hx;have:=h x.2 (AM h1) h2 y WI;simp[this]
theorem Gw.next {ms:List T}{ps:List Str}{root:Str}{ls:List Ih}{tr:List T} (A:KQ ms ps root (ls.map (·.2))) (G:Gw ms root (ls.map (·.2)) tr) (hl:(FL root tr).length<ps.length):∃t∈ms,anew (FL root tr) ls t=true:=by
 have hx:∃x∈ps,x∉FL root tr:=by
  cases Ci (∃x∈ps,x∉FL root tr)with
  | inl h=>exact h
  | inr h =>
   have:=CP.jI A.pn (b:=FL root tr) λx hx=>DQ λz=>h ⟨x,hx,z⟩;omega
 obtain⟨x,hx,hn⟩:=hx;obtain⟨r,hr,h1,_,h3⟩:=CP.As A.lam A.nd A.sc (W:=FL root tr) (root:=root) (by simp[FL]) hn (A.re x hx);obtain⟨t,ht,rfl⟩:=AL.mp hr;exact⟨t,ht,lX.mpr ⟨h1,h3⟩⟩
theorem Gw.add {ms:List T}{ps:List Str}{root:Str}{ls:List Ih}{tr:List T}{t:T} (A:KQ ms ps root (ls.map (·.2))) (G:Gw ms root (ls.map (·.2)) tr) (ht:t∈ms) (ha:anew (FL root tr) ls t=true):Gw ms root (ls.map (·.2)) (tr++[t]):=by
 obtain⟨h1,h2⟩:=lX.mp ha;have hg:t.2.2.2∉FL root tr:=h2 _ (A.one _ (A.en t ht) (A.gr t ht)) (CP.dF.mpr ⟨AQ.mpr rfl,λz=>A.lo t ht (AQ.mp z)⟩) _ (AQ.mpr rfl);refine⟨λu hu=>(A1.mp hu).elim (G.sub u) λz=>by rw[AQ.mp z];exact ht,?_,λu hu=>?_,?_,?_⟩
 .rw [gR];exact iX G.nd hg
 .rw [gR]
  refine A7 _ ?_
  rcases A1.mp hu with z|z
  .exact G.st u z
  .rw [AQ.mp z];exact h1
 .rw [gR,Rw,AX]
  exact G.on.add h1 h2
 .obtain⟨d,d0,hd⟩:=G.rk
  have GH:∀r∈Rw tr,r.2.2∈FL root tr/\r.2.1∈FL root tr:=λr hr=>by
   obtain⟨u,hu,rfl⟩:=AL.mp hr;exact⟨AR _ (AM hu),G.st u hu⟩
  refine⟨λx=>if x=t.2.2.2 then d t.2.2.1+1 else d x,?_,λr hr=>?_⟩
  .show (if root=t.2.2.2 then d t.2.2.1+1 else d root)=0
   rw[if_neg (λz:root=t.2.2.2=>A.gr t ht z.symm)];exact d0
  .rw [Rw,AX]at hr
   rcases A1.mp hr with z|z
   .obtain⟨a,b⟩:=GH r z
    show(if r.2.2=t.2.2.2 then d t.2.2.1+1 else d r.2.2)=(if r.2.1=t.2.2.2 then d t.2.2.1+1 else d r.2.1)+1;rw[if_neg (λe:r.2.2=t.2.2.2=>hg (e ▸ a)),if_neg (λe:r.2.1=t.2.2.2=>hg (e ▸ b))];exact hd r z
   .rw [show r=t.2 from AQ.mp z]
    show(if t.2.2.2=t.2.2.2 then d t.2.2.1+1 else d t.2.2.2)=(if t.2.2.1=t.2.2.2 then d t.2.2.1+1 else d t.2.2.1)+1;rw[if_pos rfl,if_neg (λe:t.2.2.1=t.2.2.2=>hg (e ▸ h1))]
def j3 (fs:List Str) (F:List (List Str)) (t:T):Bool:=decide (t.2.2.1∈fs)&&(((F.filter λL=>lead L t).flatten).map λy=>!decide (y∈fs)).all id
theorem wn (fs:List Str) (ls:List Ih) (t:T):anew fs ls t=j3 fs (ls.map (·.2)) t:=by
 unfold anew j3;rw[DP];rfl
inductive Hg (ms:List T) (root:Str) (F:List (List Str)):List T->Prop
 | start:Hg ms root F []
 | step {tr:List T}{t:T}{rest:List T}:Hg ms root F tr->(ms.filter λt=>j3 (FL root tr) F t)=t::rest->Hg ms root F (tr++[t])
theorem Hg.eq {ms:List T}{root:Str}{F:List (List Str)}{tr Km:List T} (h:Hg ms root F tr):tr.length=Km.length->Hg ms root F Km->tr=Km:=by
 induction h generalizing Km with
 | start=>intro e _;exact(Ct.mp e.symm).symm
 | @step tr t rest hq hf ih =>
  intro e h';cases h' with
  | start=>simp at e
  | @step N6 t2 SB HW Oz =>
   have:=ih (by simpa using e) HW;subst this;rw[hf]at Oz;cases Oz;rfl
def mX:Sp:=λvs H Q _=>∃(ml pa la:Addr) (ms:List T) (ps:List Str) (root:Str) (ls:List Ih),vs=[.ref ml,.str root,.ref pa,.ref la]/\H ml=some (.lst (ao ms))/\cZ H ms/\H pa=some (.tup (ps.map V.str))/\H la=some (.lst (Gi ls))/\(∀x∈ls,H x.1=some (.tup (x.2.map V.str))) /\
 ls.length<=300/\(∀x∈ls,x.2.length<=8)/\ms.length<=60/\ps.length<=8/\KQ ms ps root (ls.map (·.2)) /\
 ∀(q:Addr) (H':Hp) (tr:List T),aj H H'->H q=none->H' q=some (.lst (ao tr))->Gw ms root (ls.map (·.2)) tr->ps.length<=(FL root tr).length->Hg ms root (ls.map (·.2)) tr->Q (.ref q) H'
abbrev zB:List Str:=["met","root","places","lots","found","tree","row"]
theorem iG:aM zB ["met","root","places","lots"] (aE (top 30)):=⟨rfl,rfl,rfl,by decide +kernel,rfl,by decide +kernel,by decide +kernel⟩
theorem vk (F:FS K "tree_along" "tree_along" (top 30) f fd) (B:Bl mg) (F1:Fn P w K mg base 2 "leads_anew" ["row","found","lots"] oG):aF P w K mg base FT 3 f fd ["met","root","places","lots"] mX:=by
 refine F.ok iG (λvs H Q E h=>?_) (λ_ _ _ _ H vs Q E hr h=>?_)
 .obtain⟨ml,pa,la,ms,ps,root,ls,rfl,_⟩:=h
  rfl
 .obtain⟨ml,pa,la,ms,ps,root,ls,rfl,JJ,FU,Ht,Iu,Hu,hz,h8,Xk,L8,A',k⟩:=h
  refine⟨_,am (aN (i:=4) iG.nd rfl (Or.inr rfl) (cg (aa (pv 1) ae)))
   (am (aN (i:=5) iG.nd rfl (Or.inl rfl) (cg ae))
   (am (gS BC (aI eQ (au aX rfl B.len Bb (aa (pv 4) ae)) (au aX rfl B.len Bb (aa (pv 2) ae)) (aH _))
    (am (aN (i:=6) iG.nd rfl (Or.inl rfl) (ax aC (bo (N:=["one","found","lots"]) (ix:=[none,some 4,some 3]) ⟨rfl,rfl,rfl,by decide⟩ rfl (cn (pv 0)) (λ_ _ _ _=>aL 0 (by decide) rfl rfl)
     (λ_ _ _ _=>cQ (bg (aB F1 hr (aa (pv 0) (aa (pv 1) (aa (pv 2) ae)))))) (λ_ _ _ _=>pv 0)) ai (λ_ _=>rfl)))
    (am (b7 (da BI BM BN dD (pv 4) (aa (ax aC (pv 6) ai (λ_ _=>rfl)) ae)))
    (aw (b7 (da BI BM BN dD (pv 5) (aa (pv 6) ae)))))))
   (aw (aJ (pv 5))))),?_⟩
  refine⟨_,rfl,by show 1<=sizeLine;decide,λfo JK=>?_⟩;have s1:=av (o:=.lst [.str root]) (aj.refl H) JK;have f1:upd H fo (.lst [.str root]) fo=some (.lst ((FL root []).map V.str)):=ak;generalize upd H fo (.lst [.str root])=H1 at s1 f1 ⊢;refine⟨Bi _,λtk Hd=>?_⟩;have Js:=s1.free Hd;have Lf:fo≠tk:=aq f1 Hd;have s2:=av (o:=.lst []) s1 Hd;have f2:upd H1 tk (.lst []) fo=some (.lst ((FL root []).map V.str)):=by rw[ag Lf];exact f1
  have t2:upd H1 tk (.lst []) tk=some (.lst (ao [])):=ak;generalize upd H1 tk (.lst [])=H2 at s2 f2 t2 ⊢
  refine⟨λm σ H3=>∃(tr:List T) (g:Option V),σ=[some (.ref ml),some (.str root),some (.ref pa),some (.ref la),some (.ref fo),some (.ref tk),g]/\m=ps.length-tr.length/\Gw ms root (ls.map (·.2)) tr/\aj H H3/\H3 fo=some (.lst ((FL root tr).map V.str))/\H3 tk=some (.lst (ao tr))/\Hg ms root (ls.map (·.2)) tr,
   ⟨_,[],none,rfl,rfl,Gw.start A',s2,f2,t2,.start⟩,?_⟩
  rintro m σ H3 ⟨tr,g,rfl,rfl,G,s3,f3,t3,D3⟩;have Ia:(FL root tr).length=tr.length+1:=by simp[FL]
  refine⟨_,rfl,fo,_,rfl,.inl (FF.of f3),_,rfl,pa,_,rfl,.inr (FE.of (s3 _ _ Ht)),_,_,rfl,rfl,_,rfl,aZ (λc=>?_) (λc=>?_)⟩
  .have FM:(FL root tr).length<ps.length:=by
    have:=of_decide_eq_true c;rw[AG,AG]at this;omega
   obtain⟨t0,WX,XR⟩:=G.next A' FM;refine⟨λσ' H3=>∃m',m'<ps.length-tr.length/\∃(tr:List T) (g:Option V),σ'=[some (.ref ml),some (.str root),some (.ref pa),some (.ref la),some (.ref fo),some (.ref tk),g]/\m'=ps.length-tr.length/\Gw ms root (ls.map (·.2)) tr/\aj H H3/\H3 fo=some (.lst ((FL root tr).map V.str))/\H3 tk=some (.lst (ao tr))/\Hg ms root (ls.map (·.2)) tr,λ_ _ h=>h,?_⟩
   refine⟨_,rfl,ml,rfl,⟨_,FF.of (s3 _ _ JJ)⟩,eW (xs:=ao ms) (fits (by simp;omega)) (λi ys σ H4=>ys=ao ((ms.take i).filter λt=>anew (FL root tr) ls t)/\aj H3 H4/\∃x,σ=[x,some (.ref fo),some (.ref la)]) ⟨rfl,aj.refl _,_,rfl⟩
    (λi ys σ H4 _ p=>⟨by rw[p.1];simp only[AG];exact Be (Bg _ _) (by simp;omega),FF.of (p.2.1 _ _ (s3 _ _ JJ))⟩) ?_ ?_⟩
   .rintro i y ys σ H4 hy ⟨rfl,s4,x,rfl⟩
    obtain⟨t,Tp,rfl⟩:=bY hy;have Pe:=s3.trans s4;have tf:=cF (λt:T=>anew (FL root tr) ls t) ms i t Tp;refine⟨_,rfl,_,rfl,_,rfl,t,fo,la,FL root tr,ls,rfl,Pe _ _ (FU.e t (AW Tp)),s4 _ _ f3,Pe _ _ Iu,λx hx=>Pe _ _ (Hu x hx),hz,h8,λH5 s5=>⟨_,rfl,?_⟩⟩;refine aZ (λc=>⟨_,rfl,?_,s4.trans s5,_,rfl⟩) (λc=>⟨?_,s4.trans s5,_,rfl⟩)
    .rw [tf,if_pos c,ao,ao,AX];rfl
    .rw [tf,if_neg c,BA]
   .rintro ys σ H4 ⟨rfl,s4,x,rfl⟩ q hq
    rw[take_all ms (by simp)];cases hF:ms.filter λt=>anew (FL root tr) ls t with
    | nil =>
     have:=AS.mpr ⟨WX,XR⟩;rw[hF]at this;cases this
    | cons t rest =>
     have ht:=AS.mp (show t∈ms.filter λt=>anew (FL root tr) ls t by rw[hF];exact AK);have s5:=av (o:=.lst (ao (t::rest))) s4 hq;have q5:upd H4 q (.lst (ao (t::rest))) q=some (.lst (ao (t::rest))):=ak;generalize upd H4 q (.lst (ao (t::rest)))=H5 at s5 q5 ⊢;have Sr:=s3.trans s5;have GY:=Sr _ _ (FU.e t ht.1);have f5:=s5 _ _ f3;have t5:=s5 _ _ t3;refine ay (j:=0) (.inl (FF.of q5)) rfl rfl ?_;have G2:=G.add A' ht.1 ht.2
     have D4:Hg ms root (ls.map (·.2)) (tr++[t]):=D3.step (rest:=rest) (by
      rw[<- hF]
      exact D6 λu _=>(wn _ _ _).symm)
     refine⟨_,rfl,.inl ⟨rfl,_,FF.of f5⟩,_,rfl,ay (j:=2) (.inr (FE.of GY)) rfl rfl ⟨fo,_,_,rfl,rfl,f5,fits (by simp;omega),?_⟩⟩;have s6:=aj.upd0 Sr (o:=.lst ((FL root tr).map V.str++[.str t.2.2.2])) (q:=fo) JK;have f6:upd H5 fo (.lst ((FL root tr).map V.str++[.str t.2.2.2])) fo=some (.lst ((FL root (tr++[t])).map V.str)):=by rw[ak,gR,AX];rfl
     have t6:upd H5 fo (.lst ((FL root tr).map V.str++[.str t.2.2.2])) tk=some (.lst (ao tr)):=by rw[ag Lf.symm];exact t5
     generalize upd H5 fo (.lst ((FL root tr).map V.str++[.str t.2.2.2]))=H6 at s6 f6 t6 ⊢;refine⟨_,rfl,.inl ⟨rfl,_,FF.of t6⟩,_,rfl,tk,_,_,rfl,rfl,t6,fits (by simp;omega),_,?_,tr++[t],_,rfl,rfl,G2,aj.upd0 s6 Js,by rw[ag Lf];exact f6,by rw[ak];simp[ao],D4⟩;rw[Bu,Dx];omega
  .refine⟨_,rfl,k tk H3 tr s3 Js t3 G ?_ D3⟩
   have:=of_decide_eq_false (E9.mpr c);rw[AG,AG]at this;omega
theorem vD {R:List Row}{a:Str}:∀{n:Nat}{x:Str},Walk R a n x->CP.Pth R a x:=by
 intro n x h
 induction h with
 | nil=>exact .nil
 | snoc hw hr ih=>exact .snoc ih hr
abbrev bC (rs:List T) (root:Str):List T:=rs.filter λr=>decide (r.2.2.2≠root)
theorem we {rs:List T}{root x:Str} (h:CP.Pth (Rw rs) root x):CP.Pth (Rw (bC rs root)) root x:=by
 induction h with
 | nil=>exact .nil
 | @snoc r hp hr ih =>
  by_cases e:r.2.2=root
  .rw [e];exact .nil
  .obtain⟨t,ht,rfl⟩:=AL.mp hr
   exact .snoc ih (AM (AS.mpr ⟨ht,decide_eq_true e⟩))
theorem wg {ps:List Str}{root:Str}{rs:List T} (so:ps.Pairwise Gb) (ro:root∈ps) (nd:(nms rs).Nodup) (en:∀r∈rs,r.2.2.1∈ps/\r.2.2.2∈ps) (lo:∀r∈rs,r.2.2.1≠r.2.2.2) (re:∀x∈ps,CP.Pth (Rw rs) root x):Kg ps root (bC rs root):=
 ⟨so,ro,CF (List.Sublist.map _ BJ) nd,λr hr=>en r (AS.mp hr).1,λr hr=>lo r (AS.mp hr).1,λr hr=>of_decide_eq_true (AS.mp hr).2,λx hx=>we (re x hx)⟩
theorem jD {ps:List Str}{root:Str}{rs:List T}{cost left:Str->Int}{Ps:List (List Str×Int)} (W:Kg ps root rs) (R:CP.Rf ps root (Rw rs) cost Ps left) (re:∀x∈ps,CP.Pth (CP.met (Rw rs) left) root x):KQ (bE rs left) ps root (Ps.map (·.1)):=by
 have hm:∀r∈bE rs left,r∈rs:=λr hr=>(AS.mp hr).1;have ex:∀{L:List Str},L∈Ps.map (·.1)->∃x∈Ps,x.1=L:=λ{L} h=>AL.mp h;refine⟨R.lam,λL hL=>?_,λL hL=>?_,λL hL=>?_,W.ro,bZ W.so,λr hr=>(W.en r (hm r hr)).2,λr hr=>W.lo r (hm r hr),λr hr=>W.nr r (hm r hr),λx hx=>by rw[jJ];exact re x hx,R.one⟩
 .obtain⟨x,hx,rfl⟩:=ex hL
  exact(bZ W.so).sublist (R.sub x hx)
 .obtain⟨x,hx,rfl⟩:=ex hL
  rw[jJ];exact R.sc x hx
 .obtain⟨x,hx,rfl⟩:=ex hL
  exact R.nr x hx
theorem Gw.all {ms:List T}{ps:List Str}{root:Str}{F:List (List Str)}{tr:List T} (A:KQ ms ps root F) (G:Gw ms root F tr) (hl:ps.length<=(FL root tr).length):∀x∈ps,x∈FL root tr :=
 CP.yC G.nd A.pn (λx hx=>by
  rcases AO.mp hx with rfl|h
  .exact A.ro
  .obtain⟨t,ht,rfl⟩:=AL.mp h
   exact A.en t (G.sub t ht)) hl
theorem Gw.tree {ms:List T}{ps:List Str}{root:Str}{F:List (List Str)}{tr:List T} (A:KQ ms ps root F) (G:Gw ms root F tr) (hl:ps.length<=(FL root tr).length):Tree root ps (Rw tr):=by
 have e:root::(Rw tr).map (·.2.2)=FL root tr:=by simp[FL,A6]
 exact⟨by rw[e];exact G.nd,λx hx=>by rw[e];exact G.all A hl x hx,G.rk⟩
theorem Gw.once {ms:List T}{ps:List Str}{root:Str}{F:List (List Str)}{tr:List T} (A:KQ ms ps root F) (G:Gw ms root F tr) (hl:ps.length<=(FL root tr).length) (hs:∀L∈F,L≠[]/\∀x∈L,x∈ps):∀L∈F,CP.ents L (Rw tr)=1:=λL hL=>by
 obtain⟨h0,h1⟩:=hs L hL;cases L with
 | nil=>exact absurd rfl h0
 | cons y t=>exact(G.on _ hL).1 ⟨y,AK,G.all A hl y (h1 y AK)⟩
theorem mi {ps:List Str}{root:Str}{rs:List T}{cost left:Str->Int}{Ps:List (List Str×Int)} (R:CP.Rf ps root (Rw rs) cost Ps left) {t:T} (h:t∈bE rs left):CP.dA Ps t.2=cost t.2.1:=by
 obtain⟨h1,h2⟩:=AS.mp h;have:=R.eq t.2 (AM h1);have h3:left t.2.1=0:=of_decide_eq_true h2;have h4:left t.2.1=cost t.2.1-CP.dA Ps t.2:=this;omega
theorem sO {ps:List Str}{root:Str}{rs:List T}{cost left:Str->Int}{Ps:List (List Str×Int)}{tr:List T} (W:Kg ps root rs) (R:CP.Rf ps root (Rw rs) cost Ps left) (re:∀x∈ps,CP.Pth (CP.met (Rw rs) left) root x)
  (G:Gw (bE rs left) root (Ps.map (·.1)) tr) (hl:ps.length<=(FL root tr).length):(tr.map λt=>cost t.2.1).sum=(Ps.map (·.2)).sum:=by
 have A:=jD W R re;have ho:=G.once A hl λL hL=>by
  obtain⟨x,hx,rfl⟩:=AL.mp hL;exact⟨R.ne x hx,λy hy=>(R.sub x hx).subset hy⟩
 rw[<- CP.Aq (T:=Rw tr) (P:=Ps) λx hx=>ho x.1 (AM hx),Rw,A6]
 congr 1
 exact CM λt ht=>(mi R (G.sub t ht)).symm
theorem mH (r:Row):∀Ps:List (List Str×Int),CP.dA (Ps.filter λx=>decide (x.2≠0)) r=CP.dA Ps r
 | []=>rfl
 | x::t=>by
  have ih:=mH r t
  by_cases e:x.2=0
  .rw [Bs,if_neg (by simp[e]),ih,CP.gI,e];split<;>omega
  .rw [Bs,if_pos (by simp[e]),CP.gI,CP.gI,ih]
theorem nH:∀Ps:List (List Str×Int),((Ps.filter λx=>decide (x.2≠0)).map (·.2)).sum=(Ps.map (·.2)).sum
 | []=>rfl
 | x::t=>by
  have ih:=nH t
  by_cases e:x.2=0
  .rw [Bs,if_neg (by simp[e]),ih,A8,CB,e];omega
  .rw [Bs,if_pos (by simp[e]),A8,A8,CB,CB,ih]
end K52
namespace CP
section
variable {ν α:Type} [DecidableEq α] [DecidableEq ν]
theorem kN {β:Type}:∀{l:List β},l.Nodup->(∀x∈l,∀y∈l,x=y)->l.length<=1
 | [],_,_=>by simp
 | [_],_,_=>by simp
 | a::b::t,h,e=>by
  have IW:=e a (by simp) b (by simp);subst IW;have:=(Bj.mp h).1;exact absurd AK this
theorem v5 {β:Type} (p q r:β->Bool) (l:List β) (h:∀x∈l,p x=true\/q x=true\/r x=true):l.length<=(l.filter p).length+(l.filter q).length+(l.filter r).length:=by
 induction l with
 | nil=>simp
 | cons a t ih =>
  have ih:=ih λx hx=>h x (AR _ hx);have ha:=h a AK;rw[Bs,Bs,Bs];have e:∀(b:Bool) (m:List β),m.length<=(if b=true then a::m else m).length:=λb m=>by cases b<;>simp
  have e1:∀(m:List β) {b:Bool},b=true->(if b=true then a::m else m).length=m.length+1:=λm b h=>by rw[if_pos h,Bd]
  have x1:=e (p a) (t.filter p);have x2:=e (q a) (t.filter q);have x3:=e (r a) (t.filter r);rw[Bd]
  rcases ha with c|c|c
  .have:=e1 (t.filter p) c;omega
  .have:=e1 (t.filter q) c;omega
  .have:=e1 (t.filter r) c;omega
theorem xh:∀(ps:List α),ps.Nodup->∀F:List (List α),F.Nodup->(∀A∈F,A.Sublist ps)->[]∉F->Lam F->F.length<=2*ps.length
 | [],_,F,nd,hs,h0,_=>by
  cases F with
  | nil=>simp
  | cons A t =>
   have:=hs A AK;rw[List.sublist_nil.mp this]at h0;simp at h0
 | x::t,hn,F,nd,hs,h0,hl=>by
  obtain⟨hx,Lw⟩:=Bj.mp hn;have ext:∀A B:List α,A.Sublist t->B.Sublist t->(∀y∈A,y∈B)->(∀y∈B,y∈A)->A=B:=by
   intro A B hA hB h1 h2;have key:∀{C:List α},C.Sublist t->C=t.filter λy=>decide (y∈C):=by
    intro C hC;clear hl hs h0 nd h1 h2 hA hB hn hx
    induction hC with
    | slnil=>rfl
    | @cons l1 l2 a h ih =>
     obtain⟨h1,h2⟩:=Bj.mp Lw;rw[Bs,if_neg (by simpa using λz=>h1 (h.subset z))];exact ih h2
    | @cons_cons l1 l2 a h ih =>
     obtain⟨h1,h2⟩:=Bj.mp Lw;rw[Bs,if_pos (by simp)]
     congr 1
     refine(ih h2).trans (D6 λy hy=>?_);have:y≠a:=λe=>h1 (e ▸ hy);simp[this]
   rw[key hA,key hB];exact D6 λy _=>by
    have:(y∈A)=(y∈B):=propext ⟨h1 y,h2 y⟩;simp[this]
  let F1:=F.filter λA=>!decide (x∈A)
  let F2:=(F.filter λA=>decide (x∈A)).map List.tail
  have NU:∀A∈F1,A∈F/\A.Sublist t:=λA hA=>by
   obtain⟨h1,h2⟩:=AS.mp hA;have h2:x∉A:=by simpa using h2
   exact⟨h1,by
    cases hs A h1 with
    | cons _ h=>exact h
    | cons_cons _ h=>exact absurd AK h2⟩
  have Ke:∀A∈F2,x::A∈F/\A.Sublist t:=λA hA=>by
   obtain⟨B,hB,rfl⟩:=AL.mp hA;obtain⟨h1,h2⟩:=AS.mp hB;have h2:x∈B:=by simpa using h2
   cases hs B h1 with
   | cons _ h=>exact absurd (h.subset h2) hx
   | cons_cons _ h=>exact⟨h1,h⟩
  have n1:F1.Nodup:=CF BJ nd;have n2:F2.Nodup:=by
   refine B6.mpr ?_;refine(CF BJ nd).imp_of_mem λ{A B} hA hB FQ e=>FQ ?_;obtain⟨a1,a2⟩:=AS.mp hA;obtain⟨b1,b2⟩:=AS.mp hB;have a2:x∈A:=by simpa using a2
   have b2:x∈B:=by simpa using b2
   have ca:∃A',A=x::A':=by
    cases hs A a1 with
    | cons _ h=>exact absurd (h.subset a2) hx
    | cons_cons _ h=>exact⟨_,rfl⟩
   have cb:∃A',B=x::A':=by
    cases hs B b1 with
    | cons _ h=>exact absurd (h.subset b2) hx
    | cons_cons _ h=>exact⟨_,rfl⟩
   obtain⟨A',rfl⟩:=ca;obtain⟨B',rfl⟩:=cb;have:A'=B':=e;rw[this]
  have FJ:F.length=F1.length+F2.length:=by
   rw[AG];have:∀l:List (List α),l.length=(l.filter λA=>!decide (x∈A)).length+(l.filter λA=>decide (x∈A)).length:=by
    intro l
    induction l with
    | nil=>rfl
    | cons a t ih =>
     rw[Bs,Bs]
     by_cases c:x∈a<;>simp[c]at ih ⊢<;>omega
   exact this F
  let G2:=F2.filter λA=>!decide (A=[]) && !decide (A∈F1)
  have e2:F2.length<=G2.length+1+1:=by
   have h3:=v5 (λA:List α=>!decide (A=[]) && !decide (A∈F1)) (λA=>decide (A=[])) (λA=>!decide (A=[])&&decide (A∈F1)) F2 λA _=>by
    by_cases c1:A=[]<;>by_cases c2:A∈F1<;>simp[c1,c2]
   have h4:(F2.filter λA=>decide (A=[])).length<=1:=kN (CF BJ n2) λA hA B hB=>by
    have a:=(AS.mp hA).2;have b:=(AS.mp hB).2;rw[of_decide_eq_true a,of_decide_eq_true b]
   have h5:(F2.filter λA=>!decide (A=[])&&decide (A∈F1)).length<=1:=kN (CF BJ n2) λA hA B hB=>by
    obtain⟨a1,a2⟩:=AS.mp hA;obtain⟨b1,b2⟩:=AS.mp hB;have a2:A≠[]/\A∈F1:=by simpa using a2
    have b2:B≠[]/\B∈F1:=by simpa using b2
    have sub:∀{A B:List α},A∈F2->A≠[]->A∈F1->B∈F2->B∈F1->(∀y∈x::A,y∈x::B)->A=B:=by
     intro A B a1 a2 a3 b1 b3 IW;have hB:x∉B:=λz=>hx ((Ke B b1).2.subset z);have hA:x∉A:=λz=>hx ((Ke A a1).2.subset z);have Ui:∀y∈A,y∈B:=λy hy=>by
      rcases AO.mp (IW y (AR _ hy))with e|e
      .exact absurd (e ▸ hy) hA
      .exact e
     refine ext A B (Ke A a1).2 (Ke B b1).2 Ui λy hy=>?_
     rcases hl (x::A) (Ke A a1).1 B (NU B b3).1 with c|c|c
     .exact absurd (c x AK) hB
     .rcases AO.mp (c y hy)with e|e
      .exact absurd (e ▸ hy) hB
      .exact e
     .cases A with
      | nil=>exact absurd rfl a2
      | cons z u=>exact absurd (Ui z AK) (c z (by simp))
    rcases hl (x::A) (Ke A a1).1 (x::B) (Ke B b1).1 with c|c|c
    .exact sub a1 a2.1 a2.2 b1 b2.2 c
    .exact (sub b1 b2.1 b2.2 a1 a2.2 c).symm
    .exact absurd AK (c x AK)
   have:G2.length=(F2.filter λA=>!decide (A=[]) && !decide (A∈F1)).length:=rfl;omega
  have NT:∀A∈G2,x::A∈F/\A.Sublist t/\A≠[]/\A∉F1:=λA hA=>by
   obtain⟨h1,h2⟩:=AS.mp hA;have h2:A≠[]/\A∉F1:=by simpa using h2
   exact⟨(Ke A h1).1,(Ke A h1).2,h2.1,h2.2⟩
  have ih:=xh t Lw (F1++G2) (BW.mpr ⟨n1,CF BJ n2,λa ha b hb e=>(NT b hb).2.2.2 (e ▸ ha)⟩) (λA hA=>by
   rcases A1.mp hA with h|h
   .exact (NU A h).2
   .exact (NT A h).2.1) (λhA=>by
   rcases A1.mp hA with h|h
   .exact h0 (NU _ h).1
   .exact (NT _ h).2.2.1 rfl) (by
   have up:∀A∈F1++G2,∃A'∈F,(∀y∈t,(y∈A' ↔ y∈A))/\∀y∈A,y∈t:=λA hA=>by
    rcases A1.mp hA with h|h
    .exact⟨A,(NU A h).1,λy _=>Iff.rfl,λy hy=>(NU A h).2.subset hy⟩
    .refine⟨x::A,(NT A h).1,λy hy=>?_,λy hy=>(NT A h).2.1.subset hy⟩
     have:y≠x:=λe=>hx (e ▸ hy);simp[this]
   intro A hA B hB;obtain⟨A',a1,a2,a3⟩:=up A hA;obtain⟨B',b1,b2,b3⟩:=up B hB
   rcases hl A' a1 B' b1 with c|c|c
   .exact .inl λy hy=>(b2 y (a3 y hy)).mp (c y ((a2 y (a3 y hy)).mpr hy))
   .exact .inr (.inl λy hy=>(a2 y (b3 y hy)).mp (c y ((b2 y (b3 y hy)).mpr hy)))
   .exact .inr (.inr λy hy hb=>c y ((a2 y (a3 y hy)).mpr hy) ((b2 y (a3 y hy)).mpr hb)))
  rw[Bu]at ih;simp only[Bd];omega
end
end CP
namespace K52
open PySem L2
def beyond (ps:List Str) (rs:List T) (x:Str):List Str:=ps.filter λp=>!decide (p∈FL x (first rs x))
def bA (rs:List T) (cs:List Int) (x:Str):Int:=cs.getD ((nms rs).idxOf x) 0
theorem jk {rs:List T}{cs:List Int}{i:Nat}{r:T}{z:Int} (nd:(nms rs).Nodup) (hr:rs[i]?=some r) (hz:cs[i]?=some z):bA rs cs r.2.1=z:=by
 obtain⟨hi,e⟩:=A3.mp hr;have IR:i<(nms rs).length:=by simpa using hi
 have e2:(nms rs)[i]=r.2.1:=by rw[BS,e]
 have e3:(nms rs).idxOf r.2.1=i:=by rw[<- e2];exact nd.idxOf_getElem i IR
 unfold bA;rw[e3,Bf,hz];rfl
theorem i9 {a b:List Int} (h:a.Perm b):a.sum=b.sum:=by
 induction h with
 | nil=>rfl
 | cons x _ ih=>rw[CB,CB,ih]
 | swap x y l=>simp only[CB];omega
 | trans _ _ h1 h2=>exact h1.trans h2
structure cK (ps:List Str) (root:Str) (rs:List T) (cost:Str->Int) (tr:List T) (Qs:List (List Str×Int)):Prop where
 tree:Tree root ps (Rw tr)
 sub:∀t∈tr,t∈rs
 len:tr.length+1=ps.length
 le:∀r∈rs,r.2.2.2≠root->CP.dA Qs r.2<=cost r.2.1
 eq:∀t∈tr,CP.dA Qs t.2=cost t.2.1
 once:∀x∈Qs,CP.ents x.1 (Rw tr)=1
 sum:(tr.map λt=>cost t.2.1).sum=(Qs.map (·.2)).sum
 sl:∀x∈Qs,x.1.Sublist ps
 ne:∀x∈Qs,x.1≠[]
 nr:∀x∈Qs,root∉x.1
 lam:CP.Lam (Qs.map (·.1))
 pos:∀x∈Qs,0<x.2\/(x.2<0/\x.1.length=1)
 so:(Qs.map (·.1)).Pairwise (λa b=>CP.bv a b=true)
 few:Qs.length<=16
 det:∃s:PL,Fin ps root (bC rs root) cost s/\Hg (bE (bC rs root) s.2) root (s.1.map (·.1)) tr/\Qs.Perm (s.1.filter λx=>decide (x.2≠0))
theorem tL {A B:List (List Str×Int)} (h:A.Perm B) (r:Row):CP.dA A r=CP.dA B r:=by
 unfold CP.dA;exact i9 ((h.filter _).map _)
theorem vt {ps:List Str}{root:Str}{rs:List T}{cost left:Str->Int}{Ps:List (List Str×Int)}{tr:List T}{Qs:List (List Str×Int)} (W:Kg ps root (bC rs root)) (R:CP.Rf ps root (Rw (bC rs root)) cost Ps left) (re:∀x∈ps,CP.Pth (CP.met (Rw (bC rs root)) left) root x)
  (Fi:Fin ps root (bC rs root) cost (Ps,left)) (G:Gw (bE (bC rs root) left) root (Ps.map (·.1)) tr) (hl:ps.length<=(FL root tr).length) (D:Hg (bE (bC rs root) left) root (Ps.map (·.1)) tr) (hp:Qs.Perm (Ps.filter λx=>decide (x.2≠0)))
  (so:(Qs.map (·.1)).Pairwise (λa b=>CP.bv a b=true)) (h8:ps.length<=8):cK ps root rs cost tr Qs:=by
 have A:=jD W R re;have mem:∀x∈Qs,x∈Ps/\x.2≠0:=λx hx=>by
  have:=AS.mp (hp.mem_iff.mp hx);exact⟨this.1,of_decide_eq_true this.2⟩
 have pd:∀r:Row,CP.dA Qs r=CP.dA Ps r:=λr=>(tL hp r).trans (mH r Ps);have MW:∀r∈rs,r.2.2.2≠root->r∈bC rs root:=λr hr h=>AS.mpr ⟨hr,decide_eq_true h⟩;refine⟨G.tree A hl,λt ht=>(AS.mp (AS.mp (G.sub t ht)).1).1,?_,λr hr hn=>?_,λt ht=>?_,λx hx=>?_,?_,λx hx=>R.sub x (mem x hx).1,λx hx=>R.ne x (mem x hx).1,λx hx=>R.nr x (mem x hx).1,?_,λx hx=>?_,so,?_,(Ps,left),Fi,D,hp⟩
 .have h1:(FL root tr).length=tr.length+1:=by simp[FL]
  have h2:=CP.jI G.nd (b:=ps) λx hx=>by
   rcases AO.mp hx with rfl|h
   .exact A.ro
   .obtain⟨t,ht,rfl⟩:=AL.mp h
    exact A.en t (G.sub t ht)
  omega
 .have h1:=R.nn r.2 (AM (MW r hr hn))
  have h2:=R.eq r.2 (AM (MW r hr hn));rw[pd];have h3:0<=left r.2.1:=h1;have h4:left r.2.1=cost r.2.1-CP.dA Ps r.2:=h2;omega
 .rw [pd];exact mi R (G.sub t ht)
 .have ho:=G.once A hl λL hL=>by
   obtain⟨x,hx,rfl⟩:=AL.mp hL;exact⟨R.ne x hx,λy hy=>(R.sub x hx).subset hy⟩
  exact ho x.1 (AM (mem x hx).1)
 .rw [sO W R re G hl,<- nH Ps]
  exact(i9 (hp.map _)).symm
 .intro A' hA B' hB
  obtain⟨x,hx,rfl⟩:=AL.mp hA;obtain⟨y,hy,rfl⟩:=AL.mp hB;exact R.lam x.1 (AM (mem x hx).1) y.1 (AM (mem y hy).1)
 .obtain⟨h1,h2⟩:=mem x hx
  by_cases c:1<x.1.length
  .exact .inl (R.pos x h1 c)
  .have h3:x.1.length≠0:=λz=>R.ne x h1 (Ct.mp z)
   rcases Int.lt_trichotomy x.2 0 with h|h|h
   .exact .inr ⟨h,by omega⟩
   .exact absurd h h2
   .exact .inl h
 .have h1:=CP.xh ps (bZ W.so) (Ps.map (·.1)) R.nd (λA hA=>by
   obtain⟨x,hx,rfl⟩:=AL.mp hA
   exact R.sub x hx) (λz=>by
   obtain⟨x,hx,e⟩:=AL.mp z
   exact R.ne x hx e) R.lam
  have h2:=hp.length_eq;have h3:=Bg (λx:List Str×Int=>decide (x.2≠0)) Ps;rw[AG]at h1;omega
theorem cK.same {ps:List Str}{root:Str}{rs:List T}{cost:Str->Int}{tr Km:List T}{Qs OO:List (List Str×Int)} (h:cK ps root rs cost tr Qs) (h':cK ps root rs cost Km OO):tr=Km/\Qs=OO:=by
 obtain⟨s,h1,h2,h3⟩:=h.det;obtain⟨s',OG,Kc,Mh⟩:=h'.det;have e:=h1.eq OG;subst e;refine⟨h2.eq (by have:=h.len;have:=h'.len;omega) Kc,?_⟩;have hp:Qs.Perm OO:=h3.trans Mh.symm;have Tc:∀a b:List Str×Int,CP.bv a.1 b.1=true->CP.bv b.1 a.1=true->False:=λa b x y=>by
  have:=CP.oK _ _ _ x y;rw[CP.jz]at this;cases this
 exact hp.eq_of_pairwise (le:=λa b=>CP.bv a.1 b.1=true) (λa b _ _ x y=>(Tc a b x y).elim) (B6.mp h.so) (B6.mp h'.so)
end K52
namespace L2
open PySem
section
variable {X:Cx}{scope:Scope}{N:List Str}{ix:List (Option Nat)}
variable {tg iter kx vx:Expr}{ifs:List Expr}{pos:Pos}{g:TG}{tt:TT}{tk tv:TE}
end
theorem vE {g:TG}{tt:TT}{te:TE}{σ':St}{fin:List V->Hp->Prop}{H1:Hp}{a:Addr}{o:Obj}{kvs:List (List Key×V)} (hn:kvs.length<sizeLine) (Pv:Nat->List V->St->Hp->Prop) (h0:Pv 0 [] σ' H1) (hl:∀i ys σ H,i<=kvs.length->Pv i ys σ H->ys.length<=i/\H a=some (.frz o (.dT kvs)))
  (hs:∀i p b ys σ H,kvs[i]?=some p->H b=some (.tup (p.1.map kV))->Pv i ys σ H->g (.ref b) σ H λσ2 H2=>tt σ2 H2 λb H3=>if b=true then te σ2 H3 (λv H4=>Pv (i+1) (ys++[v]) σ2 H4)else Pv (i+1) ys σ2 H3) (hd:∀ys σ H,Pv kvs.length ys σ H->fin ys H) :
  HS (RM a o) g tt te σ' fin H1:=by
 refine⟨λi m ys σ H=>m=kvs.length-i/\i<=kvs.length/\Pv i ys σ H,⟨kvs.length,by simp,Bi _,h0⟩,?_⟩;rintro i m ys σ H ⟨rfl,hi,p⟩;obtain⟨q0,q1⟩:=hl i ys σ H hi p
 by_cases h:i<kvs.length
 .refine .inr ⟨⟨kvs,q1,h⟩,by omega,λGx σ2 H2=>Pv (i+1) Gx σ2 H2,λGx σ2 H2 q=>⟨kvs.length-(i+1),by omega,rfl,h,q⟩,λv H' y=>?_⟩
  obtain⟨rfl,y⟩:=y;obtain⟨p',b,e1,rfl,e2⟩:=y kvs q1;exact hs i p' b ys σ H' e1 e2 p
 .have e:i=kvs.length:=by omega
  subst e;exact .inl ⟨⟨kvs,q1,AY _⟩,by omega,hd ys σ H p⟩
end L2
namespace K52
open PySem L2
variable {P:Program}{w:World}{K:zz7}{mg:Str->Option zz9}{base:Heap}{f:Addr}{fd:FuncData}
def nV (C:Addr):Sp:=λvs H Q E=>∃(v c pa ra:Addr) (ps:List Str) (rs:List T) (cs:List Int) (root:Str),vs=[.ref v,.str root,.ref c]/\bx H v pa ra ps rs/\Good ps (rs.map (·.2))/\ps.length<=8/\root∈ps/\H c=some (.tup (cs.map V.int))/\cs.length=rs.length /\
 ∀H',aj H H'->eB rs root (first rs root) ->
  (beyond ps rs root=[]->∀(tr:List T) (ss:List Str) (prs:List CP.Pr) (t u1 u2:Addr),cK ps root rs (bA rs cs) tr (prs.map λx=>x.2.2)->ss.Perm (nms tr)->PyProof.Rows.sortedS ss=true->H' t=some (.tup [.ref u1,.ref u2])->H' u1=some (.tup (ss.map V.str))->H' u2=some (.tup (CP.dN prs))->CP.ka H' prs->Q (.ref t) H') /\
  (beyond ps rs root≠[]->∀(dx u:Addr),H' dx=some (.xd [(Str.ofString "lot",.ref u)])->H' u=some (.tup ((beyond ps rs root).map V.str))->E (.ref C) (some dx) H')
abbrev Ys:List Str:=["web","root","costs","places","beyond","rows","left","prices","tree","told"]
theorem eT:aM Ys ["web","root","costs"] (aE (top 31)):=⟨rfl,rfl,rfl,by decide +kernel,rfl,by decide +kernel,by decide +kernel⟩
theorem tK {H H':Hp}{D:Addr}{o:HO} (s:aj H H') (hD:H D=none):aj H (upd H' D o):=λb ob e=>by rw[ag (aq e hD)];exact s b ob e
theorem nM:∀{Ps:List (List Str×Int)},(Ps.map (·.1)).Nodup->∀{x:List Str×Int},x∈Ps->aR (Ge Ps) (GE x.1)=some (V.int x.2)
 | y::t,nd,x,hx=>by
  obtain⟨h1,h2⟩:=Bj.mp (show(y.1::t.map (·.1)).Nodup from nd);show aR ((GE y.1,V.int y.2)::Ge t) (GE x.1)=_
  by_cases e:y.1=x.1
  .rw [cP (p:=(GE y.1,V.int y.2)) (by rw[e])]
   rcases AO.mp hx with rfl|q
   .rfl
   .exact absurd (AL.mpr ⟨x,q,e.symm⟩) h1
  .rw [cm (p:=(GE y.1,V.int y.2)) (λz=>e (nB z))]
   rcases AO.mp hx with rfl|q
   .exact absurd rfl e
   .exact nM h2 q
theorem UW {A:Around}{k:Nat} (hr:aO k A):A.units+8<cLine:=by have:=hr.un;omega
theorem ud {all:List T}{cost:Str->Int}{r:T} (h:r.2.1∉nms all):putK (Gr all cost) (Sum.inr r.2.1) (V.int (cost r.2.1))=Gr (all++[r]) cost:=by
 have hn:aR (Gr all cost) (Sum.inr r.2.1)=none:=by
  induction all with
  | nil=>rfl
  | cons q t ih =>
   show aR ((Sum.inr q.2.1,V.int (cost q.2.1))::Gr t cost) (Sum.inr r.2.1)=none;rw[cm (p:=(Sum.inr q.2.1,V.int (cost q.2.1))) (λz=>h (by rw[nms,A8,<- DK z];exact AK))];exact ih λz=>h (AR _ z)
 rw[gX _ hn];unfold Gr;rw[AX];rfl
theorem vJ {f C fI:Addr}{fd Ul:FuncData} (F:FS K "cheapest" "cheapest" (top 31) f fd) (B:Bl mg) (hx:mg "TooFew"=some (.ref C)) (hC:dj eD base C fI) (FI:aF P w K mg base FT 1 fI Ul ["self","lot"] (oQ C)) (bI:Binds K Ul ["self","lot"] [])
  (F1:Fn P w K mg base 4 "need_web" ["thing"] (iy .non)) (F2:Fn P w K mg base 2 "need_place" ["web","thing"] kF) (YC:Fn P w K mg base 2 "need_costs" ["web","thing"] kC) (F3:Fn P w K mg base 2 "come_to" ["rows","start"] jL) (F4:Fn P w K mg base 1 "places_beyond" ["web","found"] mw)
  (F5:Fn P w K mg base 4 "raised_prices" ["places","root","rows","left"] mJ) (F6:Fn P w K mg base 3 "tree_along" ["met","root","places","lots"] mX) (F7:Fn P w K mg base 1 "met_rows" ["rows","left"] jQ) :
  aF P w K mg base (Kj P w) 5 f fd ["web","root","costs"] (nV C):=by
 refine F.okX eT (λvs H Q E h=>?_) (λ_ _ _ _ H vs Q E hr h=>?_)
 .obtain⟨v,c,pa,ra,ps,rs,cs,root,rfl,_⟩:=h
  rfl
 .obtain⟨v,c,pa,ra,ps,rs,cs,root,rfl,W,G,h8,Kx,hc,Gk,k⟩:=h
  have GC:aO 1 _:=hr.mono (by decide);have Ky:aO 2 _:=hr.mono (by decide);have Qn:aO 3 _:=hr.mono (by decide)
  refine⟨_,am (b7 (aB F1 hr (aa (pv 0) ae))) (am (b7 (aB F2 Ky (aa (pv 0) (aa (pv 1) ae)))) (am (b7 (aB YC Ky (aa (pv 0) (aa (pv 2) ae))))
   (am (aN (i:=3) eT.nd rfl (Or.inl rfl) (ax aC (pv 0) ai (λ_ _=>rfl)))
   (am (aN (i:=4) eT.nd rfl (Or.inl rfl) (aB F4 GC (aa (pv 0) (aa (aB F3 Ky (aa (ax aC (pv 0) ai (λ_ _=>rfl)) (aa (pv 1) ae))) ae))))
   (am (aV (aI fR (au aX rfl B.len Bb (aa (pv 4) ae)) ai (aH _)) (aw (sW (W:=E) hx hC FI Ky bI hr.hd (aa (pv 4) ae) (λpins σ H s ea oe vs a0 I h1 h2 h3 h4 h5 h6 hW=>xG I h1 h2 h3 h4 h5 h6 hW) rfl)) aU)
   (am (dX (i:=5) (N:=["row","root"]) (ix:=[none,some 1]) eT.nd rfl (Or.inl rfl) ⟨rfl,rfl,rfl,by decide⟩ rfl (bj (ax aC (pv 0) ai (λ_ _=>rfl))) (λ_ _ _ _=>aL 0 (by decide) rfl rfl) (λ_ _ _ _=>cQ (aI bT (ax (b6 K) (pv 0) ai (λ_ _=>rfl)) (pv 1) (aH _))) (λ_ _ _ _=>pv 0))
   (am (um (i:=6) (N:=["row","cost"]) (ix:=[none,none]) eT.nd rfl (Or.inl rfl) ⟨rfl,rfl,rfl,by decide⟩ rfl (jO rfl B.zip (aa (ax aC (pv 0) ai (λ_ _=>rfl)) (aa (pv 2) ae)))
    (λ_ _ _ _=>f9 K rfl (n:=2) (ba (aL 0 (by decide) rfl rfl) (ba (aL 1 (by decide) rfl rfl) cH))) (λ_ _ _ _=>bq) (λ_ _ _ _=>ax (b6 K) (pv 0) ai (λ_ _=>rfl)) (λ_ _ _ _=>pv 1))
   (am (aN (i:=7) eT.nd rfl (Or.inr rfl) (aB F5 hr (aa (pv 3) (aa (pv 1) (aa (pv 5) (aa (pv 6) ae))))))
   (am (aN (i:=8) eT.nd rfl (Or.inl rfl) (aB F6 Qn (aa (aB F7 GC (aa (pv 5) (aa (pv 6) ae))) (aa (pv 1) (aa (pv 3) (aa (bQ (rS rfl) rfl B.list ir (aa (pv 7) ae)) ae))))))
   (am (aN (i:=9) eT.nd rfl (Or.inl rfl) (au (CP.An (UW hr)) rfl B.sorted dE (aa (PE.nox (bo (N:=["lot","prices"]) (ix:=[none,some 7]) ⟨rfl,rfl,rfl,by decide⟩ rfl (wZ (pv 7)) (λ_ _ _ _=>aL 0 (by decide) rfl rfl)
    (λ_ _ _ _=>cQ (aI bT (eJ (cA hr) (pv 1) (pv 0) (λ_ _=>rfl)) ai (aH _))) (λ_ _ _ _=>cJ (aa (pv 0) (aa (eJ (cA hr) (pv 1) (pv 0) (λ_ _=>rfl)) ae))))) ae)))
   (aw (aJ (cJ (aa (bQ dS rfl B.tuple bL (aa (au gF rfl B.sorted dE (aa (PE.nox (bo (N:=["row"]) (ix:=[none]) ⟨rfl,rfl,rfl,by decide⟩ rfl (cn (pv 8)) (λ_ _ _ _=>aL 0 (by decide) rfl rfl) (λ_ _ _ _=>bq)
    (λ_ _ _ _=>ax (b6 K) (pv 0) ai (λ_ _=>rfl)))) ae)) ae)) (aa (bQ dS rfl B.tuple bL (aa (pv 9) ae)) ae))))))))))))))),?_⟩
  have GF:∀r∈rs,r.2.2.2∈ps:=λr hr=>(G.rn r.2 (AM hr)).2.2.1;have IF:rs.length<=60:=by have:=G.rz;simpa using this
  have Gf:(nms rs).Nodup:=by
   have q:=bZ G.rso
   rwa [A6]at q
  refine⟨_,rfl,v,pa,ra,ps,rs,rfl,W,G,λH1 s1=>?_⟩;have W1:=W.same s1;refine⟨_,rfl,_,rfl,v,pa,ra,ps,rs,root,rfl,W1,Kx,?_⟩;refine⟨_,rfl,_,rfl,v,c,pa,ra,ps,rs,cs,rfl,W1,by omega,s1 _ _ hc,Gk,λH1a Ss=>?_⟩;have Sz:=s1.trans Ss;have W2:=W.same Sz;refine⟨_,rfl,ay (j:=0) (.inr (FE.of W2.tp)) rfl rfl ?_⟩;refine⟨_,rfl,_,rfl,ay (j:=1) (.inr (FE.of W2.tp)) rfl rfl ⟨_,rfl,ra,root,rs,ps,rfl,.inr W2.rl,⟨W2.rows⟩,Kx,GF,G.pz,IF,λq H2 s2 Xb q2 Fu=>?_⟩⟩;have W3:=W2.same s2;refine⟨v,pa,ra,q,ps,rs,_,rfl,W3,G.pz,q2,λu H3 s3 WR u3=>?_⟩;have FJ:=gQ Fu Kx GF;have K0:=Sz.trans (s2.trans s3);have W4:=W.same K0;have eb:(ps.filter λp=>!decide (p∈FL root (first rs root)))=beyond ps rs root:=rfl;rw[eb]at u3;refine⟨_,rfl,u,_,rfl,.inr (FE.of u3),_,_,rfl,rfl,_,rfl,aZ (λcc=>?_) (λcc=>?_)⟩
  .have FQ:beyond ps rs root≠[]:=λz=>by
    rw[z]at cc;simp at cc
   refine⟨_,rfl,by show 1<=sizeLine;decide,λe he=>⟨e,.ref u,rfl,ak,λdx h1 h2=>⟨rfl,some dx,?_,?_⟩⟩⟩
   .rw [ag h2.symm,ak]
   .have NG:H3 dx=none:=by rw[ag h2]at h1;exact h1
    have nu:u≠e:=aq u3 he;have VQ:u≠dx:=aq u3 NG;refine(k _ (λb o eb=>?_) Fu).2 FQ dx u ?_ ?_
    .have b3:=K0 b o eb
     have n1:b≠e:=aq b3 he;have n2:b≠dx:=aq b3 NG;rw[dJ n1,ag n2,ag n1,ag n1];exact b3
    .rw [dJ h2,ak]
    .rw [dJ nu,ag VQ,ag nu,ag nu]
     exact u3
  .have IT:beyond ps rs root=[]:=by
    cases hb:beyond ps rs root with
    | nil=>rfl
    | cons y r=>rw[hb]at cc;simp at cc
   clear cc u3 WR q2 Xb eb;have kq:=λ(H':Hp) (s':aj H H')=>(k H' s' Fu).1 IT;clear k;have Xa:∀x∈ps,CP.Pth (Rw rs) root x:=λx hx=>by
    have hm:x∈FL root (first rs root):=by
     cases Ci (x∈FL root (first rs root))with
     | inl h=>exact h
     | inr h =>
      have:x∈beyond ps rs root:=AS.mpr ⟨hx,by simp[h]⟩;rw[IT]at this;cases this
    obtain⟨n,hd⟩:=Fu.mem x hm;exact vD hd.1
   have hW:Kg ps root (bC rs root):=wg G.so Kx Gf (λr hr=>let q:=G.rn r.2 (AM hr);⟨q.2.1,q.2.2.1⟩) (λr hr=>(G.rn r.2 (AM hr)).2.2.2) Xa;have TB:(bC rs root).length<=60:=Be (Bg _ _) IF
   refine⟨_,rfl,ay (j:=1) (.inr (FE.of W4.tp)) rfl rfl ⟨ra,rfl,⟨_,FE.of W4.rl⟩,gO (xs:=ao rs) (fits (by simp;omega)) (λi ys σ H5=>ys=ao (bC (rs.take i) root)/\H5=H3/\∃x,σ=[x,some (.str root)]) ⟨rfl,rfl,_,rfl⟩
    (λi ys σ H5 hi p=>⟨by rw[p.1];simp only[AG];exact Be (Bg _ _) (by simp at hi ⊢;omega),by rw[p.2.1];exact FE.of W4.rl⟩) ?_ ?_⟩⟩
   .rintro i y ys σ H5 hy ⟨rfl,rfl,x,rfl⟩
    obtain⟨r,FW,rfl⟩:=bY hy;have tf:bC (rs.take (i+1)) root=bC (rs.take i) root++(if decide (r.2.2.2≠root)=true then [r]else []):=cF (λr:T=>decide (r.2.2.2≠root)) rs i r FW;refine⟨_,rfl,ay (j:=2) (.inr (FE.of (W4.rows r (AW FW)))) rfl rfl ⟨_,rfl,rfl,_,rfl,?_⟩⟩;have e1:(!decide (V.str r.2.2.2=V.str root))=decide (r.2.2.2≠root):=by
     by_cases c:r.2.2.2=root
     .rw [c];simp
     .simp [c]
    rw[e1];refine aZ (λc=>⟨_,rfl,?_,rfl,_,rfl⟩) (λc=>⟨?_,rfl,_,rfl⟩)
    .rw [tf,if_pos c,ao,ao,AX];rfl
    .rw [tf,if_neg c,BA]
   rintro ys σ H5 ⟨rfl,rfl,x,rfl⟩ rl Ip;rw[take_all rs (by simp)];have s6:=av (o:=.lst (ao (bC rs root))) K0 Ip;have l6:upd H5 rl (.lst (ao (bC rs root))) rl=some (.lst (ao (bC rs root))):=ak;generalize upd H5 rl (.lst (ao (bC rs root)))=H6 at s6 l6 ⊢;clear W4 K0 Ip s3 s2 W3 W2 Ss s1 W1;have W6:=W.same s6;have c6:=s6 _ _ hc;refine⟨_,rfl,ay (j:=1) (.inr (FE.of W6.tp)) rfl rfl ⟨_,rfl,ra,_,_,_,rfl,FE.of W6.rl,FE.of c6,λD hD=>?_⟩⟩;have Qm:(ao rs).length=rs.length:=by simp
   refine yh (K:=K) (a:=ra) (b:=c) (xs:=ao rs) (ys:=cs.map V.int) (by simp[Gk]) (λi σ H7=>aj H6 H7/\(∃x y,σ=[x,y])/\H7 D=some (.dK (Gr (rs.take i) (bA rs cs))))
    ⟨av (aj.refl _) hD,⟨_,_,rfl⟩,ak⟩ (λi σ H7 _ q=>⟨FE.of (q.1 _ _ W6.rl),FE.of (q.1 _ _ c6)⟩) ?_ ?_
   .rintro i x y σ H7 T hx hy ⟨s7,⟨g1,g2,rfl⟩,d7⟩ hT
    obtain⟨r,FO,rfl⟩:=bY hx;obtain⟨z,WF,rfl⟩:=ie hy;have hi:i<rs.length:=(A3.mp FO).1;have u7:=av (o:=.tup [.ref r.1,.int z]) (aj.refl H7) hT;have GK:z=bA rs cs r.2.1:=(jk Gf FO WF).symm;have HE:r.2.1∉nms (rs.take i):=λz=>by
     obtain⟨j,hj,e⟩:=Ca z;have Xs:j<i:=by simp at hj;omega
     have:=A5.mp Gf j i (by simp;omega) (by simp;omega) Xs;apply this;rw[BS,BS];rw[BS,D5]at e;obtain⟨_,e2⟩:=A3.mp FO;rw[e,e2]
    refine⟨T,_,rfl,FE.of ak,rfl,_,_,rfl,_,_,rfl,rfl,be ⟨_,rfl,ay (j:=0) (.inr (FE.of (u7 _ _ (s7 _ _ (W6.rows r (AW FO)))))) rfl rfl ⟨_,rfl,_,⟨_,.inr r.2.1,u7 _ _ d7,rfl,by rw[Bw];simp[Gr];omega,rfl⟩,tK (s7.trans u7) hD,⟨_,_,rfl⟩,?_⟩⟩⟩;rw[ak,GK,ud HE,Br,FO];rfl
   rintro σ0 H7 ⟨s7,_,d7⟩;rw[Qm,B3]at d7;have Kr:=s6.trans s7;have l7:=s7 _ _ l6;have X4:=s6.free hD;clear c6 W6;have W7:=W.same Kr;refine⟨_,rfl,_,rfl,_,rfl,_,rfl,pa,rl,D,ps,root,bC rs root,rs,bA rs cs,rfl,W7.pl,l7,⟨λr hr=>W7.rows r (AS.mp hr).1⟩,λr hr=>AM (AS.mp hr).1,hW,h8,TB,by omega,d7,λpd H8 Ps left K8 IJ p8 d8 RF Gm Fi=>?_⟩;have Oe:aj H H8:=λb o e=>K8 b o (Kr b o e) λz=>by
    rw[AQ.mp z,X4]at e;cases e
   have l8:=K8 _ _ l7 λz=>by rw[AQ.mp z,d7]at l7;cases l7
   have W8:=W.same Oe;have Qv:=Kr.free IJ;have hM:(bE (bC rs root) left).length<=60:=Be (Bg _ _) TB;clear W7 Kr l7 d7 s7 l6 s6 K8;refine⟨_,rfl,_,rfl,rl,D,bC rs root,rs,left,rfl,l8,λr hr=>W8.rows r (AS.mp hr).1,λr hr=>AM (AS.mp hr).1,by omega,d8,λml H9 s9 JJ m9=>?_⟩;have JX:=Oe.trans s9;have p9:=s9 _ _ p8;have W9:=W.same JX;refine⟨_,rfl,_,rfl,_,rfl,pd,_,rfl,p9,λts la Jb Hr Iu=>?_⟩;have HV:=av (o:=.lst (ts.map V.ref)) (aj.refl H9) Iu;have KN:upd H9 la (.lst (ts.map V.ref)) la=some (.lst (ts.map V.ref)):=ak;generalize upd H9 la (.lst (ts.map V.ref))=Gy at HV KN ⊢;have QQ:(Ge Ps).length=Ps.length:=by simp[Ge]
   have Ga:Ps.length<=16:=by
    have h1:=CP.xh ps (bZ G.so) (Ps.map (·.1)) RF.nd (λA hA=>by
     obtain⟨x,hx,rfl⟩:=AL.mp hA
     exact RF.sub x hx) (λz=>by
     obtain⟨x,hx,e⟩:=AL.mp z
     exact RF.ne x hx e) RF.lam
    rw[AG]at h1;omega
   have zl:(ts.zip (Ps.map (·.1))).map (·.2)=Ps.map (·.1):=by
    rw[List.map_snd_zip];rw[AG];omega
   have zf:Gi (ts.zip (Ps.map (·.1)))=ts.map V.ref:=by
    unfold Gi;rw[show(λx:Ih=>V.ref x.1)=V.ref ∘ Prod.fst from rfl,<- A6,List.map_fst_zip];rw[AG];omega
   have zm:∀x∈ts.zip (Ps.map (·.1)),Gy x.1=some (.tup (x.2.map V.str))/\x.2.length<=8:=λx hx=>by
    obtain⟨i,hi,e⟩:=Ca hx;have QS:i<ts.length:=by simp at hi;omega
    have IR:i<Ps.length:=by simp at hi;omega
    have e1:x=(ts[i],Ps[i].1):=by rw[<- e];simp
    have q:=Hr i (GE Ps[i].1,V.int Ps[i].2) ts[i] (by simp[Ge,AZ,AJ IR]) (AJ QS);rw[ij]at q;rw[e1];exact⟨HV _ _ q,Be (RF.sub _ (Bk IR)).length_le h8⟩
   have Sx:=JX.trans HV;have RH:=W.same Sx;refine⟨ml,pa,la,bE (bC rs root) left,ps,root,ts.zip (Ps.map (·.1)),rfl,HV _ _ m9,⟨λr hr=>RH.rows r (AS.mp (AS.mp hr).1).1⟩,RH.pl,by rw[KN,zf],λx hx=>(zm x hx).1,by simp;omega,λx hx=>(zm x hx).2,hM,h8,by rw[zl];exact jD hW RF Gm,λtl IY tr Ph WU OZ Gt Ia Dt=>?_⟩;rw[zl]at Gt Dt;clear zm zl zf;have Vj:=Sx.trans Ph;have SH:=Ph _ _ (HV _ _ p9);clear RH KN W9 m9 Hr Jb Iu W8 l8 d8;refine⟨_,rfl,pd,_,rfl,SH,λo=>?_⟩;have RS:upd IY pd (.frz o (.dT (Ge Ps))) pd=some (.frz o (.dT (Ge Ps))):=ak;have Pg:aj H (upd IY pd (.frz o (.dT (Ge Ps)))):=λb ob e=>by rw[ag (aq e Qv)];exact Vj b ob e
   have nt:tl≠pd:=λz=>by rw[z,SH]at OZ;cases OZ
   have Sg:upd IY pd (.frz o (.dT (Ge Ps))) tl=some (.lst (ao tr)):=by rw[ag nt];exact OZ
   generalize upd IY pd (.frz o (.dT (Ge Ps)))=YB at RS Pg Sg ⊢;refine vE (a:=pd) (o:=o) (kvs:=Ge Ps) (fits (by rw[QQ];omega)) (λi ys σ H4=>(∃prs:List CP.Pr,ys=CP.dN prs/\prs.map (λx=>x.2.2)=(Ps.take i).filter (λx=>decide (x.2≠0))/\CP.ka H4 prs)/\aj YB H4/\∃v,σ=[v,some (.ref pd)])
    ⟨⟨[],rfl,rfl,λx hx=>nomatch hx⟩,aj.refl _,_,rfl⟩ (λi ys σ H4 hi q=>by
     obtain⟨⟨prs,rfl,hl,_⟩,s4,_⟩:=q;refine⟨?_,s4 _ _ RS⟩;have h1:=congrArg List.length hl;rw[AG]at h1;have h2:=Bg (λx:List Str×Int=>decide (x.2≠0)) (Ps.take i);rw[B0]at h2
     rw[AG];omega) ?_ ?_
   .rintro i kv b ys σ H4 Md hb ⟨⟨prs,rfl,hl,GU⟩,s4,g,rfl⟩
    have hx:∃x,Ps[i]?=some x/\kv=(GE x.1,V.int x.2):=by
     unfold Ge at Md;rw[AZ]at Md;cases e:Ps[i]? with
     | none=>rw[e]at Md;cases Md
     | some x=>rw[e]at Md;exact⟨x,rfl,(Bx Md).symm⟩
    obtain⟨x,Ti,rfl⟩:=hx;have JL:H4 b=some (.tup (x.1.map V.str)):=by rw[<- ij];exact hb
    have hv:aR (Ge Ps) (GE x.1)=some (V.int x.2):=nM RF.nd (AW Ti);have hg:∀{H5:Hp},aj H4 H5->bw H5 pd (.ref b) (V.int x.2):=λ{H5} s5=>.inr ⟨Ge Ps,GE x.1,b,.inr ⟨o,s5 _ _ (s4 _ _ RS)⟩,rfl,by rw[ij];exact s5 _ _ JL,hv.symm⟩;have tf:=cF (λx:List Str×Int=>decide (x.2≠0)) Ps i x Ti;refine⟨_,rfl,_,rfl,pd,.int x.2,rfl,hg (aj.refl _),rfl,_,rfl,?_⟩;have e1:(!decide (V.int x.2=V.int 0))=decide (x.2≠0):=by
     by_cases c:x.2=0
     .rw [c];simp
     .simp [c]
    rw[e1];refine aZ (λc=>?_) (λc=>?_)
    .refine⟨_,rfl,_,rfl,_,rfl,pd,.int x.2,rfl,hg (aj.refl _),by show 2<=sizeLine;decide,λT hT=>?_⟩
     have u4:=av (o:=.tup [.ref b,.int x.2]) (aj.refl H4) hT;refine⟨⟨prs++[(T,b,x)],by simp,by rw[AX,hl,tf,if_pos c];rfl,λy hy=>?_⟩,s4.trans u4,_,rfl⟩
     rcases A1.mp hy with q|q
     .exact⟨u4 _ _ (GU y q).1,u4 _ _ (GU y q).2⟩
     .have e:y=(T,b,x):=by simpa using q
      subst e;exact⟨ak,u4 _ _ JL⟩
    .exact⟨⟨prs,rfl,by rw[tf,if_neg c,BA];exact hl,GU⟩,s4,_,rfl⟩
   rintro ys σ OT ⟨⟨prs,rfl,hl,GU⟩,Od,g,rfl⟩ q hq;rw[QQ,B3]at hl;have Sw:=av (o:=.lst (CP.dN prs)) Od hq;have Pl:upd OT q (.lst (CP.dN prs)) q=some (.lst (CP.dN prs)):=ak;have JC:CP.ka (upd OT q (.lst (CP.dN prs))) prs:=λx hx=>let z:=av (o:=.lst (CP.dN prs)) (aj.refl OT) hq;⟨z _ _ (GU x hx).1,z _ _ (GU x hx).2⟩;generalize upd OT q (.lst (CP.dN prs))=OS at Sw Pl JC ⊢;have Qt:prs.length<=16:=by
    have h1:=congrArg List.length hl;rw[AG]at h1;have h2:=Bg (λx:List Str×Int=>decide (x.2≠0)) Ps;omega
   have FY:prs.map (·.2.2.1)=(Ps.filter λx=>decide (x.2≠0)).map (·.1):=by rw[<- hl,A6];rfl
   refine⟨q,prs,rfl,FF.of Pl,JC,by omega,?_,λGg sl Qr GX Hs=>?_⟩
   .rw [FY]
    exact RF.nd.sublist (BJ.map _)
   have Oc:=av (o:=.lst (CP.dN Gg)) Sw Hs;have SE:upd OS sl (.lst (CP.dN Gg)) sl=some (.lst (CP.dN Gg)):=ak;have LP:CP.ka (upd OS sl (.lst (CP.dN Gg))) Gg:=λx hx=>let z:=av (o:=.lst (CP.dN Gg)) (aj.refl OS) Hs;⟨z _ _ (JC x (Qr.mem_iff.mp hx)).1,z _ _ (JC x (Qr.mem_iff.mp hx)).2⟩;generalize upd OS sl (.lst (CP.dN Gg))=UJ at Oc SE LP ⊢;have CH:cK ps root rs (bA rs cs) tr (Gg.map λx=>x.2.2):=vt hW RF Gm Fi Gt Ia Dt (by rw[<- hl];exact Qr.map _) (by rw[A6];exact GX) h8;have J5:tr.length<=8:=by have:=CH.len;omega
   clear hl GU JC Pl;have Sf:=Oc _ _ Sg;have Vs:∀r∈tr,dq UJ r.1 r.2:=λr hr=>Oc _ _ (Pg _ _ (W.rows r (CH.sub r hr)))
   refine⟨_,rfl,tl,rfl,⟨_,FF.of Sf⟩,i4 (xs:=ao tr) (fits (by simp;omega)) (λi ys σ H5=>ys=((tr.take i).map (λt=>V.str t.2.1))/\aj UJ H5/\∃v,σ=[v]) ⟨rfl,aj.refl _,_,rfl⟩
    (λi ys σ H5 _ p=>⟨by rw[p.1];simp;omega,FF.of (p.2.1 _ _ Sf)⟩) ?_ ?_⟩
   .rintro i y ys σ H5 hy ⟨rfl,s5,g,rfl⟩
    obtain⟨r,FW,rfl⟩:=bY hy;exact⟨_,rfl,ay (j:=0) (.inr (FE.of (s5 _ _ (Vs r (AW FW))))) rfl rfl ⟨(fB _ _ _ _ FW).symm,s5,_,rfl⟩⟩
   rintro ys σ UI ⟨rfl,Ob,g,rfl⟩ c LD;rw[take_all tr (by simp)];have em:(tr.map λt=>V.str t.2.1)=(nms tr).map V.str:=by rw[A6];rfl
   rw[em];have Sv:=av (o:=.lst ((nms tr).map V.str)) Ob LD;have Uq:upd UI c (.lst ((nms tr).map V.str)) c=some (.lst ((nms tr).map V.str)):=ak;generalize upd UI c (.lst ((nms tr).map V.str))=UH at Sv Uq ⊢;refine⟨c,_,rfl,FF.of Uq,by simp;omega,λss l hp Qe hl=>?_⟩;have Su:=av (o:=.lst (ss.map V.str)) Sv hl;have S8:upd UH l (.lst (ss.map V.str)) l=some (.lst (ss.map V.str)):=ak;generalize upd UH l (.lst (ss.map V.str))=UG at Su S8 ⊢;refine⟨l,_,rfl,.inl ⟨FF.of S8,λu1 J4=>?_⟩⟩;have Pf:=av (o:=.tup (ss.map V.str)) Su J4;have OW:upd UG u1 (.tup (ss.map V.str)) u1=some (.tup (ss.map V.str)):=ak;generalize upd UG u1 (.tup (ss.map V.str))=RO at Pf OW ⊢;refine⟨_,rfl,sl,_,rfl,.inl ⟨FF.of (Pf _ _ SE),λu2 Jr=>?_⟩⟩;have Oa:=av (o:=.tup (CP.dN Gg)) Pf Jr;have RY:upd RO u2 (.tup (CP.dN Gg)) u2=some (.tup (CP.dN Gg)):=ak;have MJ:upd RO u2 (.tup (CP.dN Gg)) u1=some (.tup (ss.map V.str)):=by rw[ag (aq OW Jr)];exact OW
   generalize upd RO u2 (.tup (CP.dN Gg))=YA at Oa RY MJ ⊢;refine⟨by show 2<=sizeLine;decide,λt ht=>?_⟩;have MQ:=av (o:=.tup [.ref u1,.ref u2]) (aj.refl YA) ht;exact kq _ (Pg.trans (Oc.trans (Oa.trans MQ))) tr ss Gg t u1 u2 CH hp Qe ak (MQ _ _ MJ) (MQ _ _ RY) λx hx=>⟨MQ _ _ (Oa _ _ (LP x hx).1),MQ _ _ (Oa _ _ (LP x hx).2)⟩
theorem yG:aM ["_law_row","_law_lot"] ["_law_row","_law_lot"] (aE (top 45)):=⟨rfl,rfl,rfl,by decide +kernel,rfl,by decide +kernel,by decide +kernel⟩
theorem w5 (F:FS K "_law_into" "_law_into" (top 45) f fd):aF P w K mg base FT 1 f fd ["_law_row","_law_lot"] fK:=by
 refine F.ok yG (λvs H Q E h=>?_) (λ_ _ _ _ H vs Q E hr h=>?_)
 .obtain⟨l,r,ls,rfl,_⟩:=h
  rfl
 .obtain⟨l,r,ls,rfl,HC,hl,k⟩:=h
  refine⟨_,aw (aJ (b8 (bN eG (ax aC (pv 0) ai (λ_ _=>rfl)) (pv 1) (by with_unfolding_all rfl)) (cq (bN fW (ax aC (pv 0) ai (λ_ _=>rfl)) (pv 1) (by with_unfolding_all rfl))))),?_⟩;have hS:Sq K H l (ls.map V.str):=.inr (FE.of hl);refine⟨_,rfl,ay (j:=2) (.inr (FE.of HC)) rfl rfl ⟨_,rfl,l,ls.map V.str,rfl,hS,rfl,bK ls,?_⟩⟩;have e1:(Hc (.str r.2.2.2) (ls.map V.str))=decide (r.2.2.2∈ls):=bM _ _;have e2:(Hc (.str r.2.2.1) (ls.map V.str))=decide (r.2.2.1∈ls):=bM _ _;refine⟨Hc (.str r.2.2.2) (ls.map V.str),rfl,?_⟩;rw[e1];refine aZ (λc=>⟨_,rfl,ay (j:=1) (.inr (FE.of HC)) rfl rfl ⟨_,rfl,l,ls.map V.str,rfl,hS,rfl,bK ls,?_⟩⟩) (λc=>?_)
  .show Q (.bl (!Hc (.str r.2.2.1) (ls.map V.str))) H
   rw[e2];unfold lead at k;rw[c,E1]at k;exact k
  .simp only[Cf]at c
   unfold lead at k;rw[c,FA]at k;exact k
end K52
namespace L2
open PySem PySem.SetTable
def Ho (mask:Nat):Nat->Nat×Nat->Nat×Nat
 | 0,x=>x
 | n+1,x=>Ho mask n (leap mask x.1 x.2)
theorem js (mask:Nat):∀(a b:Nat) (x:Nat×Nat),Ho mask (a+b) x=Ho mask b (Ho mask a x)
 | 0,b,x=>by rw[Fs];rfl
 | a+1,b,x=>by rw[Nat.succ_add];exact js mask a b _
theorem oq (mask:Nat):∀(n:Nat) (x:Nat×Nat),(Ho mask n x).2=x.2 / 32^n
 | 0,x=>by simp[Ho]
 | n+1,x=>by
  show(Ho mask n (leap mask x.1 x.2)).2=_;rw[oq mask n];unfold leap;rw[Nat.div_div_eq_div_mul,Nat.pow_succ,Nat.mul_comm]
theorem oY {mask:Nat}:∀(n:Nat) (x:Nat×Nat),x.1<mask+1->(Ho mask n x).1<mask+1
 | 0,x,h=>h
 | n+1,x,h=>oY n _ (EB _ (Fv _))
def OI (mask:Nat):Nat->Nat->Nat
 | 0,i=>i
 | n+1,i=>OI mask n ((i*5+1)%(mask+1))
theorem nJ (mask:Nat):∀n i,(Ho mask n (i,0)).1=OI mask n i
 | 0,i=>rfl
 | n+1,i=>by
  show(Ho mask n (leap mask i 0)).1=_;unfold leap;rw[show 0 / 32=0 from rfl,Nat.add_zero];exact nJ mask n _
def jy (mask:Nat):Bool:=(List.range (mask+1)).all λi=>(List.range (mask+1)).all λe=>(List.range (mask+1)).any λn=>OI mask n i==e
theorem wX:jy 7=true:=by decide +kernel
theorem vQ:jy 31=true:=by decide +kernel
theorem xw {mask i e:Nat} (hm:mask=7\/mask=31) (hi:i<mask+1) (he:e<mask+1):∃n,n<mask+1/\OI mask n i=e:=by
 have h:jy mask=true:=by rcases hm with rfl|rfl;exact wX;exact vQ
 have h1:=BL.mp (BL.mp h i (BO.mpr hi)) e (BO.mpr he);obtain⟨n,hn,q⟩:=Ef.mp h1;exact⟨n,BO.mp hn,by simpa using q⟩
theorem reach {mask i p e:Nat} (hm:mask=7\/mask=31) (hi:i<mask+1) (hp:p<2^64) (he:e<mask+1):∃n,13<=n/\n<=13+mask/\(Ho mask n (i,p)).1=e:=by
 have z:(Ho mask 13 (i,p)).2=0:=by
  rw[oq];exact Nat.div_eq_of_lt (Bc hp (by decide))
 have l:=oY (mask:=mask) 13 (i,p) hi;generalize hx:Ho mask 13 (i,p)=x at z l;obtain⟨j,q⟩:=x;simp only at z l;subst z;obtain⟨n,hn,e1⟩:=xw hm l he;refine⟨13+n,by omega,by omega,?_⟩;rw[js,hx,nJ];exact e1
theorem jf {t:SetTable}{j:Nat} (hd:t.dummies=#[]):t.slot j=.empty\/∃i,t.slot j=.live i/\t.place[i]?=some j:=by
 unfold SetTable.slot;simp only
 by_cases c:t.place[below t.place j]?=some j
 .right
  exact⟨below t.place j,by rw[if_pos (by simpa using c)],c⟩
 .left
  rw[if_neg (by simpa using c),if_neg];rw[hd];unfold has;simp
theorem tU {t:SetTable}{j:Nat} (hd:t.dummies=#[]) (h:j∉t.place.toList):t.slot j=.empty:=by
 rcases jf (j:=j) hd with e|⟨i,_,e⟩
 .exact e
 .exact absurd (by rw[<- BD]at e;exact AW e) h
theorem wF {mask:Nat}{l:List Nat} (h:l.length<mask+1):∃e,e<mask+1/\e∉l:=by
 refine DQ λc=>?_;have:∀e,e<mask+1->e∈l:=λe he=>DQ λz=>c ⟨e,he,z⟩;have q:=List.Nodup.length_le_of_subset (l₁:=List.range (mask+1)) (l₂:=l) Fj λx hx=>this x (BO.mp hx);rw[Dw]at q;omega
def advs (t:SetTable):Nat->Probe->Probe
 | 0,p=>p
 | n+1,p=>advs t n (t.advance p)
theorem fH (t:SetTable):∀(a b:Nat) (p:Probe),advs t (a+b) p=advs t b (advs t a p)
 | 0,b,p=>by rw[Fs];rfl
 | a+1,b,p=>by rw[Nat.succ_add];exact fH t a b _
structure JD (mask:Nat) (p:Probe):Prop where
 i:p.i<mask+1
 more:p.more<=9
 per:p.perturb<2^64
 dum:p.dummy=none
theorem lI (mask i:Nat):runEnd mask i-i<=9:=by unfold runEnd;split<;>omega
theorem JD.adv {t:SetTable}{p:Probe} (h:JD t.mask p):JD t.mask (t.advance p):=by
 unfold SetTable.advance;split
 .exact⟨h.i,by have:=h.more;show p.more-1<=9;omega,h.per,h.dum⟩
 .exact⟨EB _ (Fv _),lI _ _,EK (Nat.div_le_self _ _) h.per,h.dum⟩
theorem JD.advs {t:SetTable}:∀(n:Nat) {p:Probe},JD t.mask p->JD t.mask (L2.advs t n p)
 | 0,_,h=>h
 | n+1,_,h=>JD.advs n h.adv
theorem ju (t:SetTable):∀(m:Nat) (p:Probe),p.more=m->(L2.advs t (m+1) p).j=(leap t.mask p.i p.perturb).1/\(L2.advs t (m+1) p).i=(leap t.mask p.i p.perturb).1/\(L2.advs t (m+1) p).perturb=(leap t.mask p.i p.perturb).2
 | 0,p,h=>by
  show(t.advance p).j=_/\(t.advance p).i=_/\(t.advance p).perturb=_;unfold SetTable.advance;rw[if_neg (by omega)];exact⟨rfl,rfl,rfl⟩
 | m+1,p,h=>by
  have e:t.advance p={ p with j:=p.j+1,more:=p.more-1 }:=by
   unfold SetTable.advance;rw[if_pos (by omega)]
  have:=ju t m (t.advance p) (by rw[e];show p.more-1=m;omega);rw[e]at this;show(L2.advs t (m+1) (t.advance p)).j=_/\(L2.advs t (m+1) (t.advance p)).i=_/\(L2.advs t (m+1) (t.advance p)).perturb=_;rw[e];exact this
theorem mh {t:SetTable}:∀(L:Nat) {p:Probe},JD t.mask p->∃s,s<=10*(L+1)/\(L2.advs t s p).j=(Ho t.mask (L+1) (p.i,p.perturb)).1/\(L2.advs t s p).i=(Ho t.mask (L+1) (p.i,p.perturb)).1/\(L2.advs t s p).perturb=(Ho t.mask (L+1) (p.i,p.perturb)).2
 | 0,p,h=>by
  obtain⟨a,b,c⟩:=ju t p.more p rfl;exact⟨p.more+1,by have:=h.more;omega,a,b,c⟩
 | L+1,p,h=>by
  obtain⟨s,hs,a,b,c⟩:=mh L h;have hq:=h.advs (n:=s);obtain⟨a',b',c'⟩:=ju t (L2.advs t s p).more (L2.advs t s p) rfl;have e:Ho t.mask (L+1+1) (p.i,p.perturb)=leap t.mask (L2.advs t s p).i (L2.advs t s p).perturb:=by
   rw[js t.mask (L+1) 1,b,c];rfl
  refine⟨s+((L2.advs t s p).more+1),by have:=hq.more;omega,?_,?_,?_⟩
  .rw [fH,e];exact a'
  .rw [fH,e];exact b'
  .rw [fH,e];exact c'
theorem sy {t:SetTable} (hm:t.mask=7\/t.mask=31) {p:Probe} (h:JD t.mask p) {e:Nat} (he:e<t.mask+1):∃n,n<10*turns t.mask/\(L2.advs t n p).j=e:=by
 obtain⟨n,h1,h2,h3⟩:=reach hm h.i h.per he;obtain⟨s,hs,hj,_⟩:=mh (t:=t) (n-1) h;rw[show n-1+1=n by omega]at hs hj;refine⟨s,?_,by rw[hj];exact h3⟩;unfold turns;omega
theorem xq {t:SetTable} (hd:t.dummies=#[]) {hashAt:Nat->Int}{h:Int}:∀(n fuel:Nat) (p:Probe),n<fuel->p.dummy=none->t.slot (L2.advs t n p).j=.empty ->
  (∃j,probe.go t hashAt h fuel p=some (.empty j none)/\t.slot j=.empty)\/∃m i,m<n/\probe.go t hashAt h fuel p=some (.candidate (L2.advs t m p).j i (L2.advs t (m+1) p))/\t.slot (L2.advs t m p).j=.live i:=by
 intro n
 induction n with
 | zero =>
  intro fuel p hf hp hs;obtain⟨f,rfl⟩:∃f,fuel=f+1:=⟨fuel-1,by omega⟩
  left
  refine⟨p.j,?_,hs⟩;have GB:t.slot p.j=.empty:=hs;unfold probe.go;rw[GB,hp]
 | succ n ih =>
  intro fuel p hf hp hs;obtain⟨f,rfl⟩:∃f,fuel=f+1:=⟨fuel-1,by omega⟩
  have IK:(t.advance p).dummy=none:=by
   unfold SetTable.advance;split<;>exact hp
  rcases jf (t:=t) (j:=p.j) hd with q|⟨i,q,_⟩
  .left
   refine⟨p.j,?_,q⟩;unfold probe.go;rw[q,hp]
  .by_cases c:hashAt i=h
   .right
    refine⟨0,i,by omega,?_,q⟩;unfold probe.go;rw[q];simp only;rw[if_pos (by simpa using c)];rfl
   .have e:probe.go t hashAt h (f+1) p=probe.go t hashAt h f (t.advance p):=by
     conv=>lhs;unfold probe.go
     rw[q];simp only;rw[if_neg (by simpa using c)]
    rw[e]
    rcases ih f (t.advance p) (by omega) IK hs with z|⟨m,i',hm,z1,z2⟩
    .exact .inl z
    .exact .inr ⟨m+1,i',by omega,z1,z2⟩
theorem xf {mask:Nat}{owner:Array (Option Nat)}{e:Nat} (ho:(owner.getD e (some 0)).isNone=true):∀(n fuel i p:Nat),n<fuel->(Ho mask n (i,p)).1=e->∃j,layClean.free mask owner fuel i p=some j/\(owner.getD j (some 0)).isNone=true:=by
 intro n
 induction n with
 | zero =>
  intro fuel i p hf he;obtain⟨f,rfl⟩:∃f,fuel=f+1:=⟨fuel-1,by omega⟩
  have XB:i=e:=he;unfold layClean.free;cases c:(List.range (runEnd mask i+1-i)).find? λk=>(owner.getD (i+k) (some 0)).isNone with
  | some k =>
   refine⟨i+k,rfl,?_⟩;simpa using Du c
  | none =>
   have:=ES.mp c 0 (BO.mpr (by unfold runEnd;split<;>omega));rw[Nat.add_zero,XB,ho]at this;exact absurd rfl this
 | succ n ih =>
  intro fuel i p hf he;obtain⟨f,rfl⟩:∃f,fuel=f+1:=⟨fuel-1,by omega⟩
  unfold layClean.free;cases c:(List.range (runEnd mask i+1-i)).find? λk=>(owner.getD (i+k) (some 0)).isNone with
  | some k =>
   refine⟨i+k,rfl,?_⟩;simpa using Du c
  | none=>exact ih f (leap mask i p).1 (leap mask i p).2 (by omega) he
theorem lx:∀(l:List (Option Nat)) (j k:Nat),l[j]?=some none->((l.set j (some k)).filter Option.isSome).length=(l.filter Option.isSome).length+1
 | [],j,k,h=>by simp at h
 | x::r,0,k,h=>by
  have e:x=none:=by simpa using h
  subst e;simp
 | x::r,j+1,k,h=>by
  have ih:=lx r j k (by simpa using h);rw[EU,Bs,Bs];split<;>simp[ih]
theorem k8:∀(l:List (Option Nat)),(l.filter Option.isSome).length<l.length->∃e,e<l.length/\l[e]?=some none
 | [],h=>by simp at h
 | x::r,h=>by
  cases x with
  | none=>exact⟨0,by simp,rfl⟩
  | some v =>
   rw[Bs,if_pos (show(some v).isSome=true from rfl),Bd,Bd]at h;obtain⟨e,h1,h2⟩:=k8 r (by omega);exact⟨e+1,by simpa using h1,by simpa using h2⟩
structure Mr (mask:Nat) (owner:Array (Option Nat)) (k:Nat):Prop where
 sz:owner.size=mask+1
 ct:(owner.toList.filter Option.isSome).length=k
 lt:∀v,some v∈owner.toList->v<k
theorem nX (h:Int):bits h<2^64:=by
 unfold bits;have:=C2 h (show(0:Int)<2^64 by decide);have:=Ds h (show((2:Int)^64)≠0 by decide);omega
theorem Mr.step {mask:Nat} (hm:mask=7\/mask=31) {owner:Array (Option Nat)}{k:Nat} (o:Mr mask owner k) (hk:k<mask+1) (h:Int):∃j,layClean.free mask owner (turns mask) (bits h%(mask+1)) (bits h)=some j/\Mr mask (owner.setIfInBounds j (some k)) (k+1):=by
 obtain⟨e,he,hn⟩:=k8 owner.toList (by rw[o.ct,Bh,o.sz];exact hk);rw[Bh,o.sz]at he;have ho:(owner.getD e (some 0)).isNone=true:=by
  rw[BD]at hn;rw[BY,hn];rfl
 obtain⟨n,n1,n2,n3⟩:=reach hm (EB (bits h) (Fv mask)) (nX h) he;obtain⟨j,hj,hf⟩:=xf (mask:=mask) ho n (turns mask) (bits h%(mask+1)) (bits h) (by unfold turns;omega) n3;refine⟨j,hj,?_⟩;have QR:owner.toList[j]?=some none:=by
  rw[BD];rw[BY]at hf;cases c:owner[j]? with
  | none=>rw[c]at hf;simp at hf
  | some x =>
   rw[c]at hf;cases x with
   | none=>rfl
   | some v=>simp at hf
 refine⟨by rw[Array.size_setIfInBounds];exact o.sz,?_,λv hv=>?_⟩
 .rw [C9,lx _ _ _ QR,o.ct]
 .rw [C9]at hv
  rcases List.mem_or_eq_of_mem_set hv with z|z
  .have:=o.lt v z;omega
  .have:v=k:=Bx z
   omega
theorem vO (owner:Array (Option Nat)):((List.range owner.size).filterMap λj=>(owner.getD j none).map (j,·)).map (·.2)=owner.toList.filterMap id:=by
 rw[List.map_filterMap];have e:(λj=>Option.map (λx:Nat×Nat=>x.2) ((owner.getD j none).map (j,·)))=λj=>owner.getD j none:=by
  funext j
  cases owner.getD j none<;>rfl
 rw[e];have e2:(List.range owner.size).map (λj=>owner.getD j none)=owner.toList:=by
  refine D0 λi=>?_;rw[AZ]
  by_cases c:i<owner.size
  .rw [List.getElem?_range c]
   simp[BY,c]
  .rw [C6 (by simpa using c),C6 (by simpa using c)]
   rfl
 conv=>rhs;rw[<- e2,List.filterMap_map]
 rfl
theorem uw (l:List (Option Nat)):(l.filterMap id).length=(l.filter Option.isSome).length:=by
 induction l with
 | nil=>rfl
 | cons x r ih=>cases x<;>simp[ih]
end L2
namespace L2
open PySem PySem.Spec PyProof.Rows PySem.W PySem.Calls PySem.SetTable
theorem qr (n:Nat) {v:zz9} (h:carriedByValue v=true):ofAClassStatement n v=pure false:=by
 cases v with
 | ref a=>simp[carriedByValue]at h
 | _=>first|rfl|(unfold ofAClassStatement;rfl)|simp[ofAClassStatement]
section
variable {prog:Program}{w:World}{A:Around}{E:zz9->zz8->Prop}{s:zz8}
abbrev b9 (prog:Program) (w:World) (h:Heap) (ks:List Str) (a:Addr):Prop:=IsTupleKey (PySem.strKind prog w) h ks a
theorem kA {ks:List Str}{a:Addr}{Q:Bool->zz8->Prop} (hk:b9 prog w s.heap ks a) (h:Q false s):wpAny (model prog w) A (ofAClassStatement 8 (.ref a)) Q E s:=by
 have hT:=hk.typeIs;obtain⟨o,items,n,ho,_,hd,hi⟩:=hk;unfold ofAClassStatement;refine AF (Dy hT ?_);show wpAny _ _ ((if ("tuple" == "tuple")=true then pure true else isSubtype (.type "tuple") (.type "tuple")) >>= _) _ _ s;rw[if_pos (by decide)];refine AF (AI ?_);simp only[Eb,Bm,if_false];refine AF (BP ho hd ?_)
 dsimp only
 refine AF ?_;show wpAny _ _ (forIn items _ _) _ _ s;rw[<- Array.forIn_toList];refine Ee _ (λrest r s'=>r.1=none/\s'=s/\∀v∈rest,carriedByValue v=true) _ ?_ ?_ _ _ ⟨rfl,rfl,hi.byValue⟩
 .rintro v rest r s' ⟨hr,rfl,Gm⟩
  rw[qr _ (Gm v AK)];refine AF (AI ?_);simp only[Bm,if_false];exact AI ⟨rfl,rfl,λu WS=>Gm u (AR _ WS)⟩
 .rintro⟨r1,r2⟩ s' ⟨hr,rfl,_⟩
  simp only at hr;subst hr;exact AI h
theorem rX {ks:List Str}{a:Addr}{l:List zz9}{Q:Bool->zz8->Prop} (hk:b9 prog w s.heap ks a) (hl:∀v∈l,∃b Hq,v=.ref b/\b9 prog w s.heap Hq b) (h:Q false s):wpAny (model prog w) A (searchCouldBeSeen (.ref a) l) Q E s:=by
 unfold searchCouldBeSeen;refine AF ?_;refine Ee _ (λrest r s'=>r.1=none/\s'=s/\∀v∈rest,∃b Hq,v=.ref b/\b9 prog w s.heap Hq b) _ ?_ ?_ _ _ ⟨rfl,rfl,hl⟩
 .rintro v rest r s' ⟨hr,rfl,Gm⟩
  obtain⟨b,Hq,rfl,hb⟩:=Gm v AK;have go:∀u∈rest,∃b Hq,u=.ref b/\b9 prog w s'.heap Hq b:=λu hu=>Gm u (AR _ hu)
  dsimp only
  by_cases c:(a==b)=true
  .rw [if_pos (by rw[c];rfl)]
   exact AI ⟨rfl,rfl,go⟩
  .rw [if_neg (by simp only[Cf]at c;rw[c];simp[carriedByValue])]
   refine AF (wpAny_eqIsQuiet_tuple hk ?_);simp only[Eb,Bm,if_false];refine AF (wpAny_eqIsQuiet_tuple hb ?_);simp only[Eb,Bm,if_false];refine AF (kA hk ?_);simp only[Bm,if_false];refine AF (kA hb ?_);simp only[Bm,if_false];exact AI ⟨rfl,rfl,go⟩
 .rintro⟨r1,r2⟩ s' ⟨hr,rfl,_⟩
  simp only at hr;subst hr;exact AI h
end
theorem yy {t:SetTable} (hd:t.dummies=#[]) {h:Int}{p:Probe}{n:Nat} (hn:n<10*turns t.mask) (hp:p.dummy=none) (hs:t.slot (L2.advs t n p).j=.empty) (hashAt:Nat->Int) :
  (∃j,t.probe hashAt h p=some (.empty j none)/\t.slot j=.empty)\/∃m i,m<n/\t.probe hashAt h p=some (.candidate (L2.advs t m p).j i (L2.advs t (m+1) p))/\t.slot (L2.advs t m p).j=.live i :=
 xq hd n (10*turns t.mask) p hn hp hs
section
variable {prog:Program}{w:World}{A:Around}{E:zz9->zz8->Prop}{s:zz8}
theorem kD {c:Addr}{Q:Bool->zz8->Prop} (h:Q true s):wpAny (model prog w) A (isSame (.ref c) (.ref c)) Q E s:=by
 unfold isSame
 first|(simp;exact AI h)|(refine AI ?_;simpa using h)
theorem qO {a b:Addr}{o:Obj}{es:Array (Int×zz9)}{ep:Nat}{t:SetTable}{ks:List Str}{h:Int}{Q:SetFound->zz8->Prop} (ho:s.heap.get? a=some o) (hd:o.data=.set es ep t) (hf:t.fits es.size=true) (TZ:t.dummies=#[]) (hm:t.mask=7\/t.mask=31)
  (hu:A.units<cLine) (hk:b9 prog w s.heap ks b) (FQ:∀e∈es.toList,∃c Hq,e.2=.ref c/\b9 prog w s.heap Hq c/\Hq≠ks) (hQ:∀j,t.slot j=.empty->Q (.free j false) s) :
  ∀(n fuel:Nat) (Gu:Option Probe),n<fuel->n<10*turns t.mask->JD t.mask (Gu.getD (t.probeStart h))->t.slot (L2.advs t n (Gu.getD (t.probeStart h))).j=.empty->wpAny (model prog w) A (setSearchFrom a (.ref b) h true fuel Gu) Q E s:=by
 intro n
 induction n using Nat.strongRecOn with
 | _ n ih =>
  intro fuel Gu QT hn hp hs;obtain⟨f,rfl⟩:∃f,fuel=f+1:=⟨fuel-1,by omega⟩
  have Nz:t.gaveWay=false:=by
   unfold SetTable.gaveWay
   rcases hm with e|e<;>rw[e]<;>rfl
  have GF:t.place.size=es.size:=by
   unfold SetTable.fits at hf;simp only[B9,beq_iff_eq]at hf;exact hf.1
  unfold setSearchFrom;refine AF (B7 ho hd hf ?_)
  dsimp only
  rw[Nz];simp only[Bm,if_false];generalize HN:SetTable.probe t _ h (Gu.getD (t.probeStart h))=pr
  rcases yy TZ hn hp.dum hs _ with ⟨j,e,hj⟩|⟨m,i,hmn,e,hl⟩
  .rw [HN]at e
   rw[e];exact AI (hQ j hj)
  .rw [HN]at e
   rw[e]
   dsimp only
   obtain⟨i',Gv,Ga⟩:=(jf (t:=t) (j:=(L2.advs t m (Gu.getD (t.probeStart h))).j) TZ).resolve_left (by rw[hl];exactλz=>nomatch z);have ei:i'=i:=by rw[hl]at Gv;exact(Slot.live.inj Gv).symm
   subst ei;have FM:i'<es.size:=by
    rw[<- GF];exact(CA.mp Ga).1
   have LA:es[i']?=some es[i']:=Bp FM;obtain⟨c,Hq,e2,hc,T7⟩:=FQ es[i'] (Array.getElem_mem_toList FM)
   by_cases GT:t.led=true
   .rw [GT]
    simp only[Eb,Bm,if_false];rw[LA];generalize QY:es[i']=pe at e2;obtain⟨Xv,y0⟩:=pe;have ey:y0=.ref c:=e2;subst ey
    dsimp only
    refine AF (Bo (EN hu hc hk ?_));rw[decide_eq_false T7];refine AF (B7 ho hd hf ?_);simp only[E1,Bm,if_false];have Qg:t.sameMemory t.moves t.mask=some true:=by unfold SetTable.sameMemory;simp
    rw[Qg]
    dsimp only
    rw[if_pos rfl,hl]
    dsimp only
    rw[LA,QY]
    dsimp only
    refine AF (kD ?_);rw[if_pos rfl];refine AF (AI ?_)
    dsimp only
    refine ih (n-(m+1)) (by omega) f (some (L2.advs t (m+1) (Gu.getD (t.probeStart h)))) (by omega) (by omega) (hp.advs (m+1)) ?_;show t.slot (L2.advs t (n-(m+1)) (L2.advs t (m+1) (Gu.getD (t.probeStart h)))).j=.empty;rw[<- fH,show m+1+(n-(m+1))=n by omega];exact hs
   .simp only[Cf]at GT
    rw[GT];simp only[Bool.not_false,if_true];refine AF (rX hk (λv hv=>?_) ?_)
    .obtain⟨x,hx,rfl⟩:=AL.mp hv
     obtain⟨c1,k1,q1,q2,_⟩:=FQ x (by
      have:=DD.mp hx
      exact DD.mpr (Array.mem_filter.mp this).1)
     exact⟨c1,k1,q1,q2⟩
    simp only[Bm,if_false];rw[LA];generalize QY:es[i']=pe at e2;obtain⟨Xv,y0⟩:=pe;have ey:y0=.ref c:=e2;subst ey
    dsimp only
    refine AF (Bo (EN hu hc hk ?_));rw[decide_eq_false T7];refine AF (B7 ho hd hf ?_);simp only[E1,Bm,if_false];have Qg:t.sameMemory t.moves t.mask=some true:=by unfold SetTable.sameMemory;simp
    rw[Qg]
    dsimp only
    rw[if_pos rfl,hl]
    dsimp only
    rw[LA,QY]
    dsimp only
    refine AF (kD ?_);rw[if_pos rfl];refine AF (AI ?_)
    dsimp only
    refine ih (n-(m+1)) (by omega) f (some (L2.advs t (m+1) (Gu.getD (t.probeStart h)))) (by omega) (by omega) (hp.advs (m+1)) ?_;show t.slot (L2.advs t (n-(m+1)) (L2.advs t (m+1) (Gu.getD (t.probeStart h)))).j=.empty;rw[<- fH,show m+1+(n-(m+1))=n by omega];exact hs
end
theorem mx {α:Type} (xs:Array α) (p:Nat) (x:α):(insertAt xs p x).size=xs.size+1:=by
 unfold insertAt;simp;omega
structure Ay (o:Obj) (n:Nat) (Hw:List Addr) (es:Array (Int×zz9)) (ep:Nat) (t:SetTable):Prop where
 cls:o.cls=.type "set"
 dic:o.dict=none
 slt:o.slots=#[]
 dat:o.data=.set es ep t
 sz:es.size=n
 pl:t.place.size=n
 dum:t.dummies=#[]
 msk:(t.mask=7/\n<=4)\/(t.mask=31/\n<=6)
 els:∀e∈es.toList,∃a∈Hw,e.2=.ref a
theorem ma (t:SetTable) (h:Int):JD t.mask (t.probeStart h):=⟨EB _ (Fv _),lI _ _,nX h,rfl⟩
section
variable {prog:Program}{w:World}{A:Around}{E:zz9->zz8->Prop}{s:zz8}
end
theorem items_str {prog:Program}{w:World}:∀{ss:List Str}{FC:List zz9},ar (ss.map V.str) FC->ItemsAre (PySem.strKind prog w) ss FC
 | [],_,r=>by cases r;exact .nil
 | s::ss,_,r=>by
  cases r with
  | cons h1 h2 =>
   obtain⟨t,rfl⟩:=h1;exact .cons (Ed prog w _ _) (items_str h2)
theorem mf:∀{lts:List (Addr×List Str)}{FC:List zz9},ar (lts.map λx=>V.ref x.1) FC->FC=lts.map (λx=>Value.ref x.1)
 | [],_,r=>by cases r;rfl
 | x::lts,_,r=>by
  cases r with
  | cons h1 h2 =>
   cases h1;rw[A8,<- mf h2]
theorem oW:∀{l:List (Option Nat)}{j k:Nat},l[j]?=some none->((l.set j (some k)).filterMap id).Perm (k::l.filterMap id)
 | [],j,k,h=>by simp at h
 | x::r,0,k,h=>by
  have:x=none:=by simpa using h
  subst this;simp
 | x::r,j+1,k,h=>by
  have ih:=oW (l:=r) (j:=j) (k:=k) (by simpa using h);cases x with
  | none=>simpa using ih
  | some v =>
   rw[EU,Cv,Cv];exact(List.Perm.cons v ih).trans (List.Perm.swap k v _)
theorem mW:∀{l:List (Option Nat)}{j k:Nat},l[j]?≠some none->((l.set j (some k)).filter Option.isSome).length<=(l.filter Option.isSome).length
 | [],j,k,h=>by simp
 | x::r,0,k,h=>by
  cases x with
  | none=>simp at h
  | some v=>simp
 | x::r,j+1,k,h=>by
  have ih:=mW (l:=r) (j:=j) (k:=k) (by simpa using h);rw[EU,Bs,Bs];cases x with
  | none=>simpa using ih
  | some v=>simpa using ih
theorem kY {mask:Nat} (hm:mask=7\/mask=31):∀(hs:List Int) (owner:Array (Option Nat)) (k:Nat),Mr mask owner k->(owner.toList.filterMap id).Perm (List.range k)->k+hs.length<=mask+1 ->
  ∃GN,hs.foldl (λ(FH:Option (Array (Option Nat)×Nat)) h=>do
   let (owner,k) <- FH
   let j <- layClean.free mask owner (turns mask) (bits h%(mask+1)) (bits h)
   pure (owner.setIfInBounds j (some k),k+1)) (some (owner,k))=some (GN,k+hs.length)/\Mr mask GN (k+hs.length)/\(GN.toList.filterMap id).Perm (List.range (k+hs.length))
 | [],owner,k,o,p,_=>⟨owner,rfl,o,p⟩
 | h::r,owner,k,o,p,hl=>by
  obtain⟨j,hj,o'⟩:=o.step hm (by simp at hl;omega) h;have QR:owner.toList[j]?=some none:=by
   cases Ci (owner.toList[j]?=some none)with
   | inl z=>exact z
   | inr z =>
    have h1:=mW (k:=k) z;have h2:=o.ct;have h3:=o'.ct;rw[C9]at h3;omega
  have p':((owner.setIfInBounds j (some k)).toList.filterMap id).Perm (List.range (k+1)):=by
   rw[C9,Fz];exact(oW QR).trans ((List.Perm.cons k p).trans (List.perm_append_singleton k _).symm)
  obtain⟨GN,e,VD,Vz⟩:=kY hm r _ _ o' p' (by simp at hl;omega);have er:k+(h::r).length=k+1+r.length:=by rw[Bd];omega
  refine⟨GN,?_,by rw[er];exact VD,by rw[er];exact Vz⟩;rw[List.foldl_cons,er,<- e]
  congr 1
  show(layClean.free mask owner (turns mask) (bits h%(mask+1)) (bits h) >>= λj=>pure (owner.setIfInBounds j (some k),k+1))=_;rw[hj];rfl
theorem rH (t:SetTable) (hs:Array Int) (h5:hs.size<=32):∃t' order,t.relaid hs 20=some (t',order)/\t'.mask=31/\t'.dummies=#[]/\t'.place.size=hs.size/\order.size=hs.size/\order.toList.Perm (List.range hs.size)/\t'.led=t.led/\t'.plain=t.plain:=by
 have o0:Mr 31 (Array.replicate (31+1) none) 0:=⟨by simp,by decide,λv hv=>by simp at hv⟩
 obtain⟨owner,e,o,pm⟩:=kY (mask:=31) (.inr rfl) hs.toList _ 0 o0 (by simp) (by rw[Bh];omega);rw[Fs,Bh]at e o pm;have ec:layClean 31 hs=some owner:=by
  unfold layClean;rw[<- Array.foldl_toList];have:=congrArg (Option.map (·.1)) e;exact this
 have hl:((List.range (31+1)).filterMap λj=>(owner.getD j none).map (j,·)).map (·.2)=owner.toList.filterMap id:=by
  have:=vO owner;rw[o.sz]at this;exact this
 have FJ:((List.range (31+1)).filterMap λj=>(owner.getD j none).map (j,·)).length=hs.size:=by
  have:=congrArg List.length hl;rw[AG,uw,o.ct]at this;exact this
 have er:t.relaid hs 20=some ({ mask:=31,place:=(((List.range (31+1)).filterMap λj=>(owner.getD j none).map (j,·)).map (·.1)).toArray,dummies:=#[],finger:=t.finger,led:=t.led,moves:=t.movedTo 31,plain:=t.plain },(((List.range (31+1)).filterMap λj=>(owner.getD j none).map (j,·)).map (·.2)).toArray):=by
  unfold SetTable.relaid;rw[show sizeAbove 20-1=31 from by decide];unfold laid;rw[ec];rfl
 refine⟨_,_,er,rfl,rfl,?_,?_,?_,rfl,rfl⟩
 .simpa using FJ
 .simpa using FJ
 .rw [hl];exact pm
theorem uF {α:Type} (xs:Array α) (p:Nat) (x:α):(insertAt xs p x).toList.Perm (x::xs.toList):=by
 have e:(insertAt xs p x).toList=xs.toList.take p++x::xs.toList.drop p:=by
  show((xs.extract 0 p).push x++xs.extract p xs.size).toList=_;rw[Dj,E7,Array.toList_extract,Array.toList_extract];simp[List.extract_eq_take_drop,List.take_of_length_le]
 rw[e];refine Fq.trans ?_;rw[List.take_append_drop]
structure ce (w:World) (o:Obj) (n:Nat) (Hw:List Addr) (es:Array (Int×zz9)) (ep:Nat) (t:SetTable):Prop where
 cls:o.cls=.type "set"
 dic:o.dict=none
 slt:o.slots=#[]
 dat:o.data=.set es ep t
 sz:es.size=n
 pl:t.place.size=n
 dum:t.dummies=#[]
 msk:(t.mask=7/\n<=4)\/(t.mask=31/\n<=18)
 all:(es.toList.map (·.2)).Perm (Hw.map Value.ref)
 led:t.led=!w.params.followText "set-order"
 pla:n=0\/t.plain=false
theorem ce.els {w:World}{o:Obj}{n:Nat}{Hw:List Addr}{es:Array (Int×zz9)}{ep:Nat}{t:SetTable} (x:ce w o n Hw es ep t):∀e∈es.toList,∃a∈Hw,e.2=.ref a:=λe he=>by
 obtain⟨a,h1,h2⟩:=AL.mp (x.all.mem_iff.mp (AM he));exact⟨a,h1,h2.symm⟩
theorem ce.fit {w:World}{o:Obj}{n:Nat}{Hw:List Addr}{es:Array (Int×zz9)}{ep:Nat}{t:SetTable} (x:ce w o n Hw es ep t):t.fits es.size=true:=by
 unfold SetTable.fits SetTable.fill;rw[x.sz,x.pl,x.dum];have:=x.msk;simp;omega
section
variable {prog:Program}{w:World}{A:Around}{E:zz9->zz8->Prop}{s:zz8}
theorem sS {ks:List Str}{a:Addr}{Q:Bool->zz8->Prop} (hk:b9 prog w s.heap ks a) (FQ:ks≠[]) (h:Q false s):wpAny (model prog w) A (hashByValue 8 (.ref a)) Q E s:=by
 have hT:=hk.typeIs;obtain⟨o,items,n,ho,_,hd,hi⟩:=hk;unfold hashByValue;refine AF (wpAny_specialOf hT F.slot_tuple_hash.lookup ?_);show wpAny _ _ (seqItems? (.ref a) >>= _) _ _ s;refine AF (BP ho hd ?_);refine AF ?_;show wpAny _ _ (forIn items _ _) _ _ s;rw[<- Array.forIn_toList];refine Ee _ (λrest r s'=>s'=s/\(r.1=some false\/(r.1=none/\rest≠[]))/\∃Hq,ItemsAre (PySem.strKind prog w) Hq rest) _ ?_ ?_ _ _ ⟨rfl,.inr ⟨rfl,λz=>by rw[z]at hi;cases hi;exact FQ rfl⟩,ks,hi⟩
 .rintro v rest r s' ⟨rfl,hr,Hq,hit⟩
  cases hit with
  | @cons k _ Ws _ h1 h2 =>
   obtain⟨t,rfl⟩:=Value.isStrOf_shape (x:=k) (v:=v) h1;show wpAny _ _ ((pure false:Sem Bool) >>= _) _ _ _;refine AF (AI ?_);simp only[Bool.not_false,if_true]
   first
    | exact AI ⟨rfl,.inl rfl,Ws,h2⟩
    | exact AI h
    | exact AI (AI h)
 .rintro⟨r1,r2⟩ s' ⟨rfl,hr,_⟩
  simp only at hr
  rcases hr with rfl|⟨rfl,hr⟩
  .exact AI h
  .exact absurd rfl hr
theorem qP {a:Addr}{o:Obj}{Hw:List Addr}{es:Array (Int×zz9)}{ep:Nat}{t:SetTable}{Q:Unit->zz8->Prop}
  (ho:s.heap.get? a=some o) (Gk:o.cls=.type "set") (HP:o.dict=none) (Hs:o.slots=#[]) (hd:o.data=.set es ep t) (hf:t.fits es.size=true) (h5:es.size=5) (J9:(es.toList.map (·.2)).Perm (Hw.map Value.ref)) (GT:t.led=!w.params.followText "set-order") (Qu:t.plain=false)
  (h:∀(h':Heap) (o':Obj) es' FX t',Heap.SameBut a s.heap h'->h'.get? a=some o'->ce w o' 5 Hw es' FX t'->Q () { s with heap:=h' }):wpAny (model prog w) A (setRelay a 20) Q E s:=by
 obtain⟨t',order,er,r1,r2,r3,r4,r5,r6,r7⟩:=rH t (es.map (·.1)) (by rw[EE];omega);rw[EE]at r3 r4 r5;have hsz:(order.filterMap (es[·]?)).size=es.size:=by
  have e:∀l:List Nat,(∀k∈l,k<es.size)->(l.filterMap (λk=>es[k]?)).length=l.length:=by
   intro l
   induction l with
   | nil=>intro _;rfl
   | cons k r ih =>
    intro hk;rw[Cv,Bp (hk k AK)];simp[ih λk' Ny=>hk k' (AR _ Ny)]
  have:=e order.toList λk hk=>BO.mp (r5.mem_iff.mp hk);rw[<- Bh,Array.toList_filterMap,this,Bh,r4]
 unfold setRelay;refine AF (B7 ho hd hf ?_)
 dsimp only
 rw[if_neg (by rw[Bw];decide)];refine AF ?_;rw[er];show wpAny _ _ (if ((order.filterMap (es[·]?)).size != es.size)=true then _ else _) _ _ _;rw[if_neg (by rw[hsz];simp)];refine AI ?_
 dsimp only
 refine DZ ho hd ?_ (by rw[hsz,h5,Bw];decide);have g1:=gM (es':=order.filterMap (es[·]?)) (t':=t') ho hd;refine h _ _ _ _ _ (BZ s.heap a _) g1 ⟨Gk,HP,Hs,rfl,by rw[hsz,h5],by rw[r3,h5],r2,.inr ⟨r1,by decide⟩,?_,by rw[r6];exact GT,.inr (by rw[r7];exact Qu)⟩;refine List.Perm.trans (List.Perm.map _ ?_) J9;rw[Array.toList_filterMap];refine(r5.filterMap _).trans ?_;have e:∀l:List (Int×zz9),(List.range l.length).filterMap (λk=>l[k]?)=l:=by
  intro l;refine D0 λi=>?_;have e2:∀m:Nat,m<=l.length->(List.range m).filterMap (λk=>l[k]?)=l.take m:=by
   intro m
   induction m with
   | zero=>intro _;rfl
   | succ m ih =>
    intro hm;rw[Fz,List.filterMap_append,ih (by omega),Br];simp[AJ (show m<l.length by omega)]
  rw[e2 _ (AY _),B3]
 have:=e es.toList;simp only[Bh,BD]at this;rw[this]
theorem sr {a b:Addr}{o:Obj}{n:Nat}{Hw:List Addr}{ks:List Str}{hv:Int}{es:Array (Int×zz9)}{ep:Nat}{t:SetTable}{Q:Bool->zz8->Prop}
  (ho:s.heap.get? a=some o) (x:ce w o n Hw es ep t) (hn:n<=17) (Xo:ks≠[]) (hu:A.units<cLine) (hk:b9 prog w s.heap ks b) (FQ:∀c∈Hw,∃Hq,b9 prog w s.heap Hq c/\Hq≠ks)
  (h:∀(bb:Bool) (h':Heap) (o':Obj) es' FX t',Heap.SameBut a s.heap h'->h'.get? a=some o'->ce w o' (n+1) (b::Hw) es' FX t'->Q bb { s with heap:=h' }) :
  wpAny (model prog w) A (setAddHashed a (.ref b) hv) Q E s:=by
 have hm:t.mask=7\/t.mask=31:=x.msk.imp (·.1) (·.1);obtain⟨e,he,QC⟩:=wF (mask:=t.mask) (l:=t.place.toList) (by rw[Bh,x.pl];have:=x.msk;omega);obtain⟨n0,QG,Xt⟩:=sy hm (ma t hv) he;unfold setAddHashed setAddHashedIn;refine Bo (AF (B7 ho x.dat x.fit ?_))
 dsimp only
 rw[show byScan (.ref b) es=false from rfl];simp only[Bm,if_false];unfold setSearch;refine AF (qO (ks:=ks) ho x.dat x.fit x.dum hm hu hk (λel OA=>?_) (λj hj=>?_) n0 100000 none (by unfold turns at QG;rcases hm with z|z<;>rw[z]at QG<;>omega) QG (ma t hv) (by show t.slot (L2.advs t n0 (t.probeStart hv)).j=_;rw[Xt];exact tU x.dum QC))
 .obtain⟨c,hc,ec⟩:=x.els el OA
  obtain⟨Hq,h1,h2⟩:=FQ c hc;exact⟨c,Hq,ec,h1,h2⟩
 dsimp only
 refine AF (B7 ho x.dat x.fit ?_)
 dsimp only
 have Nk:(t.put j).1.dummies=#[]/\(t.put j).1.place.size=n+1/\(t.put j).1.mask=t.mask/\(t.put j).1.led=t.led:=by
  unfold SetTable.put;refine⟨?_,?_,rfl,rfl⟩
  .show (if has t.dummies j=true then _ else t.dummies)=#[]
   rw[x.dum];have:has #[] j=false:=by unfold has;simp
   rw[this];simp
  .show (insertAt t.place (below t.place j) j).size=n+1
   rw[mx,x.pl]
 have Ry:t.put j=((t.put j).1,(t.put j).2):=rfl;rw[Ry];generalize (t.put j).1=t1 at Nk ⊢;generalize (t.put j).2=p1;obtain⟨T4,Nm,TJ,Jd⟩:=Nk
 try dsimp only
 have fin:∀t2:SetTable,t2.dummies=#[]->t2.place.size=n+1->t2.mask=t.mask->t2.led=t.led->t2.plain=false->wpAny (model prog w) A (do
   storeSet a (insertAt es p1 (hv,.ref b)) t2
   if (!false&&t2.tooFull)=true then do
    setRelay a (SetTable.grown (es.size+1))
    pure true
   else pure true) Q E s:=λt2 q1 q2 q3 q4 q5=>by
  have z1:(insertAt es p1 (hv,Value.ref b)).size=n+1:=by rw[mx,x.sz]
  refine AF (DZ ho x.dat ?_ (by rw[z1,Bw];omega));have g1:=gM (es':=insertAt es p1 (hv,Value.ref b)) (t':=t2) ho x.dat;have sb:=BZ s.heap a (Obj.putSet (insertAt es p1 (hv,Value.ref b)) t2);have J9:((insertAt es p1 (hv,Value.ref b)).toList.map (·.2)).Perm ((b::Hw).map Value.ref):=
   ((uF es p1 (hv,Value.ref b)).map _).trans (List.Perm.cons _ x.all)
  have GT:t2.led=!w.params.followText "set-order":=q4.trans x.led
  by_cases c:t2.tooFull=true
  .have Jy:n+1=5/\t.mask=7:=by
    unfold SetTable.tooFull SetTable.fill at c;rw[q2,q1,q3]at c;simp only[decide_eq_true_eq]at c;have:=x.msk;simp at c;omega
   rw[if_pos (by rw[c];rfl)];have eg:SetTable.grown (es.size+1)=20:=by rw[x.sz,Jy.1];rfl
   rw[eg];have Oz:t2.fits (insertAt es p1 (hv,Value.ref b)).size=true:=by
    unfold SetTable.fits SetTable.fill;rw[z1,q2,q1,q3];simp;omega
   refine AF (qP (s:={ s with heap:=s.heap.update a (Obj.putSet (insertAt es p1 (hv,Value.ref b)) t2) }) g1 x.cls x.dic x.slt rfl Oz (by rw[z1];exact Jy.1) J9 GT q5 λh' o' es' FX t' c1 c2 c3=>?_);exact AI (h true h' o' es' FX t' (sb.trans c1) c2 (by rw[Jy.1];exact c3))
  .rw [if_neg (by simp only[Cf]at c;rw[c];simp)]
   refine AI (h true _ _ _ _ _ sb g1 ⟨x.cls,x.dic,x.slt,rfl,z1,q2,q1,?_,J9,GT,.inr q5⟩);have Xg:¬ ((n+1)*5≥t.mask*3):=by
    unfold SetTable.tooFull SetTable.fill at c;rw[q2,q1,q3]at c;simpa using c
   rw[q3];have:=x.msk;omega
 split
 .refine AF (sS hk Xo ?_)
  exact fin { t1 with plain:=false } T4 Nm TJ Jd rfl
 .rename_i hc
  refine AF (AI ?_);exact fin t1 T4 Nm TJ Jd (by simpa using hc)
theorem b9.stay {h h':Heap}{ks:List Str}{a:Addr} (x:b9 prog w h ks a) (k:∀o,h.get? a=some o->h'.get? a=some o):b9 prog w h' ks a :=
 let ⟨o,items,n,ho,r⟩:=x;⟨o,items,n,k o ho,r⟩
theorem qZ {I S:Addr}{fp:List Addr}{FC:List zz9}{lts:List (Addr×List Str)}{St:Nat->Heap->Prop}{R:Result->zz8->Prop}{m:Nat} (hm:m=FC.length)
  (W:Walks prog w A.in1 I fp [I] m (λi v=>FC[i]?=some v) St) (hS:S∉fp) (hu:A.in1.units<cLine) (hits:FC=lts.map (λx=>Value.ref x.1)) (few:lts.length<=18) (nn:∀x∈lts,x.2≠[]) (nd:(lts.map (·.2)).Nodup)
  (FQ:∀x∈lts,x.1≠S/\x.1≠I) :
  ∀(k i:Nat) (s:zz8) (o:Obj) (es:Array (Int×zz9)) (ep:Nat) (t:SetTable),FC.length-i=k->i<=FC.length->St i s.heap->s.heap.get? S=some o->ce w o i ((lts.take i).map (·.1)).reverse es ep t->(∀x∈lts,b9 prog w s.heap x.2 x.1) ->
   (∀(h':Heap) (tk:Nat) (o':Obj) es' FX t',(∀b ob,b≠S->b≠I->s.heap.get? b=some ob->h'.get? b=some ob)->h'.get? S=some o'->ce w o' lts.length (lts.map (·.1)).reverse es' FX t'->R (.ok (.ret .none)) { s with heap:=h',toks:=tk }) ->
   codeAny (model prog w) A (.builtin "set.update.loop" ⟨[.ref S,.ref I],[]⟩) R s:=by
 have FJ:lts.length=FC.length:=by rw[hits,AG]
 subst hm;have NS:S≠I:=λe=>hS (by rw[e];exact W.sub I (AQ.mpr rfl));intro k
 induction k with
 | zero =>
  intro i s o es ep t hk hi st ho x ky q;have e:i=FC.length:=by omega
  subst e;refine BF Dl ?_;rw[BB Cs _];show wpAny _ A.in1 (pyNext (.ref I) >>= _) _ _ s;refine AF (W.done s _ _ st λh' tk kp=>?_);show wpAny _ A.in1 (ret Value.none) _ _ _;exact AI (q h' tk o es ep t (λb ob _ hb e=>kp b ob (by simpa using hb) e) (kp S o (by simpa using NS) ho) (by rw[<- FJ,B3]at x;exact x))
 | succ k ih =>
  intro i s o es ep t hk hi st ho x ky q;have FM:i<FC.length:=by omega
  have Hu:i<lts.length:=by omega
  refine BF Dl ?_;rw[BB Cs _];show wpAny _ A.in1 (pyNext (.ref I) >>= _) _ _ s;refine AF (W.item i s _ _ FM st λv h1 N7 hP O8 kp=>?_);have ev:v=.ref lts[i].1:=by
   rw[hits,AZ,AJ Hu]at hP;cases hP;rfl
  subst ev;have IL:h1.get? S=some o:=kp S o (by simpa using NS) ho;have Oq:∀x∈lts,b9 prog w h1 x.2 x.1:=λx hx=>(ky x hx).stay λob e=>kp x.1 ob (by simpa using (FQ x hx).2) e;have HZ:lts[i]∈lts:=Bk Hu;show wpAny _ A.in1 (holding [Value.ref lts[i].1] (setAdd S (.ref lts[i].1)) >>= _) _ _ _;refine AF (Bo ?_);unfold setAdd;refine Bo ?_;refine AF (wpAny_pyHash_tuple (s:={ s with heap:=h1,toks:=N7 }) hu (Oq _ HZ) ?_);refine sr (s:={ s with heap:=h1,toks:=N7+(lts[i].2.length+1) }) (ks:=lts[i].2) IL x (by omega) (nn _ HZ) hu (Oq _ HZ) (λc hc=>?_) λb h2 o2 NV Kf t2 sb Ju x2=>?_
  .rw [Eg]at hc
   obtain⟨y,hy,rfl⟩:=AL.mp hc;refine⟨y.2,Oq y (List.mem_of_mem_take hy),λe=>?_⟩;obtain⟨j,hj,ej⟩:=Ca hy;rw[B0]at hj;rw[D5]at ej;have KC:j<lts.length:=by omega
   have e2:(lts.map (·.2))[j]'(by rw[AG];exact KC)=(lts.map (·.2))[i]'(by rw[AG];exact Hu):=by
    rw[BS,BS,ej];exact e
   exact A5.mp nd j i (by rw[AG];exact KC) (by rw[AG];exact Hu) (by omega) e2
  have e3:lts[i].1::((lts.take i).map (·.1)).reverse=((lts.take (i+1)).map (·.1)).reverse:=by
   rw[Br,AJ Hu,AX,List.reverse_append];rfl
  rw[e3]at x2;refine AI ⟨B4 Cs _,ih (i+1) _ o2 NV Kf t2 (by omega) FM (W.frame _ h1 _ O8 λb hb ob e=>?_) Ju x2 (λy hy=>(Oq y hy).stay λob e=>?_) λh' tk o' es' FX t' PD c1 c2=>?_⟩
  .rw [sb.2 b (λz=>hS (by rw[<- z];exact hb))];exact e
  .show h2.get? y.1=some ob
   rw[sb.2 y.1 (FQ y hy).1];exact e
  .refine q h' tk o' es' FX t' (λb ob b1 b2 e=>PD b ob b1 b2 ?_) c1 c2
   show h2.get? b=some ob;rw[sb.2 b b1];exact kp b ob (by simpa using b2) e
theorem rD {w:World}{bt:Bool} (LF:bt=!w.params.followText "set-order"):ce w { cls:=.type "set",dict:=none,data:=.set #[] 0 (.fresh 0 0 bt) } 0 [] #[] 0 (.fresh 0 0 bt):=
 ⟨rfl,rfl,rfl,rfl,rfl,rfl,rfl,.inl ⟨rfl,by decide⟩,.nil,LF,.inl rfl⟩
theorem qE {l:Addr}{FC:List zz9}{lts:List (Addr×List Str)}{Q:zz9->zz8->Prop}
  (hh:A.handled=none) (hl:s.heap.IsList l FC.toArray) (hits:FC=lts.map (λx=>Value.ref x.1)) (few:lts.length<=18) (nn:∀x∈lts,x.2≠[]) (nd:(lts.map (·.2)).Nodup) (hu:A.units+64<cLine) (ky:∀x∈lts,b9 prog w s.heap x.2 x.1)
  (h:∀(h':Heap) (tk:Nat) (o':Obj) es' FX t',(∀b ob,s.heap.get? b=some ob->h'.get? b=some ob)->h'.get? s.heap.objs.size=some o'->ce w o' lts.length (lts.map (·.1)).reverse es' FX t'->Q (.ref s.heap.objs.size) { s with heap:=h',toks:=tk }) :
  wpAny (model prog w) A (call (.type "set") [.ref l]) Q E s:=by
 obtain⟨Pz,Py,QH⟩:=BE.mro;have made:=BE.made;have subs:=BE.sub;have nt:=BE.notType;have cc:=BE.canCreate;have ct:=PySem.F.typeCall_set_1 (.ref l);refine Em (DO ?_);show wpAny _ _ (callAny (.type "set") _) _ _ _;refine AI ⟨Dp _ (by decide +kernel),BF PySem.F.entry_type_call ?_⟩;rw[Around.under_plain (weight_type_call_type "set" [.ref l] []) rfl]
 repeat (any_goals (first|assumption|wp_step))
 refine Cy (mM (.ref l) (E:=E) (Q₁:=λobj s₁=>obj=.ref s.heap.objs.size/\s₁={ s with heap:=s.heap.push { cls:=.type "set",dict:=none,data:=.set #[] 0 (.fresh 0 0 (!w.params.followText "set-order")) } }) ⟨rfl,rfl⟩) λr s₁ hr=>?_;generalize LF:(!w.params.followText "set-order")=bt at hr;cases r with
 | error e=>exact hr
 | ok fl =>
  cases fl with
  | ret obj =>
   obtain⟨rfl,rfl⟩:=hr;have g0:(s.heap.push { cls:=.type "set",dict:=none,data:=.set #[] 0 (.fresh 0 0 bt) }).get? s.heap.objs.size=some { cls:=.type "set",dict:=none,data:=.set #[] 0 (.fresh 0 0 bt) }:=AU _ rfl;have ty:Shared.TypeIs { s with heap:=s.heap.push { cls:=.type "set",dict:=none,data:=.set #[] 0 (.fresh 0 0 bt) } } (.ref s.heap.objs.size) "set":=⟨_,g0,rfl⟩
   have Ww:=BE.init.lookup;have Wx:=BE.init.bind (.ref s.heap.objs.size)
   repeat (any_goals (first|assumption|wp_step))
   refine Cy (DF (R:=wants (λr s₂=>r=.none/\∃h' tk o' es' FX t',s₂={ s with heap:=h',toks:=tk }/\(∀b ob,s.heap.get? b=some ob->h'.get? b=some ob)/\h'.get? s.heap.objs.size=some o'/\ce w o' lts.length (lts.map (·.1)).reverse es' FX t') E)
    BE.init.plain PySem.F.entry_set_init (check_set_init_1 ty ?_)) λr₂ s₂ Lo=>?_
   .obtain⟨ol,Nn,cl,nl,dl⟩:=hl
    obtain⟨c1,c2,c3,c4⟩:=ol;simp only at cl dl;subst cl;subst dl;have Lr:(s.heap.push { cls:=.type "set",dict:=none,data:=.set #[] 0 (.fresh 0 0 bt) }).get? l=some { cls:=.type "list",dict:=c2,data:=.seq FC.toArray nl,slots:=c4 }:=AH _ Nn;have n1:=sub_list_set;have n2:=qR;have n3:(Value.type "list" == Value.type "dict")=false:=by decide
    have Jd:(s.heap.push { cls:=.type "set",dict:=none,data:=.set #[] 0 (.fresh 0 0 bt) }).IsList l FC.toArray:=⟨_,Lr,rfl,nl,rfl⟩
    unfold Builtin.«set.__init__» noKeywords Builtin.Frozenset.updateFrom;generalize II:pyIter=Vw
    wp_walk
    subst II;refine Cn Jd ?_;refine AF (EF ?_);have M5:l<s.heap.objs.size:=AN Nn;have h3:A.in1.in1.in1.handled=none:=by simp[hh]
    have ne1:l≠(s.heap.push { cls:=.type "set",dict:=none,data:=.set #[] 0 (.fresh 0 0 bt) }).objs.size:=by
     rw[Bz];exact A4 (B5 M5)
    have out:s.heap.objs.size∉[(s.heap.push { cls:=.type "set",dict:=none,data:=.set #[] 0 (.fresh 0 0 bt) }).objs.size,l]:=by
     rw[Bz];intro z
     rcases AO.mp z with z|z
     .exact absurd z (A4 (CC _))
     .exact absurd (AQ.mp z) (CG M5)
    have W:=DU (prog:=prog) (w:=w) h3 (s.heap.push { cls:=.type "set",dict:=none,data:=.set #[] 0 (.fresh 0 0 bt) }).objs.size l ne1 FC.toArray;have hW:(λ(i:Nat) (v:zz9)=>FC.toArray[i]?=some v)=λi v=>FC[i]?=some v:=by funext i v;rw[Ej]
    rw[hW]at W;have g1:((s.heap.push { cls:=.type "set",dict:=none,data:=.set #[] 0 (.fresh 0 0 bt) }).push { cls:=.type "list_iterator",data:=.fields #[.ref l,.int 0 0] }).get? s.heap.objs.size=some { cls:=.type "set",dict:=none,data:=.set #[] 0 (.fresh 0 0 bt) }:=AH _ g0;have S4:∀x∈lts,x.1<s.heap.objs.size:=λx hx=>let ⟨_,_,_,ho,_⟩:=ky x hx;AN ho;refine qZ (A0) W out (by simp[Around.in1];omega) hits few nn nd (λx hx=>⟨A4 (S4 x hx),by rw[Bz];exact A4 (B5 (S4 x hx))⟩) (FC.length-0) 0 _ _ #[] 0 (.fresh 0 0 bt) rfl (Bi _)
     ⟨⟨_,AU _ rfl,rfl,rfl⟩,Jd.push _⟩ g1 (rD LF.symm) (λx hx=>(ky x hx).stay λob e=>AH _ (AH _ e)) λh' tk o' es' FX t' kp c1 c2=>?_
    show wpAny _ _ _ _ _ _;refine AI ?_;show wpAny _ _ (ret Value.none) _ _ _;refine AI ⟨rfl,h',tk,o',es',FX,t',rfl,λb ob e=>kp b ob (A4 (AN e)) ?_ (AH _ (AH _ e)),c1,c2⟩;rw[Bz];exact A4 (B5 (AN e))
   .cases r₂ with
    | error e=>exact Lo
    | ok Rr =>
     cases Rr with
     | ret r =>
      obtain⟨rfl,h',tk,o',es',FX,t',rfl,kp,c1,c2⟩:=Lo
      repeat (any_goals (first|assumption|wp_step))
      exact h h' tk o' es' FX t' kp c1 c2
     | _=>exact Lo.elim
  | _=>exact hr.elim
end
theorem ce.any {w:World}{o:Obj}{n:Nat}{Hw:List Addr}{es:Array (Int×zz9)}{ep:Nat}{t:SetTable} (x:ce w o n Hw es ep t):cI w o n es ep t :=
 ⟨x.cls,x.dat,x.sz,by have:=x.msk;omega,x.fit,x.led,by rw[x.sz];exact x.pla⟩
end L2
namespace L2
open PySem PySem.Spec PyProof.Rows PySem.W PySem.Calls
def dw (w:World) (a:Addr) (lts:List (Addr×List Str)):HO:=.ext λh=>∃o es ep t,h.get? a=some o/\ce w o lts.length (lts.map (·.1)).reverse es ep t
theorem wB {P:Program}{w:World}{H:Hp}{h:Heap}{a:Addr}{lts:List (Addr×List Str)}{o:Obj}{es:Array (Int×zz9)}{ep:Nat}{t:SetTable} (ho:h.get? a=some o) (x:ce w o lts.length (lts.map (·.1)).reverse es ep t):aD P w H h a (dw w a lts):=
 ⟨⟨o,es,ep,t,ho,x⟩,⟨o,ho⟩,λh1 h2 ⟨o,es,ep,t,q,y⟩ k=>⟨o,es,ep,t,k o q,y⟩⟩
theorem rT (bs:List Bool):((List.range bs.length).any λi=>(bs[i]?).getD false)=bs.any id:=by
 rw[CI,Ef,Ef];constructor
 .rintro⟨i,hi,h⟩
  have hi:=BO.mp hi;rw[AJ hi]at h;exact⟨bs[i],Bk hi,by simpa using h⟩
 .rintro⟨b,hb,h⟩
  obtain⟨i,hi,e⟩:=Er.mp hb;exact⟨i,BO.mpr hi,by rw[AJ hi,e];simpa using h⟩
section
variable {X:Cx}
theorem uD (hc:X.calm=true):bh X (.builtin "any") (λxs H Q=>∃(p:Addr) (bs:List Bool),xs=[.ref p]/\FF X.K H p (bs.map V.bl)/\Q (.bl (bs.any id)) H):=by
 intro pins s σ H xs us Q I r h;obtain⟨p,bs,rfl,hq,q⟩:=h;obtain⟨u,rfl,rx⟩:=vals1 r;cases rx;obtain⟨FC,r',pl,hz⟩:=I.list hq;have FM:p<s.heap.objs.size:=by obtain⟨o,n,e,_⟩:=pl;exact AN e
 have FJ:=r'.length;rw[AG]at FJ;refine call_any_walk (Cn pl.isList ?_)
 refine⟨s.heap.objs.size,[s.heap.objs.size,p],[s.heap.objs.size],FC.toArray.size,_,_,λi=>(bs[i]?).getD false,rfl,DU (A:=X.A.in1) (I.ok.hd hc) _ p (A4 FM) FC.toArray,
  ⟨⟨_,AU _ rfl,rfl,rfl⟩,pl.isList.push _⟩,λi v s' Q' E' hP hQ=>?_,λh' tk hk=>?_⟩
 .have NQ:FC[i]?=some v:=by simpa using hP
  have hb:∃b,bs[i]?=some b/\v=Value.bool b:=by
   have hi:i<bs.length:=by rw[FJ];exact(A3.mp NQ).1
   have e1:(bs.map V.bl)[i]?=some (V.bl bs[i]):=by rw[AZ,AJ hi];rfl
   obtain⟨w',e2,GM⟩:=r'.get e1;rw[NQ]at e2;cases e2;exact⟨bs[i],AJ hi,GM⟩
  obtain⟨b,e,rfl⟩:=hb;simp only[e,Option.getD_some]at hQ;exact BU hQ
 .have e:((List.range FC.toArray.size).any λi=>(bs[i]?).getD false)=bs.any id:=by
   rw[A0,<- FJ];exact rT bs
  rw[e];refine⟨.bl (bs.any id),H,I.kept (t':=tk) λb x e=>hk b x (λhm=>?_) (AH _ e),rfl,q⟩;rw[AQ.mp hm]at e;exact Bt _ (AN e)
theorem rE (w:World) (hc:X.calm=true) (hu:X.A.units+64<cLine) (hw:X.w=w:=by rfl):bh X (.type "set") (λxs H Q=>∃(p:Addr) (lts:List (Addr×List Str)),xs=[.ref p]/\FF X.K H p (lts.map λx=>V.ref x.1)/\(∀x∈lts,H x.1=some (.tup (x.2.map V.str)))/\(lts.map (·.2)).Nodup/\lts.length<=18/\(∀x∈lts,x.2≠[]) /\
  ∀(a:Addr),H a=none->Q (.ref a) (upd H a (dw w a lts))):=by
 subst hw;intro pins s σ H xs us Q I r h;obtain⟨p,lts,rfl,hq,hl,nd,h6,FQ,q⟩:=h;obtain⟨u,rfl,rx⟩:=vals1 r;cases rx;obtain⟨FC,r',hp,hz⟩:=I.list hq;have ky:∀x∈lts,b9 X.prog X.w s.heap x.2 x.1:=λx hx=>by
  obtain⟨its',r2,⟨o,ho,c,n,d⟩,_⟩:=I.tuple (FE.of (hl x hx));exact⟨o,its'.toArray,n,ho,c,d,by simpa using items_str r2⟩
 refine qE (I.ok.hd hc) hp.isList (mf r') h6 FQ nd hu ky λh' tk o' es' FX t' kp ho x=>?_;exact⟨.ref s.heap.objs.size,_,I.laid (h':=h') (t':=tk) (o:=dw X.w s.heap.objs.size lts) kp (AY _) (wB ho x),rfl,q _ (I.hok.fresh (AY _))⟩
end
end L2
namespace CP
open PySem L2 PySem.Spec PyProof.Rows PySem.W PySem.Calls
abbrev bB (MK:List (Addr×List Str)):List V:=MK.map λx=>V.ref x.1
def iI (H:Hp) (lts:List (Addr×List Str)):Prop:=∀x∈lts,H x.1=some (.tup (x.2.map V.str))
theorem ox {prog:Program}{w:World}{A:Around}{s:zz8}{fin:Bool}{C:Bool->zz8->Prop}:∀{us vs:List zz9}{ss ts:List Str} (i:Nat),StrsAre us ss->StrsAre vs ts->C (cx fin ss ts) s->KatLex prog w A true fin C (us.zip vs) i s
 | _,_,_,_,i,.nil,_,h=>by
  rw[E8];simp only[cx]at h;exact kat_nil h
 | _,_,_,_,i,.cons x t hs,.nil,h=>by
  rw[EL];simp only[cx]at h;exact kat_nil h
 | _,_,_,_,i,.cons x t hs,.cons y u ht,h=>by
  rw[EM];refine kat_cons (wpAny_eqBool_str ?_)
  by_cases e:x=y
  .subst e
   rw[decide_eq_true rfl];simp only[cx,if_pos]at h;exact kat_yes (ox (i+1) hs ht h)
  .rw [decide_eq_false e]
   simp only[cx,if_neg e]at h;refine kat_no ?_;cases i with
   | zero =>
    show wpAny _ A (oneLt' true _ _) C _ s;exact strKind_oneLt prog w A _ s _ _ _ _ rfl rfl h
   | succ i =>
    show wpAny _ A (oneLt' false _ _) C _ s;exact kat_one _ _ (PySem.P.lt_str (show PySem.W.BoolBack C (Value.bool (decide (x.cps.toList<y.cps.toList))) s from h))
theorem mF {P:Program}{w:World}{H:Hp}{h:Heap} (ok:F0 P w H h) {lts:List (Addr×List Str)} (hL:iI H lts) {us:List zz9} (r:ar (bB lts) us) (i:Nat) (hi:i<us.length) :
  ∃a o FC n,us.getD i Value.none=.ref a/\h.get? a=some o/\o.cls=.type "tuple"/\o.data=.seq FC.toArray n/\StrsAre FC ((lts.map (·.2)).getD i [])/\∃x∈lts,x.2=(lts.map (·.2)).getD i []:=by
 have hl:=r.length;rw[AG]at hl;have Gv:i<lts.length:=by omega
 have e1:(bB lts)[i]?=some (V.ref lts[i].1):=by rw[AZ,AJ Gv];rfl
 obtain⟨u,e2,ru⟩:=r.get e1;cases ru;have em:(lts.map (·.2)).getD i []=lts[i].2:=by rw[Bf,AZ,AJ Gv];rfl
 obtain⟨_,FC,rv,o,ho,hc,n,hd⟩:=(show aD P w H h lts[i].1 (.tup (lts[i].2.map V.str)) from ok _ _ (hL lts[i] (Bk Gv)))
 exact⟨lts[i].1,o,FC,n,by rw[Bf,e2];rfl,ho,hc,hd,by rw[em];exact fX rv,lts[i],Bk Gv,em.symm⟩
theorem oZ {P:Program}{w:World}{H:Hp}{h:Heap} (ok:F0 P w H h):∀{lts:List (Addr×List Str)}{us:List zz9},iI H lts->(∀x∈lts,x.2≠[])->ar (bB lts) us->∃fs ss,KatTups h us fs/\StrsAre fs ss
 | [],_,_,_,.nil=>⟨[],[],.nil,.nil⟩
 | x::t,_,hL,hn,.cons rx rt=>by
  obtain⟨fs,ss,k,q⟩:=oZ ok (lts:=t) (λy hy=>hL y (AR _ hy)) (λy hy=>hn y (AR _ hy)) rt;cases rx;obtain⟨_,FC,rv,o,ho,hc,n,hd⟩:=(show aD P w H h x.1 (.tup (x.2.map V.str)) from ok _ _ (hL x AK))
  have FQ:=hn x AK;cases hx:x.2 with
  | nil=>exact absurd hx FQ
  | cons y r =>
   rw[hx]at rv;cases rv with
   | @cons _ f _ its' rf _ =>
    obtain⟨tk,rfl⟩:=rf;exact⟨_,_,KatTups.cons ho hc hd (by simp) k,.cons y tk q⟩
theorem mz {h:Heap}:∀{us fs:List zz9},KatTups h us fs->us.length=fs.length
 | [],[],_=>rfl
 | _::_,_::_,⟨_,r⟩=>by rw[Bd,Bd,mz r]
 | [],_::_,z=>z.elim
 | _::_,[],z=>z.elim
theorem kX:∀{lts:List (Addr×List Str)},ar (bB lts) (lts.map λx=>Value.ref x.1)
 | []=>.nil
 | x::t=>.cons rfl kX
theorem Am (w:World) {X:Cx} (hc:X.calm=true) (hw:X.w=w:=by rfl):bh X (.builtin "sorted") (λxs H Q=>∃(a:Addr) (lts:List (Addr×List Str)),xs=[.ref a]/\H a=some (dw w a lts)/\iI H lts/\(lts.map (·.2)).Nodup/\(∀x∈lts,x.2≠[]) /\
  ∀(F9:List (Addr×List Str)) (q:Addr),F9.Perm lts->(F9.map (·.2)).Pairwise (λa b=>bv a b=true)->H q=none->Q (.ref q) (upd H q (.lst (bB F9)))):=by
 subst hw;intro pins s σ H xs us Q I r h;obtain⟨a,Lg,rfl,ha,X0,QD,QB,q⟩:=h;obtain⟨u,rfl,rx⟩:=vals1 r;cases rx;obtain⟨⟨o,es,ep,t,ho,x⟩,_,_⟩:=I.hok a _ ha;have X5:Lg.length<=18:=by have:=x.msk;omega
 refine call_function_entry kind_sorted plain_sorted entry_sorted (args_sorted1 _) ?_;unfold Builtin.«sorted»;refine AF (m:=checkCount "sorted" 1 1 _) (AI ?_);refine AF (ku (A:=X.A.in1) (I.ok.hd hc) ho x.any λs1 FH z1 z2 kp hS=>?_);have Xc:FH.Perm (Lg.map λx=>Value.ref x.1):=by
  refine hS.trans (x.all.trans ?_);rw[List.map_reverse,A6];exact List.reverse_perm _
 have hex:∃lts:List (Addr×List Str),lts.Perm Lg/\FH=lts.map λx=>Value.ref x.1:=lT _ Xc;obtain⟨lts,Ga,Ib⟩:=hex;have hL:iI H lts:=λy hy=>X0 y (Ga.mem_iff.mp hy);have Gf:(lts.map (·.2)).Nodup:=(Ga.map _).nodup_iff.mpr QD;have FQ:∀y∈lts,y.2≠[]:=λy hy=>QB y (Ga.mem_iff.mp hy);have Hv:FH.length=lts.length:=by rw[Ib,AG]
 have Jw:lts.length<=18:=by rw[Ga.length_eq];exact X5
 have r':ar (bB lts) FH:=by rw[Ib];exact kX
 have O:Ord FH.length (λi j=>bv ((lts.map (·.2)).getD i []) ((lts.map (·.2)).getD j [])):=by
  refine⟨λi j k h1 h2=>oK _ _ _ h1 h2,λi=>jz _,λi j hi hj Gp=>jq _ _ ?_⟩;have GD:i<(lts.map (·.2)).length:=by simpa[<- Hv]using hi
  have GG:j<(lts.map (·.2)).length:=by simpa[<- Hv]using hj
  rw[Bf,Bf,AJ GD,AJ GG];show(lts.map (·.2))[i]≠(lts.map (·.2))[j]
  rcases C0 Gp with y|y
  .exact A5.mp Gf i j GD GG y
  .exact λz=>A5.mp Gf j i GG GD y z.symm
 refine AF (Ea ?_ (by rw[Hv,Bw];omega));have Jc:(s1.heap.push (seqObj "list" FH.toArray 0)).get? s1.heap.objs.size=some (seqObj "list" FH.toArray 0):=AU _ rfl;have Ij:∀b o,s.heap.get? b=some o->b≠s1.heap.objs.size/\(s1.heap.push (seqObj "list" FH.toArray 0)).get? b=some o:=λb ob e =>
  ⟨A4 (AN (kp b ob e)),AH _ (kp b ob e)⟩
 show wpAny _ _ _ _ _ { s1 with heap:=s1.heap.push (seqObj "list" FH.toArray 0) };refine AF (Bo (BH slot_list_sort ⟨_,Jc,rfl⟩ entry_list_sort (kO (s:={ s1 with heap:=s1.heap.push (seqObj "list" FH.toArray 0) }) Jc (by omega) O (λh2 s' GB=>?_) λpm hp ha2=>⟨_,rfl,?_⟩) (args_list_sort _)))
 .have ok:=I.hok.kept (h':=s'.heap) λb ob e=>GB b ob (Ij b ob e).1 (Ij b ob e).2
  obtain⟨fs,ss,t,hS⟩:=oZ ok hL FQ r';have Ia:0<fs.length:=by
   have e1:=mz t;omega
  refine⟨tuples' (Value.type "str" != Value.type "tuple"),λQ q=>kat_kind (T:=Value.type "str") t Ia (λv hv=>?_) (by decide) q,λi j C hi hj Gp q=>?_⟩
  .obtain⟨x,u,rfl⟩:=hS.all v hv
   exact Looks.now
  .obtain⟨a,o1,i1,n1,a1,a2,a3,a4,a5,_⟩:=mF ok hL r' i hi
   obtain⟨b,o2,i2,n2,b1,b2,b3,b4,b5,_⟩:=mF ok hL r' j hj;unfold kas_ask;rw[a1,b1];refine kat_lt a2 a4 b2 b4 ?_;show KatLex _ _ _ true (decide (i1.toArray.size<i2.toArray.size)) C (i1.zip i2) 0 s';refine ox 0 a5 b5 ?_;rw[A0,A0,a5.length,b5.length,jv];exact q
 .refine AI ⟨_,rfl,?_⟩
  obtain⟨e,he⟩:=sortedHeap_at (h:=s1.heap.push (seqObj "list" FH.toArray 0)) (out:=(cv FH pm).toArray) Jc;have FY:Pm lts.length pm:=by rw[<- Hv];exact hp
  have FM:∀i∈pm.toList,i<lts.length:=λi hi=>by
   have:i∈(List.toArray (List.range lts.length)):=FY.mem_iff.mp (by simpa using hi);simpa using this
  have hv:ar ((pm.toList.map λi=>(bB lts).getD i .non)) (cv FH pm):=gJ r' λi hi=>by simpa using FM i hi
  have NF:(pm.toList.map λi=>(bB lts).getD i .non)=bB (pm.toList.map λi=>lts.getD i (0,[])):=by
   unfold bB;rw[A6];exact CM λi hi=>by simp[FM i hi]
  rw[NF]at hv;have Jt:=i5 ((0,[]):Addr×List Str) lts FY;have HD:s.heap.get? s1.heap.objs.size=none:=by
   cases e0:s.heap.get? s1.heap.objs.size with
   | none=>rfl
   | some o=>exact absurd (AN (kp _ _ e0)) (Bt _)
  have hold:∀b o,s.heap.get? b=some o->(sortedHeap (s1.heap.push (seqObj "list" FH.toArray 0)) s1.heap.objs.size FH (cv FH pm).toArray).get? b=some o:=λb o eb=>by
   have l1:=AN (kp b o eb);rw[sortedHeap_old (A4 l1) (by rw[size_push'];exact B5 l1)];exact AH _ (kp b o eb)
  have IS:H s1.heap.objs.size=none:=I.hok.freeN HD;have I2:=I.laidN (h':=sortedHeap (s1.heap.push (seqObj "list" FH.toArray 0)) s1.heap.objs.size FH (cv FH pm).toArray) (t':=s1.toks) (o:=.lst (bB (pm.toList.map λi=>lts.getD i (0,[])))) hold HD ⟨(by rw[AG,Jt.length_eq,Bw];omega),cv FH pm,e,hv,(by exact he)⟩;refine⟨.ref s1.heap.objs.size,_,I2.draw z1 z2 rfl,rfl,q _ _ (Jt.trans Ga) ?_ IS⟩;rw[A6,B6];refine A5.mpr λi j hi hj Gp=>?_;have GF:=hp.size;have Gv:i<pm.size:=by simpa using hi
  have KC:j<pm.size:=by simpa using hj
  have z:=ha2 i j Gp (by omega);rw[eo Gv,eo KC]at z;have b1:=FM pm.toList[i] (Bk _);have b2:=FM pm.toList[j] (Bk _);simp only[Eu]at b1 b2 ⊢;simpa[b1,b2]using z
end CP
namespace K52
open PySem L2
variable {P:Program}{w:World}{K:zz7}{mg:Str->Option zz9}{base:Heap}{f:Addr}{fd:FuncData}
structure Ux (ps:List Str) (root:Str) (x:List Str×Int):Prop where
 sl:x.1.Sublist ps
 ne:x.1≠[]
 nr:root∉x.1
 pos:0<x.2\/(x.2<0/\x.1.length=1)
def mZ:Sp:=λvs H Q _=>∃(v pa ra a l:Addr) (ps:List Str) (rs:List T) (root:Str) (ls:List Str) (z:Int),vs=[.ref v,.str root,.ref a]/\bx H v pa ra ps rs/\ps.Pairwise Gb/\(∀x∈ps,aK x)/\ps.length<=40/\H a=some (.tup [.ref l,.int z])/\H l=some (.tup (ls.map V.str))/\Ux ps root (ls,z) /\
 ∀H':Hp,aj H H'->Q (.bl true) H'
abbrev zw:List Str:=["_law_web_here","_law_root","_law_thing","_law_lot","_law_price"]
theorem jU:aM zw ["_law_web_here","_law_root","_law_thing"] (aE (top 44)):=⟨rfl,rfl,rfl,by decide +kernel,rfl,by decide +kernel,by decide +kernel⟩
theorem vj (F:FS K "_law_is_price" "_law_is_price" (top 44) f fd) (B:Bl mg):aF P w K mg base FT 1 f fd ["_law_web_here","_law_root","_law_thing"] mZ:=by
 refine F.ok jU (λvs H Q E h=>?_) (λ_ _ _ _ H vs Q E hr h=>?_)
 .obtain⟨v,pa,ra,a,l,ps,rs,root,ls,z,rfl,_⟩:=h
  rfl
 .obtain⟨v,pa,ra,a,l,ps,rs,root,ls,z,rfl,W,so,nm,hz,ha,hl,G,k⟩:=h
  refine⟨_,am (aV (PW.pt (bG (bu (bg (au (bV (T:="tuple")) rfl B.isinstance bO (aa (pv 2) (aa (bS (v:=.ty "tuple") rfl B.tuple bL rfl) ae)))))
    (bG (aI bT (au aX rfl B.len Bb (aa (pv 2) ae)) ai (aH _))
    (bG (bu (bg (au (bV (T:="tuple")) rfl B.isinstance bO (aa (ax aC (pv 2) ai (λ_ _=>rfl)) (aa (bS (v:=.ty "tuple") rfl B.tuple bL rfl) ae)))))
    (cf (aI (jF hr) (ax aC (pv 2) ai (λ_ _=>rfl)) (cJ ae) (aH _))))))) bP aU)
   (am (eM (pv 2) (dI rfl (n:=2) (ba (aY (i:=3) jU.nd rfl (Or.inl rfl)) (ba (aY (i:=4) jU.nd rfl (Or.inl rfl)) cH))))
   (am (aV (bu (bg (au (dC rfl) rfl B.all dM (aa (bo (N:=["_law_place","_law_web_here","_law_root"]) (ix:=[none,some 0,some 1]) ⟨rfl,rfl,rfl,by decide⟩ rfl (bj (pv 3)) (λ_ _ _ _=>aL 0 (by decide) rfl rfl) (λ_ _ _ _=>bq)
     (λ_ _ _ _=>b8 (au (kB K (T:="str")) rfl B.isinstance bO (aa (pv 0) (aa (bS (v:=.ty "str") rfl B.str iF rfl) ae)))
      (b8 (bN (ic K) (pv 0) (ax (b6 K) (pv 1) ai (λ_ _=>rfl)) (by with_unfolding_all rfl)) (cq (bN bT (pv 0) (pv 2) (aH _)))))) ae)))) bP aU)
   (am (aV (PW.pt (bG (aI (gm hr) (bQ iN rfl B.list ir (aa (pv 3) ae)) (au (iL w rfl) rfl B.sorted dE (aa (bQ (iS w rfl) rfl B.set iC (aa (pv 3) ae)) ae)) (aH _))
     (bG (bg (au (bV (T:="bool")) rfl B.isinstance bO (aa (pv 4) (aa (bS (v:=.ty "bool") rfl B.bool oU rfl) ae))))
     (cf (bu (bg (au (bV (T:="int")) rfl B.isinstance bO (aa (pv 4) (aa (bS (v:=.ty "int") rfl B.int jP rfl) ae))))))))) bP aU)
   (aw (aJ (yT (bN fR (pv 4) ai (aH _)) (cq (b8 (bN eQ (pv 4) ai (aH _)) (cq (bN ef (au aX rfl B.len Bb (aa (pv 3) ae)) ai (aH _))))))))))),?_⟩
  have J0:∀x∈ls,aK x:=λx hx=>nm x (G.sl.subset hx);have LU:ls.Pairwise Gb:=so.sublist G.sl;have Jw:ls.length<=40:=Be G.sl.length_le hz;refine⟨_,rfl,_,_,true,rfl,.tup ha,rfl,true,rfl,aG ⟨_,rfl,a,_,rfl,.inr (FE.of ha),rfl,_,rfl,aG ?_⟩⟩;refine⟨_,rfl,ay (j:=0) (.inr (FE.of ha)) rfl rfl ⟨_,_,true,rfl,.tup hl,rfl,true,rfl,aG ?_⟩⟩;refine⟨_,rfl,ay (j:=0) (.inr (FE.of ha)) rfl rfl ⟨by show 0<=sizeLine;decide,λe he=>?_⟩⟩;have s1:=av (o:=.tup []) (aj.refl H) he;have e1:upd H e (.tup []) e=some (.tup []):=ak;generalize upd H e (.tup [])=H1 at s1 e1 ⊢;have l1:=s1 _ _ hl;have a1:=s1 _ _ ha;refine⟨.tuple (ls.map PyData.str),.tuple [],.tup l1 (Gq.strs ls),.tup e1 .nil,(cT J0).2,(cT (ss:=[]) (by simp)).2,_,rfl,?_⟩;have ev:PyData.eqv (.tuple (ls.map PyData.str)) (.tuple [])=decide (ls=[]):=eV ls [];rw[ev,decide_eq_false G.ne];refine aG ?_;refine⟨_,rfl,a,_,rfl,FE.of a1,rfl,_,_,rfl,_,_,rfl,rfl,?_⟩;have W1:=W.same s1
  refine⟨_,rfl,l,rfl,⟨_,FE.of l1⟩,cG (xs:=ls.map V.str) (fits (by simp;omega)) (λi ys σ H2=>ys=List.replicate i (.bl true)/\H2=H1/\∃x,σ=[x,some (.ref v),some (.str root)]) ⟨rfl,rfl,_,rfl⟩
   (λi ys σ H2 _ q=>⟨by rw[q.1];simp,by rw[q.2.1];exact FE.of l1⟩) ?_ ?_⟩
  .rintro i x ys σ H2 hx ⟨rfl,rfl,g,rfl⟩
   obtain⟨y,hy,rfl⟩:=eL hx;have Kw:=AW hy;have e2:Hc (.str y) (ps.map V.str)=true:=by rw[bM];exact decide_eq_true (G.sl.subset Kw)
   refine⟨_,rfl,_,_,true,rfl,.str y,rfl,true,rfl,be ⟨_,rfl,_,rfl,ay (j:=0) (.inr (FE.of W1.tp)) rfl rfl ⟨pa,ps.map V.str,rfl,.inr (FE.of W1.pl),rfl,bK ps,?_⟩⟩⟩;refine⟨Hc (.str y) (ps.map V.str),rfl,?_⟩;rw[e2];refine be ⟨_,rfl,_,rfl,rfl,?_⟩;have Ll:y≠root:=λz=>G.nr (z ▸ Kw);refine⟨?_,rfl,_,rfl⟩;rw[decide_eq_false (λz=>Ll (V.str.inj z)),B8];rfl
  rintro ys σ H2 ⟨rfl,rfl,g,rfl⟩ q3 HM;have s4:=av (o:=.lst (List.replicate (ls.map V.str).length (.bl true))) s1 HM;refine⟨q3,List.replicate _ true,rfl,FF.of (by rw[ak,Cd]),_,rfl,?_⟩;have Ig:∀n:Nat,(List.replicate n true).all id=true:=by simp
  rw[Ig];refine aG ?_;have l4:upd H2 q3 (.lst (List.replicate (ls.map V.str).length (.bl true))) l=some (.tup (ls.map V.str)):=by rw[ag (aq l1 HM)];exact l1
  generalize upd H2 q3 (.lst (List.replicate (ls.map V.str).length (.bl true)))=H4 at s4 l4 ⊢;refine⟨_,rfl,l,_,rfl,.inr (FE.of l4),λc hc=>?_⟩;have s5:=av (o:=.lst (ls.map V.str)) s4 hc;have c5:upd H4 c (.lst (ls.map V.str)) c=some (.lst (ls.map V.str)):=ak;have l5:upd H4 c (.lst (ls.map V.str)) l=some (.tup (ls.map V.str)):=by rw[ag (aq l4 hc)];exact l4
  generalize upd H4 c (.lst (ls.map V.str))=H5 at s5 c5 l5 ⊢;refine⟨_,rfl,l,ls,rfl,FE.of l5,by omega,λst GW=>?_⟩;have Jm:=iW ls.reverse;have GQ:∀x,x∈aW ls.reverse ↔ x∈ls:=λx=>by rw[jc,Eg]
  have Jn:(aW ls.reverse).length<=40:=by
   have:=cV Jm (m:=ls) λx hx=>(GQ x).mp hx;omega
  generalize aW ls.reverse=mt at Jm GQ Jn ⊢;have s6:=av (o:=bF w st mt) s5 GW;have c6:upd H5 st (bF w st mt) c=some (.lst (ls.map V.str)):=by rw[ag (aq c5 GW)];exact c5
  have l6:upd H5 st (bF w st mt) l=some (.tup (ls.map V.str)):=by rw[ag (aq l5 GW)];exact l5
  refine⟨st,mt,rfl,ak,by omega,λG7 q7 FY GX IH=>?_⟩;have Pb:G7.Pairwise Gb:=dW GX (FY.nodup_iff.mpr Jm);have JM:ls=G7:=fc LU Pb λx=>by rw[FY.mem_iff,GQ]
  subst JM;have s7:=av (o:=.lst (ls.map V.str)) s6 IH;have c7:upd (upd H5 st (bF w st mt)) q7 (.lst (ls.map V.str)) c=some (.lst (ls.map V.str)):=by rw[ag (aq c6 IH)];exact c6
  have l7:upd (upd H5 st (bF w st mt)) q7 (.lst (ls.map V.str)) l=some (.tup (ls.map V.str)):=by rw[ag (aq l6 IH)];exact l6
  have Jh:upd (upd H5 st (bF w st mt)) q7 (.lst (ls.map V.str)) q7=some (.lst (ls.map V.str)):=ak;generalize upd (upd H5 st (bF w st mt)) q7 (.lst (ls.map V.str))=H7 at s7 c7 l7 Jh ⊢;refine⟨.list (ls.map PyData.str),.list (ls.map PyData.str),.lst c7 (Gq.strs ls),.lst Jh (Gq.strs ls),(cT J0).1,(cT J0).1,_,rfl,?_⟩;have Rv:PyData.eqv (.list (ls.map PyData.str)) (.list (ls.map PyData.str))=decide (ls=ls):=eV ls ls;rw[Rv,decide_eq_true rfl];refine aG ⟨_,rfl,_,_,false,rfl,.int z,rfl,false,rfl,aG ⟨_,rfl,_,_,true,rfl,.int z,rfl,true,rfl,aG ?_⟩⟩;refine⟨_,rfl,_,_,rfl,rfl,_,rfl,?_⟩
  rcases G.pos with hp|⟨hn,h1⟩
  .rw [decide_eq_true (show z>0 from hp)]
   exact be (k H7 s7)
  .have h1:ls.length=1:=h1
   have hn:z<0:=hn;rw[decide_eq_false (show¬ z>0 by omega)];refine aG ⟨_,rfl,_,_,rfl,rfl,_,rfl,?_⟩;rw[decide_eq_true hn];refine be ⟨_,rfl,l,_,rfl,.inr (FE.of l7),rfl,?_⟩;rw[AG,h1];exact k H7 s7
abbrev di (ts:List Str):PyData:=.tuple (ts.map PyData.str)
abbrev KY (tl:List (List Str)):PyData:=.list (tl.map di)
theorem jV {H:Hp}:∀{MK:List (Addr×List Str)},CP.iI H MK->Gq H (CP.bB MK) ((MK.map (·.2)).map di)
 | [],_=>.nil
 | r::t,h=>.cons (.tup (h r AK) (Gq.strs _)) (jV λx hx=>h x (AR _ hx))
theorem nh:∀{tl:List (List Str)},(∀ts∈tl,∀y∈ts,aK y)->PyData.canLayAll0 (tl.map di)=true/\PyData.depthAll (tl.map di)<=1
 | [],_=>⟨rfl,Bi _⟩
 | ts::t,h=>by
  have ih:=nh (tl:=t) λx hx=>h x (AR _ hx);have q:=fF (h ts AK);rw[A8];have i2:=ih.2;simp only[PyData.canLayAll0,PyData.canLay0,PyData.depthAll,PyData.depth,q.1,q.2,ih.1];exact⟨rfl,by omega⟩
theorem Vf {tl:List (List Str)} (h:∀ts∈tl,∀y∈ts,aK y):SeqAt.shaped (KY tl)=true/\(KY tl).canLay0=true:=by
 have q:=nh h;have i2:=q.2;have hc:(KY tl).canLay0=true:=by simp only[KY,PyData.canLay0,q.1]
 have hd:(KY tl).depth<=2:=by simp only[KY,PyData.depth];omega
 refine⟨?_,hc⟩;unfold SeqAt.shaped;rw[hc,decide_eq_true (by omega)];rfl
theorem vN {A B:List Str} (ha:A.Nodup) (hb:B.Nodup) (h:(∀x∈A,x∈B)\/(∀x∈B,x∈A)\/∀x∈A,x∉B):¬ (0<(A.filter λx=>decide (x∈B)).length/\(A.filter λx=>decide (x∈B)).length<(if B.length<A.length then B.length else A.length)):=by
 rintro⟨h1,h2⟩
 rcases h with c|c|c
 .have:A.filter (λx=>decide (x∈B))=A:=ED.mpr λx hx=>decide_eq_true (c x hx)
  rw[this]at h2;split at h2<;>omega
 .have:=cV hb (m:=A.filter λx=>decide (x∈B)) λx hx=>AS.mpr ⟨c x hx,decide_eq_true hx⟩
  split at h2<;>omega
 .have:A.filter (λx=>decide (x∈B))=[]:=CW.mpr λx hx=>by simpa using c x hx
  rw[this]at h1;simp at h1
structure Uw (ps:List Str) (root:Str) (Qs:List (List Str×Int)):Prop where
 ok:∀x∈Qs,Ux ps root x
 lam:CP.Lam (Qs.map (·.1))
 so:(Qs.map (·.1)).Pairwise (λa b=>CP.bv a b=true)
 few:Qs.length<=16
theorem cK.pr {ps:List Str}{root:Str}{rs:List T}{cost:Str->Int}{tr:List T}{Qs:List (List Str×Int)} (h:cK ps root rs cost tr Qs):Uw ps root Qs :=
 ⟨λx hx=>⟨h.sl x hx,h.ne x hx,h.nr x hx,h.pos x hx⟩,h.lam,h.so,h.few⟩
def mQ:Sp:=λvs H Q _=>∃(v pa ra a:Addr) (ps:List Str) (rs:List T) (root:Str) (prs:List CP.Pr),vs=[.ref v,.str root,.ref a]/\bx H v pa ra ps rs/\ps.Pairwise Gb/\(∀x∈ps,aK x)/\ps.length<=40/\H a=some (.tup (CP.dN prs))/\CP.ka H prs/\Uw ps root (prs.map λx=>x.2.2) /\
 ∀H':Hp,aj H H'->Q (.bl true) H'
abbrev zz:List Str:=["_law_web_here","_law_root","_law_prices","_law_lots","_law_one","_law_other"]
theorem iE:aM zz ["_law_web_here","_law_root","_law_prices"] (aE (top 46)):=⟨rfl,rfl,rfl,by decide +kernel,rfl,by decide +kernel,by decide +kernel⟩
theorem gi {prs:List CP.Pr}{i:Nat}{x:V} (h:(CP.dN prs)[i]?=some x):∃r,prs[i]?=some r/\x=.ref r.1:=by
 unfold CP.dN at h;rw[AZ]at h;cases e:prs[i]? with
 | none=>rw[e]at h;cases h
 | some r=>rw[e]at h;exact⟨r,rfl,(Bx h).symm⟩
theorem uv (F:FS K "_law_are_prices" "_law_are_prices" (top 46) f fd) (B:Bl mg) (F1:Fn P w K mg base 1 "_law_is_price" ["_law_web_here","_law_root","_law_thing"] mZ):aF P w K mg base FT 2 f fd ["_law_web_here","_law_root","_law_prices"] mQ:=by
 refine F.ok iE (λvs H Q E h=>?_) (λ_ _ _ _ H vs Q E hr h=>?_)
 .obtain⟨v,pa,ra,a,ps,rs,root,prs,rfl,_⟩:=h
  rfl
 .obtain⟨v,pa,ra,a,ps,rs,root,prs,rfl,W,so,nm,hz,ha,GU,G,k⟩:=h
  refine⟨_,am (aV (PW.pt (bG (bu (bg (au (bV (T:="tuple")) rfl B.isinstance bO (aa (pv 2) (aa (bS (v:=.ty "tuple") rfl B.tuple bL rfl) ae)))))
    (cf (bu (bg (au (dC rfl) rfl B.all dM (aa (bo (N:=["_law_pair","_law_web_here","_law_root"]) (ix:=[none,some 0,some 1]) ⟨rfl,rfl,rfl,by decide⟩ rfl (bj (pv 2)) (λ_ _ _ _=>aL 0 (by decide) rfl rfl) (λ_ _ _ _=>bq)
     (λ_ _ _ _=>aB F1 hr (aa (pv 1) (aa (pv 2) (aa (pv 0) ae))))) ae))))))) bP aU)
   (am (dX (i:=3) (N:=["_law_pair"]) (ix:=[none]) iE.nd rfl (Or.inl rfl) ⟨rfl,rfl,rfl,by decide⟩ rfl (bj (pv 2)) (λ_ _ _ _=>aL 0 (by decide) rfl rfl) (λ_ _ _ _=>bq) (λ_ _ _ _=>ax (b6 K) (pv 0) ai (λ_ _=>rfl)))
   (am (aV (aI (gm hr) (pv 3) (au (CP.Am w rfl) rfl B.sorted dE (aa (bQ (rE w rfl hr.units) rfl B.set iC (aa (pv 3) ae)) ae)) (aH _)) bP aU)
   (am (cj BC rfl (cn (pv 3)) (aY (i:=4) iE.nd rfl (Or.inl rfl))
    (aw (cj BC rfl (cn (pv 3)) (aY (i:=5) iE.nd rfl (Or.inr rfl))
     (aw (aV (mL eQ eQ ai (au aX rfl B.len Bb (aa (bo (N:=["_law_place","_law_other"]) (ix:=[none,some 5]) ⟨rfl,rfl,rfl,by decide⟩ rfl (bj (pv 4)) (λ_ _ _ _=>aL 0 (by decide) rfl rfl)
       (λ_ _ _ _=>cQ (aI (ic K) (pv 0) (pv 1) (by with_unfolding_all rfl))) (λ_ _ _ _=>pv 0)) ae))
      (au (lK rfl) rfl B.min jT (aa (au aX rfl B.len Bb (aa (pv 4) ae)) (aa (au aX rfl B.len Bb (aa (pv 5) ae)) ae)))) bP aU)))))
   (aw (aJ cY))))),?_⟩
  have Ga:prs.length<=16:=by have:=G.few;simpa using this
  refine⟨_,rfl,_,_,true,rfl,.tup ha,rfl,true,rfl,aG ?_⟩
  refine⟨_,rfl,a,rfl,⟨_,FE.of ha⟩,cG (xs:=CP.dN prs) (fits (by simp;omega)) (λi ys σ H2=>ys=List.replicate i (.bl true)/\aj H H2/\∃x,σ=[x,some (.ref v),some (.str root)]) ⟨rfl,aj.refl _,_,rfl⟩
   (λi ys σ H2 _ q=>⟨by rw[q.1];simp,FE.of (q.2.1 _ _ ha)⟩) ?_ ?_⟩
  .rintro i x ys σ H2 hx ⟨rfl,s2,g,rfl⟩
   obtain⟨r,FW,rfl⟩:=gi hx;have Io:=AW FW;refine⟨_,rfl,_,rfl,_,rfl,v,pa,ra,r.1,r.2.1,ps,rs,root,r.2.2.1,r.2.2.2,rfl,W.same s2,so,nm,hz,s2 _ _ (GU r Io).1,s2 _ _ (GU r Io).2,G.ok r.2.2 (AM Io),λH3 s3=>⟨?_,s2.trans s3,_,rfl⟩⟩;rw[B8]
  rintro ys σ H2 ⟨rfl,s2,g,rfl⟩ q3 HM;have s3:=av (o:=.lst (List.replicate (CP.dN prs).length (.bl true))) s2 HM;refine⟨q3,List.replicate _ true,rfl,FF.of (by rw[ak,Cd]),_,rfl,?_⟩;have Ig:∀n:Nat,(List.replicate n true).all id=true:=by simp
  rw[Ig];refine aG ?_;generalize upd H2 q3 (.lst (List.replicate (CP.dN prs).length (.bl true)))=H3 at s3 ⊢;clear s2 HM;have RE:∀r∈prs,H3 r.1=some (.tup [.ref r.2.1,.int r.2.2.2])/\H3 r.2.1=some (.tup (r.2.2.1.map V.str)):=λr hr=>⟨s3 _ _ (GU r hr).1,s3 _ _ (GU r hr).2⟩
  have a3:=s3 _ _ ha
  refine⟨_,rfl,a,rfl,⟨_,FE.of a3⟩,cG (xs:=CP.dN prs) (fits (by simp;omega)) (λi ys σ H4=>ys=(prs.take i).map (λr=>V.ref r.2.1)/\H4=H3/\∃x,σ=[x]) ⟨rfl,rfl,_,rfl⟩
   (λi ys σ H4 _ q=>⟨by rw[q.1];simp;omega,by rw[q.2.1];exact FE.of a3⟩) ?_ ?_⟩
  .rintro i x ys σ H4 hx ⟨rfl,rfl,g,rfl⟩
   obtain⟨r,FW,rfl⟩:=gi hx;exact⟨_,rfl,ay (j:=0) (.inr (FE.of (RE r (AW FW)).1)) rfl rfl ⟨(fB _ _ _ _ FW).symm,rfl,_,rfl⟩⟩
  rintro ys σ H4 ⟨rfl,rfl,g,rfl⟩ lo Mc;rw[take_all prs (by simp)];obtain⟨lts,IM⟩:∃lts:List (Addr×List Str),lts=prs.map λr=>(r.2.1,r.2.2.1):=⟨_,rfl⟩
  have el:(prs.map λr=>V.ref r.2.1)=CP.bB lts:=by rw[IM,CP.bB,A6];rfl
  have e2:lts.map (·.2)=(prs.map λx=>x.2.2).map (·.1):=by rw[IM,A6,A6];rfl
  rw[el];have L4:CP.iI H4 lts:=λx hx=>by
   rw[IM]at hx;obtain⟨r,hr,rfl⟩:=AL.mp hx;exact(RE r hr).2
  have GX:=G.so;have Nv:=G.lam;have hok:∀x∈lts,x.2.Sublist ps/\x.2≠[]:=λx hx=>by
   rw[IM]at hx;obtain⟨r,hr,rfl⟩:=AL.mp hx;have:=G.ok r.2.2 (AM hr);exact⟨this.sl,this.ne⟩
  have Jw:lts.length<=16:=by rw[IM,AG];exact Ga
  rw[<- e2]at GX Nv;clear el e2 IM RE a3 GU ha G;have s5:=av (o:=.lst (CP.bB lts)) s3 Mc;have o5:upd H4 lo (.lst (CP.bB lts)) lo=some (.lst (CP.bB lts)):=ak;have L5:CP.iI (upd H4 lo (.lst (CP.bB lts))) lts:=λx hx=>by rw[ag (aq (L4 x hx) Mc)];exact L4 x hx
  generalize upd H4 lo (.lst (CP.bB lts))=H5 at s5 o5 L5 ⊢;have Gf:(lts.map (·.2)).Nodup:=GX.imp λh e=>by rw[e,CP.jz]at h;cases h
  have Qt:=bZ so;have J0:∀ts∈lts.map (·.2),∀y∈ts,aK y:=λts Hr y hy=>by
   obtain⟨x,hx,rfl⟩:=AL.mp Hr;exact nm y ((hok x hx).1.subset hy)
  refine⟨_,rfl,_,rfl,lo,lts,rfl,FF.of o5,L5,Gf,by omega,λx hx=>(hok x hx).2,λst GW=>?_⟩;have s6:=av (o:=dw w st lts) s5 GW;have o6:upd H5 st (dw w st lts) lo=some (.lst (CP.bB lts)):=by rw[ag (aq o5 GW)];exact o5
  have L6:CP.iI (upd H5 st (dw w st lts)) lts:=λx hx=>by rw[ag (aq (L5 x hx) GW)];exact L5 x hx
  refine⟨st,lts,rfl,ak,L6,Gf,λx hx=>(hok x hx).2,λF9 q7 FY Qf IH=>?_⟩
  have JM:F9=lts:=FY.eq_of_pairwise (le:=λa b=>CP.bv a.2 b.2=true) (λa b _ _ x y=>by
   have:=CP.oK _ _ _ x y
   rw[CP.jz]at this;cases this) (B6.mp Qf) (B6.mp GX)
  subst JM;have s7:=av (o:=.lst (CP.bB F9)) s6 IH;have o7:upd (upd H5 st (dw w st F9)) q7 (.lst (CP.bB F9)) lo=some (.lst (CP.bB F9)):=by rw[ag (aq o6 IH)];exact o6
  have Jh:upd (upd H5 st (dw w st F9)) q7 (.lst (CP.bB F9)) q7=some (.lst (CP.bB F9)):=ak;have L7:CP.iI (upd (upd H5 st (dw w st F9)) q7 (.lst (CP.bB F9))) F9:=λx hx=>by rw[ag (aq (L6 x hx) IH)];exact L6 x hx
  generalize upd (upd H5 st (dw w st F9)) q7 (.lst (CP.bB F9))=H7 at s7 o7 Jh L7 ⊢;obtain⟨D,hD⟩:∃D,D=KY (F9.map (·.2)):=⟨_,rfl⟩
  have sh:=Vf J0;have Ye:DV H7 (.ref lo) D:=by rw[hD];exact .lst o7 (jV L7)
  have Yc:DV H7 (.ref q7) D:=by rw[hD];exact .lst Jh (jV L7)
  rw[<- hD]at sh;clear hD;refine⟨D,D,Ye,Yc,sh.1,sh.1,_,rfl,?_⟩;rw[SeqAt.eqv_refl D sh.2];refine aG ?_;refine⟨_,rfl,lo,rfl,⟨_,FF.of o7⟩,gW (K:=K) (a:=lo) (xs:=CP.bB F9) (λi σ H8=>aj H7 H8/\∃g1 g2,σ=[some (.ref v),some (.str root),some (.ref a),some (.ref lo),g1,g2]) ⟨aj.refl _,_,_,rfl⟩ (λi σ H8 _ p=>FF.of (p.1 _ _ o7)) ?_ ?_⟩
  .rintro i y σ H8 hy ⟨s8,g1,g2,rfl⟩
   obtain⟨x,hx,rfl⟩:=gc hy;have Na:=AW hx;refine⟨_,rfl,lo,rfl,⟨_,FF.of (s8 _ _ o7)⟩,gW (K:=K) (a:=lo) (xs:=CP.bB F9) (λj σ H9=>aj H7 H9/\∃g2,σ=[some (.ref v),some (.str root),some (.ref a),some (.ref lo),some (.ref x.1),g2]) ⟨s8,_,rfl⟩ (λj σ H9 _ p=>FF.of (p.1 _ _ o7)) ?_ ?_⟩
   .rintro j y2 σ H9 Il ⟨s9,g2,rfl⟩
    obtain⟨z,Lk,rfl⟩:=gc Il;have Lj:=AW Lk;have x9:=s9 _ _ (L7 x Na);have z9:=s9 _ _ (L7 z Lj);have hx8:x.2.length<=40:=Be (hok x Na).1.length_le hz
    refine⟨_,rfl,x.1,rfl,⟨_,FE.of x9⟩,gO (xs:=x.2.map V.str) (fits (by simp;omega)) (λm ys σ Gy=>ys=((x.2.take m).filter λp=>decide (p∈z.2)).map V.str/\Gy=H9/\∃u,σ=[u,some (.ref z.1)]) ⟨rfl,rfl,_,rfl⟩
     (λm ys σ Gy hm p=>⟨by rw[p.1,AG];exact Be (Bg _ _) (by simp at hm ⊢;omega),by rw[p.2.1];exact FE.of x9⟩) ?_ ?_⟩
    .rintro m y3 ys σ Gy WJ ⟨rfl,rfl,u,rfl⟩
     obtain⟨p,hp,rfl⟩:=eL WJ;have tf:=cF (λp:Str=>decide (p∈z.2)) x.2 m p hp;refine⟨_,rfl,_,rfl,z.1,_,rfl,.inr (FE.of z9),rfl,bK _,_,rfl,?_⟩;rw[bM];show if decide (p∈z.2)=true then _ else _;refine aZ (λc=>⟨_,rfl,?_,rfl,_,rfl⟩) (λc=>⟨?_,rfl,_,rfl⟩)
     .rw [tf,if_pos c,AX];rfl
     .rw [tf,if_neg c,BA]
    rintro ys σ Gy ⟨rfl,rfl,u,rfl⟩ c hc;rw[take_all x.2 (by simp)];have HV:=av (o:=.lst ((x.2.filter λp=>decide (p∈z.2)).map V.str)) s9 hc;have Ur:upd Gy c (.lst ((x.2.filter λp=>decide (p∈z.2)).map V.str)) c=some (.lst ((x.2.filter λp=>decide (p∈z.2)).map V.str)):=ak;generalize upd Gy c (.lst ((x.2.filter λp=>decide (p∈z.2)).map V.str))=IY at HV Ur ⊢;have UR:=HV _ _ (L7 x Na);have UO:=HV _ _ (L7 z Lj);have cr:=vN (Qt.sublist (hok x Na).1) (Qt.sublist (hok z Lj).1) (Nv x.2 (AM Na) z.2 (AM Lj));refine⟨c,_,rfl,.inl (FF.of Ur),_,_,rfl,rfl,_,rfl,?_⟩;refine aZ (λc1=>?_) (λc1=>⟨_,rfl,aG ⟨HV,_,rfl⟩⟩);refine⟨_,rfl,x.1,_,rfl,.inr (FE.of UR),_,rfl,z.1,_,rfl,.inr (FE.of UO),_,_,rfl,_,_,rfl,rfl,_,rfl,?_⟩
    rw[decide_eq_false (λc2=>cr ⟨by have:=of_decide_eq_true c1;simpa using this,by
     rw[AG,AG,AG]at c2;split at c2<;>rename_i h1
     .rw [if_pos (by omega)];omega
     .rw [if_neg (by omega)];omega⟩)]
    exact aG ⟨HV,_,rfl⟩
   .rintro σ H9 ⟨s9,g2,rfl⟩
    exact⟨s9,_,_,rfl⟩
  .rintro σ H8 ⟨s8,g1,g2,rfl⟩
   exact k H8 (s7.trans s8)
end K52
namespace L2
open PySem
theorem xy {K:zz7}{a b:Addr}{xs ys:List V}{g:TG}{tb:TS}{D:Ends}{σ:St}{H:Hp} (he:xs.length=ys.length) (Pv:Nat->St->Hp->Prop) (h0:Pv 0 σ H) (hl:∀i σ H,i<=xs.length->Pv i σ H->FE K H a xs/\FE K H b ys)
  (hs:∀i x y T σ H,xs[i]?=some x->ys[i]?=some y->H T=none->Pv i σ H->g (.ref T) σ (upd H T (.tup [x,y])) λσ2 H2=>tb { D with nx:=Pv (i+1),ct:=Pv (i+1),bk:=D.nx } σ2 H2) (hd:∀σ H,Pv xs.length σ H->D.nx σ H) :
  ∃W:Nat->Nat->St->Hp->Prop,(∃m,W 0 m σ H)/\∀i m σ H,W i m σ H ->
   ((LQ K a b).stop i H/\D.nx σ H)\/((LQ K a b).go i H/\∃N:St->Hp->Prop,(∀σ' H',N σ' H'->∃m',m'<m/\W (i+1) m' σ' H')/\∀x H',(LQ K a b).yld i H x H'->g x σ H' λσ2 H2=>tb { D with nx:=N,ct:=N,bk:=D.nx } σ2 H2):=by
 refine⟨λi m σ H=>m=xs.length-i/\i<=xs.length/\Pv i σ H,⟨xs.length,by simp,Bi _,h0⟩,?_⟩;rintro i m σ H ⟨rfl,hi,p⟩;obtain⟨q1,q2⟩:=hl i σ H hi p
 by_cases FM:i<xs.length
 .refine .inr ⟨⟨xs,ys,xs[i],ys[i],q1,q2,AJ FM,AJ (by omega)⟩,Pv (i+1),λσ' H' p'=>⟨xs.length-(i+1),by omega,rfl,FM,p'⟩,λv H' y=>?_⟩
  obtain⟨T,x,y,rfl,hT,rfl,hx,hy⟩:=y;exact hs i x y T σ H (hx xs q1) (hy ys q2) hT p
 .have e:i=xs.length:=by omega
  subst e;exact .inl ⟨⟨xs,q1,AY _⟩,hd σ H p⟩
end L2
namespace K52
open PySem L2
theorem lp {ps:List Str}{rs tr:List T}{ss:List Str} (nd:(nms rs).Nodup) (ht:(nms tr).Nodup) (hs:∀t∈tr,t∈rs) (hp:ss.Perm (nms tr)):(aS rs ss).Perm tr:=by
 have inj:∀{l:List T},(l.map (·.2.1)).Nodup->l.Nodup:=λ{l} h=>by
  refine(B6.mp h).imp λh e=>h (by rw[e])
 refine(List.perm_ext_iff_of_nodup (inj (nd.sublist (BJ.map _))) (inj ht)).mpr λt=>?_;rw[AS,decide_eq_true_iff,hp.mem_iff];constructor
 .rintro⟨h1,h2⟩
  obtain⟨u,hu,e⟩:=AL.mp h2;have Jr:=hs u hu;obtain⟨i,hi,rfl⟩:=Ca h1;obtain⟨j,hj,e2⟩:=Ca Jr;have Gp:i=j:=by
   have hp:=A5.mp nd
   rcases Nat.lt_trichotomy i j with c|c|c
   .exact absurd (by rw[BS,BS,e2];exact e.symm) (hp i j (by simpa using hi) (by simpa using hj) c)
   .exact c
   .exact absurd (by rw[BS,BS,e2];exact e) (hp j i (by simpa using hj) (by simpa using hi) c)
  subst Gp;rw[e2];exact hu
 .intro h
  exact⟨hs t h,AM h⟩
theorem cK.nms {ps:List Str}{root:Str}{rs:List T}{cost:Str->Int}{tr:List T}{Qs:List (List Str×Int)} (h:cK ps root rs cost tr Qs) (nd:(K52.nms rs).Nodup):(K52.nms tr).Nodup:=by
 have h1:(tr.map (·.2.2.2)).Nodup:=by
  have:=(Bj.mp h.tree.nd).2
  rwa [Rw,A6]at this
 refine B6.mpr ((B6.mp h1).imp_of_mem λ{a b} ha hb FQ e=>FQ ?_);have:=oy nd a.2 (AM (h.sub a ha)) b.2 (AM (h.sub b hb)) e;rw[this]
variable {P:Program}{w:World}{K:zz7}{mg:Str->Option zz9}{base:Heap}{f:Addr}{fd:FuncData}
def nK:Sp:=λvs H Q _=>∃(v c th a pa ra:Addr) (ps:List Str) (rs:List T) (cs:List Int) (root:Str) (ss:List Str) (tr:List T) (prs:List CP.Pr),vs=[.ref v,.str root,.ref c,.ref th,.ref a]/\bx H v pa ra ps rs/\Good ps (rs.map (·.2))/\ps.length<=8/\H c=some (.tup (cs.map V.int))/\cs.length=rs.length /\
 H th=some (.tup (ss.map V.str))/\ss.Perm (nms tr)/\H a=some (.tup (CP.dN prs))/\CP.ka H prs/\cK ps root rs (bA rs cs) tr (prs.map λx=>x.2.2)/\∀H':Hp,aj H H'->Q (.bl true) H'
abbrev Ae:List Str:=["_law_web_here","_law_root","_law_costs_here","_law_tree","_law_prices","_law_row","_law_cost_here","_law_paid","_law_lot","_law_price","_law_into_here"]
theorem fi:aM Ae ["_law_web_here","_law_root","_law_costs_here","_law_tree","_law_prices"] (aE (top 47)):=⟨rfl,rfl,rfl,by decide +kernel,rfl,by decide +kernel,by decide +kernel⟩
theorem vL (F:FS K "_law_reads" "_law_reads" (top 47) f fd) (B:Bl mg) (F1:Fn P w K mg base 2 "_law_are_prices" ["_law_web_here","_law_root","_law_prices"] mQ) (F2:Fn P w K mg base 1 "_law_into" ["_law_row","_law_lot"] fK) :
  aF P w K mg base FT 3 f fd ["_law_web_here","_law_root","_law_costs_here","_law_tree","_law_prices"] nK:=by
 refine F.ok fi (λvs H Q E h=>?_) (λ_ _ _ _ H vs Q E hr h=>?_)
 .obtain⟨v,c,th,a,pa,ra,ps,rs,cs,root,ss,tr,prs,rfl,_⟩:=h
  rfl
 .obtain⟨v,c,th,a,pa,ra,ps,rs,cs,root,ss,tr,prs,rfl,W,G,h8,hc,Gk,IE,Hk,ha,GU,CH,k⟩:=h
  have GC:aO 1 _:=hr.mono (by decide)
  refine⟨_,am (aV (bu (bg (aB F1 hr (aa (pv 0) (aa (pv 1) (aa (pv 4) ae)))))) bP aU)
   (am (cj BC rfl (jO rfl B.zip (aa (ax aC (pv 0) ai (λ_ _=>rfl)) (aa (pv 2) ae))) (dI rfl (n:=2) (ba (aY (i:=5) fi.nd rfl (Or.inr rfl)) (ba (aY (i:=6) fi.nd rfl (Or.inl rfl)) cH)))
    (am (aN (i:=7) fi.nd rfl (Or.inl rfl) (au (iZ rfl) rfl B.sum jS (aa (bo (N:=["_law_lot","_law_price","_law_row"]) (ix:=[none,none,some 5]) ⟨rfl,rfl,rfl,by decide⟩ rfl (bj (pv 4)) (λ_ _ _ _=>f9 K rfl (n:=2) (ba (aL 0 (by decide) rfl rfl) (ba (aL 1 (by decide) rfl rfl) cH)))
      (λ_ _ _ _=>cQ (bg (aB F2 GC (aa (pv 2) (aa (pv 0) ae))))) (λ_ _ _ _=>pv 1)) ae)))
    (aw (aV (PW.pt (bG (PW.pt (fL (aI bT (ax aC (pv 5) ai (λ_ _=>rfl)) (pv 1) (aH _)) (fJ (aI fR (pv 7) (pv 6) (aH _)))))
     (cf (PW.pt (fL (aI eG (ax aC (pv 5) ai (λ_ _=>rfl)) (pv 3) (by with_unfolding_all rfl)) (fJ (aI bT (pv 7) (pv 6) (aH _)))))))) bP aU))))
   (am (cj BC rfl (bj (pv 4)) (dI rfl (n:=2) (ba (aY (i:=8) fi.nd rfl (Or.inr rfl)) (ba (aY (i:=9) fi.nd rfl (Or.inl rfl)) cH)))
    (am (dX (i:=10) (N:=["_law_row","_law_tree","_law_lot"]) (ix:=[none,some 3,some 8]) fi.nd rfl (Or.inl rfl) ⟨rfl,rfl,rfl,by decide⟩ rfl (bj (ax aC (pv 0) ai (λ_ _=>rfl))) (λ_ _ _ _=>aL 0 (by decide) rfl rfl)
      (λ_ _ _ _=>cQ (PW.pt (fL (aI (ic K) (ax (b6 K) (pv 0) ai (λ_ _=>rfl)) (pv 1) (by with_unfolding_all rfl)) (fJ (bg (aB F2 GC (aa (pv 0) (aa (pv 2) ae)))))))) (λ_ _ _ _=>pv 0))
    (aw (aV (PW.pt (fL (aI fR (au aX rfl B.len Bb (aa (pv 8) ae)) ai (aH _)) (fJ (aI bT (au aX rfl B.len Bb (aa (pv 10) ae)) ai (aH _))))) bP aU))))
   (aw (aJ cY)))),?_⟩
  have IF:rs.length<=60:=by have:=G.rz;simpa using this
  have Gf:(nms rs).Nodup:=by
   have q:=bZ G.rso
   rwa [A6]at q
  have Tt:=lp (ps:=ps) Gf (CH.nms Gf) CH.sub Hk;have Ga:prs.length<=16:=by have:=CH.few;simpa using this
  refine⟨_,rfl,_,rfl,_,rfl,v,pa,ra,a,ps,rs,root,prs,rfl,W,G.so,G.nm,by omega,ha,GU,CH.pr,λH1 s1=>⟨_,rfl,aG ?_⟩⟩;have W1:=W.same s1;refine⟨_,rfl,ay (j:=1) (.inr (FE.of W1.tp)) rfl rfl ⟨_,rfl,ra,c,_,_,rfl,FE.of W1.rl,FE.of (s1 _ _ hc),?_⟩⟩;refine xy (K:=K) (a:=ra) (b:=c) (xs:=ao rs) (ys:=cs.map V.int) (by simp[Gk]) (λi σ H2=>aj H H2/\∃g1 g2 g3,σ=[some (.ref v),some (.str root),some (.ref c),some (.ref th),some (.ref a),g1,g2,g3,none,none,none]) ⟨s1,_,_,_,rfl⟩ (λi σ H2 _ p=>⟨FE.of (p.1 _ _ W.rl),FE.of (p.1 _ _ hc)⟩) ?_ ?_
  .rintro i x y U σ H2 hx hy hU ⟨s2,g1,g2,g3,rfl⟩
   obtain⟨r,FW,rfl⟩:=bY hx;obtain⟨z,Lk,rfl⟩:=ie hy;have Io:=AW FW;have GK:bA rs cs r.2.1=z:=jk Gf FW Lk;have s3:=av (o:=.tup [.ref r.1,.int z]) s2 hU;have u3:upd H2 U (.tup [.ref r.1,.int z]) U=some (.tup [.ref r.1,.int z]):=ak;generalize upd H2 U (.tup [.ref r.1,.int z])=H3 at s3 u3 ⊢;refine⟨U,_,rfl,FE.of u3,rfl,_,_,rfl,_,_,rfl,rfl,?_⟩;have a3:=s3 _ _ ha;have rr:=s3 _ _ (W.rows r Io)
   refine⟨_,rfl,a,rfl,⟨_,FE.of a3⟩,gY (xs:=CP.dN prs) (fits (by simp;omega)) (λm ys σ H4=>ys=(((prs.take m).filter λx=>lead x.2.2.1 r).map (·.2.2.2)).map V.int/\H4=H3/\∃x1 x2,σ=[x1,x2,some (.ref r.1)]) ⟨rfl,rfl,_,_,rfl⟩
    (λm ys σ H4 hm p=>⟨by rw[p.1,AG,AG];exact Be (Bg _ _) (by simp at hm ⊢;omega),by rw[p.2.1];exact FE.of a3⟩) ?_ ?_⟩
   .rintro m y2 ys σ H4 Il ⟨rfl,rfl,x1,x2,rfl⟩
    obtain⟨p,II,rfl⟩:=gi Il;have FY:=AW II;have tf:=cF (λx:CP.Pr=>lead x.2.2.1 r) prs m p II;refine⟨p.1,_,rfl,FE.of (s3 _ _ (GU p FY).1),rfl,_,_,rfl,_,_,rfl,rfl,?_⟩;refine⟨_,rfl,_,rfl,p.2.1,r,p.2.2.1,rfl,rr,s3 _ _ (GU p FY).2,_,rfl,?_⟩;refine aZ (λcc=>⟨_,rfl,?_,rfl,_,_,rfl⟩) (λcc=>⟨?_,rfl,_,_,rfl⟩)
    .rw [tf,if_pos cc,AX,AX];rfl
    .rw [tf,if_neg cc,BA]
   rintro ys σ H4 ⟨rfl,rfl,x1,x2,rfl⟩ q hq;rw[take_all prs (by simp)];have s5:=av (o:=.lst (((prs.filter λx=>lead x.2.2.1 r).map (·.2.2.2)).map V.int)) s3 hq;have q5:upd H4 q (.lst (((prs.filter λx=>lead x.2.2.1 r).map (·.2.2.2)).map V.int)) q=some (.lst (((prs.filter λx=>lead x.2.2.1 r).map (·.2.2.2)).map V.int)):=ak;generalize upd H4 q (.lst (((prs.filter λx=>lead x.2.2.1 r).map (·.2.2.2)).map V.int))=H5 at s5 q5 ⊢;have X9:((prs.filter λx=>lead x.2.2.1 r).map (·.2.2.2)).sum=CP.dA (prs.map λx=>x.2.2) r.2:=by
    unfold CP.dA;rw[DP,A6];rfl
   refine⟨q,_,rfl,.inl (FF.of q5),?_⟩;rw[X9];have r5:=s5 _ _ (W.rows r Io);refine⟨_,rfl,ay (j:=2) (.inr (FE.of r5)) rfl rfl ⟨_,rfl,rfl,_,rfl,?_⟩⟩;have tl:∀{D:Prop},D->(∃x,some (V.ref r.1)=some x/\True)->True:=λ_ _=>trivial;have HZ:r.2.1∈ss->CP.dA (prs.map λx=>x.2.2) r.2=z:=λh=>by
    have:r∈tr:=Tt.mem_iff.mp (AS.mpr ⟨Io,decide_eq_true h⟩);rw[<- GK];exact CH.eq r this
   have Ly:r.2.2.2≠root->CP.dA (prs.map λx=>x.2.2) r.2<=z:=λh=>by rw[<- GK];exact CH.le r Io h
   generalize CP.dA (prs.map λx=>x.2.2) r.2=pd at HZ Ly ⊢;have e1:(!decide (V.str r.2.2.2=V.str root))=decide (r.2.2.2≠root):=by
    by_cases cc:r.2.2.2=root
    .rw [cc];simp
    .simp [cc]
   rw[e1];have done:aj H H5/\∃g1 g2 g3,([some (V.ref v),some (V.str root),some (V.ref c),some (V.ref th),some (V.ref a),some (V.ref r.1),some (V.int z),some (V.int pd),none,none,none]:St)=[some (.ref v),some (.str root),some (.ref c),some (.ref th),some (.ref a),g1,g2,g3,none,none,none]:=⟨s5,_,_,_,rfl⟩
   have ML:=s5 _ _ IE;refine aZ (λcc=>⟨_,rfl,_,rfl,_,_,rfl,rfl,_,rfl,?_⟩) (λcc=>?_)
   .have Q1:=Ly (of_decide_eq_true cc)
    rw[decide_eq_false (show¬ z<pd by omega)];refine aG ⟨_,rfl,ay (j:=0) (.inr (FE.of r5)) rfl rfl ⟨_,rfl,th,_,rfl,.inr (FE.of ML),rfl,bK _,_,rfl,?_⟩⟩;rw[bM];show if decide (r.2.1∈ss)=true then _ else _;refine aZ (λc3=>⟨_,rfl,_,rfl,rfl,_,rfl,?_⟩) (λc3=>aG done);have:=HZ (of_decide_eq_true c3);rw[this,decide_eq_true rfl];subst this;exact aG done
   .refine aG ⟨_,rfl,ay (j:=0) (.inr (FE.of r5)) rfl rfl ⟨_,rfl,th,_,rfl,.inr (FE.of ML),rfl,bK _,_,rfl,?_⟩⟩
    rw[bM];show if decide (r.2.1∈ss)=true then _ else _;refine aZ (λc3=>⟨_,rfl,_,rfl,rfl,_,rfl,?_⟩) (λc3=>aG done);have:=HZ (of_decide_eq_true c3);rw[this,decide_eq_true rfl];subst this;exact aG done
  .rintro σ H2 ⟨s2,g1,g2,g3,rfl⟩
   have a2:=s2 _ _ ha;refine⟨_,rfl,a,rfl,⟨_,FE.of a2⟩,dY (K:=K) (a:=a) (xs:=CP.dN prs) (λi σ H3=>aj H H3/\∃g1 g2 g3 g4 g5 g6,σ=[some (.ref v),some (.str root),some (.ref c),some (.ref th),some (.ref a),g1,g2,g3,g4,g5,g6]) ⟨s2,_,_,_,_,_,_,rfl⟩ (λi σ H3 _ p=>FE.of (p.1 _ _ ha)) ?_ ?_⟩
   .rintro i y σ H3 hy ⟨s3,g1,g2,g3,g4,g5,g6,rfl⟩
    obtain⟨p,II,rfl⟩:=gi hy;have FY:=AW II;have Vv:=s3 _ _ (GU p FY).2;have W3:=W.same s3;have U4:=s3 _ _ IE;refine⟨p.1,_,rfl,FE.of (s3 _ _ (GU p FY).1),rfl,_,_,rfl,_,_,rfl,rfl,?_⟩
    refine⟨_,rfl,ay (j:=1) (.inr (FE.of W3.tp)) rfl rfl ⟨ra,rfl,⟨_,FE.of W3.rl⟩,gO (xs:=ao rs) (fits (by simp;omega)) (λm ys σ H4=>ys=ao ((rs.take m).filter λr=>decide (r.2.1∈ss)&&lead p.2.2.1 r)/\H4=H3/\∃x1,σ=[x1,some (.ref th),some (.ref p.2.1)]) ⟨rfl,rfl,_,rfl⟩
     (λm ys σ H4 hm q=>⟨by rw[q.1,AG];exact Be (Bg _ _) (by simp at hm ⊢;omega),by rw[q.2.1];exact FE.of W3.rl⟩) ?_ ?_⟩⟩
    .rintro m y2 ys σ H4 Il ⟨rfl,rfl,x1,rfl⟩
     obtain⟨r,FW,rfl⟩:=bY Il;have GY:=W3.rows r (AW FW);have tf:=cF (λr:T=>decide (r.2.1∈ss)&&lead p.2.2.1 r) rs m r FW;refine⟨_,rfl,ay (j:=0) (.inr (FE.of GY)) rfl rfl ⟨_,rfl,th,_,rfl,.inr (FE.of U4),rfl,bK _,_,rfl,?_⟩⟩;rw[bM];show if decide (r.2.1∈ss)=true then _ else _;refine aZ (λc1=>⟨_,rfl,_,rfl,p.2.1,r,p.2.2.1,rfl,GY,Vv,_,rfl,?_⟩) (λc1=>aG ⟨?_,rfl,_,rfl⟩)
     .refine aZ (λc2=>⟨_,rfl,?_,rfl,_,rfl⟩) (λc2=>⟨?_,rfl,_,rfl⟩)
      .rw [tf,c1,c2,ao,ao,AX];rfl
      .simp only[Cf]at c2
       rw[tf,c1,c2];simp
     .simp only[Cf]at c1
      rw[tf,c1];simp
    rintro ys σ H4 ⟨rfl,rfl,x1,rfl⟩ q hq;rw[take_all rs (by simp)];have Qw:(rs.filter λr=>decide (r.2.1∈ss)&&lead p.2.2.1 r).length=1:=by
     have h1:=CH.once p.2.2 (AM FY);have h2:(rs.filter λr=>decide (r.2.1∈ss)&&lead p.2.2.1 r)=(aS rs ss).filter (lead p.2.2.1):=by
      rw[List.filter_filter];exact D6 λr _=>Bool.and_comm _ _
     rw[h2,(Tt.filter _).length_eq,<- List.countP_eq_length_filter,<- h1];show _=List.countP _ (tr.map (·.2));rw[List.countP_map];rfl
    have s5:=av (o:=.lst (ao (rs.filter λr=>decide (r.2.1∈ss)&&lead p.2.2.1 r))) s3 hq;have q5:upd H4 q (.lst (ao (rs.filter λr=>decide (r.2.1∈ss)&&lead p.2.2.1 r))) q=some (.lst (ao (rs.filter λr=>decide (r.2.1∈ss)&&lead p.2.2.1 r))):=ak;generalize upd H4 q (.lst (ao (rs.filter λr=>decide (r.2.1∈ss)&&lead p.2.2.1 r)))=H5 at s5 q5 ⊢;refine⟨_,rfl,p.2.1,_,rfl,.inr (FE.of (s5 _ _ (GU p FY).2)),_,_,rfl,rfl,_,rfl,?_⟩;refine aZ (λc1=>?_) (λc1=>aG ⟨s5,_,_,_,_,_,_,rfl⟩);refine⟨_,rfl,q,_,rfl,.inl (FF.of q5),rfl,_,rfl,?_⟩;rw[AG,Qw];exact aG ⟨s5,_,_,_,_,_,_,rfl⟩
   .rintro σ H3 ⟨s3,g1,g2,g3,g4,g5,g6,rfl⟩
    exact k H3 s3
end K52
namespace L2
open PySem PySem.Spec PyProof.Rows PySem.W PySem.Calls
def pW (h:Heap) (C:Addr):Prop:=∃(nm q:Str) (N:Addr) (bs bm:List zz9) (hdct:Bool) (sn:List Str) (sub:List zz9) (ab:Bool) (col:Option Bool) (dd:Option Addr) (k0 k1 k2 k3 k5:Option zz9) (newId:String),
 h.get? C=some (excClassObj nm q C N bs bm hdct sn sub ab col dd k0 k1 k2 k3 k5 newId)/\bm.contains (Value.type "BaseException")=true
theorem bW.hasV {h:Heap}{S:List Str}{FN tl:List zz9}{v:zz9} (x:bW h S FN tl) (e:FN.contains v=true):tl.contains v=true:=by
 induction x with
 | base=>exact e
 | own _ _ _ _ ih=>rw[C1,ih,Fl]
theorem dj.cat {S:List Str}{h:Heap}{C f:Addr} (x:dj S h C f):pW h C:=by
 obtain⟨nm,q,N,bs,bm,FN,sn,sub,ab,col,dd,k0,k1,k2,k3,k5,mN,B,newId,FK,sa,ow,I,_⟩:=x;exact⟨nm,q,N,bs,bm,true,sn,sub,ab,col,dd,k0,k1,k2,k3,k5,newId,I.at_,I.tail.hasV I.bf.hasBase⟩
theorem dj.under {S:List Str}{h:Heap}{C f:Addr} (x:dj S h C f):Under h C C:=by
 obtain⟨nm,q,N,bs,bm,FN,sn,sub,ab,col,dd,k0,k1,k2,k3,k5,mN,B,newId,FK,sa,ow,I,_⟩:=x;exact⟨nm,q,N,bs,bm,true,sn,sub,ab,col,dd,k0,k1,k2,k3,k5,newId,I.at_,by simp⟩
section
variable {X:Cx}{st b0:Stmt}{Hx:List Stmt}{tx:Mq}{th:TS}{x n:Str}{R:Addr}{j:Nat}{np HX pos:Pos}
theorem xk (GW:Uy X st tx) (hx:X.mg x=some (.ref R)) (hR:pW X.base R) (IE:∀ea,HR (X.held ea) (b0::Hx) th) (hN:X.N.Nodup) (hj:X.N[j]?=some n) (hn:X.env.scope.names.lookup n=some .local) (J6:X.stack=X.env::X.outer) (IS:X.env.frame=some X.env.locals) (hex:X.ex=[])
  (hg:Gl X x:=by rfl) (IU:(x==("__debug__":Str))=false:=by decide) :
  PS X (.Try [st] [.ExceptHandler (some (.Name x np)) (some n) (b0::Hx) HX] [] [] pos) (zV tx th j λC=>Under X.base C R):=by
 intro pins s σ H D I h;refine wpAny_Try_except (wpAny_execs_cons (BK (GW pins s σ H D _ I h) (λf s1 q=>?_) (λe s1 q=>?_)))
 .cases f with
  | next=>exact Dm (Dm q)
  | ret v=>exact q
  | brk=>exact q
  | cont=>exact q
 .obtain⟨σ1,H1,s2,I1,ea,T,cls,a0,dx,H',rfl,os,bare,un,hok,n1,n2,m1,m2,UX,C,rfl,hu,Qc⟩:=q
  have I':Inv X pins σ1 H' s1:=I1.call' (ch:=[]) os un hok bare (by simp);have Uk:=I'.stack;rw[J6]at Uk;have Yk:X.A.frames=some (X.env::X.outer):=by rw[<- J6];exact I'.ok.frames
  have there:∀b o,s2.heap.get? b=some o->∃o',s1.heap.get? b=some o':=λb o q=>un.there b o q (by simp);have Hb:∀b,s2.heap.get? b=none->X.s₀.heap.get? b=none/\b≠X.env.locals/\(∀x c,X.env.cells.lookup x=some c->c≠b)/\∀p∈X.pn++pins,p.1≠b:=λb q=>by
   refine⟨?_,λz=>?_,λy c e z=>?_,λp hp z=>?_⟩
   .cases hc:X.s₀.heap.get? b with
    | none=>rfl
    | some o =>
     obtain⟨o',q'⟩:=I1.base.there b o hc (by rw[hex];simp);rw[q]at q';cases q'
   .obtain⟨m,⟨o,_,_,ho,_⟩,_⟩:=I1.loc
    rw[<- z,q]at ho;cases ho
   .obtain⟨v,o,ho,_⟩:=I1.cell y c e
    rw[z,q]at ho;cases ho
   .have:=(I1.pin p hp).1
    rw[z,q]at this;cases this
  have VL:∀b,s1.heap.get? b=none->H' b=none:=λb q=>by
   cases hc:H' b with
   | none=>rfl
   | some o =>
    obtain⟨ob,q'⟩:=aD.got (hok b o hc);rw[q]at q';cases q'
  have mk:∀b,s2.heap.get? b=none->H' b=none->X.s₀.heap.get? b=none/\H' b=none/\b≠X.env.locals/\(∀x c,X.env.cells.lookup x=some c->c≠b)/\∀p∈X.pn++pins,p.1≠b:=λb q1 q2=>⟨(Hb b q1).1,q2,(Hb b q1).2⟩
  refine rq (Q:=λ_ s3=>wpAny (model X.prog X.w) X.A (handleBy (Value.ref ea) X.env [ExceptHandler.ExceptHandler (some (Expr.Name x np)) (some n) (b0::Hx) HX]) (SP X pins D) X.xe s3) (base:=X.base) Yk IS Uk UX λh3 T3 SZ SJ R7=>?_;have SR:s2.heap.get? T3=none/\H' T3=none:=by
   refine⟨?_,VL T3 SJ⟩;cases hc:s2.heap.get? T3 with
   | none=>rfl
   | some o =>
    obtain⟨o',q'⟩:=there T3 o hc;rw[SJ]at q';cases q'
  have I3:Inv X pins σ1 H' { s1 with heap:=h3 }:=I'.moved (G:=[ea,T]) (λb hb=>by
   simp at hb
   rcases hb with z|z
   .rw [z];exact mk ea n1 m1
   .rw [z];exact mk T n2 m2) (λb o q hb hg=>SZ.keep b o q (by rw[<- J6];exact hb) hg) (λb o q hb=>SZ.slot b o q (by rw[<- J6];exact hb))
  refine wpAny_handleBy_cons (codeAny_handlers_test ?_) (by intro z;cases z);refine gb (X:=X.held ea) (I3.held ea) hg hx ?_ IU;obtain⟨nm,q,N,bs,bm,hdct,sn,sub,ab,col,dd,k0,k1,k2,k3,k5,newId,a1,a5⟩:=hR;obtain⟨SM,q',N',Us,RD,KI,Sk,MM,Ut,NX,JO,l0,l1,l2,l3,l5,Jk,c1,c2⟩:=hu;obtain⟨oe,vs,oT,ts,g1,g2,g3,g4,g5,g6,g7,g8,g9,Ml⟩:=id R7;refine sq (I3.bk _ _ c1) (I3.bk _ _ a1) g1 g2 a5 ?_;rw[c2];show codeAny _ _ (Code.handlers (.ref ea) [ExceptHandler.ExceptHandler none (some n) (b0::Hx) HX] X.env) _ _;refine codeAny_handlers_suite_as (ground R7 λh4 Kq UZ=>?_)
  have I4:Inv X pins σ1 H' { s1 with heap:=h4 }:=Inv.moved (s:={ s1 with heap:=h3 }) (h':=h4) (G:=[T3]) I3 (λb hb=>by
   have z:b=T3:=by simpa using hb
   rw[z];exact mk T3 SR.1 SR.2) (λb o q hb hg=>(Kq b λz=>hg (by simp[z])).trans q) (λb o q hb=>⟨o.slots,(Kq b λz=>by
    obtain⟨o2,q2,nf⟩:=fS I3.stack b hb
    rw[z,g7]at q2;cases q2;exact nf _ g8).trans q⟩)
  obtain⟨oe4,vs4,oT4,ts4,f1,f2,f3,f4,_,_,_,_,_,Ru⟩:=id UZ;have Yy:Inv X pins σ1 (upd H' ea (eU ea C dx)) { s1 with heap:=h4 }:=I4.track m1 (Hb ea n1).1 (Hb ea n1).2.1 (Hb ea n1).2.2.1 (Hb ea n1).2.2.2 (wf f1 f2 Ru f4 f3.2);refine fG (X:=X.held ea) (Yy.held ea) hN hj (.inl hn) (v:=.ref ea) rfl (λs5 I5=>?_) (.inr hn);refine BK (IE ea pins s5 (σ1.set j (some (.ref ea))) (upd H' ea (eU ea C dx)) (pN D j) I5 (Qc ea m1)) (λf s6 q6=>?_) (λ_ _ z=>False.elim z);cases f with
  | next =>
   obtain⟨σ2,H2,J,q⟩:=q6;exact hZ (J.unheld I.ok) hN hj hn λs7 I7=>⟨σ2.set j none,H2,I7,q⟩
  | brk =>
   obtain⟨σ2,H2,J,q⟩:=q6;exact hZ (J.unheld I.ok) hN hj hn λs7 I7=>⟨σ2.set j none,H2,I7,q⟩
  | cont =>
   obtain⟨σ2,H2,J,q⟩:=q6;exact hZ (J.unheld I.ok) hN hj hn λs7 I7=>⟨σ2.set j none,H2,I7,q⟩
  | ret u =>
   obtain⟨v,σ2,H2,J,rv,q⟩:=q6;exact hZ (J.unheld I.ok) hN hj hn λs7 I7=>⟨v,σ2.set j none,H2,I7,rv,q⟩
end
abbrev RJ:=(St->zz9->Option Addr->Hp->Prop)->St->Hp->(List V->Hp->Prop)->Prop
def OQ (X:Cx) (es:List Expr) (t:RJ):Prop:=∀(pos:Pos) (pins:List (Addr×Obj)) (s:zz8) (σ:St) (H:Hp) (Q:List V->Hp->Prop) (Ex:St->zz9->Option Addr->Hp->Prop),Inv X pins σ H s->t Ex σ H Q ->
 wpAny (model X.prog X.w) X.A (spliced (backTo pos (starEach es X.env))) (AP X pins σ Q) (XP X pins Ex) s
section
variable {X:Cx}{e:Expr}{es:List Expr}{pos:Pos}
theorem yY {t:TE} (h:PE X.nox e t):N0 X e (λ_ σ H Q=>t σ H Q):=λpins s σ H Q Ex I hq =>
 BK (h pins s σ H Q I.toNox hq) (λ_ _ ⟨v,H',I',r,q⟩=>⟨v,H',I'.ofNox,r,q⟩) λ_ _ z=>False.elim z
theorem wY:OQ X [] (λ_ _ H Q=>Q [] H):=λ_ _ _ _ H Q _ I h=>DX ⟨[],H,I,.nil,h⟩
theorem my {te:NY}{t:RJ} (ha:N0 X e te) (hr:OQ X es t) (hs:starEach (e::es) X.env=(false,eval e X.env)::starEach es X.env:=by rfl):OQ X (e::es) (λEx σ H Q=>te Ex σ H λx H1=>t Ex σ H1 λxs H2=>Q (x::xs) H2):=by
 intro pos pins s σ H Q Ex I h;rw[hs];refine(show wpAny _ _ (spliced ((false,eval e X.env)::backTo pos (starEach es X.env))) _ _ s from Dn (FG (ha pins s σ H _ Ex I h) λu s1 ⟨x,H1,I1,r1,q1⟩=>?_));exact FG (hr pos pins s1 σ H1 _ Ex I1 q1) λus s2 ⟨xs,H2,I2,r2,q2⟩=>⟨x::xs,H2,I2,.cons r1 r2,q2⟩
theorem xu {x1}{t:RJ} (h:OQ X es t):N0 X (.Tuple es x1 pos) (λEx σ H Q=>t Ex σ H λxs H1=>xs.length<=sizeLine/\∀p,H1 p=none->Q (.ref p) (upd H1 p (.tup xs))):=by
 intro pins s σ H Q Ex I hq;refine wpAny_Tuple_spliced (FG (h pos pins s σ H _ Ex I hq) λus s1 ⟨xs,H1,I1,r,z,q⟩=>⟨by rw[<- r.length];exact z,.ref s1.heap.objs.size,upd H1 s1.heap.objs.size (.tup xs),I1.laid (t':=s1.toks) (λb u e=>AH _ e) (AY _) ?_,rfl,q _ (I1.hok.fresh (AY _))⟩);exact⟨z,us,r,⟨_,AU _ rfl,rfl,_,rfl⟩⟩
end
end L2
namespace K52
open PySem L2
variable {P:Program}{w:World}{K:zz7}{mg:Str->Option zz9}{base:Heap}{f:Addr}{fd:FuncData}
def kQ:Sp:=λvs H Q _=>∃(v pa ra:Addr) (ps:List Str) (rs:List T) (root:Str),vs=[.ref v,.str root]/\bx H v pa ra ps rs/\root∈ps/\(∀r∈rs,r.2.2.2∈ps)/\ps.length<=100/\rs.length<=60 /\
 ∀(q:Addr) (H':Hp) (fs:List Str),aj H H'->H' q=some (.lst (fs.map V.str))->fs.Nodup->(∀x,x∈fs ↔ ∃n,Walk (Rw rs) root n x)->Q (.ref q) H'
abbrev Ab:List Str:=["_law_web_here","_law_root","_law_found","_law_turn","_law_row"]
theorem iw:aM Ab ["_law_web_here","_law_root"] (aE (top 48)):=⟨rfl,rfl,rfl,by decide +kernel,rfl,by decide +kernel,by decide +kernel⟩
theorem rB (F:FS K "_law_reached" "_law_reached" (top 48) f fd) (B:Bl mg):aF P w K mg base FT 1 f fd ["_law_web_here","_law_root"] kQ:=by
 refine F.ok iw (λvs H Q E h=>?_) (λ_ _ _ _ H vs Q E hr h=>?_)
 .obtain⟨v,pa,ra,ps,rs,root,rfl,_⟩:=h
  rfl
 .obtain⟨v,pa,ra,ps,rs,root,rfl,W,IG,GF,hz,IF,k⟩:=h
  refine⟨_,am (aN (i:=2) iw.nd rfl (Or.inl rfl) (cg (aa (pv 1) ae)))
   (am (cj BC rfl (bj (ax aC (pv 0) ai (λ_ _=>rfl))) (aY (i:=3) iw.nd rfl (Or.inl rfl))
    (aw (cj BC rfl (bj (ax aC (pv 0) ai (λ_ _=>rfl))) (aY (i:=4) iw.nd rfl (Or.inl rfl))
     (aw (aV (PW.pt (fL (aI eG (ax aC (pv 4) ai (λ_ _=>rfl)) (pv 2) (by with_unfolding_all rfl)) (fJ (aI fW (ax aC (pv 4) ai (λ_ _=>rfl)) (pv 2) (by with_unfolding_all rfl)))))
      (aw (b7 (da BI BM BN dD (pv 2) (aa (ax aC (pv 4) ai (λ_ _=>rfl)) ae)))) aU)))))
   (aw (aJ (pv 2)))),?_⟩
  have GH:∀{n:Nat}{x:Str},Walk (Rw rs) root n x->x∈ps:=λhw=>eZ IG (λr hr=>by obtain⟨t,ht,rfl⟩:=AL.mp hr;exact GF t ht) hw;refine⟨_,rfl,by show 1<=sizeLine;decide,λfo JK=>?_⟩;have s1:=av (o:=.lst [.str root]) (aj.refl H) JK;have f1:upd H fo (.lst [.str root]) fo=some (.lst ([root].map V.str)):=ak;generalize upd H fo (.lst [.str root])=H1 at s1 f1 ⊢;have W1:=W.same s1;refine⟨_,rfl,ay (j:=0) (.inr (FE.of W1.tp)) rfl rfl ⟨pa,rfl,⟨_,FE.of W1.pl⟩,?_⟩⟩;refine dY (K:=K) (a:=pa) (xs:=ps.map V.str) (λi σ H2=>∃(fs:List Str) (g1 g2:Option V),σ=[some (.ref v),some (.str root),some (.ref fo),g1,g2]/\aj H H2/\H2 fo=some (.lst (fs.map V.str))/\fs.Nodup/\(∀x∈fs,∃n,Walk (Rw rs) root n x)/\∀n x,n<=i->Walk (Rw rs) root n x->x∈fs)
   ⟨[root],none,none,rfl,s1,f1,by simp,λx hx=>⟨0,by rw[AQ.mp hx];exact .nil⟩,λn x hn hw=>?_⟩ (λi σ H2 _ p=>by obtain⟨_,_,_,_,s2,_⟩:=p;exact FE.of (s2 _ _ W.pl)) ?_ ?_
  .obtain rfl:n=0:=by omega
   cases hw;exact AQ.mpr rfl
  .rintro i y σ H2 hy ⟨Rn,g1,g2,rfl,s2,f2,VR,w0,c0⟩
   have W2:=W.same s2;refine⟨_,rfl,ay (j:=1) (.inr (FE.of W2.tp)) rfl rfl ⟨ra,rfl,⟨_,FE.of W2.rl⟩,?_⟩⟩;refine dY (K:=K) (a:=ra) (xs:=ao rs) (λj σ H3=>∃(fs:List Str) (g2:Option V),σ=[some (.ref v),some (.str root),some (.ref fo),some y,g2]/\aj H H3/\H3 fo=some (.lst (fs.map V.str))/\fs.Nodup/\(∀x∈fs,∃n,Walk (Rw rs) root n x)/\(∀x∈Rn,x∈fs)/\∀r∈rs.take j,r.2.2.1∈Rn->r.2.2.2∈fs)
    ⟨Rn,g2,rfl,s2,f2,VR,w0,λ_ h=>h,λr hr=>by simp at hr⟩ (λj σ H3 _ p=>by obtain⟨_,_,_,s3,_⟩:=p;exact FE.of (s3 _ _ W.rl)) ?_ ?_
   .rintro j y2 σ H3 Il ⟨fs,g2,rfl,s3,f3,LX,w3,IB,c3⟩
    obtain⟨r,FW,rfl⟩:=bY Il;have Io:=AW FW;have GY:=s3 _ _ (W.rows r Io);have FJ:fs.length<=100:=Be (cV LX (m:=ps) λx hx=>by obtain⟨n,hw⟩:=w3 x hx;exact GH hw) hz;have tk:∀{q:T},q∈rs.take (j+1)->q∈rs.take j\/q=r:=λ{q} h=>by
     rw[Br,FW]at h
     rcases A1.mp h with z|z
     .exact .inl z
     .exact .inr (AQ.mp z)
    refine⟨_,rfl,ay (j:=1) (.inr (FE.of GY)) rfl rfl ⟨_,rfl,fo,_,rfl,.inl (FF.of f3),rfl,bK _,_,rfl,?_⟩⟩;rw[bM];show if decide (r.2.2.1∈fs)=true then _ else _;refine aZ (λc1=>⟨_,rfl,ay (j:=2) (.inr (FE.of GY)) rfl rfl ⟨_,rfl,fo,_,rfl,.inl (FF.of f3),rfl,bK _,_,rfl,?_⟩⟩) (λc1=>aG ⟨fs,_,rfl,s3,f3,LX,w3,IB,λq hq hs=>?_⟩)
    .rw [bM]
     show if (!decide (r.2.2.2∈fs))=true then _ else _;refine aZ (λc2=>?_) (λc2=>⟨fs,_,rfl,s3,f3,LX,w3,IB,λq hq hs=>?_⟩)
     .have hn:r.2.2.2∉fs:=by simpa using c2
      refine⟨_,rfl,.inl ⟨rfl,_,FF.of f3⟩,_,rfl,ay (j:=2) (.inr (FE.of GY)) rfl rfl ⟨fo,_,_,rfl,rfl,f3,fits (by simp;omega),?_⟩⟩;refine⟨fs++[r.2.2.2],_,rfl,aj.upd0 s3 JK,by rw[ak,AX];rfl,iX LX hn,λx hx=>?_,λx hx=>A7 _ (IB x hx),λq hq hs=>?_⟩
      .rcases A1.mp hx with z|z
       .exact w3 x z
       .obtain⟨n,hw⟩:=w3 _ (of_decide_eq_true c1)
        rw[AQ.mp z];exact⟨n+1,.snoc hw (AM Io)⟩
      .rcases tk hq with z|rfl
       .exact A7 _ (c3 q z hs)
       .exact AV _ (AQ.mpr rfl)
     .have hn:r.2.2.2∈fs:=by simpa using c2
      rcases tk hq with z|rfl
      .exact c3 q z hs
      .exact hn
    .rcases tk hq with z|rfl
     .exact c3 q z hs
     .exact absurd (decide_eq_true (IB _ hs)) c1
   .rintro σ H3 ⟨fs,g2,rfl,s3,f3,LX,w3,IB,c3⟩
    rw[show rs.take (ao rs).length=rs from take_all rs (by simp)]at c3;refine⟨fs,_,_,rfl,s3,f3,LX,w3,λn x hn hw=>?_⟩;cases hw with
    | nil=>exact IB _ (c0 0 _ (Bi _) .nil)
    | @snoc n' r PU hr =>
     obtain⟨t,ht,rfl⟩:=AL.mp hr;exact c3 t ht (c0 n' _ (by omega) PU)
  .rintro σ H2 ⟨fs,g1,g2,rfl,s2,f2,nd,w2,c2⟩
   refine⟨_,rfl,k fo H2 fs s2 f2 nd λx=>⟨w2 x,λ⟨n,hw⟩=>?_⟩⟩;obtain⟨m,_,hd⟩:=hw.dist;have:=om IG (λr hr=>by obtain⟨t,ht,rfl⟩:=AL.mp hr;exact GF t ht) hd;exact c2 m x (by rw[AG];omega) hd.1
def fh (ps:List Str) (root:Str) (rs:List T) (cs:List Int) (H:Hp) (t:Addr):Prop :=
 (beyond ps rs root=[]/\∃(tr:List T) (ss:List Str) (prs:List CP.Pr) (u u1 u2:Addr),cK ps root rs (bA rs cs) tr (prs.map λx=>x.2.2)/\ss.Perm (nms tr)/\PyProof.Rows.sortedS ss=true/\H t=some (.tup [.str (Str.ofString "told"),.ref u])/\H u=some (.tup [.ref u1,.ref u2])/\H u1=some (.tup (ss.map V.str))/\H u2=some (.tup (CP.dN prs))/\CP.ka H prs) \/
 (beyond ps rs root≠[]/\∃u,H t=some (.tup [.str (Str.ofString "few"),.ref u])/\H u=some (.tup ((beyond ps rs root).map V.str)))
theorem fh.same {ps:List Str}{root:Str}{rs:List T}{cs:List Int}{H H':Hp}{t:Addr} (h:fh ps root rs cs H t) (s:aj H H'):fh ps root rs cs H' t:=by
 rcases h with ⟨h0,tr,ss,prs,u,u1,u2,h1,h2,h3,h4,h5,h6,h7,h8⟩|⟨h0,u,h1,h2⟩
 .exact .inl ⟨h0,tr,ss,prs,u,u1,u2,h1,h2,h3,s _ _ h4,s _ _ h5,s _ _ h6,s _ _ h7,λx hx=>⟨s _ _ (h8 x hx).1,s _ _ (h8 x hx).2⟩⟩
 .exact .inr ⟨h0,u,s _ _ h1,s _ _ h2⟩
def oa:Sp:=λvs H Q _=>∃(v c pa ra:Addr) (ps:List Str) (rs:List T) (cs:List Int) (root:Str),vs=[.ref v,.str root,.ref c]/\bx H v pa ra ps rs/\Good ps (rs.map (·.2))/\ps.length<=8/\root∈ps/\H c=some (.tup (cs.map V.int))/\cs.length=rs.length /\
 ∀(t:Addr) (H':Hp),aj H H'->eB rs root (first rs root)->fh ps root rs cs H' t->Q (.ref t) H'
abbrev zP:List Str:=["_law_web_here","_law_root","_law_costs_here","_law_told_here","e"]
theorem gn:aM zP ["_law_web_here","_law_root","_law_costs_here"] (aE (top 49)):=⟨rfl,rfl,rfl,by decide +kernel,rfl,by decide +kernel,by decide +kernel⟩
theorem vw {f C fI:Addr}{fd:FuncData} (F:FS K "_law_told" "_law_told" (top 49) f fd) (B:Bl mg) (hx:mg "TooFew"=some (.ref C)) (hC:dj eD base C fI) (F1:RQ P w K mg base 5 "cheapest" ["web","root","costs"] (nV C)):aF P w K mg base FT 6 f fd ["_law_web_here","_law_root","_law_costs_here"] oa:=by
 refine F.ok gn (λvs H Q E h=>?_) (λ_ _ _ _ H vs Q E hr h=>?_)
 .obtain⟨v,c,pa,ra,ps,rs,cs,root,rfl,_⟩:=h
  rfl
 .obtain⟨v,c,pa,ra,ps,rs,cs,root,rfl,W,G,h8,IG,hc,Gk,k⟩:=h
  refine⟨_,am (aN (i:=3) gn.nd rfl (Or.inl rfl) oS)
   (am (xk (j:=4) (xN (i:=3) gn.nd rfl (Or.inl rfl) (xu (my (yY eO) (my (wx F1 hr (aa (pv 0) (aa (pv 1) (aa (pv 2) ae)))) wY)))) hx hC.cat
    (λea=>aw (aN (i:=3) gn.nd rfl (Or.inl rfl) (cJ (aa eO (aa (vS (n:=Str.ofString "lot") hC (by decide) (by decide) (by decide) (by decide) (pv 4)) ae))))) gn.nd rfl rfl rfl rfl rfl)
   (aw (aJ (pv 3)))),?_⟩
  refine⟨_,rfl,_,rfl,_,rfl,v,c,pa,ra,ps,rs,cs,root,rfl,W,G,h8,IG,hc,Gk,λH3 s3 Fu=>⟨λIT tr ss prs u u1 u2 CH Hk GX hu J4 Jr HN=>?_,λFQ dx u XC hu=>⟨C,rfl,hC.under,λea XA=>?_⟩⟩⟩
  .refine⟨by show 2<=sizeLine;decide,λt ht=>⟨_,rfl,?_⟩⟩
   have s4:=av (o:=.tup [.str (Str.ofString "told"),.ref u]) (aj.refl H3) ht;exact k t _ (s3.trans s4) Fu (.inl ⟨IT,tr,ss,prs,u,u1,u2,CH,Hk,GX,ak,s4 _ _ hu,s4 _ _ J4,s4 _ _ Jr,λx hx=>⟨s4 _ _ (HN x hx).1,s4 _ _ (HN x hx).2⟩⟩)
  .have s4:=av (o:=eU ea C (some dx)) (aj.refl H3) XA
   refine⟨_,rfl,ea,dx,_,.ref u,rfl,ak,s4 _ _ XC,rfl,by show 2<=sizeLine;decide,λt ht=>⟨_,rfl,?_⟩⟩;have s5:=av (o:=.tup [.str (Str.ofString "few"),.ref u]) (aj.refl (upd H3 ea (eU ea C (some dx)))) ht;exact k t _ (s3.trans (s4.trans s5)) Fu (.inr ⟨FQ,u,ak,s5 _ _ (s4 _ _ hu)⟩)
end K52
namespace L2
open PySem
theorem vX {K:zz7}{g:TG}{te:TE}{σ':St}{fin:List V->Hp->Prop}{H1:Hp}{a b:Addr}{xs ys:List V} (he:xs.length=ys.length) (hn:xs.length<sizeLine) (Pv:Nat->List V->St->Hp->Prop) (h0:Pv 0 [] σ' H1)
  (hl:∀i zs σ H,i<=xs.length->Pv i zs σ H->zs.length<=i/\FE K H a xs/\FE K H b ys)
  (hs:∀i x y zs σ H T,xs[i]?=some x->ys[i]?=some y->Pv i zs σ H->H T=none->g (.ref T) σ (upd H T (.tup [x,y])) λσ2 H2=>te σ2 H2 (λv H4=>Pv (i+1) (zs++[v]) σ2 H4))
  (hd:∀zs σ H,Pv xs.length zs σ H->fin zs H):HS (LQ K a b) g bX te σ' fin H1:=by
 refine⟨λi m zs σ H=>m=xs.length-i/\i<=xs.length/\Pv i zs σ H,⟨xs.length,by simp,Bi _,h0⟩,?_⟩;rintro i m zs σ H ⟨rfl,hi,p⟩;obtain⟨q0,q1,q2⟩:=hl i zs σ H hi p
 by_cases h:i<xs.length
 .refine .inr ⟨⟨xs,ys,xs[i],ys[i],q1,q2,AJ h,AJ (by omega)⟩,by omega,λRU σ' H'=>Pv (i+1) RU σ' H',λRU σ' H' z=>⟨xs.length-(i+1),by omega,rfl,h,z⟩,?_⟩
  rintro v H' ⟨T,x,y,rfl,hT,rfl,hx,hy⟩;simpa[bX]using hs i x y zs σ H T (hx xs q1) (hy ys q2) p hT
 .have e:i=xs.length:=by omega
  subst e;exact .inl ⟨⟨xs,q1,AY _⟩,by omega,hd zs σ H p⟩
end L2
namespace K52
open PySem L2
theorem yH:bootBuiltins "any"=some (.builtin "any"):=by decide +kernel
theorem yn:bootBuiltins "dict"=some (.type "dict"):=by decide +kernel
theorem rC {ps:List Str}{rs:List T}{root:Str} (Fu:eB rs root (first rs root)) (hs:∀r∈rs,r.2.2.1∈ps):∀r∈rs,lead (beyond ps rs root) r=false:=λr hr=>by
 cases c:lead (beyond ps rs root) r with
 | false=>rfl
 | true =>
  unfold lead at c;rw[B9,decide_eq_true_iff,Bool.not_eq_true',decide_eq_false_iff_not]at c;obtain⟨c1,c2⟩:=c;have h1:r.2.2.1∈FL root (first rs root):=by
   cases Ci (r.2.2.1∈FL root (first rs root))with
   | inl h=>exact h
   | inr h=>exact absurd (AS.mpr ⟨hs r hr,by simp[h]⟩) c2
  obtain⟨n,hd⟩:=Fu.mem _ h1;have h2:=Fu.cl (n+1) r.2.2.2 (.snoc hd.1 (AM hr));have h3:=(AS.mp c1).2;simp[h2]at h3
variable {P:Program}{w:World}{K:zz7}{mg:Str->Option zz9}{base:Heap}{f:Addr}{fd:FuncData}
def o9:Sp:=λvs H Q _=>∃(v pa ra l:Addr) (ps:List Str) (rs:List T) (root:Str) (ls:List Str),vs=[.ref v,.str root,.ref l]/\bx H v pa ra ps rs/\ps.Pairwise Gb/\(∀x∈ps,aK x)/\ps.length<=40/\rs.length<=60/\H l=some (.tup (ls.map V.str))/\ls.Sublist ps/\ls≠[]/\root∉ls/\(∀r∈rs,lead ls r=false) /\
 ∀H':Hp,aj H H'->Q (.bl true) H'
abbrev Af:List Str:=["_law_web_here","_law_root","_law_lot"]
theorem y9:aM Af ["_law_web_here","_law_root","_law_lot"] (aE (top 50)):=⟨rfl,rfl,rfl,by decide +kernel,rfl,by decide +kernel,by decide +kernel⟩
theorem v9 (F:FS K "_law_is_shut" "_law_is_shut" (top 50) f fd) (B:Bl mg) (F2:Fn P w K mg base 1 "_law_into" ["_law_row","_law_lot"] fK):aF P w K mg base FT 2 f fd ["_law_web_here","_law_root","_law_lot"] o9:=by
 refine F.ok y9 (λvs H Q E h=>?_) (λ_ _ _ _ H vs Q E hr h=>?_)
 .obtain⟨v,pa,ra,l,ps,rs,root,ls,rfl,_⟩:=h
  rfl
 .obtain⟨v,pa,ra,l,ps,rs,root,ls,rfl,W,so,nm,hz,IF,hl,Hs,FQ,Xf,Xh,k⟩:=h
  refine⟨_,am (aV (PW.pt (bG (bu (bg (au (bV (T:="tuple")) rfl B.isinstance bO (aa (pv 2) (aa (bS (v:=.ty "tuple") rfl B.tuple bL rfl) ae)))))
    (bG (aI (jF hr) (pv 2) (cJ ae) (aH _))
    (cf (bu (bg (au (dC rfl) rfl B.all dM (aa (bo (N:=["_law_place","_law_web_here","_law_root"]) (ix:=[none,some 0,some 1]) ⟨rfl,rfl,rfl,by decide⟩ rfl (bj (pv 2)) (λ_ _ _ _=>aL 0 (by decide) rfl rfl) (λ_ _ _ _=>bq)
     (λ_ _ _ _=>b8 (bN (ic K) (pv 0) (ax (b6 K) (pv 1) ai (λ_ _=>rfl)) (by with_unfolding_all rfl)) (cq (bN bT (pv 0) (pv 2) (aH _))))) ae)))))))) bP aU)
   (aw (aJ (b8 (bN (jF hr) (bQ iN rfl B.list ir (aa (pv 2) ae)) (au (iL w rfl) rfl B.sorted dE (aa (bQ (iS w rfl) rfl B.set iC (aa (pv 2) ae)) ae)) (aH _))
    (cq (ph (au (uD rfl) rfl B.any yH (aa (bo (N:=["_law_row","_law_lot"]) (ix:=[none,some 2]) ⟨rfl,rfl,rfl,by decide⟩ rfl (bj (ax aC (pv 0) ai (λ_ _=>rfl))) (λ_ _ _ _=>aL 0 (by decide) rfl rfl) (λ_ _ _ _=>bq)
     (λ_ _ _ _=>aB F2 hr (aa (pv 0) (aa (pv 1) ae)))) ae))))))),?_⟩
  have J0:∀x∈ls,aK x:=λx hx=>nm x (Hs.subset hx);have LU:ls.Pairwise Gb:=so.sublist Hs;have Jw:ls.length<=40:=Be Hs.length_le hz;refine⟨_,rfl,_,_,true,rfl,.tup hl,rfl,true,rfl,aG ?_⟩;refine⟨_,rfl,by show 0<=sizeLine;decide,λe he=>?_⟩;have s1:=av (o:=.tup []) (aj.refl H) he;have e1:upd H e (.tup []) e=some (.tup []):=ak;generalize upd H e (.tup [])=H1 at s1 e1 ⊢;have l1:=s1 _ _ hl;refine⟨.tuple (ls.map PyData.str),.tuple [],.tup l1 (Gq.strs ls),.tup e1 .nil,(cT J0).2,(cT (ss:=[]) (by simp)).2,_,rfl,?_⟩;have ev:PyData.eqv (.tuple (ls.map PyData.str)) (.tuple [])=decide (ls=[]):=eV ls [];rw[ev,decide_eq_false FQ];refine aG ?_;have W1:=W.same s1
  refine⟨_,rfl,l,rfl,⟨_,FE.of l1⟩,cG (xs:=ls.map V.str) (fits (by simp;omega)) (λi ys σ H2=>ys=List.replicate i (.bl true)/\H2=H1/\∃x,σ=[x,some (.ref v),some (.str root)]) ⟨rfl,rfl,_,rfl⟩
   (λi ys σ H2 _ q=>⟨by rw[q.1];simp,by rw[q.2.1];exact FE.of l1⟩) ?_ ?_⟩
  .rintro i x ys σ H2 hx ⟨rfl,rfl,g,rfl⟩
   obtain⟨y,hy,rfl⟩:=eL hx;have Kw:=AW hy;have e2:Hc (.str y) (ps.map V.str)=true:=by rw[bM];exact decide_eq_true (Hs.subset Kw)
   refine⟨_,rfl,_,rfl,ay (j:=0) (.inr (FE.of W1.tp)) rfl rfl ⟨pa,ps.map V.str,rfl,.inr (FE.of W1.pl),rfl,bK ps,?_⟩⟩;refine⟨Hc (.str y) (ps.map V.str),rfl,?_⟩;rw[e2];refine be ⟨_,rfl,_,rfl,rfl,?_⟩;have Ll:y≠root:=λz=>Xf (z ▸ Kw);refine⟨?_,rfl,_,rfl⟩;rw[decide_eq_false (λz=>Ll (V.str.inj z)),B8];rfl
  rintro ys σ H2 ⟨rfl,rfl,g,rfl⟩ q3 HM;have s4:=av (o:=.lst (List.replicate (ls.map V.str).length (.bl true))) s1 HM;refine⟨q3,List.replicate _ true,rfl,FF.of (by rw[ak,Cd]),_,rfl,?_⟩;have Ig:∀n:Nat,(List.replicate n true).all id=true:=by simp
  rw[Ig];refine aG ?_;have l4:upd H2 q3 (.lst (List.replicate (ls.map V.str).length (.bl true))) l=some (.tup (ls.map V.str)):=by rw[ag (aq l1 HM)];exact l1
  generalize upd H2 q3 (.lst (List.replicate (ls.map V.str).length (.bl true)))=H4 at s4 l4 ⊢;refine⟨_,rfl,l,_,rfl,.inr (FE.of l4),λc hc=>?_⟩;have s5:=av (o:=.lst (ls.map V.str)) s4 hc;have c5:upd H4 c (.lst (ls.map V.str)) c=some (.lst (ls.map V.str)):=ak;have l5:upd H4 c (.lst (ls.map V.str)) l=some (.tup (ls.map V.str)):=by rw[ag (aq l4 hc)];exact l4
  generalize upd H4 c (.lst (ls.map V.str))=H5 at s5 c5 l5 ⊢;refine⟨_,rfl,l,ls,rfl,FE.of l5,by omega,λst GW=>?_⟩;have Jm:=iW ls.reverse;have GQ:∀x,x∈aW ls.reverse ↔ x∈ls:=λx=>by rw[jc,Eg]
  have Jn:(aW ls.reverse).length<=40:=by
   have:=cV Jm (m:=ls) λx hx=>(GQ x).mp hx;omega
  generalize aW ls.reverse=mt at Jm GQ Jn ⊢;have s6:=av (o:=bF w st mt) s5 GW;have c6:upd H5 st (bF w st mt) c=some (.lst (ls.map V.str)):=by rw[ag (aq c5 GW)];exact c5
  refine⟨st,mt,rfl,ak,by omega,λG7 q7 FY GX IH=>?_⟩;have Pb:G7.Pairwise Gb:=dW GX (FY.nodup_iff.mpr Jm);have JM:ls=G7:=fc LU Pb λx=>by rw[FY.mem_iff,GQ]
  subst JM;have s7:=av (o:=.lst (ls.map V.str)) s6 IH;have c7:upd (upd H5 st (bF w st mt)) q7 (.lst (ls.map V.str)) c=some (.lst (ls.map V.str)):=by rw[ag (aq c6 IH)];exact c6
  have Jh:upd (upd H5 st (bF w st mt)) q7 (.lst (ls.map V.str)) q7=some (.lst (ls.map V.str)):=ak;generalize upd (upd H5 st (bF w st mt)) q7 (.lst (ls.map V.str))=H7 at s7 c7 Jh ⊢;refine⟨.list (ls.map PyData.str),.list (ls.map PyData.str),.lst c7 (Gq.strs ls),.lst Jh (Gq.strs ls),(cT J0).1,(cT J0).1,_,rfl,?_⟩;have Rv:PyData.eqv (.list (ls.map PyData.str)) (.list (ls.map PyData.str))=decide (ls=ls):=eV ls ls;rw[Rv,decide_eq_true rfl];have W7:=W.same s7
  refine be ⟨_,rfl,ay (j:=1) (.inr (FE.of W7.tp)) rfl rfl ⟨ra,rfl,⟨_,FE.of W7.rl⟩,cG (xs:=ao rs) (fits (by simp;omega)) (λi ys σ H8=>ys=List.replicate i (.bl false)/\aj H7 H8/\∃x,σ=[x,some (.ref l)]) ⟨rfl,aj.refl _,_,rfl⟩
   (λi ys σ H8 _ q=>⟨by rw[q.1];simp,FE.of (q.2.1 _ _ W7.rl)⟩) ?_ ?_⟩⟩
  .rintro i x ys σ H8 hx ⟨rfl,s8,g,rfl⟩
   obtain⟨r,FW,rfl⟩:=bY hx;have Io:=AW FW;refine⟨_,rfl,_,rfl,l,r,ls,rfl,s8 _ _ (W7.rows r Io),s8 _ _ (s7 _ _ hl),?_,s8,_,rfl⟩;rw[Xh r Io,B8]
  rintro ys σ H8 ⟨rfl,s8,g,rfl⟩ q hq;refine⟨q,List.replicate _ false,rfl,FF.of (by rw[ak,Cd]),_,rfl,?_⟩;have Rz:∀n:Nat,(List.replicate n false).any id=false:=by simp
  rw[Rz];exact k _ (s7.trans (av s8 hq))
theorem uM {ps:List Str}{root:Str}{rs:List T}{cost:Str->Int}{tr:List T}{Qs:List (List Str×Int)}{ss:List Str} (h:cK ps root rs cost tr Qs) (G:Good ps (rs.map (·.2))) (rt:root∈ps) (hp:ss.Perm (nms tr)) (hs:PyProof.Rows.sortedS ss=true) :
  ss.Pairwise Gb/\pJ root ps (aS rs ss)/\∀x∈ss,x∈nms rs:=by
 have Gf:(nms rs).Nodup:=bZ G.names;have Nc:=h.nms Gf;have so:ss.Pairwise Gb:=dW hs (hp.nodup_iff.mpr Nc);have GH:∀x∈ss,x∈nms rs:=λx hx=>by
  obtain⟨t,ht,e⟩:=AL.mp (hp.mem_iff.mp hx);exact AL.mpr ⟨t,h.sub t ht,e⟩
 have TO:cu root ps rs ss:=⟨so,GH,h.tree.perm ((lp (ps:=ps) Gf Nc h.sub hp).map _)⟩
 have W:=TO.treeW G rt;refine⟨so,⟨W.len2 (bZ G.so),W.goals,λz=>?_,W.isTr⟩,GH⟩;obtain⟨t,ht,e⟩:=AL.mp z;have:=W.tr.nd;rw[A6]at this;exact(Bj.mp this).1 (e ▸ AM (f:=λt:T=>t.2.2.2) ht)
def mY:Sp:=λvs H Q _=>∃(v c t pa ra:Addr) (ps:List Str) (rs:List T) (cs:List Int) (root:Str),vs=[.ref v,.str root,.ref c,.ref t]/\WP H v pa ra ps rs root/\H c=some (.tup (cs.map V.int))/\cs.length=rs.length/\eB rs root (first rs root)/\fh ps root rs cs H t /\
 ∀H':Hp,aj H H'->Q (.bl true) H'
abbrev zY:List Str:=["_law_web_here","_law_root","_law_costs_here","_law_told_here","_law_tree","_law_prices","_law_by_tie"]
theorem iu:aM zY ["_law_web_here","_law_root","_law_costs_here","_law_told_here"] (aE (top 51)):=⟨rfl,rfl,rfl,by decide +kernel,rfl,by decide +kernel,by decide +kernel⟩
theorem u9 (F:FS K "_law_right" "_law_right" (top 51) f fd) (B:Bl mg) (F1:Fn P w K mg base 1 "_law_reached" ["_law_web_here","_law_root"] kQ) (F2:Fn P w K mg base 2 "_law_is_shut" ["_law_web_here","_law_root","_law_lot"] o9)
  (F3:Fn P w K mg base 1 "_law_is_tree" ["_law_web_here","_law_root","_law_thing"] nE) (F4:Fn P w K mg base 3 "_law_reads" ["_law_web_here","_law_root","_law_costs_here","_law_tree","_law_prices"] nK) :
  aF P w K mg base FT 4 f fd ["_law_web_here","_law_root","_law_costs_here","_law_told_here"] mY:=by
 refine F.ok iu (λvs H Q E h=>?_) (λ_ _ _ _ H vs Q E hr h=>?_)
 .obtain⟨v,c,t,pa,ra,ps,rs,cs,root,rfl,_⟩:=h
  rfl
 .obtain⟨v,c,t,pa,ra,ps,rs,cs,root,rfl,wp,hc,Gk,Fu,ta,k⟩:=h
  have GC:aO 1 _:=hr.mono (by decide);have Ky:aO 2 _:=hr.mono (by decide)
  refine⟨_,am (aV (aI eQ (au aX rfl B.len Bb (aa (aB F1 GC (aa (pv 0) (aa (pv 1) ae))) ae)) (au aX rfl B.len Bb (aa (ax aC (pv 0) ai (λ_ _=>rfl)) ae)) (aH _))
    (aw (aJ (b8 (bN ef (ax aC (pv 3) ai (λ_ _=>rfl)) eO (aH _)) (cq (aB F2 Ky (aa (pv 0) (aa (pv 1) (aa (ax aC (pv 3) ai (λ_ _=>rfl)) ae)))))))) aU)
   (am (aV (PW.pt (bG (aI bT (ax aC (pv 3) ai (λ_ _=>rfl)) eO (aH _)) (bG (bu (bg (au (bV (T:="tuple")) rfl B.isinstance bO (aa (ax aC (pv 3) ai (λ_ _=>rfl)) (aa (bS (v:=.ty "tuple") rfl B.tuple bL rfl) ae)))))
    (cf (aI bT (au aX rfl B.len Bb (aa (ax aC (pv 3) ai (λ_ _=>rfl)) ae)) ai (aH _)))))) bP aU)
   (am (eM (ax aC (pv 3) ai (λ_ _=>rfl)) (dI rfl (n:=2) (ba (aY (i:=4) iu.nd rfl (Or.inl rfl)) (ba (aY (i:=5) iu.nd rfl (Or.inl rfl)) cH))))
   (am (aV (PW.pt (bG (bu (bg (aB F3 GC (aa (pv 0) (aa (pv 1) (aa (pv 4) ae)))))) (cf (bu (bg (aB F4 hr (aa (pv 0) (aa (pv 1) (aa (pv 2) (aa (pv 4) (aa (pv 5) ae))))))))))) bP aU)
   (am (aN (i:=6) iu.nd rfl (Or.inr rfl) (bQ (rZ rfl) rfl B.dict yn (aa (bo (N:=["_law_row","_law_cost_here"]) (ix:=[none,none]) ⟨rfl,rfl,rfl,by decide⟩ rfl (jO rfl B.zip (aa (ax aC (pv 0) ai (λ_ _=>rfl)) (aa (pv 2) ae)))
     (λ_ _ _ _=>f9 K rfl (n:=2) (ba (aL 0 (by decide) rfl rfl) (ba (aL 1 (by decide) rfl rfl) cH))) (λ_ _ _ _=>bq) (λ_ _ _ _=>cJ (aa (ax (b6 K) (pv 0) ai (λ_ _=>rfl)) (aa (pv 1) ae)))) ae)))
   (aw (aJ (bN ef (au (iZ rfl) rfl B.sum jS (aa (bo (N:=["_law_tie","_law_by_tie"]) (ix:=[none,some 6]) ⟨rfl,rfl,rfl,by decide⟩ rfl (bj (pv 4)) (λ_ _ _ _=>aL 0 (by decide) rfl rfl) (λ_ _ _ _=>bq) (λ_ _ _ _=>eJ (cA hr) (pv 1) (pv 0) (λ_ _=>rfl))) ae))
    (au (iZ rfl) rfl B.sum jS (aa (bo (N:=["_law_lot","_law_price"]) (ix:=[none,none]) ⟨rfl,rfl,rfl,by decide⟩ rfl (bj (pv 5)) (λ_ _ _ _=>f9 K rfl (n:=2) (ba (aL 0 (by decide) rfl rfl) (ba (aL 1 (by decide) rfl rfl) cH))) (λ_ _ _ _=>bq) (λ_ _ _ _=>pv 1)) ae)) (aH _)))))))),?_⟩
  obtain⟨W,G,L8,IF,IG⟩:=id wp;have Gf:(nms rs).Nodup:=bZ G.names;have GF:∀r∈rs,r.2.2.2∈ps:=λr hr=>(G.rn r.2 (AM hr)).2.2.1;refine⟨_,rfl,_,rfl,v,pa,ra,ps,rs,root,rfl,W,IG,GF,by omega,by omega,λq H1 fs s1 q1 KG HF=>?_⟩;have W1:=W.same s1;refine⟨q,_,rfl,.inl (FF.of q1),_,rfl,ay (j:=0) (.inr (FE.of W1.tp)) rfl rfl ⟨pa,_,rfl,.inr (FE.of W1.pl),_,_,rfl,rfl,_,rfl,?_⟩⟩;have QU:∀x,x∈fs ↔ x∈FL root (first rs root):=λx=>(HF x).trans ⟨λ⟨n,hw⟩=>Fu.cl n x hw,λh=>let ⟨n,hd⟩:=Fu.mem x h;⟨n,hd.1⟩⟩;have Xy:∀x∈fs,x∈ps:=λx hx=>by
   obtain⟨n,hw⟩:=(HF x).mp hx;exact eZ IG (λr hr=>by obtain⟨t,ht,rfl⟩:=AL.mp hr;exact GF t ht) hw
  have U5:=ta.same s1
  rcases U5 with ⟨IT,tr,ss,prs,u,u1,u2,CH,Hk,GX,t1,hu,J4,Jr,HN⟩|⟨FQ,u,t1,hu⟩
  .have LA:ps.length<=fs.length:=cV (bZ G.so) λx hx=>by
    rw[QU];cases Ci (x∈FL root (first rs root))with
    | inl h=>exact h
    | inr h =>
     have:x∈beyond ps rs root:=AS.mpr ⟨hx,by simp[h]⟩;rw[IT]at this;cases this
   rw[decide_eq_false (by rw[AG,AG];omega)];refine aG ⟨_,rfl,ay (j:=0) (.inr (FE.of t1)) rfl rfl ⟨rfl,_,rfl,aG ?_⟩⟩;refine⟨_,rfl,ay (j:=1) (.inr (FE.of t1)) rfl rfl ⟨_,_,true,rfl,.tup hu,rfl,true,rfl,aG ?_⟩⟩;refine⟨_,rfl,ay (j:=1) (.inr (FE.of t1)) rfl rfl ⟨u,_,rfl,.inr (FE.of hu),rfl,_,rfl,aG ?_⟩⟩;refine⟨_,rfl,ay (j:=1) (.inr (FE.of t1)) rfl rfl ⟨u,_,rfl,FE.of hu,rfl,_,_,rfl,_,_,rfl,rfl,?_⟩⟩;obtain⟨so,hok,GH⟩:=uM CH G IG Hk GX;have Hs:ss.length<=8:=by
    have h1:=Hk.length_eq;have h2:=CH.len;rw[AG]at h1;omega
   have Ga:prs.length<=16:=by have:=CH.few;simpa using this
   refine⟨_,rfl,_,rfl,_,rfl,v,pa,ra,u1,ps,rs,root,ss,rfl,wp.same s1,J4,GH,by omega,λb H2 s2 hb=>?_⟩;rw[hb.mpr ⟨so,hok⟩];refine⟨_,rfl,aG ?_⟩;have Sy:=s1.trans s2;refine⟨_,rfl,_,rfl,_,rfl,_,rfl,_,rfl,v,c,u1,u2,pa,ra,ps,rs,cs,root,ss,tr,prs,rfl,W.same Sy,G,L8,Sy _ _ hc,Gk,s2 _ _ J4,Hk,s2 _ _ Jr,λx hx=>⟨s2 _ _ (HN x hx).1,s2 _ _ (HN x hx).2⟩,CH,λH3 s3=>⟨_,rfl,aG ?_⟩⟩;have Od:=s2.trans s3;have K0:=s1.trans Od;have W3:=W.same K0;have c3:=K0 _ _ hc;refine⟨_,rfl,ay (j:=1) (.inr (FE.of W3.tp)) rfl rfl ⟨_,rfl,ra,c,_,_,rfl,FE.of W3.rl,FE.of c3,?_⟩⟩;refine vX (K:=K) (a:=ra) (b:=c) (xs:=ao rs) (ys:=cs.map V.int) (by simp[Gk]) (fits (by simp;omega)) (λi zs σ H4=>(∃ts:List (Addr×Str×V),zs=(ts.map λt=>V.ref t.1)/\(ts.map λt=>((Sum.inr t.2.1:Key),t.2.2))=Gr (rs.take i) (bA rs cs)/\∀t∈ts,H4 t.1=some (.tup [.str t.2.1,t.2.2]))/\aj H3 H4/\∃x1 x2,σ=[x1,x2])
    ⟨⟨[],rfl,rfl,λt ht=>nomatch ht⟩,aj.refl _,_,_,rfl⟩ (λi zs σ H4 _ p=>by
     obtain⟨⟨ts,rfl,e,_⟩,s4,_⟩:=p;have:=congrArg List.length e;simp only[Gr,AG,B0]at this
     exact⟨by rw[AG];omega,FE.of (s4 _ _ W3.rl),FE.of (s4 _ _ c3)⟩) ?_ ?_
   .rintro i x y zs σ H4 U hx hy ⟨⟨ts,rfl,et,Hr⟩,s4,x1,x2,rfl⟩ hU
    obtain⟨r,FW,rfl⟩:=bY hx;obtain⟨z,Lk,rfl⟩:=ie hy;have s5:=av (o:=.tup [.ref r.1,.int z]) (aj.refl H4) hU;have u5:upd H4 U (.tup [.ref r.1,.int z]) U=some (.tup [.ref r.1,.int z]):=ak;generalize upd H4 U (.tup [.ref r.1,.int z])=H5 at s5 u5 ⊢;have rr:=s5 _ _ (s4 _ _ (W3.rows r (AW FW)));refine⟨U,_,rfl,FE.of u5,rfl,_,_,rfl,_,_,rfl,rfl,?_⟩;refine⟨_,rfl,ay (j:=0) (.inr (FE.of rr)) rfl rfl ⟨_,rfl,by show 2<=sizeLine;decide,λT hT=>?_⟩⟩;have s6:=av (o:=.tup [.str r.2.1,.int z]) (aj.refl H5) hT;refine⟨⟨ts++[(T,r.2.1,.int z)],by rw[AX];rfl,?_,λt ht=>?_⟩,s4.trans (s5.trans s6),_,_,rfl⟩
    .rw [AX,et,Br,FW,<- jk Gf FW Lk]
     unfold Gr;rw[AX];rfl
    .rcases A1.mp ht with q|q
     .exact s6 _ _ (s5 _ _ (Hr t q))
     .rw [AQ.mp q];exact ak
   rintro zs σ H4 ⟨⟨ts,rfl,et,Hr⟩,s4,x1,x2,rfl⟩ l hl;rw[show rs.take (ao rs).length=rs from take_all rs (by simp)]at et;have s5:=av (o:=.lst (ts.map λt=>V.ref t.1)) s4 hl;have l5:upd H4 l (.lst (ts.map λt=>V.ref t.1)) l=some (.lst (ts.map λt=>V.ref t.1)):=ak;have t5:∀t∈ts,upd H4 l (.lst (ts.map λt=>V.ref t.1)) t.1=some (.tup [.str t.2.1,t.2.2]):=λt ht=>by rw[ag (aq (Hr t ht) hl)];exact Hr t ht
   generalize upd H4 l (.lst (ts.map λt=>V.ref t.1))=H5 at s5 l5 t5 ⊢;have PY:(ts.map (·.2.1)).Nodup:=by
    have e1:ts.map (·.2.1)=nms rs:=by
     have:=congrArg (List.map λkv:Key×V=>match kv.1 with | .inr x=>x | .inl _=>Str.empty) et;unfold Gr at this;rw[A6,A6]at this;exact this
    rw[e1];exact Gf
   have PX:ts.length<=1000:=by
    have:=congrArg List.length et;simp only[Gr,AG]at this;omega
   refine⟨l,ts,rfl,FF.of l5,t5,PX,PY,λd hd=>?_⟩;rw[et];have s6:=av (o:=.dK (Gr rs (bA rs cs))) s5 hd;have d6:upd H5 d (.dK (Gr rs (bA rs cs))) d=some (.dK (Gr rs (bA rs cs))):=ak;generalize upd H5 d (.dK (Gr rs (bA rs cs)))=H6 at s6 d6 ⊢;have Ob:=Od.trans s6;have v6:=Ob _ _ J4
   refine⟨_,rfl,u1,rfl,⟨_,FE.of v6⟩,cG (xs:=ss.map V.str) (fits (by simp;omega)) (λi ys σ H7=>ys=((ss.take i).map (bA rs cs)).map V.int/\H7=H6/\∃x,σ=[x,some (.ref d)]) ⟨rfl,rfl,_,rfl⟩
    (λi ys σ H7 _ p=>⟨by rw[p.1];simp;omega,by rw[p.2.1];exact FE.of v6⟩) ?_ ?_⟩
   .rintro i x ys σ H7 hx ⟨rfl,rfl,g,rfl⟩
    obtain⟨n,hn,rfl⟩:=eL hx;refine⟨_,rfl,_,rfl,d,.int (bA rs cs n),rfl,?_,?_,rfl,_,rfl⟩
    .have gk:=bw.k (k:=.inr n) d6
     rw[fE (GH n (AW hn))]at gk;exact gk
    .rw [fB _ _ _ _ hn,AX];rfl
   rintro ys σ H7 ⟨rfl,rfl,g,rfl⟩ q2 HW;rw[take_all ss (by simp)];have s8:=av (o:=.lst ((ss.map (bA rs cs)).map V.int)) Ob HW;have q8:upd H7 q2 (.lst ((ss.map (bA rs cs)).map V.int)) q2=some (.lst ((ss.map (bA rs cs)).map V.int)):=ak;generalize upd H7 q2 (.lst ((ss.map (bA rs cs)).map V.int))=H8 at s8 q8 ⊢;refine⟨q2,_,rfl,.inl (FF.of q8),?_⟩;have w8:=s8 _ _ Jr
   refine⟨_,rfl,u2,rfl,⟨_,FE.of w8⟩,gY (xs:=CP.dN prs) (fits (by simp;omega)) (λi ys σ H9=>ys=((prs.take i).map (·.2.2.2)).map V.int/\H9=H8/\∃x1 x2,σ=[x1,x2]) ⟨rfl,rfl,_,_,rfl⟩
    (λi ys σ H9 _ p=>⟨by rw[p.1];simp;omega,by rw[p.2.1];exact FE.of w8⟩) ?_ ?_⟩
   .rintro i x ys σ H9 hx ⟨rfl,rfl,x1,x2,rfl⟩
    obtain⟨p,II,rfl⟩:=gi hx;refine⟨p.1,_,rfl,FE.of (s8 _ _ (HN p (AW II)).1),rfl,_,_,rfl,_,_,rfl,rfl,?_⟩;unfold bX
    dsimp only
    rw[if_pos rfl];refine⟨_,rfl,?_,rfl,_,_,rfl⟩;rw[fB _ _ _ _ II,AX];rfl
   rintro ys σ H9 ⟨rfl,rfl,x1,x2,rfl⟩ q3 HM;rw[take_all prs (by simp)];refine⟨q3,_,rfl,.inl (FF.of ak),rfl,?_⟩;have Rx:(ss.map (bA rs cs)).sum=(prs.map (·.2.2.2)).sum:=by
    rw[i9 (Hk.map (bA rs cs)),A6];have:=CH.sum;rw[A6]at this;exact this
   rw[Rx,decide_eq_true rfl];exact k _ (s1.trans (s8.trans (av (aj.refl _) HM)))
  .have FM:fs.length<ps.length:=by
    obtain⟨x,hx⟩:=List.exists_mem_of_ne_nil _ FQ;obtain⟨WM,Nb⟩:=AS.mp hx;have Lm:x∉fs:=λz=>by
     have:=(QU x).mp z;simp[this]at Nb
    have:=cV (Bj.mpr ⟨Lm,KG⟩) (m:=ps) λy hy=>by
     rcases AO.mp hy with rfl|h
     .exact WM
     .exact Xy y h
    rw[Bd]at this;omega
   rw[decide_eq_true (by rw[AG,AG];omega)];refine be ⟨_,rfl,ay (j:=0) (.inr (FE.of t1)) rfl rfl ⟨rfl,_,rfl,be ?_⟩⟩;refine⟨_,rfl,_,rfl,_,rfl,ay (j:=1) (.inr (FE.of t1)) rfl rfl ?_⟩;refine⟨v,pa,ra,u,ps,rs,root,beyond ps rs root,rfl,W1,G.so,G.nm,by omega,by omega,hu,BJ,FQ,λz=>?_,rC Fu λr hr=>(G.rn r.2 (AM hr)).2.1,λH2 s2=>k H2 (s1.trans s2)⟩;have:=(AS.mp z).2;simp[FL]at this
theorem kE (B:Nat):∀(ts:List Str) (k:Nat) (FH:Str),(∀t∈ts,t.length<=B)->(textFrom k FH ts).length<=FH.length+ts.length*(B+2)
 | [],k,FH,_=>by simp[textFrom]
 | t::r,k,FH,h=>by
  have ht:=h t AK;have e2:((", ":Str)).length=2:=by decide
  have e0:(("":Str)).length=0:=by decide
  unfold textFrom;have ih:=λRG=>kE B r (k+1) RG λx hx=>h x (AR _ hx);simp only[Bd];rw[Nat.add_mul]
  first
   | (refine Be (ih _) ?_;split<;>simp only[Cu,e2,e0]<;>omega)
   | (split<;>refine Be (ih _) ?_<;>simp only[Cu,e2,e0]<;>omega)
theorem shown_list {B:Nat}{ds:List PyData} (h:∀d∈ds,d.shown.length<=B):(PyData.list ds).shown.length<=2+ds.length*(B+2):=by
 have q:=kE B (PyData.shownAll ds) 0 "[" λt ht=>by
  obtain⟨d,hd,rfl⟩:=iP ht;exact h d hd
 rw[iO]at q;have e1:(("[":Str)).length=1:=by decide
 have e2:(("]":Str)).length=1:=by decide
 rw[PyData.shown];unfold listText;rw[Cu,e2];rw[e1]at q;omega
theorem cS.log {z:Int} (h:cS z):z.natAbs.log2<1920:=by
 obtain⟨h1,h2⟩:=h
 by_cases h0:z.natAbs=0
 .rw [h0];decide
 .refine (Nat.log2_lt h0).mpr (Bc (show z.natAbs<2^104 by omega) (DG (by decide) (by decide)))
theorem shown_int {z:Int} (h:cS z):(PyData.int z).shown.length<=1921:=by
 rw[PyData.shown];exact PyProof.Rows.int_text_len_1921 h.log
abbrev fO (cs:List Int):PyData:=.tuple (cs.map PyData.int)
theorem Gq.ints {H:Hp}:∀cs:List Int,Gq H (cs.map V.int) (cs.map PyData.int)
 | []=>.nil
 | x::r=>.cons (.int x) (Gq.ints r)
theorem lP:∀{cs:List Int},(∀z∈cs,cS z)->PyData.showableAll (cs.map PyData.int)=true
 | [],_=>rfl
 | z::r,h=>by
  rw[A8,PyData.showableAll,lP λy hy=>h y (AR _ hy),PyData.showable,decide_eq_true (h z AK).log];rfl
theorem lay_ints:∀cs:List Int,PyData.canLayAll0 (cs.map PyData.int)=true/\PyData.depthAll (cs.map PyData.int)=0
 | []=>⟨rfl,rfl⟩
 | z::r=>by
  have ih:=lay_ints r;rw[A8];simp only[PyData.canLayAll0,PyData.canLay0,PyData.depthAll,PyData.depth,ih.1,ih.2];exact⟨rfl,rfl⟩
abbrev eS (ps:List Str) (rows:List Row) (cs:List Int):PyData:=.list [cD ps rows,fO cs]
theorem vK {ps:List Str}{rows:List Row}{cs:List Int} (G:Good ps rows) (hc:∀z∈cs,cS z) (c40:cs.length<=60) :
  (eS ps rows cs).showable=true/\(eS ps rows cs).hasDict=false/\(eS ps rows cs).depth<=40/\(eS ps rows cs).shown.length<=sizeLine:=by
 have hs:=G.shaped;have l1:=lay_ints cs;have Ts:=hs.2.2;refine⟨?_,PyData.hasDict_of_canLay _ ?_,?_,?_⟩
 .simp only[eS,fO,PyData.showable,PyData.showableAll,uS,lP hc];rfl
 .simp only[eS,fO,PyData.canLay0,PyData.canLayAll0,hs.2.1,l1.1];rfl
 .simp only[eS,fO,PyData.depth,PyData.depthAll,l1.2];omega
 .have b1:=shown_tuple (B:=1921) (ds:=cs.map PyData.int) λd hd=>by
   obtain⟨z,hz,rfl⟩:=AL.mp hd;exact shown_int (hc z hz)
  rw[AG]at b1;have h1:=kM G.nm;have h2:(PyData.tuple (rows.map dP)).shown.length<=3+(rows.map dP).length*(255+2):=shown_tuple (B:=255) λd hd=>by
   obtain⟨r,hr,rfl⟩:=AL.mp hd;obtain⟨a,b,c⟩:=G.ends r hr;have:=kM (ss:=[r.1,r.2.1,r.2.2]) (by simp;exact⟨a,b,c⟩);simpa[dP]using this
  rw[AG]at h2;have p1:=G.pz;have r1:=G.rz;have h3:=shown_tuple (B:=20000) (ds:=[.tuple (ps.map PyData.str),.tuple (rows.map dP)]) λd hd=>by
   simp at hd
   rcases hd with rfl|rfl
   .omega
   .omega
  have h4:(cD ps rows).shown.length<=50000:=by
   unfold cD;simp at h3;omega
  have b3:=shown_list (B:=200000) (ds:=[cD ps rows,fO cs]) λd hd=>by
   simp at hd
   rcases hd with rfl|rfl
   .omega
   .show (PyData.tuple (cs.map PyData.int)).shown.length<=_
    omega
  rw[Bw];simp only[Bd,Es]at b3;show(PyData.list [cD ps rows,fO cs]).shown.length<=_;omega
def MS (x:List Str×Int):PyData:=.tuple [di x.1,.int x.2]
abbrev fw (ss:List Str) (Qs:List (List Str×Int)):PyData:=.tuple [.str (Str.ofString "told"),.tuple [di ss,.tuple (Qs.map MS)]]
abbrev fA (ls:List Str):PyData:=.tuple [.str (Str.ofString "few"),di ls]
theorem pD {H:Hp}:∀{prs:List CP.Pr},CP.ka H prs->Gq H (CP.dN prs) ((prs.map λx=>x.2.2).map MS)
 | [],_=>.nil
 | x::r,h=>by
  obtain⟨a,b⟩:=h x AK;exact .cons (.tup a (.cons (.tup b (Gq.strs _)) (.cons (.int _) .nil))) (pD λy hy=>h y (AR _ hy))
theorem nP:∀{Qs:List (List Str×Int)},(∀x∈Qs,∀y∈x.1,aK y)->PyData.canLayAll0 (Qs.map MS)=true/\PyData.depthAll (Qs.map MS)<=2
 | [],_=>⟨rfl,Bi _⟩
 | x::r,h=>by
  have ih:=nP (Qs:=r) λy hy=>h y (AR _ hy);have l:=fF (h x AK);have i2:=ih.2;rw[A8];simp only[MS,di,PyData.canLayAll0,PyData.canLay0,PyData.depthAll,PyData.depth,l.1,l.2,ih.1];exact⟨rfl,by omega⟩
theorem yo {ss:List Str}{Qs:List (List Str×Int)} (h1:∀y∈ss,aK y) (h2:∀x∈Qs,∀y∈x.1,aK y):SeqAt.shaped (fw ss Qs)=true/\(fw ss Qs).canLay0=true:=by
 have l:=fF h1;have q:=nP h2;have q2:=q.2;have hk:(PyData.str (Str.ofString "told")).canLay0=true:=by decide +kernel
 have hc:(fw ss Qs).canLay0=true:=by
  rw[fw,PyData.canLay0,PyData.canLayAll0,hk];simp only[di,PyData.canLay0,PyData.canLayAll0,l.1,q.1];rfl
 have hd:(fw ss Qs).depth<=8:=by simp only[fw,di,PyData.depth,PyData.depthAll,l.2];omega
 refine⟨?_,hc⟩;unfold SeqAt.shaped;rw[hc,decide_eq_true (by omega)];rfl
theorem xU {ls:List Str} (h1:∀y∈ls,aK y):SeqAt.shaped (fA ls)=true/\(fA ls).canLay0=true:=by
 have l:=fF h1;have hk:(PyData.str (Str.ofString "few")).canLay0=true:=by decide +kernel
 have hc:(fA ls).canLay0=true:=by
  rw[fA,PyData.canLay0,PyData.canLayAll0,hk];simp only[di,PyData.canLay0,PyData.canLayAll0,l.1];rfl
 have hd:(fA ls).depth<=8:=by simp only[fA,di,PyData.depth,PyData.depthAll,l.2];decide
 refine⟨?_,hc⟩;unfold SeqAt.shaped;rw[hc,decide_eq_true (by omega)];rfl
def Td (ps:List Str) (root:Str) (rs:List T) (cs:List Int) (D:PyData):Prop :=
 (beyond ps rs root=[]/\∃(tr:List T) (ss:List Str) (Qs:List (List Str×Int)),cK ps root rs (bA rs cs) tr Qs/\ss.Perm (nms tr)/\PyProof.Rows.sortedS ss=true/\D=fw ss Qs)\/(beyond ps rs root≠[]/\D=fA (beyond ps rs root))
theorem Td.one {ps:List Str}{root:Str}{rs:List T}{cs:List Int}{D D':PyData} (nd:(nms rs).Nodup) (h:Td ps root rs cs D) (h':Td ps root rs cs D'):D=D':=by
 rcases h with ⟨h0,tr,ss,Qs,h1,h2,h3,rfl⟩|⟨h0,rfl⟩
 .rcases h' with ⟨_,Km,FZ,OO,OG,Kc,Mh,rfl⟩|⟨Mi,rfl⟩
  .obtain⟨e1,e2⟩:=h1.same OG
   subst e1 e2;have e:ss=FZ:=fc (dW h3 (h2.nodup_iff.mpr (h1.nms nd))) (dW Mh (Kc.nodup_iff.mpr (h1.nms nd))) λx=>by rw[h2.mem_iff,Kc.mem_iff]
   rw[e]
  .exact absurd h0 Mi
 .rcases h' with ⟨Mi,_⟩|⟨_,rfl⟩
  .exact absurd Mi h0
  .rfl
theorem fh.dv {ps:List Str}{root:Str}{rs:List T}{cs:List Int}{H:Hp}{t:Addr} (G:Good ps (rs.map (·.2))) (h:fh ps root rs cs H t):∃D,Td ps root rs cs D/\DV H (.ref t) D/\SeqAt.shaped D=true/\D.canLay0=true:=by
 rcases h with ⟨h0,tr,ss,prs,u,u1,u2,h1,h2,h3,h4,h5,h6,h7,h8⟩|⟨h0,u,h1,h2⟩
 .have q:=yo (ss:=ss) (Qs:=prs.map λx=>x.2.2) (λy hy=>by
   obtain⟨t,ht,e⟩:=AL.mp (h2.mem_iff.mp hy)
   rw[<- e];exact(G.rn t.2 (AM (h1.sub t ht))).1) (λx hx y hy=>G.nm y ((h1.sl x hx).subset hy))
  exact⟨_,.inl ⟨h0,tr,ss,_,h1,h2,h3,rfl⟩,.tup h4 (.cons (.str _) (.cons (.tup h5 (.cons (.tup h6 (Gq.strs _)) (.cons (.tup h7 (pD h8)) .nil))) .nil)),q.1,q.2⟩
 .have q:=xU (ls:=beyond ps rs root) λy hy=>G.nm y (AS.mp hy).1
  exact⟨_,.inr ⟨h0,rfl⟩,.tup h1 (.cons (.str _) (.cons (.tup h2 (Gq.strs _)) .nil)),q.1,q.2⟩
def iD (K:zz7):Sp:=λvs H Q _=>∃(a:Addr) (ns:List Int),vs=[.ref a]/\FF K H a (ns.map V.int)/\ns.length<=63/\∀H',Q (.bl true) H'
abbrev Ym:List Str:=["_law_script","_law_k","_law_pot_here","_law_web_here","_law_root","_law_trees","_law_costs_here","_law_before","_law_told_here"]
theorem dR:aM Ym ["_law_script"] (aE (top 52)):=⟨rfl,rfl,rfl,by decide +kernel,rfl,by decide +kernel,by decide +kernel⟩
theorem xA (F:FS K "law" "law" (top 52) f fd) (B:Bl mg) (Fp:Fn P w K mg base 2 "_law_pot" ["_law_script","_law_k"] (pE K)) (Ft:Fn P w K mg base 1 "_law_take" ["_law_pot_here","_law_many"] dZ) (Fw:Fn P w K mg base 4 "_law_web" ["_law_pot_here","_law_most_places","_law_most_more"] pj)
  (Fc:Fn P w K mg base 3 "_law_costs" ["_law_pot_here","_law_web_here"] nZ) (Fo:Fn P w K mg base 6 "_law_told" ["_law_web_here","_law_root","_law_costs_here"] oa) (Fr:Fn P w K mg base 4 "_law_right" ["_law_web_here","_law_root","_law_costs_here","_law_told_here"] mY) :
  aF P w K mg base FT 7 f fd ["_law_script"] (iD K):=by
 refine F.ok dR (λvs H Q E h=>?_) (λ_ _ _ _ H vs Q E hr h=>?_)
 .obtain⟨a,ns,rfl,_⟩:=h
  rfl
 .obtain⟨a,ns,rfl,hS,FJ,k⟩:=h
  have GC:aO 1 _:=hr.mono (by decide);have Ky:aO 2 _:=hr.mono (by decide);have Qn:aO 3 _:=hr.mono (by decide);have Tu:aO 4 _:=hr.mono (by decide)
  refine⟨_,am (cj BC rfl (fC rfl B.range (aa (au (lO rfl) rfl B.max pQ (aa ai (aa (au (lK rfl) rfl B.min jT (aa (au aX rfl B.len Bb (aa (pv 0) ae)) (aa ai ae))) ae))) ae)) (aY (i:=1) dR.nd rfl (Or.inl rfl))
    (am (aN (i:=2) dR.nd rfl (Or.inl rfl) (aB Fp Ky (aa (pv 0) (aa (pv 1) ae))))
    (am (eM (aB Fw Tu (aa (pv 2) (aa ai (aa ai ae)))) (dI rfl (n:=3) (ba (aY (i:=3) dR.nd rfl (Or.inl rfl)) (ba (aY (i:=4) dR.nd rfl (Or.inl rfl)) (ba (aY (i:=5) dR.nd rfl (Or.inl rfl)) cH)))))
    (am (aV (aI ef (aB Ft GC (aa (pv 2) (aa ai ae))) ai (aH _)) (aw (aN (i:=4) dR.nd rfl (Or.inl rfl) (ax aC (ax aC (pv 3) ai (λ_ _=>rfl)) (aB Ft GC (aa (pv 2) (aa (au aX rfl B.len Bb (aa (ax aC (pv 3) ai (λ_ _=>rfl)) ae)) ae))) (λ_ _=>rfl)))) aU)
    (am (aN (i:=6) dR.nd rfl (Or.inl rfl) (aB Fc Qn (aa (pv 2) (aa (pv 3) ae))))
    (am (aN (i:=7) dR.nd rfl (Or.inl rfl) (au (kK hr) rfl B.repr oP (aa (cg (aa (pv 3) (aa (pv 6) ae))) ae)))
    (am (aN (i:=8) dR.nd rfl (Or.inl rfl) (aB Fo hr (aa (pv 3) (aa (pv 4) (aa (pv 6) ae)))))
    (am (aV (PW.pt (bG (bu (bg (aB Fr Tu (aa (pv 3) (aa (pv 4) (aa (pv 6) (aa (pv 8) ae))))))) (cf (aI (gm hr) (aB Fo hr (aa (pv 3) (aa (pv 4) (aa (pv 6) ae)))) (pv 8) (aH _))))) bP aU)
    (aw (aV (aI bT (au (kK hr) rfl B.repr oP (aa (cg (aa (pv 3) (aa (pv 6) ae))) ae)) (pv 7) (aH _)) bP aU))))))))))
   (aw (aJ cY)),?_⟩
  refine⟨_,rfl,a,_,rfl,.inl hS,_,_,rfl,_,_,rfl,_,rfl,?_,?_,?_⟩
  .repeat' split
   all_goals omega
  .repeat' split
   all_goals omega
  have Xj:∀x:Int,x=(if (if (4:Int)<((ns.map V.int).length:Int)then 4 else ((ns.map V.int).length:Int))>1 then (if (4:Int)<((ns.map V.int).length:Int)then 4 else ((ns.map V.int).length:Int))else 1)->x.toNat<=8:=λx hx=>by
   subst hx
   repeat' split
   all_goals omega
  refine i7 (λi σ H1=>(∃g1 g2 g3 g4 g5 g6 g7 g8,σ=[some (.ref a),g1,g2,g3,g4,g5,g6,g7,g8])/\aj H H1) ⟨⟨_,_,_,_,_,_,_,_,rfl⟩,aj.refl _⟩ ?_ (λσ H1 _=>k H1);rintro i σ H1 hi ⟨⟨g1,g2,g3,g4,g5,g6,g7,g8,rfl⟩,s1⟩;have hi8:i<8:=Bc hi (Xj _ rfl);refine⟨_,rfl,_,rfl,a,ns,_,rfl,s1.seq hS,by omega,by omega,λp H2 s2 p0 P2=>?_⟩;refine⟨_,rfl,p,rfl,P2,λw0 v tl pa ra root ps rs ts H3 P3 w3 W3 G p8 Pk K3 tl3 T3 O3 Gj t3=>?_⟩;have Vi:aj H1 H3:=λb o e=>K3 b o (s2 b o e) (by simp;exact aq e p0);refine⟨w0,_,rfl,FE.of w3,rfl,_,_,rfl,_,_,rfl,_,_,rfl,rfl,?_⟩;have nvp:v≠p:=by obtain⟨ys,e⟩:=P3.lst;exact tup_ne W3.tp e
  have QO:0<ps.length:=by cases hq:ps with|nil=>exact absurd hq G.ne|cons _ _=>simp
  have Nu:(ps.map V.str).length=ps.length:=by simp
  let M:St->Hp->Prop:=λσ H'=>∃Ha:Str,σ=[some (.ref a),some (.int (0+(i:Int))),some (.ref p),some (.ref v),some (.str Ha),some (.ref tl),g6,g7,g8]/\Ha∈ps/\FV H' p/\Kp [p] H3 H'
  dsimp only
  refine pM M (λN hN=>?_) ?_
  .refine⟨_,rfl,p,4,rfl,P3,by decide,by decide,λm H4 m0 m1 P4 e4=>⟨rfl,_,rfl,?_⟩⟩
   have K4:Kp [p] H3 H4:=λb o e nb=>by rw[e4 b (by simpa using nb)];exact e
   refine aZ (λc=>?_) (λc=>hN _ _ ⟨root,rfl,Gj,P4,K4⟩);have W4:=W3.kp P3 K4;refine⟨_,rfl,ay (j:=0) (.inr (FE.of W4.tp)) rfl rfl ?_⟩;refine⟨_,rfl,_,rfl,ay (j:=0) (.inr (FE.of W4.tp)) rfl rfl ⟨pa,_,rfl,.inr (FE.of W4.pl),p,_,rfl,P4,by omega,by omega,λr H5 r0 r1 P5 e5=>?_⟩⟩;rw[Nu]at r1;have K5:Kp [p] H3 H5:=K4.trans λb o e nb=>by rw[e5 b (by simpa using nb)];exact e
   have W5:=W3.kp P3 K5;have GD:r.toNat<ps.length:=by omega
   exact ay (j:=r.toNat) (.inr (FE.of W5.pl)) (by omega) (strAt GD) (hN _ _ ⟨ps[r.toNat],rfl,Bk GD,P5,K5⟩)
  rintro σ H4 ⟨Ha,rfl,IG,P4,K4⟩;clear Gj O3;have W4:=W3.kp P3 K4;refine⟨_,rfl,_,rfl,p,v,pa,ra,ps,rs,rfl,P4,W4,Pk,λc cs H5 P5 c5 Gk XF K5=>?_⟩;have W5:=W4.kp P4 K5;have Yv:=K4.trans K5;have ncp:c≠p:=by obtain⟨ys,e⟩:=P5.lst;exact tup_ne c5 e
  refine⟨_,rfl,_,rfl,by show 2<=sizeLine;decide,λt1 WW=>?_⟩;have u6:=av (o:=.lst [.ref v,.ref c]) (aj.refl H5) WW;have t6:upd H5 t1 (.lst [.ref v,.ref c]) t1=some (.lst [.ref v,.ref c]):=ak;generalize upd H5 t1 (.lst [.ref v,.ref c])=H6 at u6 t6 ⊢;have W6:=W5.same u6;have c6:=u6 _ _ c5;obtain⟨DA,Rc⟩:∃D,D=eS ps (rs.map (·.2)) cs:=⟨_,rfl⟩
  have sh:=vK (rows:=rs.map (·.2)) (cs:=cs) G XF (by omega);have dv:∀{H':Hp}{q:Addr},bx H' v pa ra ps rs->H' c=some (.tup (cs.map V.int))->H' q=some (.lst [.ref v,.ref c])->DV H' (.ref q) DA:=λ{H' q} W' c' q'=>by
   rw[Rc];exact .lst q' (.cons W'.dv (.cons (.tup c' (Gq.ints cs)) .nil))
  rw[<- Rc]at sh;clear Rc;obtain⟨So,Sn,Sm,Sl⟩:=sh;refine⟨t1,DA,rfl,dv W6 c6 t6,So,Sn,Sm,Sl,?_⟩;refine⟨_,rfl,_,rfl,_,rfl,v,c,pa,ra,ps,rs,cs,Ha,rfl,W6,G,p8,IG,c6,Gk,λt H7 s7 Fu ta=>?_⟩;have W7:=W6.same s7;have c7:=s7 _ _ c6;refine⟨_,rfl,_,rfl,_,rfl,_,rfl,v,c,t,pa,ra,ps,rs,cs,Ha,rfl,⟨W7,G,p8,Pk,IG⟩,c7,Gk,Fu,ta,λH8 s8=>⟨_,rfl,aG ?_⟩⟩;have W8:=W7.same s8;have c8:=s8 _ _ c7;refine⟨_,rfl,_,rfl,_,rfl,v,c,pa,ra,ps,rs,cs,Ha,rfl,W8,G,p8,IG,c8,Gk,λt' H9 s9 _ U6=>?_⟩;obtain⟨D1,d1,d2,d3,d4⟩:=U6.dv G;obtain⟨D2,e1,e2,e3,e4⟩:=(ta.same (s8.trans s9)).dv G;have e:D1=D2:=d1.one (bZ G.names) e1;subst e;refine⟨_,rfl,D1,D1,d2,e2,d3,d3,_,rfl,?_⟩;rw[SeqAt.eqv_refl D1 d4];refine aG ?_;have W9:=W8.same s9;have c9:=s9 _ _ c8;refine⟨_,rfl,_,rfl,by show 2<=sizeLine;decide,λt2 Nf=>?_⟩;have N4:=av (o:=.lst [.ref v,.ref c]) (aj.refl H9) Nf;have Sh:upd H9 t2 (.lst [.ref v,.ref c]) t2=some (.lst [.ref v,.ref c]):=ak;generalize upd H9 t2 (.lst [.ref v,.ref c])=Gy at N4 Sh ⊢;refine⟨t2,DA,rfl,dv (W9.same N4) (N4 _ _ c9) Sh,So,Sn,Sm,Sl,_,rfl,rfl,_,rfl,fm rfl ?_⟩;have KF:Kp [p] H3 Gy:=(((Yv.of_same u6).of_same s7).of_same s8).of_same s9 |>.of_same N4
  exact⟨⟨_,_,_,_,_,_,_,_,rfl⟩,s1.trans λb o e=>KF b o (Vi b o e) (by simp;exact aq e p0)⟩
def aQ (K:zz7) (x:Str) (st:Stmt):Prop:=∃(f:Addr) (oc:zz9) (od:Option Addr) (kV doc pm:zz9) (an:Option Addr) (cd ct:zz9) (sl:Array (Option zz9)),
 PySem.W.nsIn K mainGlobals x=some (some (.ref f))/\K.lookup f=some ⟨oc,od,.func (PySem.W.fnOf x x (dn st) (cR st) (aE st) .none kV doc pm an cd ct),sl⟩/\PySem.W.codeIn K cd x=true/\PySem.W.keepIn K (.ref f)=true
theorem Aw {K:zz7}{x:Str}{st:Stmt}{f:Addr}{oc:zz9}{od:Option Addr}{kV doc pm:zz9}{an:Option Addr}{cd ct:zz9}{sl:Array (Option zz9)} (a:PySem.W.nsIn K mainGlobals x=some (some (.ref f)))
  (l:K.lookup f=some ⟨oc,od,.func (PySem.W.fnOf x x (dn st) (cR st) (aE st) .none kV doc pm an cd ct),sl⟩) (c:PySem.W.codeIn K cd x=true) (k:PySem.W.keepIn K (.ref f)=true):aQ K x st :=
 ⟨f,oc,od,kV,doc,pm,an,cd,ct,sl,a,l,c,k⟩
theorem aT {P:Program}{w:World}{K:zz7}{mg:Str->Option zz9}{base h:Heap}{x:Str}{st:Stmt}{k:Nat}{ps:List Str}{sp:Sp} (D:aQ K x st) (X:K.In h) (G:h.Ns mainGlobals mg)
  (hb:∀(kV doc pm:zz9) (an:Option Addr) (Gn ct:zz9) (us:List zz9),us.length=ps.length->bindArgs (PySem.W.fnOf x x (dn st) (cR st) (aE st) .none kV doc pm an Gn ct) ⟨us,[]⟩=pure (ps.zip us))
  (ok:∀(f:Addr) (fd:FuncData),FS K x x st f fd->aF P w K mg base FT k f fd ps sp):Fn P w K mg base k x ps sp:=by
 obtain⟨f,oc,od,kV,doc,pm,an,cd,ct,sl,a,l,c,kk⟩:=D;have F:=ig (st:=st) l c kk;exact⟨f,_,DJ X G a,kk,F.binds hb,ok f _ F⟩
theorem wm {P:Program}{w:World}{K:zz7}{mg:Str->Option zz9}{base h:Heap}{x:Str}{st:Stmt}{k:Nat}{ps:List Str}{sp:Sp} (D:aQ K x st) (X:K.In h) (G:h.Ns mainGlobals mg)
  (hb:∀(kV doc pm:zz9) (an:Option Addr) (Gn ct:zz9) (us:List zz9),us.length=ps.length->bindArgs (PySem.W.fnOf x x (dn st) (cR st) (aE st) .none kV doc pm an Gn ct) ⟨us,[]⟩=pure (ps.zip us))
  (ok:∀(f:Addr) (fd:FuncData),FS K x x st f fd->aF P w K mg base (Kj P w) k f fd ps sp):RQ P w K mg base k x ps sp:=by
 obtain⟨f,oc,od,kV,doc,pm,an,cd,ct,sl,a,l,c,kk⟩:=D;have F:=ig (st:=st) l c kk;exact⟨f,_,DJ X G a,kk,F.binds hb,ok f _ F⟩
def pC (K:zz7) (x q:Str) (st:Stmt) (C f:Addr):Prop:=∃(oc:zz9) (od:Option Addr) (kV doc pm:zz9) (an:Option Addr) (cd ct:zz9) (sl:Array (Option zz9)),
 PySem.W.nsIn K mainGlobals x=some (some (.ref C))/\gj K eD C f OV "ValueError.__new__"=true/\K.lookup f=some ⟨oc,od,.func (PySem.W.fnOf "__init__" q (dn st) (cR st) (aE st) .none kV doc pm an cd ct),sl⟩/\PySem.W.codeIn K cd q=true/\PySem.W.keepIn K (.ref f)=true
theorem Az {K:zz7}{x q:Str}{st:Stmt}{C f:Addr}{oc:zz9}{od:Option Addr}{kV doc pm:zz9}{an:Option Addr}{cd ct:zz9}{sl:Array (Option zz9)} (a:PySem.W.nsIn K mainGlobals x=some (some (.ref C))) (i:PySem.W.findIn K (.ref C) "__init__"=some (some (.ref f)))
  (l:K.lookup f=some ⟨oc,od,.func (PySem.W.fnOf "__init__" q (dn st) (cR st) (aE st) .none kV doc pm an cd ct),sl⟩) (c:PySem.W.codeIn K cd q=true) (k:PySem.W.keepIn K (.ref f)=true) (e:gj K eD C f OV "ValueError.__new__"=true):pC K x q st C f :=
 ⟨oc,od,kV,doc,pm,an,cd,ct,sl,a,e,l,c,k⟩
theorem zz1 {P:zz9->zz9->zz9->Option Addr->zz9->zz9->List zz9->Prop} (h:∀a b c d e f x0,P a b c d e f [x0]) a b c d e f:∀us:List zz9,us.length=1->P a b c d e f us
 | [_],_=>h _ _ _ _ _ _ _
theorem zz2 {P:zz9->zz9->zz9->Option Addr->zz9->zz9->List zz9->Prop} (h:∀a b c d e f x0 x1,P a b c d e f [x0,x1]) a b c d e f:∀us:List zz9,us.length=2->P a b c d e f us
 | [_,_],_=>h _ _ _ _ _ _ _ _
theorem zz3 {P:zz9->zz9->zz9->Option Addr->zz9->zz9->List zz9->Prop} (h:∀a b c d e f x0 x1 x2,P a b c d e f [x0,x1,x2]) a b c d e f:∀us:List zz9,us.length=3->P a b c d e f us
 | [_,_,_],_=>h _ _ _ _ _ _ _ _ _
theorem zz4 {P:zz9->zz9->zz9->Option Addr->zz9->zz9->List zz9->Prop} (h:∀a b c d e f x0 x1 x2 x3,P a b c d e f [x0,x1,x2,x3]) a b c d e f:∀us:List zz9,us.length=4->P a b c d e f us
 | [_,_,_,_],_=>h _ _ _ _ _ _ _ _ _ _
theorem zz5 {P:zz9->zz9->zz9->Option Addr->zz9->zz9->List zz9->Prop} (h:∀a b c d e f x0 x1 x2 x3 x4,P a b c d e f [x0,x1,x2,x3,x4]) a b c d e f:∀us:List zz9,us.length=5->P a b c d e f us
 | [_,_,_,_,_],_=>h _ _ _ _ _ _ _ _ _ _ _
theorem Ax {l:PySem.W.OpenLaw}{w:World}{K:zz7}{h:Heap}{mg:Str->Option zz9}{fa:Addr} (X:K.In h) (G:h.Ns mainGlobals mg) (Oy:mg "law"=some (.ref fa)) (B:Bl mg) {C fI:Addr}
  (tC:pC K "TooFew" "TooFew.__init__" (Oo (top 5) 0) C fI)
  (d8:aQ K "is_name" (top 8))
  (d9:aQ K "is_whole" (top 9))
  (d10:aQ K "is_rising" (top 10))
  (d11:aQ K "is_sorted_names" (top 11))
  (d12:aQ K "is_among" (top 12))
  (d13:aQ K "is_tie_row" (top 13))
  (d14:aQ K "is_web" (top 14))
  (d15:aQ K "need_web" (top 15))
  (d16:aQ K "need_place" (top 16))
  (d17:aQ K "leads_into" (top 17))
  (d18:aQ K "first_rows" (top 18))
  (d19:aQ K "come_to" (top 19))
  (d21:aQ K "need_costs" (top 21))
  (d23:aQ K "places_beyond" (top 23))
  (d25:aQ K "raise_price" (top 25))
  (d26:aQ K "met_rows" (top 26))
  (d27:aQ K "unmet_lot" (top 27))
  (d28:aQ K "raised_prices" (top 28))
  (d29:aQ K "leads_anew" (top 29))
  (d30:aQ K "tree_along" (top 30))
  (d31:aQ K "cheapest" (top 31))
  (d33:aQ K "_law_at" (top 33))
  (d34:aQ K "_law_pot" (top 34))
  (d35:aQ K "_law_take" (top 35))
  (d36:aQ K "_law_name" (top 36))
  (d37:aQ K "_law_grown" (top 37))
  (d38:aQ K "_law_more" (top 38))
  (d39:aQ K "_law_places" (top 39))
  (d40:aQ K "_law_web" (top 40))
  (d41:aQ K "_law_is_tree" (top 41))
  (d42:aQ K "_law_cost" (top 42))
  (d43:aQ K "_law_costs" (top 43))
  (d44:aQ K "_law_is_price" (top 44))
  (d45:aQ K "_law_into" (top 45))
  (d46:aQ K "_law_are_prices" (top 46))
  (d47:aQ K "_law_reads" (top 47))
  (d48:aQ K "_law_reached" (top 48))
  (d49:aQ K "_law_told" (top 49))
  (d50:aQ K "_law_is_shut" (top 50))
  (d51:aQ K "_law_right" (top 51))
  (d52:aQ K "law" (top 52)) :
  ∃fd:FuncData,(∀(s:zz8) (v:zz9),BindsTo s fd ⟨[v],[]⟩ [("_law_script",v)])/\∀base:Heap,K.In base->base.Ns mainGlobals mg->aF l.prog w K mg base FT 7 fa fd ["_law_script"] (iD K):=by
 obtain⟨f,oc,od,kV,doc,pm,an,cd,ct,sl,a,lk,c,kk⟩:=d52;have e:=Oy.symm.trans (DJ X G a);cases e;refine⟨PySem.W.fnOf "law" "law" (dn (top 52)) (cR (top 52)) (aE (top 52)) .none kV doc pm an cd ct,λs v=>.of_eq rfl,λbase KB _=>?_⟩;obtain⟨ocI,odI,kVI,Yf,pmI,anI,cdI,ctI,slI,a1,a2,a3,a4,a5⟩:=tC;have gC:=DJ X G a1;have xC:=vo KB a2;have FI:=ig (st:=Oo (top 5) 0) a3 a4 a5;have bI:=FI.binds (ps:=["self","lot"]) (zz2 (by intros;rfl));have nI:=wt (P:=l.prog) (w:=w) (mg:=mg) FI xC;have FD:=@aT l.prog w K mg base h;have n8:=FD d8 X G (ps:=["thing"]) (zz1 (by intros;rfl)) λf fd F=>sG F B;have n9:=FD d9 X G (ps:=["thing"]) (zz1 (by intros;rfl)) λf fd F=>rh F B;have SY:=FD d10 X G (ps:=["names"]) (zz1 (by intros;rfl)) λf fd F=>qY F B;have Wm:=FD d11 X G (ps:=["thing"]) (zz1 (by intros;rfl)) λf fd F=>rg F B n8 SY;have SX:=FD d12 X G (ps:=["thing","names"]) (zz2 (by intros;rfl)) λf fd F=>rO F B;have Wl:=FD d13 X G (ps:=["thing","places"]) (zz2 (by intros;rfl)) λf fd F=>qJ F B n8 SX;have Wk:=FD d14 X G (ps:=["thing"]) (zz1 (by intros;rfl)) λf fd F=>ux F B Wm Wl SY;have Wj:=FD d15 X G (ps:=["thing"]) (zz1 (by intros;rfl)) λf fd F=>rJ F Wk;have Wi:=FD d16 X G (ps:=["web","thing"]) (zz2 (by intros;rfl)) λf fd F=>qF F SX;have SW:=FD d17 X G (ps:=["row","lot"]) (zz2 (by intros;rfl)) λf fd F=>qC F;have Wh:=FD d18 X G (ps:=["rows","start"]) (zz2 (by intros;rfl)) λf fd F=>qK F B;have SV:=FD d19 X G (ps:=["rows","start"]) (zz2 (by intros;rfl)) λf fd F=>si F Wh;have Wg:=FD d21 X G (ps:=["web","thing"]) (zz2 (by intros;rfl)) λf fd F=>qA F B n9;have Wf:=FD d23 X G (ps:=["web","found"]) (zz2 (by intros;rfl)) λf fd F=>tG F B;have We:=FD d25 X G (ps:=["prices","left","rows","lot"]) (zz4 (by intros;rfl)) λf fd F=>vH F B SW;have SU:=FD d26 X G (ps:=["rows","left"]) (zz2 (by intros;rfl)) λf fd F=>xR F;have Wd:=FD d27 X G (ps:=["places","root","met"]) (zz3 (by intros;rfl)) λf fd F=>uG F B SV;have Wc:=FD d28 X G (ps:=["places","root","rows","left"]) (zz4 (by intros;rfl)) λf fd F=>tq F B We SU Wd;have Wb:=FD d29 X G (ps:=["row","found","lots"]) (zz3 (by intros;rfl)) λf fd F=>wC F B SW;have Wa:=FD d30 X G (ps:=["met","root","places","lots"]) (zz4 (by intros;rfl)) λf fd F=>vk F B Wb;have V9:=wm (P:=l.prog) (w:=w) (base:=base) d31 X G (ps:=["web","root","costs"]) (zz3 (by intros;rfl)) λf fd F=>vJ F B gC xC nI bI Wj Wi Wg SV Wf Wc Wa SU;have V8:=FD d33 X G (ps:=["_law_script","_law_k"]) (zz2 (by intros;rfl)) λf fd F=>yE F B;have V7:=FD d34 X G (ps:=["_law_script","_law_k"]) (zz2 (by intros;rfl)) λf fd F=>ym F B V8;have Ku:=FD d35 X G (ps:=["_law_pot_here","_law_many"]) (zz2 (by intros;rfl)) λf fd F=>vY F;have Px:=FD d36 X G (ps:=["_law_pot_here","_law_taken"]) (zz2 (by intros;rfl)) λf fd F=>v7 F B Ku;have V6:=FD d37 X G (ps:=["_law_pot_here","_law_places_here","_law_root","_law_rows","_law_taken"]) (zz5 (by intros;rfl)) λf fd F=>vg F B Ku Px;have V5:=FD d38 X G (ps:=["_law_pot_here","_law_places_here","_law_rows","_law_taken","_law_many"]) (zz5 (by intros;rfl)) λf fd F=>xm F B Ku Px;have V4:=FD d39 X G (ps:=["_law_pot_here","_law_most"]) (zz2 (by intros;rfl)) λf fd F=>tY F B Ku Px;have V3:=FD d40 X G (ps:=["_law_pot_here","_law_most_places","_law_most_more"]) (zz3 (by intros;rfl)) λf fd F=>xD F B Ku V4 V6 V5;have V2:=FD d41 X G (ps:=["_law_web_here","_law_root","_law_thing"]) (zz3 (by intros;rfl)) λf fd F=>vc F B;have V1:=FD d42 X G (ps:=["_law_pot_here"]) (zz1 (by intros;rfl)) λf fd F=>wj F B Ku;have V0:=FD d43 X G (ps:=["_law_pot_here","_law_web_here"]) (zz2 (by intros;rfl)) λf fd F=>uI F B Ku V1;have VZ:=FD d44 X G (ps:=["_law_web_here","_law_root","_law_thing"]) (zz3 (by intros;rfl)) λf fd F=>vj F B;have SS:=FD d45 X G (ps:=["_law_row","_law_lot"]) (zz2 (by intros;rfl)) λf fd F=>w5 F;have VY:=FD d46 X G (ps:=["_law_web_here","_law_root","_law_prices"]) (zz3 (by intros;rfl)) λf fd F=>uv F B VZ;have VX:=FD d47 X G (ps:=["_law_web_here","_law_root","_law_costs_here","_law_tree","_law_prices"]) (zz5 (by intros;rfl)) λf fd F=>vL F B VY SS;have VW:=FD d48 X G (ps:=["_law_web_here","_law_root"]) (zz2 (by intros;rfl)) λf fd F=>rB F B;have VV:=FD d49 X G (ps:=["_law_web_here","_law_root","_law_costs_here"]) (zz3 (by intros;rfl)) λf fd F=>vw F B gC xC V9;have VU:=FD d50 X G (ps:=["_law_web_here","_law_root","_law_lot"]) (zz3 (by intros;rfl)) λf fd F=>v9 F B SS;have VT:=FD d51 X G (ps:=["_law_web_here","_law_root","_law_costs_here","_law_told_here"]) (zz4 (by intros;rfl)) λf fd F=>u9 F B VW VU V2 VX;exact xA (ig (st:=top 52) lk c kk) B V7 Ku V3 V0 VV VT
theorem AB {K:zz7}{h:Heap}{mg:Str->Option zz9} (X:K.In h) (G:h.Ns mainGlobals mg) {Kn:Tok}
  (MD:PySem.W.nsIn K mainGlobals "len"=some none)
  (Hi:PySem.W.nsIn K mainGlobals "isinstance"=some none)
  (MG:PySem.W.nsIn K mainGlobals "all"=some none)
  (JU:PySem.W.nsIn K mainGlobals "range"=some none)
  (Jf:PySem.W.nsIn K mainGlobals "sorted"=some none)
  (KR:PySem.W.nsIn K mainGlobals "repr"=some none)
  (MB:PySem.W.nsIn K mainGlobals "max"=some none)
  (MA:PySem.W.nsIn K mainGlobals "min"=some none)
  (Mx:PySem.W.nsIn K mainGlobals "str"=some none)
  (JT:PySem.W.nsIn K mainGlobals "tuple"=some none)
  (KS:PySem.W.nsIn K mainGlobals "list"=some none)
  (ME:PySem.W.nsIn K mainGlobals "int"=some none)
  (Mz:PySem.W.nsIn K mainGlobals "set"=some none)
  (KW:PySem.W.nsIn K mainGlobals "bool"=some none)
  (Mv:PySem.W.nsIn K mainGlobals "zip"=some none)
  (Mw:PySem.W.nsIn K mainGlobals "sum"=some none)
  (MH:PySem.W.nsIn K mainGlobals "abs"=some none)
  (KU:PySem.W.nsIn K mainGlobals "dict"=some none)
  (MF:PySem.W.nsIn K mainGlobals "any"=some none)
  (MC:PySem.W.nsIn K mainGlobals "LONGEST_NAME"=some (some (.int 8 Kn)))
  : Bl mg :=
 ⟨Bv X G MD,Bv X G Hi,Bv X G MG,Bv X G JU,Bv X G Jf,Bv X G KR,Bv X G MB,Bv X G MA,Bv X G Mx,Bv X G JT,Bv X G KS,Bv X G ME,Bv X G Mz,Bv X G KW,Bv X G Mv,Bv X G Mw,Bv X G MH,Bv X G KU,Bv X G MF,⟨Kn,DJ X G MC⟩⟩
theorem walk {l:PySem.W.OpenLaw}{q:Program}{loose:List Str}{XP:(Str->Option zz9)->Heap->Prop}{YP:World->Heap->Prop}{d:DefRec}{K:Params->zz7} (hn:l.most=some 63) (NH:d.params.defaults=[])
  (hY:∀(w:World) (h:Heap),YP w h->(K w.params).In h)
  (F:∀(w:World) (mg:Str->Option zz9) (fa:Addr) (h:Heap),(K w.params).In h->h.Ns mainGlobals mg->mg d.name=some (.ref fa) ->
   ∃fd:FuncData,(∀(s:zz8) (u:zz9),BindsTo s fd ⟨[u],[]⟩ [("_law_script",u)])/\∀base:Heap,(K w.params).In base->base.Ns mainGlobals mg->aF l.prog w (K w.params) mg base FT 7 fa fd ["_law_script"] (iD (K w.params))) :
  PySem.W.WalkO q loose XP YP l.row.toRowW d [] (λf vs=>PySem.call f vs):=
 L2.Au (n:=63) (k:=7) (x:="_law_script") (CX:=λ_=>FT) (sp:=λw=>iD (K w.params)) hn (by decide) NH ⟨rfl,by decide,by decide,rfl⟩ hY F (λ_ _ a ns hl _ hS=>⟨a,ns,rfl,hS,hl,λ_=>rfl⟩) λ_ _ _ _ _ z=>z
end K52
namespace PySem.W.Fast
def tw16649777976753701979:=0
def tw17113352383376909328:=0
def tw14207883891490496630:=0
def tw10448665169106153855:=0
def tw4381095702754662642:=0
def tw12675087959553038427:=0
def tw11285859317039275441:=0
def tw10109449094899443451:=0
def tw18072278590428690496:=0
def tw1375525047512909548:=0
def tw2207459777081562803:=0
def tw3885789965518787389:=0
def tw1662981485230191974:=0
def tw1730428026080206374:=0
def tw5298664133710492829:=0
def tw11804723461638527440:=0
def tw849606347762619645:=0
def tw3746627821779352774:=0
def tw16571924117775180974:=0
def tw12599685975305471582:=0
def tw303549873090341015:=0
def tw8029842426470624868:=0
def tw9035181089168179437:=0
def tw13252618380963030936:=0
def tw11561715462657685938:=0
def tw243988544027911809:=0
def tw5690633479457089939:=0
def tw16340084227730304773:=0
def tw12675493191416695796:=0
def tw11367138829356480271:=0
def tw18107616902934969913:=0
def tw13241266323558944151:=0
def tw11664571392579150555:=0
def tw10813973846474071083:=0
def tw5119008108380037507:=0
def tw9142057238478537784:=0
def tw14701341598093193853:=0
def tw16482181653542458277:=0
def tw6603365161047696619:=0
def tw15344921775077684063:=0
def tw14305862908536467495:=0
def tw10953271685143288304:=0
def tw7346123306436768986:=0
def tw5298018077782480840:=0
def tw3464607853206041061:=0
def tw9023074768302154054:=0
def tw4280782073114877560:=0
def tw4541673472864906182:=0
def tw15414587723656222139:=0
def tw14930081271754781508:=0
def tw11484796928054649185:=0
def tw6676371049293481943:=0
def tw5491458375613634781:=0
def tw3736722406502892271:=0
def tw13801472135897566920:=0
def tw17163197844010614042:=0
def tw12556498651278015256:=0
def tw16884864817091820148:=0
def tw5855991034636406795:=0
def tw1998512951455646574:=0
def tw3723133826122901079:=0
def tw9979686582975338806:=0
def tw15987141411780451800:=0
def tw4149440225240057141:=0
def tw642292742100590931:=0
def tw4545855923376923814:=0
def tw377096701660853275:=0
def tw13695345216261636035:=0
def tw4024069537470640289:=0
def tw1080865143276400844:=0
def tw2334916651738237874:=0
def tw9506495898922944358:=0
def tw4650857521534310814:=0
def tw508105716302712547:=0
def tw9809124244013911322:=0
def tw1428551919905499249:=0
def tw13283011226211175896:=0
def tw13166387996482049684:=0
def tw4823008054409704536:=0
def tw6193359487763459951:=0
def tw13488448413983541080:=0
def tw11101740438612138379:=0
end PySem.W.Fast
open PySem PySem.W PyProof.Rows
set_option maxRecDepth 100000 in
set_option maxHeartbeats 0 in
theorem PySem.Challenge.cw_rootshares_k52_whole_cheapest_shown_holds : PySem.Challenge.rw_rootshares_k52_whole_cheapest_shown.Holds := by
 w_on;o_law;k_head;(case hw=>w_witness2)
 k_fill
 refine K52.walk (l:=PySem.Challenge.rw_rootshares_k52_whole_cheapest_shown) rfl rfl (λw h Y=>PySem.W.kIn_of Y) ?F
 case F =>
  intro w mg fa h KX G Lx;have B:K52.Bl mg:=by
   refine' K52.AB KX G ?len ?isinstance ?all ?range ?sorted ?repr ?max ?min ?str ?tuple ?list ?int ?set ?bool ?zip ?sum ?abs ?dict ?any ?lng
   (case len=>k_is)
   (case isinstance=>k_is)
   (case all=>k_is)
   (case range=>k_is)
   (case sorted=>k_is)
   (case repr=>k_is)
   (case max=>k_is)
   (case min=>k_is)
   (case str=>k_is)
   (case tuple=>k_is)
   (case list=>k_is)
   (case int=>k_is)
   (case set=>k_is)
   (case bool=>k_is)
   (case zip=>k_is)
   (case sum=>k_is)
   (case abs=>k_is)
   (case dict=>k_is)
   (case any=>k_is)
   (case lng=>k_is)
  refine' K52.Ax KX G Lx B ?tC ?d8 ?d9 ?d10 ?d11 ?d12 ?d13 ?d14 ?d15 ?d16 ?d17 ?d18 ?d19 ?d21 ?d23 ?d25 ?d26 ?d27 ?d28 ?d29 ?d30 ?d31 ?d33 ?d34 ?d35 ?d36 ?d37 ?d38 ?d39 ?d40 ?d41 ?d42 ?d43 ?d44 ?d45 ?d46 ?d47 ?d48 ?d49 ?d50 ?d51 ?d52
  (case tC=>(refine' K52.Az ?a ?i ?l ?c ?k ?e;(case a=>k_is);(case i=>k_is);(case l=>k_is);(case c=>k_is);(case k=>k_is);(case e=>kernel_rfl)))
  (case d8=>(refine' K52.Aw ?a ?l ?c ?k;(case a=>k_is);(case l=>k_is);(case c=>k_is);(case k=>k_is)))
  (case d9=>(refine' K52.Aw ?a ?l ?c ?k;(case a=>k_is);(case l=>k_is);(case c=>k_is);(case k=>k_is)))
  (case d10=>(refine' K52.Aw ?a ?l ?c ?k;(case a=>k_is);(case l=>k_is);(case c=>k_is);(case k=>k_is)))
  (case d11=>(refine' K52.Aw ?a ?l ?c ?k;(case a=>k_is);(case l=>k_is);(case c=>k_is);(case k=>k_is)))
  (case d12=>(refine' K52.Aw ?a ?l ?c ?k;(case a=>k_is);(case l=>k_is);(case c=>k_is);(case k=>k_is)))
  (case d13=>(refine' K52.Aw ?a ?l ?c ?k;(case a=>k_is);(case l=>k_is);(case c=>k_is);(case k=>k_is)))
  (case d14=>(refine' K52.Aw ?a ?l ?c ?k;(case a=>k_is);(case l=>k_is);(case c=>k_is);(case k=>k_is)))
  (case d15=>(refine' K52.Aw ?a ?l ?c ?k;(case a=>k_is);(case l=>k_is);(case c=>k_is);(case k=>k_is)))
  (case d16=>(refine' K52.Aw ?a ?l ?c ?k;(case a=>k_is);(case l=>k_is);(case c=>k_is);(case k=>k_is)))
  (case d17=>(refine' K52.Aw ?a ?l ?c ?k;(case a=>k_is);(case l=>k_is);(case c=>k_is);(case k=>k_is)))
  (case d18=>(refine' K52.Aw ?a ?l ?c ?k;(case a=>k_is);(case l=>k_is);(case c=>k_is);(case k=>k_is)))
  (case d19=>(refine' K52.Aw ?a ?l ?c ?k;(case a=>k_is);(case l=>k_is);(case c=>k_is);(case k=>k_is)))
  (case d21=>(refine' K52.Aw ?a ?l ?c ?k;(case a=>k_is);(case l=>k_is);(case c=>k_is);(case k=>k_is)))
  (case d23=>(refine' K52.Aw ?a ?l ?c ?k;(case a=>k_is);(case l=>k_is);(case c=>k_is);(case k=>k_is)))
  (case d25=>(refine' K52.Aw ?a ?l ?c ?k;(case a=>k_is);(case l=>k_is);(case c=>k_is);(case k=>k_is)))
  (case d26=>(refine' K52.Aw ?a ?l ?c ?k;(case a=>k_is);(case l=>k_is);(case c=>k_is);(case k=>k_is)))
  (case d27=>(refine' K52.Aw ?a ?l ?c ?k;(case a=>k_is);(case l=>k_is);(case c=>k_is);(case k=>k_is)))
  (case d28=>(refine' K52.Aw ?a ?l ?c ?k;(case a=>k_is);(case l=>k_is);(case c=>k_is);(case k=>k_is)))
  (case d29=>(refine' K52.Aw ?a ?l ?c ?k;(case a=>k_is);(case l=>k_is);(case c=>k_is);(case k=>k_is)))
  (case d30=>(refine' K52.Aw ?a ?l ?c ?k;(case a=>k_is);(case l=>k_is);(case c=>k_is);(case k=>k_is)))
  (case d31=>(refine' K52.Aw ?a ?l ?c ?k;(case a=>k_is);(case l=>k_is);(case c=>k_is);(case k=>k_is)))
  (case d33=>(refine' K52.Aw ?a ?l ?c ?k;(case a=>k_is);(case l=>k_is);(case c=>k_is);(case k=>k_is)))
  (case d34=>(refine' K52.Aw ?a ?l ?c ?k;(case a=>k_is);(case l=>k_is);(case c=>k_is);(case k=>k_is)))
  (case d35=>(refine' K52.Aw ?a ?l ?c ?k;(case a=>k_is);(case l=>k_is);(case c=>k_is);(case k=>k_is)))
  (case d36=>(refine' K52.Aw ?a ?l ?c ?k;(case a=>k_is);(case l=>k_is);(case c=>k_is);(case k=>k_is)))
  (case d37=>(refine' K52.Aw ?a ?l ?c ?k;(case a=>k_is);(case l=>k_is);(case c=>k_is);(case k=>k_is)))
  (case d38=>(refine' K52.Aw ?a ?l ?c ?k;(case a=>k_is);(case l=>k_is);(case c=>k_is);(case k=>k_is)))
  (case d39=>(refine' K52.Aw ?a ?l ?c ?k;(case a=>k_is);(case l=>k_is);(case c=>k_is);(case k=>k_is)))
  (case d40=>(refine' K52.Aw ?a ?l ?c ?k;(case a=>k_is);(case l=>k_is);(case c=>k_is);(case k=>k_is)))
  (case d41=>(refine' K52.Aw ?a ?l ?c ?k;(case a=>k_is);(case l=>k_is);(case c=>k_is);(case k=>k_is)))
  (case d42=>(refine' K52.Aw ?a ?l ?c ?k;(case a=>k_is);(case l=>k_is);(case c=>k_is);(case k=>k_is)))
  (case d43=>(refine' K52.Aw ?a ?l ?c ?k;(case a=>k_is);(case l=>k_is);(case c=>k_is);(case k=>k_is)))
  (case d44=>(refine' K52.Aw ?a ?l ?c ?k;(case a=>k_is);(case l=>k_is);(case c=>k_is);(case k=>k_is)))
  (case d45=>(refine' K52.Aw ?a ?l ?c ?k;(case a=>k_is);(case l=>k_is);(case c=>k_is);(case k=>k_is)))
  (case d46=>(refine' K52.Aw ?a ?l ?c ?k;(case a=>k_is);(case l=>k_is);(case c=>k_is);(case k=>k_is)))
  (case d47=>(refine' K52.Aw ?a ?l ?c ?k;(case a=>k_is);(case l=>k_is);(case c=>k_is);(case k=>k_is)))
  (case d48=>(refine' K52.Aw ?a ?l ?c ?k;(case a=>k_is);(case l=>k_is);(case c=>k_is);(case k=>k_is)))
  (case d49=>(refine' K52.Aw ?a ?l ?c ?k;(case a=>k_is);(case l=>k_is);(case c=>k_is);(case k=>k_is)))
  (case d50=>(refine' K52.Aw ?a ?l ?c ?k;(case a=>k_is);(case l=>k_is);(case c=>k_is);(case k=>k_is)))
  (case d51=>(refine' K52.Aw ?a ?l ?c ?k;(case a=>k_is);(case l=>k_is);(case c=>k_is);(case k=>k_is)))
  (case d52=>(refine' K52.Aw ?a ?l ?c ?k;(case a=>k_is);(case l=>k_is);(case c=>k_is);(case k=>k_is)))
