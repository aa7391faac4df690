import PyProof.Rows.All
import Wide.All
import OpenK.AllK
import Wide.FinOn
import Lean
import PyProof.EqAt
import PyProof.EqKinds
import PyProof.TupleCall
import KE.KDictList
import PyProof.SetKind
import PyProof.IsRules
import KE.KSortTup
import PyProof.ZipIter
import PyProof.Draws
import PyProof.EnumMake
import PyProof.WalksEnum
import PySem.Challenge.RW_layworld_k11_parts_told
noncomputable section
open Option renaming some→ba,none→K3
local macro_rules|`(#v[])=>`((by decide))|`(#v[$x:term])=>`(.cons $x .nil)|`(#v[$x:term,$y:term,*])=>`(.cons $x #v[$y,*])
local macro_rules|`(#[$x:term])=>`(⟨$x⟩)|`(#[$x:term,$y:term,*])=>`(⟨$x,$y,*⟩)
local macro_rules|`(∅)=>`((by omega))
open _root_ renaming List→HK,Option→HU,Nat→HW,Int→Ik,decide_eq_true_eq→Iw,if_pos→Ix,Array→ID,Bool→IF,if_neg→IK,decide_eq_false→IP,beq_self_eq_true→Jj,of_decide_eq_true→Jl,if_false→JA,False→JF,String→JJ,decide_eq_true→JY,if_true→Kb,or_false→KP,DecidableEq→Lg,of_decide_eq_false→LL,beq_eq_false_iff_ne→Mk,decide_eq_false_iff_not→M9,bne_self_eq_false→ON,True→OT,decide_true→Pb,decide_false→Qi,not_or→QM,dif_pos→QS,Unit→Rc
open PySem renaming wpAny_bind→HL,Value→HM,Shared→HQ,wpAny_pure→HR,Addr→HX,Str→Iv,Expr→Iz,Program→IM,Around→IQ,World→IU,wpAny_newObj_type→IV,Heap→Jc,sizeLine_eq→Jf,wpAny_holding→Jm,wpAny_callSpecial?_slot→Jq,wpAny_call_entry→Jr,codeAny_builtin→Ju,SetTable→Jx,wpAny_setState_of→JE,Obj→JR,wpAny_mono→J2,NameKind→J5,plainId_quiet→Kc,wpAny_field→Kn,wpAny_seqItems→Ko,wpAny_typeNameOfWhole_keyiter→Kq,wpAny_truthy_bool→Ks,DictEntry→Ku,Spec→Kz,Pos→KA,FuncData→KC,wpAny_passesOwn→KH,Stmt→KQ,wpAny_typeNameOf_keyiter→KT,mem_of_lookup→KU,wpAny_askSetting→KZ,wpAny_typeOf→K7,wpAny_ite_split→La,Scope→Ld,Builtin→Le,wpAny_forIn_list→Ls,wpAny_isInstance→Lu,wpAny_updateSeq→LG,wpAny_Call_Name_kw→LH,wpAny_of_eq→LN,codeAny_mono→LP,wpAny_runValue→LU,wpAny_pyIter_list→LX,wpAny_dictEntries→LY,wpAny_standAt→L6,wpAny_attempt→L7,wpAny_letGo→Mb,wpAny_loadPart'→Mf,wpAny_setEntries_of→Ml,IsPart→Mu,call_meets→Mx,wpAny_fieldsOf→Mz,wpAny_setField→MD,wpAny_tryCatch→ME,wpAny_pyIter_slot→MQ,wpAny_newList→M1,wpAny_comprehension_free→M2,noFill_tuple_add→M4,Paired→Na,wpAny_rule→Nc,wpAny_load→Nd,ItemsOf→Ni,wpAny_execs_nil→No,codeAny_of_tree→Nt,wpAny_specialOf→Nu,wpAny_dictEpoch→Nw,builtinLookup_eq_fast→NB,wpAny_isSame_ref_self→ND,wpAny_isOneOf_keyiter→NG,GenState→NJ,isSubtype_stop→NL,wpAny_newTuple→NM,wpAny_pyIter_keyiter→NP,PassesOwn→NW,rangeSize_one→N6,seq_tuple_add→N7,wpAny_handled→N9,sub_set_self→Og,wpAny_setField_rec→Oh,wpAny_pyIter_tuple→Oo,Env→Ow,wpAny_assign_Name→Ox,Operator→Oz,BindsTo→OA,concat_meets→OB,wpAny_sequenceKey→OC,seqIndex_neg→OD,list_append→OE,wpAny_setEpoch_of→OI,wpAny_pyIter_enum→OP,wpAny_pyHash_int→OR,wpAny_pyHash_str→OS,Result→OV,seqIndex_of→O7,wpAny_throw→O8,Walks→O9,wpAny_mkInt→Pa,typeLookup_type→Pf,Keyword→Pl,wpAny_Name→Po,wpAny_bindName→Pp,typeIs_int→Pr,fitsIndex_both→Pu,Params→Pw,call→Px,isSubtype_type→PB,entryFor_alias→PC,intBits_le_64→PR,evalPart_none→PV,call_list_seq→PX,small_one→Qa,CmpOp→Qb,call_range_1→Qe,Sem→Qo,IsRangeIter→Qp,wpAny_alloc→Qw,BoolOp→QN,IsEnum→QP,IsRange→QT,Fin→QY,Drawn→Ra,Model→Rb,Tok→Rl
open List renaming length_map→HN,getElem?_map→HY,getElem?_eq_some_iff→HZ,getElem?_eq_getElem→Ic,size_toArray→Ii,length_append→Im,mem_of_getElem?→Ip,set→Iq,mem_singleton→Ir,all_eq_true→IC,mem_cons→IE,mem_map→II,zipWith→IJ,mem_append_right→IL,range→IN,replicate→IW,mem_append→IY,length_range→Jb,take_add_one→Jd,getElem?_append_left→Je,getElem_mem→Jg,mem_range→Ji,all_cons→Jo,length_take→Jp,not_mem_nil→Js,getElem?_eq_none_iff→Jw,take_length→Jy,map_append→Jz,length_cons→JC,mem_cons_of_mem→JD,mem_cons_self→JG,map_cons→JH,replicate_succ→JT,getElem?_range→JU,map_congr_left→JV,mem_append_left→J3,mem_iff_getElem→J7,mem_of_mem_take→J8,lookup_cons→J9,getElem?_set→Kd,length_nil→Ke,length_singleton→Kh,getElem_inj→Ki,map_map→Km,append_assoc→Kt,length_eq_zero_iff→Kv,append_nil→Kw,any_cons→Ky,getElem?_append_right→KD,nodup_cons→KI,flatten_cons→KM,ext_getElem→K2,foldlM_cons→K5,zip_cons_cons→K8,take_of_length_le→K9,find?_cons→Lb,getElem?_eq_none→Lc,getElem_take→Lf,length_eraseIdx_of_lt→Lk,mem_of_mem_drop→Ln,getD_eq_getElem?_getD→Lo,length_drop→Lq,pairwise_iff_getElem→Ly,filterMap_cons→Lz,drop_of_length_le→LW,pairwise_map→LZ,map_take→L9,mem_filter→Mc,range_succ→Mj,length_zipWith→Mo,mem_filterMap→Mt,nodup_iff_pairwise_ne→MH,extract_eq_take_drop→MK,rel_of_pairwise_cons→ML,ext_getElem?→MR,nodup_append→MV,getElem?_take_of_lt→MX,nodup_range→M8,getElem?_set_self→Nb,range_succ_eq_map→Ng,of_mem_zip→Np,forIn_cons→Nv,find?_some→Nz,length_replicate→NA,take_append_drop→NI,getElem?_set_ne→NK,nodup_nil→NR,eraseDups_cons→N3,flatMap_append→N5,pairwise_cons→On,mem_eraseDups→Os,filter_append→Ot,zip_nil_left→OG,getElem_map→O2,isEmpty_iff→O4,mem_flatMap→O6,foldr_cons→Pj,foldl→Ps,drop_zero→PH,forIn_nil→PL,all_map→Qg,extract→Qm,length→Qq,Nodup→QQ
open PySem.Heap renaming get?_push_of_some→HP,get?_push_size→Ij,lt_size→Io,get?_update_other→IX,get?_update_self→JN,SameBut→JZ,size_push→K1,get?_update_ne→LA,ExtBut→NO,size_update→O1
open Option renaming map_eq_some_iff→HS,map_some→IZ,isSome_iff_exists→Jn,map_eq_none_iff→LS,getD_none→OX,getD_some→O3,map_map→PD,toList→P7
open Bool renaming and_eq_true→HV,false_ne_true→IA,false_eq_true→IB,or_eq_true→J0,not_true→KS,and_true→LC,true_and→L8,and_false→My,not_eq_true'→MS,false_or→MZ,and_eq_false_iff→NC,not_false→NN,and_eq_true_iff→NT,or_false→N8
open PySem.W renaming Frag→Ig,mg_none_of→Jv,nsIn→JL,keepIn→JP,fnOf→Kk,kia_one→KJ,kas_sort→K6,codeIn→Li,methodObj→MN,cellsFrom_some→Nf,OpenLaw→Nq,kat_nil→Ny,KdlSrc→NQ,WalkO→PY,Looks→P6,mg_of→P8,recOk→P9,xlAt→Qn
open Nat renaming le_refl→Ih,ne_of_lt→Iy,lt_of_lt_of_le→IG,le_trans→Jh,lt_irrefl→JM,zero_le→JW,lt_succ_self→J6,ne_of_gt→Kj,div_lt_of_lt_mul→Kr,le_succ→KN,lt_succ_of_lt→KO,le_of_lt→Lp,mul_comm→Lr,le_of_ble_eq_true→L1,succ_le_succ→L4,eq_zero_or_pos→MG,le_add_right→M5,mod_lt→Nh,mul_zero→Nl,pow_le_pow_right→NS,pow_le_pow_left→N4,not_lt→Oj,lt_or_gt_of_ne→Om,lt_of_le_of_lt→Oq,le_of_not_lt→OZ,succ_ne_zero→O0,min_eq_right→O5,min_eq_left→Pk,add_assoc→P3,succ_mul→Qf,min_self→Qh,ble→Rn
open Array renaming length_toList→Il,getElem?_toList→JB,size_map→JI,getElem?_eq_some_iff→JQ,getElem?_eq_getElem→Kg,map→K4,mem_toList_iff→Ll,toList_extract→Lm,getD→LI,forIn_toList→LJ,mem_of_getElem?→L0,getElem_toList→Ma,toList_append→Mm,getElem?_map→MB,perm_iff_toList_perm→MF,toList_push→MP,toList_map→M7,append_assoc→Oc,filterMap→Pg,map_map→P4,toList→Qd
open Int renaming toNat_natCast→Iu,natCast_nonneg→IH,emod_lt_of_pos→KF,emod_nonneg→KL,ediv_nonneg→Mh,zero_add→Nk,natCast_mul→Nr,toNat_of_nonneg→NZ
open PySem.Value renaming ref→IR,none→Ja,type→JS,bool→Lh,str→L3,int→M3
open PySem.SetTable renaming insertAt→IS,below→KY,grown→LV,Probe→MA,sizeAbove→MC,layClean→OO,fits→P0,sameMemory→QH,relaid→Q7,laid→Rj
open Option.some renaming injEq→IT,inj→Jt
open PySem.Around renaming under_plainId→Jk
open PySem.Obj renaming mapSeq→JK,data_mapFields→LK,isFreed_of_fields→NH,cls_mapFields→OL,mapFields→P5
open PySem.Builtin.List renaming listExtendWith→JO,listTooLong→KR,listLengthHint→Mp,listSameRef→MY,listFitsIndex→Pv
open PySem.Builtin.Tuple renaming tupleExact→JX,tupleItemsOf→Lj,tupleHashOf→Lw,tupleCompareSizes→OQ,tupleIsExact→Py
open ForInStep renaming yield→J1
open PySem.Builtin.Range renaming rangeSize→J4,small→Mn
open PyProof.Rows renaming slot_tuple_getitem→Kf,callWith_type1→Kx,subscriptTail_builtinR→LR,assignInOrder_cons→Ms,AllBare→MO,listUpdate_at→M0,SortKind→M6,get?_update_seq→Nx,entry_tuple_getitem→NY,lt_int→N1,args_tuple_getitem→Oe,IsTup→Ov,assignInOrder_nil→Oy,listItems_at→OM,callWith_builtin1→OW,seqEpoch_at→Pc,entry_list_sort→Pi,IntsAre→Pn,slicePart_none→Pq,slot_list_sort→PJ,args_list_sort→PK,tupleItemsOf_→PU,plain_sorted→Qj,entry_sorted→Qk,args_sorted1→Ql,kind_sorted→Qx
open PySem.Str renaming ofString→Kl,length→QJ,join→Rh
open PySem.Builtin.Slice renaming slicePlaces→KG,sliceAdjust→Lv,sliceApplied→Mv,slicePartIndex→Pd,sliceFields→PM
open PySem.Heap.SameBut renaming update→KW,refl→OJ
open PySem.Calls renaming call_function_entry→Lx,Name_function_global→Mr,Constant_str→Od
open PySem.F renaming args_tuple_add_2→LB,entry_tuple_add→LM,plainAttrs_list→LO,slot_tuple_add→LQ,slot_dict_get→NE
open PySem.Builtin.SmallTypes renaming ownedTupleIsFree→LD,nextOf→MM,ownedTupleHandOut→N2
open PySem.NameKind renaming free→LF,cell→Rk
open True renaming intro→L5
open PySem.Builtin.Dict_items renaming ownsTuple→Mg
open PySem.Builtin.Builtins renaming bindParams→Mq
open PySem.SeqAt renaming EqAt→Mw,notIn_listAt→Of,in_listAt→Pe
open Classical renaming byContradiction→MJ,propDecidable→Qc
open PySem.SetTable.probe renaming go→MT
open Function renaming comp_def→MU
open PySem.Paired renaming length→MW
open PySem.Env renaming kindOf→Nj
open PySem.Challenge renaming pw_layworld_k11_parts_told→Nm,rw_layworld_k11_parts_told→Nn
open PySem.Builtin.Dict renaming showsAll→NF,dictSlotNone→PP,pendingCount→PQ
open Sum renaming inl→NU,inr→NV
open PySem.Expr renaming Name→NX
open PySem.SeqAt.EqAt renaming int_str→Oa,str_int→Ob,none_bool→Qr,bool_none→Qs,bool_bool→Qt,none_int→Qy,none_str→Qz,bool_int→QA,bool_str→QC,int_none→QD,int_bool→QE,str_none→QF,str_bool→QG,int_int→QK,str_str→QL,same→Q6
open PUnit renaming unit→Oi
open PySem.Code renaming quiet_builtin→Ol
open PySem.ScopeKind renaming function→Op
open PySem.AutoListH renaming list___mul___list_int_3→Ou
open PySem.AutoSeq1 renaming list_extend_list_list_0→OF,sub_tuple_tuple→PZ
open PySem.SetTable.below renaming go→OH
open PyProof.Rows.IsTup renaming new→OU
open PySem.IsL renaming update→OY
open PySem.Builtin.Frozenset renaming updateFrom→Ph,newClass→Pz,sizeOf→P1
open PySem.Walks renaming list→PF
open PySem.Builtin.Str renaming tooLong→PN,glued→QU
open PySem.Moved renaming eq_with→P2
open PySem.MeetsSeq renaming list_pop_at→Qu
open PySem.Txt renaming join→Qv,mul→Rm
open PySem.Heap.IsSliceOf renaming new→QI
open List.Pairwise renaming nil→QR
open List.Sublist renaming refl→QV
open PySem.Flow renaming next→QX
open PySem.W.Looks renaming ld→QZ
open List.Perm renaming nil_eq→Q1,swap→Rg,map→Ri
open PySem.W.XL renaming keeps→Q5
open PySem.PassesOwn renaming never→Q8
open List.cons renaming injEq→Q9
open Prod renaming ext→Re
open Or renaming inr→Rf
set_option Elab.async false
set_option linter.all false
set_option maxRecDepth 100000
namespace L2
open PySem PySem.Spec PyProof.Rows
noncomputable abbrev nb:=Sum Ik Iv
noncomputable def Bp:nb->HM->IF
 | .inl k,v=>Value.isInt k v
 | .inr x,v=>Value.isStrOf x v
noncomputable def F4 (w:IU):nb->Ik
 | .inl k=>hashInt k
 | .inr x=>hashStr w x
theorem bI:∀ {k:nb} {v:HM},Bp k v=true->(∃i t,k=NU i/\v=M3 i t)\/(∃x t,k=NV x/\v=L3 x t)
 | .inl i,v,h=>by
  obtain⟨t,e⟩:=Value.isInt_shape (k:=i) (v:=v) h;exact .inl #[i,t,rfl,e]
 | .inr x,v,h=>by
  obtain⟨t,e⟩:=Value.isStrOf_shape (x:=x) (v:=v) h;exact .inr #[x,t,rfl,e]
theorem BR (a b:Ik):decide ((NU a:nb)=NU b)=(a==b):=by
 by_cases e:a=b
 ·subst e; simp
 ·have h:¬ (NU a:nb)=NU b:=λq=>e (Sum.inl.inj q)
  rw[IP h];exact(Mk.mpr e).symm
theorem BS (a b:Iv):decide ((NV a:nb)=NV b)=decide (a=b):=by
 by_cases e:a=b
 ·subst e; simp
 ·have h:¬ (NV a:nb)=NV b:=λq=>e (Sum.inr.inj q)
  rw[IP h,IP e]
theorem BU (a:Ik)(b:Iv):decide ((NU a:nb)=NV b)=false:=IP (λq=>nomatch q)
theorem BV (a:Iv)(b:Ik):decide ((NV a:nb)=NU b)=false:=IP (λq=>nomatch q)
noncomputable def nh (prog:IM)(w:IU):PySem.KeyKind prog w nb where
 is:=Bp
 hash:=F4 w
 inj:=λv a b ha hb=>by
  rcases bI ha with⟨i,t,rfl,rfl⟩|⟨x,t,rfl,rfl⟩
  ·rcases bI hb with⟨j,u,rfl,e⟩|⟨y,u,rfl,e⟩
   ·injection e with e1 _; rw[e1]
   ·exact nomatch e
  ·rcases bI hb with⟨j,u,rfl,e⟩|⟨y,u,rfl,e⟩
   ·exact nomatch e
   ·injection e with e1 _; rw[e1]
 byValue:=λk v h=>by
  rcases bI h with⟨i,t,rfl,rfl⟩|⟨x,t,rfl,rfl⟩ <;> rfl
 pyHash:=λhv h=>by
  rcases bI hv with⟨i,t,rfl,rfl⟩|⟨x,t,rfl,rfl⟩
  ·exact OR h
  ·exact OS h
 eqBool:=λhu hv h=>by
  rcases bI hu with⟨i,t,rfl,rfl⟩|⟨x,t,rfl,rfl⟩
  ·rcases bI hv with⟨j,u,rfl,rfl⟩|⟨y,u,rfl,rfl⟩
   ·rw[BR]at h; exact wpAny_eqBool_int h
   ·rw[BU]at h; exact Oa i t y u _ _ _ _ h
  ·rcases bI hv with⟨j,u,rfl,rfl⟩|⟨y,u,rfl,rfl⟩
   ·rw[BV]at h; exact Ob x t j u _ _ _ _ h
   ·rw[BS]at h; exact wpAny_eqBool_str h
 «strs»:=λk x t v h=>by
  rcases bI h with⟨i,u,rfl,e⟩|⟨y,u,rfl,e⟩
  ·exact nomatch e
  ·injection e with e1 _
   subst e1;cases v <;> rfl
inductive V where
 | non|bl (b:IF)|int (i:Ik)|str (x:Iv)|byt (b:ID UInt8)|flt (b:UInt64)|ref (a:HX)|ty (n:JJ)
 deriving Lg
noncomputable def RelV:V->HM->Prop
 | .non,u=>u=Ja
 | .bl b,u=>u=Lh b
 | .int i,u=>∃t,u=M3 i t
 | .str x,u=>∃t,u=L3 x t
 | .byt b,u=>∃t,u=Value.bytes b t
 | .flt b,u=>∃t,u=Value.float b t
 | .ref a,u=>u=IR a
 | .ty n,u=>u=JS n
noncomputable abbrev Vals:HK V->HK HM->Prop:=Na RelV
theorem Vals.length {xs:HK V}{us:HK HM}(r:Vals xs us):xs.length=us.length:=MW r
theorem Vals.get:∀ {xs:HK V} {us:HK HM} {i:HW} {x:V},Vals xs us->xs[i]?=ba x->∃u,us[i]?=ba u/\RelV x u
 | _,_,_,_,.nil,e=>by simp at e
 | _,_,0,_,.cons r _,e=>by simp at e; subst e; exact#[_,rfl,r]
 | _,_,i+1,x,.cons _ t,e=>by
  obtain⟨u,h1,h2⟩:=Vals.get (i:=i) (x:=x) t (by simpa using e)
  exact#[u,by simpa using h1,h2]
theorem Vals.set {x:V}{u:HM}(r:RelV x u):∀ {xs:HK V} {us:HK HM} (i:HW),Vals xs us->Vals (xs.set i x) (us.set i u)
 | _,_,_,.nil=>.nil
 | _,_,0,.cons _ t=>.cons r t
 | _,_,i+1,.cons q t=>.cons q (Vals.set r i t)
theorem Vals.append:∀ {xs ys:HK V} {us ws:HK HM},Vals xs us->Vals ys ws->Vals (xs++ys) (us++ws)
 | _,_,_,_,.nil,s=>s
 | _,_,_,_,.cons r t,s=>.cons r (Vals.append t s)
theorem Vals.take:∀ {xs:HK V} {us:HK HM} (n:HW),Vals xs us->Vals (xs.take n) (us.take n)
 | _,_,0,_=>.nil
 | _,_,_+1,.nil=>.nil
 | _,_,n+1,.cons r t=>.cons r (Vals.take n t)
theorem Vals.drop:∀ {xs:HK V} {us:HK HM} (n:HW),Vals xs us->Vals (xs.drop n) (us.drop n)
 | _,_,0,r=>r
 | _,_,_+1,.nil=>.nil
 | _,_,n+1,.cons _ t=>Vals.drop n t
noncomputable def DT:HU V->HU HM->Prop
 | some v,ba u=>RelV v u
 | none,K3=>OT
 | _,_=>JF
noncomputable def KV {κ:Type}:HK (κ×V)->HK (κ×HM)->Prop:=Na λ(p:κ×V) (q:κ×HM)=>p.1=q.1/\RelV p.2 q.2
noncomputable def kV:nb->V
 | .inl i=>.int i
 | .inr x=>.str x
inductive HO where
 | lst (xs:HK V)
 | tup (xs:HK V)
 | dK (kvs:HK (nb×V))|dT (kvs:HK (HK nb×V))
 | set (S:Ik->IF) (n:HW)
 | ins (C dx:HX) (fs:HK (Iv×V))
 | own (x:HX)
 | xd (fs:HK (Iv×V))
 | met (f x:HX)
 | rng (lo hi:Ik)
 | frz (o:JR) (u:HO)
 | tbl (ps:ID HM)
 | ext (φ:Jc->Prop)
noncomputable abbrev Hp:=HX->HU HO
noncomputable def bP (H:Hp)(a:HX)(o:HO):Hp:=λb=>if b=a then ba o else H b
theorem bf {H:Hp}{a:HX}{o:HO}:bP H a o a=ba o:=by unfold bP; rw[Ix rfl]
theorem aK {H:Hp}{a b:HX}{o:HO}(h:b≠a):bP H a o b=H b:=by unfold bP; rw[IK h]
theorem dO {H:Hp}{a b:HX}{o:HO}(h:H a=ba o)(h':H b=K3):a≠b:=by
 intro e; subst e; rw[h]at h'; cases h'
section
variable (P:IM) (w:IU)
noncomputable def ObjOk (H:Hp)(h:Jc)(a:HX):HO->Prop
 | .lst xs=>xs.length<=sizeLine/\∃(its:HK HM) (n:HW),Vals xs its/\h.get? a=ba { cls:=.type "list",data:=.seq its.toArray n }
 | .tup xs=>xs.length<=sizeLine/\∃its:HK HM,Vals xs its/\Ov h a its.toArray
 | .dK kvs=>kvs.length<=sizeLine/\(a==sysModules)=false/\∃vs,KV kvs vs/\h.DictOf (nh P w) a vs
 | .dT kvs=>kvs.length<=sizeLine/\(a==sysModules)=false/\∃xs:HK (HK nb×HX×HM),
   Na (λ(p:HK nb×V) (q:HK nb×HX×HM)=>p.1=q.1/\H q.2.1=ba (.tup (p.1.map kV))/\RelV p.2 q.2.2) kvs xs/\
   ∃o es ep,h.get? a=ba o/\o.ExactDict/\o.data=.dict es ep/\es.toList=xs.map (entryOfKey (tupleKind (nh P w)))/\(xs.map (·.1)).Nodup
 | .set S n=>h.SetOf (intKind P w) a S n
 | .ins C dx fs=>H dx=ba (.own a)/\fs.length<=1000/\dx≠a/\h.get? a=ba (PySem.W.instObj C dx)/\
   ∃mA,h.Ns1 dx mA/\(∀f,DT (fs.lookup f) (mA f))/\PySem.Within mA (fs.map (·.1))
 | .own _=>∃o,h.get? a=ba o
 | .xd fs=>∃mA,h.Ns1 a mA/\∀f,DT (fs.lookup f) (mA f)
 | .rng lo hi=>∃t u v,h.get? a=ba { cls:=.type "range",data:=.fields [.int lo t,.int hi u,.int 1 v].toArray }
 | .frz o u=>h.get? a=ba o/\ObjOk H h a u
 | .tbl ps=>h.get? a=ba { cls:=.none,data:=.fields ps }
 | .met f x=>h.get? a=ba (MN (.ref f) (.ref x))
 | .ext φ=>φ h/\(∃o,h.get? a=ba o)/\∀h1 h2:Jc,φ h1->(∀o,h1.get? a=ba o->h2.get? a=ba o)->φ h2
noncomputable def HOk (H:Hp)(h:Jc):Prop:=∀a o,H a=ba o->ObjOk P w H h a o
end
section
variable{P:IM}{w:IU}{H H':Hp}{h h':Jc}{a:HX}{o:HO}
theorem ObjOk.lt (x:ObjOk P w H h a o):a < h.objs.size:=by
 cases o with
 | lst xs=>obtain⟨_,_,_,_,e⟩:=x; exact Io e
 | tup xs=>obtain⟨_,_,_,p⟩:=x; exact p.lt
 | dK kvs=>obtain⟨_,_,_,_,o,_,_,e,_⟩:=x; exact Io e
 | dT kvs=>obtain⟨_,_,_,_,o,_,_,e,_⟩:=x; exact Io e
 | set S n=>obtain⟨o,_,_,_,e,_⟩:=x; exact Io e
 | ins C dx fs=>obtain⟨_,_,_,e,_⟩:=x; exact Io e
 | own y=>obtain⟨_,e⟩:=x; exact Io e
 | xd fs=>obtain⟨_,⟨_,_,_,e,_⟩,_⟩:=x; exact Io e
 | rng lo hi=>obtain⟨_,_,_,e⟩:=x; exact Io e
 | frz ob u=>obtain⟨e,_⟩:=x; exact Io e
 | tbl ps=>exact Io (show h.get? a=ba _ from x)
 | met f y=>exact Io (show h.get? a=ba _ from x)
 | ext φ=>obtain⟨_,⟨_,e⟩,_⟩:=x; exact Io e
theorem Paired.mapP {α β:Type}{F G:α->β->Prop}:∀ {l₁:HK α} {l₂:HK β},Na F l₁ l₂->(∀a b,F a b->G a b)->Na G l₁ l₂
 | _,_,.nil,_=>.nil
 | _,_,.cons r t,f=>.cons (f _ _ r) (Paired.mapP t f)
theorem ObjOk.stay (x:ObjOk P w H h a o)(k:∀b u,(b=a\/H b=ba (.own a))->h.get? b=ba u->h'.get? b=ba u)
  (ho:∀b,H b=ba (.own a)->H' b=ba (.own a)) (ht:∀b xs,H b=ba (.tup xs)->H' b=ba (.tup xs)):ObjOk P w H' h' a o:=by
 induction o with
 | lst xs=>obtain⟨z,its,n,r,e⟩:=x; exact#[z,its,n,r,k _ _ (.inl rfl) e]
 | tup xs=>obtain⟨z,its,r,ob,e,c⟩:=x; exact#[z,its,r,ob,k _ _ (.inl rfl) e,c]
 | dK kvs=>obtain⟨z,y,vs,r,ob,es,ep,e,c⟩:=x; exact#[z,y,vs,r,ob,es,ep,k _ _ (.inl rfl) e,c]
 | dT kvs=>
  obtain⟨z,y,xs,r,ob,es,ep,e,c⟩:=x;exact#[z,y,xs,Paired.mapP r λp q z=>#[z.1,ht _ _ z.2.1,z.2.2],ob,es,ep,k _ _ (.inl rfl) e,c]
 | set S n=>obtain⟨ob,es,ep,t,e,c⟩:=x; exact#[ob,es,ep,t,k _ _ (.inl rfl) e,c]
 | ins C dx fs=>
  obtain⟨d,z,ne,e,mA,⟨od,es,ep,e2,c⟩,r⟩:=x;exact#[ho _ d,z,ne,k _ _ (.inl rfl) e,mA,#[od,es,ep,k _ _ (.inr d) e2,c],r]
 | own y=>obtain⟨ob,e⟩:=x; exact#[ob,k _ _ (.inl rfl) e]
 | xd fs=>obtain⟨mA,⟨od,es,ep,e,c⟩,r⟩:=x; exact#[mA,#[od,es,ep,k _ _ (.inl rfl) e,c],r]
 | rng lo hi=>obtain⟨t,u,v,e⟩:=x; exact#[t,u,v,k _ _ (.inl rfl) e]
 | frz ob u ih=>obtain⟨e,q⟩:=x; exact#[k _ _ (.inl rfl) e,ih q]
 | tbl ps=>
  have e:h.get? a=ba { cls:=.none,data:=.fields ps }:=x;show h'.get? a=ba { cls:=.none,data:=.fields ps };exact k a _ (.inl rfl) e
 | met f y=>
  have e:h.get? a=ba (MN (.ref f) (.ref y)):=x;show h'.get? a=ba (MN (.ref f) (.ref y));exact k a _ (.inl rfl) e
 | ext φ=>obtain⟨p,⟨o,e⟩,st⟩:=x; exact#[st _ _ p λo q=>k _ _ (.inl rfl) q,#[o,k _ _ (.inl rfl) e],st]
theorem HOk.lt (x:HOk P w H h)(e:H a=ba o):a < h.objs.size:=(x a o e).lt
theorem HOk.fresh (x:HOk P w H h)(e:h.objs.size<=a):H a=K3:=by
 cases q:H a with
 | none=>rfl
 | some u=>exact absurd (IG (x.lt q) e) (JM _)
theorem HOk.kept (x:HOk P w H h)(k:∀b u,h.get? b=ba u->h'.get? b=ba u):HOk P w H h':=λa o e=>
 (x a o e).stay (λb u _ q=>k b u q) (λ_ q=>q) λ_ _ q=>q
theorem HOk.laid (x:HOk P w H h)(k:∀b u,h.get? b=ba u->h'.get? b=ba u)(hp:h.objs.size<=a)(new:ObjOk P w (bP H a o) h' a o):HOk P w (bP H a o) h':=λb u e=>by
 have hn:=x.fresh hp
 by_cases hb:b=a
 ·subst hb; rw[bf]at e; cases e; exact new
 ·rw[aK hb]at e;exact(x b u e).stay (λc v _ q=>k c v q) (λc q=>by rw[aK (dO q hn)]; exact q) λc xs q=>by rw[aK (dO q hn)]; exact q
end
noncomputable def Rd (H:Hp)(a:HX)(u:HO):Prop:=H a=ba u\/∃o,H a=ba (.frz o u)
theorem Rd.ok {P:IM}{w:IU}{H:Hp}{h:Jc}{a:HX}{u:HO}(r:Rd H a u)(x:HOk P w H h):ObjOk P w H h a u:=by
 rcases r with r|⟨o,r⟩
 ·exact x a u r
 ·obtain⟨_,q⟩:=x a _ r;exact q
noncomputable def DU:HU HO->Prop
 | some (.lst _)=>OT
 | some (.dK _)=>OT
 | some (.dT _)=>OT
 | some (.set _ _)=>OT
 | some (.ins _ _ _)=>OT
 | some (.ext _)=>OT
 | _=>JF
section
variable{P:IM}{w:IU}{H:Hp}{h h':Jc}{x e:HX}{o':HO}
theorem HOk.write (ok:HOk P w H h)(mu:DU (H x))(he:e=x\/H e=ba (.own x))(k:∀b u,b≠e->h.get? b=ba u->h'.get? b=ba u)(heo:∃u,h'.get? e=ba u)
  (new:ObjOk P w (bP H x o') h' x o'):HOk P w (bP H x o') h':=λb u q=>by
 have nown:∀c y,H c=ba (.own y)->c≠x:=λc y r z=>by subst z; rw[r]at mu; exact mu
 have ntup:∀c xs,H c=ba (.tup xs)->c≠x:=λc xs r z=>by subst z; rw[r]at mu; exact mu
 by_cases hb:b=x
 ·subst hb; rw[bf]at q; cases q; exact new
 ·rw[aK hb]at q
  by_cases hbe:b=e
  ·have q':H b=ba (.own x):=by
    rcases he with z|z
    ·exact absurd (hbe.trans z) hb
    ·rw[hbe]; exact z
   rw[q]at q'; cases q'
   obtain⟨v,hv⟩:=heo;exact#[v,by rw[hbe]; exact hv]
  ·refine(ok b u q).stay (λc v hc r=>k c v ?_ r) (λc r=>by rw[aK (nown c b r)]; exact r) λc xs r=>by rw[aK (ntup c xs r)]; exact r
   rcases hc with rfl|hc
   ·exact hbe
   ·rintro rfl;rcases he with z|z
    ·exact nown c b hc z
    ·rw[hc]at z; cases z; exact hb rfl
end
structure Un (fs ex:HK HX)(H H':Hp)(h h':Jc):Prop where
 keep:∀b o,h.get? b=ba o->H b=K3->b∉fs->b∉ex->h'.get? b=ba o
 slot:∀b o,h.get? b=ba o->H b=K3->b∈fs->b∉ex->∃sl,h'.get? b=ba { o with slots:=sl }
 free:∀b o,h.get? b=ba o->H b=K3->b∉ex->H' b=K3
 there:∀b o,h.get? b=ba o->b∉ex->∃o',h'.get? b=ba o'
 tups:∀b xs,H b=ba (.tup xs)->H' b=ba (.tup xs)
 frzs:∀b o u,H b=ba (.frz o u)->H' b=ba (.frz o u)
 tbls:∀b ps,H b=ba (.tbl ps)->∃more,H' b=ba (.tbl (ps++more))
section
variable{fs fs' ex ex':HK HX}{H H1 H2:Hp}{h h1 h2 h':Jc}{a x e:HX}{o:HO}
theorem Un.any (u:Un fs ex H H1 h h1){b:HX}{ob:JR}(q:h.get? b=ba ob)(n:H b=K3)(hx:b∉ex):∃sl,h1.get? b=ba { ob with slots:=sl }:=by
 by_cases hb:b∈fs
 ·exact u.slot b ob q n hb hx
 ·exact#[ob.slots,u.keep b ob q n hb hx]
theorem Un.trans (a:Un fs ex H H1 h h1)(b:Un fs ex H1 H2 h1 h2):Un fs ex H H2 h h2 where
 keep:=λc ob q n hc hx=>b.keep c ob (a.keep c ob q n hc hx) (a.free c ob q n hx) hc hx
 slot:=λc ob q n hc hx=>by
  obtain⟨sl,e1⟩:=a.slot c ob q n hc hx;obtain⟨sl',e2⟩:=b.slot c _ e1 (a.free c ob q n hx) hc hx;exact#[sl',e2]
 free:=λc ob q n hx=>by
  obtain⟨o',e1⟩:=a.there c ob q hx;exact b.free c o' e1 (a.free c ob q n hx) hx
 there:=λc ob q hx=>by
  obtain⟨o',e1⟩:=a.there c ob q hx;exact b.there c o' e1 hx
 tups:=λc xs q=>b.tups c xs (a.tups c xs q)
 frzs:=λc ob xs q=>b.frzs c ob xs (a.frzs c ob xs q)
 tbls:=λc ps q=>by
  obtain⟨m1,e1⟩:=a.tbls c ps q;obtain⟨m2,e2⟩:=b.tbls c _ e1;exact#[m1++m2,by rw[e2,Oc]]
theorem Un.kept (k:∀b u,h.get? b=ba u->h'.get? b=ba u):Un fs ex H H h h':=
 #[λb ob q _ _ _=>k b ob q,λb ob q _ _ _=>#[ob.slots,k b ob q],λ_ _ _ n _=>n,λb ob q _=>#[ob,k b ob q],λ_ _ q=>q,λ_ _ _ q=>q,λ_ ps q=>#[#[],by rw[q]; simp]]
theorem Un.refl:Un fs ex H H h h:=Un.kept λ_ _ q=>q
theorem Un.laid (k:∀b u,h.get? b=ba u->h'.get? b=ba u)(hp:h.objs.size<=a)(hn:H a=K3):Un fs ex H (bP H a o) h h' where
 keep:=λb u q _ _ _=>k b u q
 slot:=λb u q _ _ _=>#[u.slots,k b u q]
 free:=λb u q n _=>by rw[aK (Iy (IG (Io q) hp))]; exact n
 there:=λb u q _=>#[u,k b u q]
 tups:=λb xs q=>by rw[aK (dO q hn)]; exact q
 frzs:=λb u xs q=>by rw[aK (dO q hn)]; exact q
 tbls:=λb ps q=>#[#[],by rw[aK (dO q hn),q]; simp]
theorem Un.write (mu:DU (H x))(he:e=x\/H e=ba (.own x))(k:∀b u,b≠e->h.get? b=ba u->h'.get? b=ba u)(heo:∃u,h'.get? e=ba u):Un fs ex H (bP H x o) h h':=by
 have hx:∀b,H b=K3->b≠x:=λb n z=>by subst z; rw[n]at mu; exact mu
 have hb:∀b,H b=K3->b≠e:=λb n z=>by
  subst z;rcases he with r|r
  ·exact hx b n r
  ·rw[n]at r; cases r
 have hm:∀b u,H b=ba u->¬ DU (ba u)->b≠x:=λb u q nm z=>by subst z; rw[q]at mu; exact nm mu
 refine#[λb u q n _ _=>k b u (hb b n) q,λb u q n _ _=>#[u.slots,k b u (hb b n) q],λb u q n _=>by rw[aK (hx b n)]; exact n,λb u q _=>?_,
  λb xs q=>by rw[aK (hm b _ q λz=>z)]; exact q,λb u xs q=>by rw[aK (hm b _ q λz=>z)]; exact q,λb ps q=>#[#[],by rw[aK (hm b _ q λz=>z),q]; simp]]
 by_cases hbe:b=e
 ·subst hbe; exact heo
 ·exact#[u,k b u hbe q]
end
noncomputable def FP (h:Jc)(H:Hp):HK HX:=(IN h.objs.size).filter λa=>(H a).isSome
noncomputable def ni (h:Jc)(H:Hp):Jc:=PySem.W.hideAll h (FP h H)
theorem tL (h:Jc)(H:Hp):(ni h H).objs.size=h.objs.size:=PySem.W.hideAll_size _ _
theorem vf {h:Jc}{H:Hp}{b:HX}{o:JR}(e:h.get? b=ba o)(n:H b=K3):(ni h H).get? b=ba o:=
 PySem.W.hideAll_get _ e λhm=>by
  have q:(H b).isSome=true:=(Mc.mp hm).2;rw[n]at q; simp at q
theorem yR {h:Jc}{H:Hp}{b:HX}{o:JR}(e:(ni h H).get? b=ba o):h.get? b=ba o/\H b=K3:=by
 have e':h.get? b=ba o:=PySem.W.of_hideAll (FP h H) e;refine#[e',?_];cases q:H b with
 | none=>rfl
 | some x=>
  have hm:b∈FP h H:=Mc.mpr #[Ji.mpr (Io e'),by simp[q]]
  have z:(ni h H).get? b=K3:=PySem.W.hideAll_none (FP h H) hm;rw[z]at e; cases e
noncomputable def yS (g h:Jc)(L:HX):HK (HX×JR):=(IN h.objs.size).filterMap λa=>if a=L\/(g.get? a).isSome=true then K3 else(h.get? a).map λo=>(a,o)
noncomputable def bK (g h:Jc)(L d:HX):HK (HX×JR):=(yS g h L).filter λp=>decide (p.1≠d)
structure Mod (K:Ig)(mg:Iv->HU HM)(base:Jc):Prop where
 kin:K.In base
 glob:base.Ns mainGlobals mg
 blt:∃mb,base.Ns builtinsNs mb/\∀x:Iv,x≠"__name__"->mb x=bootBuiltins x
 nolimit:base.NoLimit
structure Cx where
 prog:IM
 w:IU
 K:Ig
 mg:Iv->HU HM
 base:Jc
 A:IQ
 N:HK Iv
 s₀:HQ
 H₀:Hp
 env:Ow
 outer:HK Ow
 stack:HK Ow
 ex:HK HX
 fn:Iv->IF
 calm:IF
 pn:HK (HX×JR)
 xe:HM->HQ->Prop
noncomputable def qK (l:HK Ow):HK HX:=l.filterMap (·.frame)
noncomputable abbrev Cx.fs (X:Cx):HK HX:=qK X.outer
noncomputable def FQ (sc:Ld)(x:Iv):Prop:=sc.names.lookup x=ba .local\/sc.names.lookup x=ba .cell\/sc.names.lookup x=ba .free
noncomputable def yT (sc:Ld)(x:Iv):Prop:=sc.names.lookup x=ba .local\/sc.names.lookup x=ba .cell
noncomputable def F5 (env:Ow)(h:Jc)(m:Iv->HU HM)(x:Iv)(u:HM):Prop:=
 (env.kindOf x=ba .local/\m x=ba u)\/((env.kindOf x=ba .cell\/env.kindOf x=ba .free)/\∃c,env.cells.lookup x=ba c/\h.IsCell c (ba u))
structure Cx.Ok (X:Cx):Prop where
 mod:Mod X.K X.mg X.base
 kind:X.env.scope.kind=.function
 glob:X.env.globals=mainGlobals
 blt:X.env.builtins=builtinsNs
 above:X.s₀.heap.objs.size<=X.env.locals
 inj:∀x y c,X.env.cells.lookup x=ba c->X.env.cells.lookup y=ba c->x=y
 has:∀x,(X.env.kindOf x=ba .cell\/X.env.kindOf x=ba .free)->∃c,X.env.cells.lookup x=ba c
 cab:∀x c,X.fn x=true->X.env.cells.lookup x=ba c->X.s₀.heap.objs.size<=c
 hd:X.calm=true->X.A.handled=K3
 frames:X.A.frames=ba X.stack
 stk:X.stack=X.outer\/(X.stack=X.env::X.outer/\X.env.frame=ba X.env.locals)
 exf:∀b∈X.ex,b≠X.env.locals/\∀x c,X.env.cells.lookup x=ba c->c≠b
 bs:∀b o,X.base.get? b=ba o->X.s₀.heap.get? b=ba o/\X.H₀ b=K3
 bsz:X.base.objs.size<=X.s₀.heap.objs.size
 noex:∀b o,X.base.get? b=ba o->b∉X.ex
 exfs:∀b∈X.ex,b∉X.fs
 funs:X.s₀.heap.FunFrames X.base X.outer
 frf:∀b∈X.fs,X.H₀ b=K3
structure Inv (X:Cx)(pins:HK (HX×JR))(σ:HK (HU V))(H:Hp)(s:HQ):Prop where
 ok:X.Ok
 os:s.os=X.s₀.os
 bare:MO s.gens
 base:Un X.fs X.ex X.H₀ H X.s₀.heap s.heap
 loc:∃m,s.heap.Ns X.env.locals m/\∀(i:HW) (x:Iv) (v:V),X.N[i]?=ba x->σ[i]?=ba (ba v)->FQ X.env.scope x->∃u,RelV v u/\F5 X.env s.heap m x u
 cell:∀x c,X.env.cells.lookup x=ba c->∃v,s.heap.IsCell c v
 free:H X.env.locals=K3
 freeC:∀x c,X.env.cells.lookup x=ba c->H c=K3
 pin:∀p∈X.pn++pins,s.heap.get? p.1=ba p.2/\H p.1=K3/\p.1≠X.env.locals/\p.1∉X.fs/\∀v,p.2.data≠.cell v
 hok:HOk X.prog X.w H s.heap
 len:σ.length=X.N.length
section
variable{X:Cx}{pins:HK (HX×JR)}{σ:HK (HU V)}{H H':Hp}{s:HQ}{h':Jc}
theorem Cx.Ok.nofr (ok:X.Ok){b:HX}{o:JR}(e:X.base.get? b=ba o):b∉X.fs:=λhb=>by
 have:=(ok.funs.mem hb).1;rw[e]at this; cases this
theorem Inv.bs (I:Inv X pins σ H s):∀b o,X.base.get? b=ba o->s.heap.get? b=ba o/\H b=K3:=λb o e=>
 #[I.base.keep b o (I.ok.bs b o e).1 (I.ok.bs b o e).2 (I.ok.nofr e) (I.ok.noex b o e),I.base.free b o (I.ok.bs b o e).1 (I.ok.bs b o e).2 (I.ok.noex b o e)]
theorem Inv.bk (I:Inv X pins σ H s):∀b o,X.base.get? b=ba o->s.heap.get? b=ba o:=λb o e=>(I.bs b o e).1
theorem Inv.mod (I:Inv X pins σ H s):Mod X.K X.mg X.base:=I.ok.mod
theorem Inv.kIn (I:Inv X pins σ H s):X.K.In s.heap:=I.ok.mod.kin.keeps I.bk
theorem Inv.lt (I:Inv X pins σ H s):X.env.locals < s.heap.objs.size:=let ⟨_,hn,_⟩:=I.loc; hn.lt
theorem Inv.sz (I:Inv X pins σ H s):X.s₀.heap.objs.size<=s.heap.objs.size:=Jh I.ok.above (Lp I.lt)
theorem Inv.nofs (I:Inv X pins σ H s){a:HX}(h:s.heap.objs.size<=a):a∉X.fs:=λhb=>by
 obtain⟨_,o,ho,_⟩:=I.ok.funs.mem hb;exact absurd (IG (Io ho) (Jh I.sz h)) (JM _)
theorem Inv.cne (I:Inv X pins σ H s):∀x c,X.env.cells.lookup x=ba c->c≠X.env.locals:=λx c e z=>by
 obtain⟨v,o,ho,hd⟩:=I.cell x c e;obtain⟨m,⟨o',es,ep,ho',hd',_⟩,_⟩:=I.loc;rw[z,ho']at ho; cases ho; rw[hd']at hd; cases hd
theorem Inv.funs (I:Inv X pins σ H s):s.heap.FunFrames X.base X.outer:=by
 have all:∀(l:HK Ow),(∀b∈qK l,b∈X.fs)->X.s₀.heap.FunFrames X.base l->s.heap.FunFrames X.base l:=by
  intro l
  induction l with
  | nil=>intro _ _; trivial
  | cons env r ih=>
   intro hs hl;obtain⟨hk,⟨L,o,hf,hn,ho,hd⟩,hr⟩:=hl;have hL:L∈X.fs:=hs L (by unfold qK; rw[Lz,hf]; exact JG)
   obtain⟨sl,e⟩:=I.base.slot L o ho (I.ok.frf L hL) hL λz=>I.ok.exfs L z hL
   exact#[hk,#[L,_,hf,hn,e,hd],ih (λb hb=>hs b (by unfold qK; rw[Lz,hf]; exact JD _ hb)) hr]
 exact all X.outer (λ_ hb=>hb) I.ok.funs
theorem Inv.stack (I:Inv X pins σ H s):s.heap.FunFrames X.base X.stack:=by
 rcases I.ok.stk with e|⟨e,hf⟩
 ·rw[e]; exact I.funs
 ·rw[e];obtain⟨m,hn,_⟩:=I.loc;refine .cons (by rw[I.ok.kind]; decide) hf hn ?_ I.funs
  exact Heap.get?_none_of_le (Jh I.ok.bsz I.ok.above)
theorem Inv.stkSub (I:Inv X pins σ H s):∀b∈qK X.stack,b∈X.env.locals::X.fs:=λb hb=>by
 rcases I.ok.stk with e|⟨e,hf⟩
 ·rw[e]at hb; exact JD _ hb
 ·rw[e]at hb;unfold qK at hb;rw[Lz,hf]at hb;exact hb
theorem Inv.stkFree (I:Inv X pins σ H s):∀b∈qK X.stack,H b=K3:=λb hb=>by
 rcases IE.mp (I.stkSub b hb)with e|hb
 ·rw[e]; exact I.free
 ·obtain⟨_,o,ho,_⟩:=I.ok.funs.mem hb;exact I.base.free b o ho (I.ok.frf b hb) λz=>I.ok.exfs b z hb
theorem Inv.step {g':ID NJ}{t':HW}{d':Ra}{ch:HK HX}(I:Inv X pins σ H s)
  (hch:∀b∈ch,(b∈X.ex\/X.s₀.heap.objs.size<=b)/\b≠X.env.locals/\(∀x c,X.env.cells.lookup x=ba c->c≠b)/\∀p∈X.pn++pins,p.1≠b)
  (keep:∀b o,b≠X.env.locals->b∉X.fs->b∉ch->s.heap.get? b=ba o->H b=K3->h'.get? b=ba o)
  (slot:∀b o,b≠X.env.locals->b∈X.fs->b∉ch->s.heap.get? b=ba o->H b=K3->∃sl,h'.get? b=ba { o with slots:=sl }) (free:∀b o,b∉ch->s.heap.get? b=ba o->H b=K3->H' b=K3)
  (there:∀b o,b∉ch->s.heap.get? b=ba o->∃o',h'.get? b=ba o')
  (tups:∀b xs,H b=ba (.tup xs)->H' b=ba (.tup xs)) (frzs:∀b o u,H b=ba (.frz o u)->H' b=ba (.frz o u)) (tbls:∀b ps,H b=ba (.tbl ps)->∃more,H' b=ba (.tbl (ps++more)))
  (ns:∀m,s.heap.Ns X.env.locals m->h'.Ns X.env.locals m) (hok:HOk X.prog X.w H' h') (hg:MO g') :
  Inv X pins σ H' { s with heap:=h',gens:=g',drawn:=d',toks:=t' }:=by
 have neL:∀b o,X.s₀.heap.get? b=ba o->b≠X.env.locals:=λb o e=>Iy (IG (Io e) I.ok.above)
 have neC:∀b o,X.s₀.heap.get? b=ba o->b∉X.ex->b∉ch:=λb o e hx hb=>by
  rcases(hch b hb).1 with z|z
  ·exact hx z
  ·exact absurd (IG (Io e) z) (JM _)
 have cellK:∀x c,X.env.cells.lookup x=ba c->∀v,s.heap.IsCell c v->h'.IsCell c v:=λx c e v #[o,ho,hd]=>by
  have nch:c∉ch:=λz=>(hch c z).2.2.1 x c e rfl
  by_cases hc:c∈X.fs
  ·obtain⟨sl,q⟩:=slot c o (I.cne x c e) hc nch ho (I.freeC x c e);exact#[_,q,hd]
  ·exact#[o,keep c o (I.cne x c e) hc nch ho (I.freeC x c e),hd]
 refine#[I.ok,I.os,hg,#[λb o e n hb hx=>?_,λb o e n hb hx=>?_,λb o e n hx=>?_,λb o e hx=>?_,λb xs e=>tups b xs (I.base.tups b xs e),λb o xs e=>frzs b o xs (I.base.frzs b o xs e),λb ps e=>?_],?_,λx c e=>?_,?_,λx c e=>?_,λp hp=>?_,hok,I.len]
 ·exact keep b o (neL b o e) hb (neC b o e hx) (I.base.keep b o e n hb hx) (I.base.free b o e n hx)
 ·obtain⟨sl,e1⟩:=I.base.slot b o e n hb hx;obtain⟨sl',e2⟩:=slot b _ (neL b o e) hb (neC b o e hx) e1 (I.base.free b o e n hx);exact#[sl',e2]
 ·obtain⟨o',e1⟩:=I.base.there b o e hx;exact free b o' (neC b o e hx) e1 (I.base.free b o e n hx)
 ·obtain⟨o',e1⟩:=I.base.there b o e hx;exact there b o' (neC b o e hx) e1
 ·obtain⟨m1,e1⟩:=I.base.tbls b ps e;obtain⟨m2,e2⟩:=tbls b _ e1;exact#[m1++m2,by rw[e2,Oc]]
 ·obtain⟨m,hn,hl⟩:=I.loc;refine#[m,ns m hn,λi x v e1 e2 e3=>?_]
  obtain⟨u,r,l⟩:=hl i x v e1 e2 e3;refine#[u,r,?_];rcases l with l|⟨k,c,e,z⟩
  ·exact .inl l
  ·exact .inr #[k,c,e,cellK x c e _ z]
 ·obtain⟨v,z⟩:=I.cell x c e;exact#[v,cellK x c e v z]
 ·obtain⟨m,⟨o,_,_,ho,_⟩,_⟩:=I.loc;exact free _ o (λz=>(hch _ z).2.1 rfl) ho I.free
 ·obtain⟨v,o,ho,hd⟩:=I.cell x c e;exact free c o (λz=>(hch c z).2.2.1 x c e rfl) ho (I.freeC x c e)
 ·obtain⟨e,n,ne,nf,d⟩:=I.pin p hp;have nch:p.1∉ch:=λz=>(hch p.1 z).2.2.2 p hp rfl
  exact#[keep p.1 p.2 ne nf nch e n,free p.1 p.2 nch e n,ne,nf,d]
theorem Inv.un {t':HW}(I:Inv X pins σ H s)(u:Un X.fs [] H H' s.heap h')(hok:HOk X.prog X.w H' h'):Inv X pins σ H' { s with heap:=h',toks:=t' }:=by
 obtain⟨m,⟨o,es,ep,ho,r⟩,_⟩:=id I.loc;obtain⟨sl,hL⟩:=u.any ho I.free (by simp)
 exact I.step (g':=s.gens) (d':=s.drawn) (ch:=[]) (λ_ z=>nomatch z) (λb o _ hb _ e n=>u.keep b o e n hb (by simp)) (λb o _ hb _ e n=>u.slot b o e n hb (by simp)) (λb o _ e n=>u.free b o e n (by simp)) (λb o _ e=>u.there b o e (by simp)) u.tups u.frzs u.tbls (λm' hm=>by
  obtain⟨o',es',ep',ho',r'⟩:=hm;rw[ho]at ho'; cases ho'
  exact#[_,es',ep',hL,r']) hok I.bare
theorem Inv.call {g':ID NJ}{t':HW}{d':Ra}{ch:HK HX}(I:Inv X pins σ H s)(u:Un (qK X.stack) ch H H' s.heap h')(hok:HOk X.prog X.w H' h')(hg:MO g')
  (hch:∀b∈ch,(b∈X.ex\/X.s₀.heap.objs.size<=b)/\b≠X.env.locals/\(∀x c,X.env.cells.lookup x=ba c->c≠b)/\∀p∈X.pn++pins,p.1≠b) :
  Inv X pins σ H' { s with heap:=h',gens:=g',drawn:=d',toks:=t' }:=by
 obtain⟨m,⟨o,es,ep,ho,r⟩,_⟩:=id I.loc;obtain⟨sl,hL⟩:=u.any ho I.free λz=>(hch _ z).2.1 rfl
 exact I.step (ch:=ch) hch (λb o hL hb hc e n=>u.keep b o e n (λz=>(IE.mp (I.stkSub b z)).elim hL hb) hc) (λb o _ _ hc e n=>u.any e n hc) (λb o hc e n=>u.free b o e n hc) (λb o hc e=>u.there b o e hc) u.tups u.frzs u.tbls (λm' hm=>by
  obtain⟨o',es',ep',ho',r'⟩:=hm;rw[ho]at ho'; cases ho'
  exact#[_,es',ep',hL,r']) hok hg
theorem Inv.turned {t':HW}{it:HX}(I:Inv X pins σ H s)(k:∀b o,b≠it->s.heap.get? b=ba o->h'.get? b=ba o)(hn:H it=K3)(hL:it≠X.env.locals)
  (h1:it∈X.ex\/X.s₀.heap.objs.size<=it) (h2:∀x c,X.env.cells.lookup x=ba c->c≠it) (h3:∀p∈X.pn++pins,p.1≠it):Inv X pins σ H { s with heap:=h',toks:=t' }:=by
 have nit:∀b u,H b=ba u->b≠it:=λb u e z=>by rw[z,hn]at e; cases e
 refine I.step (g':=s.gens) (d':=s.drawn) (ch:=[it]) (λb hb=>?_) (λb o _ _ hc e _=>k b o (λz=>hc (by simp[z])) e) (λb o _ _ hc e _=>#[o.slots,k b o (λz=>hc (by simp[z])) e]) (λ_ _ _ _ n=>n)
  (λb o hc e=>#[o,k b o (λz=>hc (by simp[z])) e]) (λ_ _ e=>e) (λ_ _ _ e=>e) (λb ps e=>#[#[],by rw[e]; simp]) (λm hm=>?_) (λb u e=>?_) I.bare
 ·have e:b=it:=by simpa using hb
  subst e;exact#[h1,hL,h2,h3]
 ·obtain⟨o,es,ep,ho,r⟩:=hm;exact#[o,es,ep,k _ o (Ne.symm hL) ho,r]
 ·refine(I.hok b u e).stay (λc v hc q=>k c v ?_ q) (λ_ q=>q) λ_ _ q=>q
  rcases hc with z|z
  ·rw[z]; exact nit b u e
  ·exact nit c _ z
theorem Inv.tok (I:Inv X pins σ H s)(t:HW):Inv X pins σ H { s with toks:=t }:=I.un (h':=s.heap) (t':=t) Un.refl I.hok
theorem Inv.kept {t':HW}(I:Inv X pins σ H s)(k:∀b u,s.heap.get? b=ba u->h'.get? b=ba u):Inv X pins σ H { s with heap:=h',toks:=t' }:=I.un (Un.kept k) (I.hok.kept k)
theorem Inv.laid {a:HX}{o:HO}{t':HW}(I:Inv X pins σ H s)(k:∀b u,s.heap.get? b=ba u->h'.get? b=ba u)(hp:s.heap.objs.size<=a)(new:ObjOk X.prog X.w (bP H a o) h' a o) :
  Inv X pins σ (bP H a o) { s with heap:=h',toks:=t' }:=I.un (Un.laid k hp (I.hok.fresh hp)) (I.hok.laid k hp new)
theorem Inv.write {x e:HX}{o:HO}{t':HW}(I:Inv X pins σ H s)(mu:DU (H x))(he:e=x\/H e=ba (.own x))(k:∀b u,b≠e->s.heap.get? b=ba u->h'.get? b=ba u)(heo:∃u,h'.get? e=ba u)
  (new:ObjOk X.prog X.w (bP H x o) h' x o):Inv X pins σ (bP H x o) { s with heap:=h',toks:=t' }:=I.un (Un.write mu he k heo) (I.hok.write mu he k heo new)
theorem Inv.pins_of {pins':HK (HX×JR)}(I:Inv X pins σ H s)(h:∀p∈pins',s.heap.get? p.1=ba p.2/\H p.1=K3/\p.1≠X.env.locals/\p.1∉X.fs/\∀v,p.2.data≠.cell v):Inv X pins' σ H s:=
 #[I.ok,I.os,I.bare,I.base,I.loc,I.cell,I.free,I.freeC,λp hp=>(IY.mp hp).elim (λz=>I.pin p (J3 _ z)) (h p),I.hok,I.len]
theorem oP {N:HK Iv}(hN:N.Nodup){i j:HW}{x:Iv}(a:N[i]?=ba x)(b:N[j]?=ba x):i=j:=by
 obtain⟨h1,e1⟩:=HZ.mp a;obtain⟨h2,e2⟩:=HZ.mp b;exact(Ki hN).mp (e1.trans e2.symm)
theorem tM {M:Rb}{A:IQ}{E:HM->HQ->Prop}{i:HW}{x:Iv}{v:V}{u:HM}{Q:Rc->HQ->Prop}(I:Inv X pins σ H s)(hN:X.N.Nodup)(hi:X.N[i]?=ba x)(hx:yT X.env.scope x)(r:RelV v u)
  (h:∀s',Inv X pins (σ.set i (ba v)) H s'->(∃a,JZ a s.heap s'.heap/\(a=X.env.locals\/X.env.cells.lookup x=ba a))->Q () s') (hf:X.fn x=true\/X.env.scope.names.lookup x=ba .local:=by first|exact .inl rfl|exact .inr rfl|assumption):wpAny M A (storeName X.env x u) Q E s:=by
 obtain⟨m,hn,hl⟩:=id I.loc;have hcls:(X.env.scope.kind==.class||(X.env.scope.kind==.module&&X.env.locals != X.env.globals))=false:=by rw[I.ok.kind]; rfl
 have hiσ:i < σ.length:=by rw[I.len]; exact(HZ.mp hi).1
 have cne:=I.cne;have tracked:∀ {a:HX} {h':Jc},(∃o,s.heap.get? a=ba o/\H a=K3)->JZ a s.heap h'->HOk X.prog X.w H h':=λ{a h'} ha hs b ob e=>by
  obtain⟨_,_,hfree⟩:=ha;refine(I.hok b ob e).stay (λc w' hc q=>(hs.2 c ?_).trans q) (λ_ q=>q) λ_ _ q=>q
  rintro rfl;rcases hc with rfl|hc
  ·rw[hfree]at e; cases e
  ·rw[hfree]at hc; cases hc
 rcases hx with hk|hk
 ·refine wpAny_storeName_local hk hn (λh' hn' hs=>?_) hcls
  obtain⟨oL,_,_,hoL,_⟩:=id hn;refine h _ #[I.ok,I.os,I.bare,#[λb o e n hb hx=>?_,λb o e n hb hx=>?_,I.base.free,λb o e hx=>?_,I.base.tups,I.base.frzs,I.base.tbls],#[_,hn',λj y v' e1 e2 e3=>?_],λy c e=>?_,I.free,I.freeC,λp hp=>?_,tracked #[oL,hoL,I.free] hs,by simpa using I.len] #[_,hs,.inl rfl]
  ·exact(hs.2 b (Iy (IG (Io e) I.ok.above))).trans (I.base.keep b o e n hb hx)
  ·obtain⟨sl,e1⟩:=I.base.slot b o e n hb hx;exact#[sl,(hs.2 b (Iy (IG (Io e) I.ok.above))).trans e1]
  ·obtain⟨o',e1⟩:=I.base.there b o e hx;exact#[o',(hs.2 b (Iy (IG (Io e) I.ok.above))).trans e1]
  ·by_cases hj:j=i
   ·subst hj;rw[hi]at e1; cases e1
    rw[Nb hiσ]at e2;cases e2;exact#[u,r,.inl #[hk,by simp]]
   ·rw[NK (Ne.symm hj)]at e2;obtain⟨u',r',q⟩:=hl j y v' e1 e2 e3;refine#[u',r',?_];rcases q with⟨k,e⟩|⟨k,c,e,z⟩
    ·refine .inl #[k,?_];have:y≠x:=λe=>hj (oP hN e1 (e ▸ hi))
     simp[this,e]
    ·exact .inr #[k,c,e,z.sameBut hs (cne y c e)]
  ·obtain⟨w',z⟩:=I.cell y c e;exact#[w',z.sameBut hs (cne y c e)]
  ·obtain⟨e,n,ne,nf,d⟩:=I.pin p hp;exact#[(hs.2 p.1 ne).trans e,n,ne,nf,d]
 ·have hfn:X.fn x=true:=by
   rcases hf with z|z
   ·exact z
   ·rw[z]at hk; cases hk
  obtain⟨c,hc⟩:=I.ok.has x (.inl hk);obtain⟨w',z⟩:=I.cell x c hc;refine wpAny_storeName_cell I.ok.kind hk hc z (λh' hc' hs=>?_)
  obtain⟨oc,hoc,hocd⟩:=id z;refine h { s with heap:=h' } #[I.ok,I.os,I.bare,#[λb o e n hb hx=>?_,λb o e n hb hx=>?_,I.base.free,λb o e hx=>?_,I.base.tups,I.base.frzs,I.base.tbls],#[m,hn.sameBut hs (Ne.symm (cne x c hc)),λj y v' e1 e2 e3=>?_],λy c' e=>?_,I.free,I.freeC,λp hp=>?_,tracked #[oc,hoc,I.freeC x c hc] hs,by simpa using I.len] #[c,hs,.inr hc]
  ·exact(hs.2 b (Iy (IG (Io e) (I.ok.cab x c hfn hc)))).trans (I.base.keep b o e n hb hx)
  ·obtain⟨sl,e1⟩:=I.base.slot b o e n hb hx;exact#[sl,(hs.2 b (Iy (IG (Io e) (I.ok.cab x c hfn hc)))).trans e1]
  ·obtain⟨o',e1⟩:=I.base.there b o e hx;exact#[o',(hs.2 b (Iy (IG (Io e) (I.ok.cab x c hfn hc)))).trans e1]
  ·by_cases hj:j=i
   ·subst hj;rw[hi]at e1; cases e1
    rw[Nb hiσ]at e2;cases e2;exact#[u,r,.inr #[.inl hk,c,hc,hc']]
   ·rw[NK (Ne.symm hj)]at e2;obtain⟨u',r',q⟩:=hl j y v' e1 e2 e3;refine#[u',r',?_];rcases q with q|⟨k,c',e,z'⟩
    ·exact .inl q
    ·refine .inr #[k,c',e,z'.sameBut hs ?_];rintro rfl;exact hj (oP hN e1 (I.ok.inj _ _ _ e hc ▸ hi))
  ·by_cases hcc:c'=c
   ·subst hcc; exact#[_,hc']
   ·obtain⟨w2,z2⟩:=I.cell y c' e;exact#[w2,z2.sameBut hs hcc]
  ·obtain⟨e,n,ne,nf,d⟩:=I.pin p hp;refine#[(hs.2 p.1 ?_).trans e,n,ne,nf,d];intro q;rw[q,hoc]at e;have q':oc=p.2:=Jt e;exact d w' (by rw[<- q']; exact hocd)
theorem gW {M:Rb}{A:IQ}{E:HM->HQ->Prop}{i:HW}{x:Iv}{v:V}{u:HM}{Q:Rc->HQ->Prop}(I:Inv X pins σ H s)(hN:X.N.Nodup)(hi:X.N[i]?=ba x)(hx:yT X.env.scope x)(r:RelV v u)
  (h:∀s',Inv X pins (σ.set i (ba v)) H s'->Q () s') (hf:X.fn x=true\/X.env.scope.names.lookup x=ba .local:=by first|exact .inl rfl|exact .inr rfl|assumption):wpAny M A (storeName X.env x u) Q E s:=
 tM I hN hi hx r (λs' I' _=>h s' I') hf
theorem Inv.call' {s':HQ}{ch:HK HX}(I:Inv X pins σ H s)(ho:s'.os=s.os)(u:Un (qK X.stack) ch H H' s.heap s'.heap)(hok:HOk X.prog X.w H' s'.heap)(hg:MO s'.gens)
  (hch:∀b∈ch,(b∈X.ex\/X.s₀.heap.objs.size<=b)/\b≠X.env.locals/\(∀x c,X.env.cells.lookup x=ba c->c≠b)/\∀p∈X.pn++pins,p.1≠b):Inv X pins σ H' s':=by
 obtain⟨h',g',d',t',o'⟩:=s';have e:o'=s.os:=ho;subst e;exact I.call (g':=g') (t':=t') (d':=d') u hok hg hch
end
noncomputable abbrev XK:=HM->HU HX->Hp->Prop
noncomputable abbrev St:=HK (HU V)
noncomputable abbrev VK:=V->Hp->Prop
noncomputable abbrev TE:=St->Hp->VK->Prop
noncomputable abbrev TT:=St->Hp->(IF->Hp->Prop)->Prop
noncomputable abbrev TA:=St->Hp->(HK V->Hp->Prop)->Prop
structure Ends where
 nx:St->Hp->Prop
 rt:VK
 bk:St->Hp->Prop:=λ_ _=>JF
 ct:St->Hp->Prop:=λ_ _=>JF
noncomputable abbrev TS:=Ends->St->Hp->Prop
noncomputable def EP (X:Cx)(pins:HK (HX×JR))(σ:St)(Q:VK)(u:HM)(s':HQ):Prop:=∃v H',Inv X pins σ H' s'/\RelV v u/\Q v H'
noncomputable def TP (X:Cx)(pins:HK (HX×JR))(σ:St)(Q:IF->Hp->Prop)(b:IF)(s':HQ):Prop:=∃H',Inv X pins σ H' s'/\Q b H'
noncomputable def AP (X:Cx)(pins:HK (HX×JR))(σ:St)(Q:HK V->Hp->Prop)(us:HK HM)(s':HQ):Prop:=∃vs H',Inv X pins σ H' s'/\Vals vs us/\Q vs H'
noncomputable def SP (X:Cx)(pins:HK (HX×JR))(D:Ends)(f:Flow)(s':HQ):Prop:=
 match f with
 | .next=>∃σ' H',Inv X pins σ' H' s'/\D.nx σ' H'
 | .brk=>∃σ' H',Inv X pins σ' H' s'/\D.bk σ' H'
 | .cont=>∃σ' H',Inv X pins σ' H' s'/\D.ct σ' H'
 | .ret u=>∃v σ' H',Inv X pins σ' H' s'/\RelV v u/\D.rt v H'
noncomputable def PE (X:Cx)(e:Iz)(t:TE):Prop:=
 ∀(pins:HK (HX×JR)) (s:HQ) (σ:St) (H:Hp) (Q:VK),Inv X pins σ H s->t σ H Q->wpAny (model X.prog X.w) X.A (eval e X.env) (EP X pins σ Q) X.xe s
noncomputable def PT (X:Cx)(e:Iz)(t:TT):Prop:=
 ∀(pins:HK (HX×JR)) (s:HQ) (σ:St) (H:Hp) (Q:IF->Hp->Prop),Inv X pins σ H s->t σ H Q->wpAny (model X.prog X.w) X.A (isTrue e X.env (eval e X.env)) (TP X pins σ Q) X.xe s
noncomputable def PW (X:Cx)(e:Iz)(t:TT):Prop:=
 ∀(whole:Qo HM) (pins:HK (HX×JR)) (s:HQ) (σ:St) (H:Hp) (Q:IF->Hp->Prop),Inv X pins σ H s->t σ H Q->wpAny (model X.prog X.w) X.A (isTrue e X.env whole) (TP X pins σ Q) X.xe s
theorem PW.pt {X:Cx}{e:Iz}{t:TT}(h:PW X e t):PT X e t:=h _
noncomputable def PA (X:Cx)(es:HK Iz)(t:TA):Prop:=
 ∀(pos:KA) (pins:HK (HX×JR)) (s:HQ) (σ:St) (H:Hp) (Q:HK V->Hp->Prop),Inv X pins σ H s->t σ H Q->wpAny (model X.prog X.w) X.A (spliced (backTo pos (starEach es X.env))) (AP X pins σ Q) X.xe s
noncomputable def PS (X:Cx)(st:KQ)(t:TS):Prop:=
 ∀(pins:HK (HX×JR)) (s:HQ) (σ:St) (H:Hp) (D:Ends),Inv X pins σ H s->t D σ H->wpAny (model X.prog X.w) X.A (exec st X.env) (SP X pins D) X.xe s
noncomputable def PSs (X:Cx)(st:HK KQ)(t:TS):Prop:=
 ∀(pins:HK (HX×JR)) (s:HQ) (σ:St) (H:Hp) (D:Ends),Inv X pins σ H s->t D σ H->wpAny (model X.prog X.w) X.A (execs st X.env) (SP X pins D) X.xe s
theorem bJ {α:Type}{t:Qo α}{Q Q':α->HQ->Prop}{M:Rb}{A:IQ}{E:HM->HQ->Prop}{s:HQ}(h:wpAny M A t Q E s)(hQ:∀a s,Q a s->Q' a s):wpAny M A t Q' E s:=J2 h hQ λ_ _ x=>x
section
variable{X:Cx}
theorem HJ {a b:Iz}{ta tb:TE}(ha:PE X a ta)(hb:PE X b tb){pins:HK (HX×JR)}{s:HQ}{σ:St}{H:Hp}{R:V->V->Hp->Prop}(I:Inv X pins σ H s)(h:ta σ H λx H1=>tb σ H1 λy H2=>R x y H2)
  {α:Type} {Q:α->HQ->Prop} {f:HM->HM->Qo α}
  (hf:∀v u s2 x y H2,Inv X pins σ H2 s2->RelV x v->RelV y u->R x y H2->wpAny (model X.prog X.w) X.A (f v u) Q X.xe s2) :
  wpAny (model X.prog X.w) X.A (eval a X.env) (λv s₁=>wpAny (model X.prog X.w) X.A (eval b X.env) (λu s₂=>wpAny (model X.prog X.w) X.A (f v u) Q X.xe s₂) X.xe s₁) X.xe s:=by
 refine bJ (ha pins s σ H _ I h) λv s1 #[x,H1,I1,r1,q1]=>?_
 refine bJ (hb pins s1 σ H1 _ I1 q1) λu s2 #[y,H2,I2,r2,q2]=>?_
 exact hf v u s2 x y H2 I2 r1 r2 q2
noncomputable def BW (i:HW):TE:=λσ H Q=>∃v,σ[i]?=ba (ba v)/\Q v H
noncomputable def tC (v:V):TE:=λ_ H Q=>Q v H
theorem vg {i:HW}{x:Iv}{pos:KA}(hN:X.N[i]?=ba x)(hv:FQ X.env.scope x)(hd:(x==("__debug__" : Iv))=false:=by decide)(hcd:(x==("__classdict__" : Iv))=false:=by decide):PE X (.Name x pos) (BW i):=by
 intro pins s σ H Q I h;obtain⟨v,e,h⟩:=h;obtain⟨m,hn,hl⟩:=I.loc;obtain⟨u,r,l⟩:=hl i x v hN e hv;have fin:EP X pins σ Q u s:=#[v,H,I,r,h];rcases l with⟨hk,hm⟩|⟨hk,c,hc,hcell⟩
 ·exact Po (wpAny_loadName_local I.ok.kind hk hn hm fin) hd
 ·rcases hk with hk|hk
  ·exact Po (wpAny_loadName_cell I.ok.kind hk hc hcell fin) hd
  ·exact Po (wpAny_loadName_free I.ok.kind hk hc hcell fin hcd) hd
theorem vh {i j pos}:PE X (.Constant (.int i) j pos) (tC (.int i)):=λ_ _ _ H _ I h=>wpAny_Constant_int #[.int i,H,I.tok _,#[_,rfl],h]
theorem Bq {b j pos}:PE X (.Constant (.bool b) j pos) (tC (.bl b)):=λ_ _ _ H _ I h=>Constant_bool #[.bl b,H,I,rfl,h]
theorem vk {j pos}:PE X (.Constant .none j pos) (tC .non):=λ_ _ _ H _ I h=>Constant_none #[.non,H,I,rfl,h]
theorem vm {x j pos}:PE X (.Constant (.str x) j pos) (tC (.str x)):=λ_ _ _ H _ I h=>Od #[.str x,H,I.tok _,#[_,rfl],h]
noncomputable def Gl (X:Cx)(x:Iv):Prop:=X.env.kindOf x=ba .globalImplicit
theorem rS {E:HM->HQ->Prop}{pins:HK (HX×JR)}{s:HQ}{σ:St}{H:Hp}{x:Iv}{u:HM}{pos:KA}{Q:HM->HQ->Prop}(I:Inv X pins σ H s)(hg:Gl X x)(hm:X.mg x=ba u)(h:Q u s)
  (hd:(x==("__debug__" : Iv))=false:=by decide):wpAny (model X.prog X.w) X.A (eval (.Name x pos) X.env) Q E s:=
 Mr I.ok.kind hg (Calls.loadGlobal_global (by rw[I.ok.glob]; exact I.mod.glob.keeps I.bk) hm h) hd
theorem iN {E:HM->HQ->Prop}{pins:HK (HX×JR)}{s:HQ}{σ:St}{H:Hp}{x:Iv}{u:HM}{pos:KA}{Q:HM->HQ->Prop}(I:Inv X pins σ H s)(hg:Gl X x)(hm:X.mg x=K3)(hv:bootBuiltins x=ba u)(h:Q u s)
  (hn:x≠"__name__":=by decide) (hd:(x==("__debug__" : Iv))=false:=by decide):wpAny (model X.prog X.w) X.A (eval (.Name x pos) X.env) Q E s:=by
 obtain⟨mb,h1,h2⟩:=I.mod.blt;exact Mr I.ok.kind hg (Calls.loadGlobal_builtin (by rw[I.ok.glob]; exact I.mod.glob.keeps I.bk) hm (by rw[I.ok.blt]; exact h1.keeps I.bk) ((h2 x hn).trans hv) h) hd
theorem yU {x:Iv}{v:V}{u:HM}{pos:KA}(hg:Gl X x)(hm:X.mg x=K3)(hv:bootBuiltins x=ba u)(r:RelV v u)(hn:x≠"__name__":=by decide)(hd:(x==("__debug__" : Iv))=false:=by decide):PE X (.Name x pos) (tC v):=
 λ_ _ _ H _ I h=>iN I hg hm hv #[v,H,I,r,h] hn hd
variable{a b:Iz}{ta tb:TE}{pos:KA}
variable{tA tB':TT}{bK:HK Iz}
noncomputable def DV (t u:TT):TT:=λσ H Q=>t σ H λc H1=>if c=true then u σ H1 Q else Q false H1
noncomputable def Ho (t u:TT):TT:=λσ H Q=>t σ H λc H1=>if c=true then Q true H1 else u σ H1 Q
noncomputable def F6 (t:TT):TT:=λσ H Q=>t σ H λc H1=>Q (!c) H1
theorem yV (ha:PT X a tA):PW X (.BoolOp .And [a] pos) tA:=by
 intro wh pins s σ H Q I h;refine isTrue_and (bJ (ha pins s σ H Q I h) λc s1 e=>?_)
 cases c with
 | true=>exact isTrue_and_nil e
 | false=>exact e
theorem BX (ha:PT X a tA):PW X (.BoolOp .Or [a] pos) tA:=by
 intro wh pins s σ H Q I h;refine isTrue_or (bJ (ha pins s σ H Q I h) λc s1 e=>?_)
 cases c with
 | false=>exact isTrue_or_nil e
 | true=>exact e
theorem BY (ha:PT X a tA)(hb:PW X (.BoolOp .And (b::bK) pos) tB'):PW X (.BoolOp .And (a::b::bK) pos) (DV tA tB'):=by
 intro wh pins s σ H Q I h;refine isTrue_and (bJ (ha pins s σ H _ I h) λc s1 #[H1,I1,q1]=>?_)
 cases c with
 | true=>exact hb wh pins s1 σ H1 Q I1 q1
 | false=>exact#[H1,I1,q1]
theorem DW (ha:PT X a tA)(hb:PW X (.BoolOp .Or (b::bK) pos) tB'):PW X (.BoolOp .Or (a::b::bK) pos) (Ho tA tB'):=by
 intro wh pins s σ H Q I h;refine isTrue_or (bJ (ha pins s σ H _ I h) λc s1 #[H1,I1,q1]=>?_)
 cases c with
 | true=>exact#[H1,I1,q1]
 | false=>exact hb wh pins s1 σ H1 Q I1 q1
theorem BZ (ha:PT X a tA):PT X (.UnaryOp .Not a pos) (F6 tA):=by
 intro pins s σ H Q I h;exact isTrue_not (ha pins s σ H (λc H1=>Q (!c) H1) I h)
noncomputable def DX (ta tb:TE):TE:=λσ H Q=>ta σ H λx H1=>∃c,x=.bl c/\if c=true then tb σ H1 Q else Q (.bl false) H1
noncomputable def F7 (ta tb:TE):TE:=λσ H Q=>ta σ H λx H1=>∃c,x=.bl c/\if c=true then Q (.bl true) H1 else tb σ H1 Q
noncomputable def DY (ta:TE):TE:=λσ H Q=>ta σ H λx H1=>∃c,x=.bl c/\Q (.bl (!c)) H1
theorem B0 {op}{t:TE}(h:PE X a t):PE X (.BoolOp op [a] pos) t:=λpins s σ H Q I hw=>BoolOp_one (h pins s σ H Q I hw)
theorem B1 (ha:PE X a ta)(hb:PE X (.BoolOp .And (b::bK) pos) tb):PE X (.BoolOp .And (a::b::bK) pos) (DX ta tb):=by
 intro pins s σ H Q I h;refine BoolOp_and (bJ (ha pins s σ H _ I h) λv s1 #[x,H1,I1,r1,q1]=>?_)
 obtain⟨c,rfl,q1⟩:=q1;cases r1;refine Ks ?_;cases c with
 | true=>exact hb pins s1 σ H1 Q I1 q1
 | false=>exact#[.bl false,H1,I1,rfl,q1]
theorem DZ (ha:PE X a ta)(hb:PE X (.BoolOp .Or (b::bK) pos) tb):PE X (.BoolOp .Or (a::b::bK) pos) (F7 ta tb):=by
 intro pins s σ H Q I h;refine BoolOp_or (bJ (ha pins s σ H _ I h) λv s1 #[x,H1,I1,r1,q1]=>?_)
 obtain⟨c,rfl,q1⟩:=q1;cases r1;refine Ks ?_;cases c with
 | false=>exact hb pins s1 σ H1 Q I1 q1
 | true=>exact#[.bl true,H1,I1,rfl,q1]
theorem B2 (ha:PE X a ta):PE X (.UnaryOp .Not a pos) (DY ta):=by
 intro pins s σ H Q I h;refine UnaryOp_ (bJ (ha pins s σ H _ I h) λv s1 #[x,H1,I1,r1,q1]=>?_)
 obtain⟨c,rfl,q1⟩:=q1;cases r1;exact not_of (Ks #[.bl (!c),H1,I1,rfl,q1])
noncomputable def Hy (t:TT)(ta tb:TE):TE:=λσ H Q=>t σ H λc H1=>if c=true then ta σ H1 Q else tb σ H1 Q
theorem vn {c:Iz}(hc:PT X c tA)(ha:PE X a ta)(hb:PE X b tb):PE X (.IfExp c a b pos) (Hy tA ta tb):=by
 intro pins s σ H Q I h;refine wpAny_IfExp (bJ (hc pins s σ H _ I h) λd s1 #[H1,I1,q1]=>?_)
 cases d with
 | true=>exact ha pins s1 σ H1 Q I1 q1
 | false=>exact hb pins s1 σ H1 Q I1 q1
end
noncomputable def SqL (K:Ig)(H:Hp)(a:HX)(xs:HK V):Prop:=
 Rd H a (.lst xs)\/
  ∃(o:JR) (its:ID HM) (n:HW),K.lookup a=ba o/\o.cls=.type "list"/\o.dict=K3/\o.data=.seq its n/\its.size<=sizeLine/\Vals xs its.toList
noncomputable def SqT (K:Ig)(H:Hp)(a:HX)(xs:HK V):Prop:=
 Rd H a (.tup xs)\/
  ∃(o:JR) (its:ID HM) (n:HW),K.lookup a=ba o/\o.cls=.type "tuple"/\o.data=.seq its n/\its.size<=sizeLine/\Vals xs its.toList
noncomputable def F8:HM->HU V
 | .none=>ba .non
 | .bool b=>ba (.bl b)
 | .int i _=>ba (.int i)
 | .str x _=>ba (.str x)
 | .bytes b _=>ba (.byt b)
 | .float b _=>ba (.flt b)
 | .ref a=>ba (.ref a)
 | .type n=>ba (.ty n)
 | _=>K3
theorem RelV.abs {x:V}{u:HM}(r:RelV x u):F8 u=ba x:=by
 cases x with
 | non=>cases r; rfl
 | bl _=>cases r; rfl
 | int _=>obtain⟨t,rfl⟩:=r; rfl
 | str _=>obtain⟨t,rfl⟩:=r; rfl
 | byt _=>obtain⟨t,rfl⟩:=r; rfl
 | flt _=>obtain⟨t,rfl⟩:=r; rfl
 | ref _=>cases r; rfl
 | ty _=>cases r; rfl
theorem RelV.inj {x y:V}{u:HM}(r:RelV x u)(q:RelV y u):x=y:=Jt (r.abs.symm.trans q.abs)
theorem Vals.inj:∀ {xs ys:HK V} {us:HK HM},Vals xs us->Vals ys us->xs=ys
 | _,_,_,.nil,.nil=>rfl
 | _,_,_,.cons r t,.cons r' t'=>by rw[r.inj r',Vals.inj t t']
section
variable{X:Cx}{pins:HK (HX×JR)}{σ:St}{H:Hp}{s:HQ}{a:HX}{xs ys:HK V}
theorem SqL.of {K:Ig}(h:H a=ba (.lst xs)):SqL K H a xs:=.inl (.inl h)
theorem SqT.of {K:Ig}(h:H a=ba (.tup xs)):SqT K H a xs:=.inl (.inl h)
theorem Inv.list (I:Inv X pins σ H s)(h:SqL X.K H a xs):∃its:HK HM,Vals xs its/\PlainL s.heap a its.toArray/\xs.length<=sizeLine:=by
 rcases h with h|⟨o,its,n,hk,hc,hd,hs,hz,r⟩
 ·obtain⟨z,its,n,r,e⟩:=h.ok I.hok;exact#[its,r,#[_,n,e,rfl,rfl,rfl],z]
 ·refine#[its.toList,r,#[o,n,I.kIn a o hk,hc,hd,by simpa using hs],?_]
  have e:=r.length;simp only[Il]at e;omega
theorem Inv.tuple (I:Inv X pins σ H s)(h:SqT X.K H a xs):∃its:HK HM,Vals xs its/\Ov s.heap a its.toArray/\xs.length<=sizeLine:=by
 rcases h with h|⟨o,its,n,hk,hc,hs,hz,r⟩
 ·obtain⟨z,its,r,p⟩:=h.ok I.hok;exact#[its,r,p,z]
 ·refine#[its.toList,r,#[o,I.kIn a o hk,hc,n,by simpa using hs],?_]
  have e:=r.length;simp only[Il]at e;omega
theorem Inv.list_inj (I:Inv X pins σ H s)(h:SqL X.K H a xs)(h':SqL X.K H a ys):xs=ys:=by
 obtain⟨its,r,⟨o,n,e,_,_,d⟩,_⟩:=I.list h;obtain⟨its',r',⟨o',n',e',_,_,d'⟩,_⟩:=I.list h';rw[e]at e'; cases e'
 rw[d]at d';injection d' with d1 _
 have:its=its':=by simpa using congrArg Qd d1
 subst this;exact r.inj r'
theorem Inv.tuple_inj (I:Inv X pins σ H s)(h:SqT X.K H a xs)(h':SqT X.K H a ys):xs=ys:=by
 obtain⟨its,r,⟨o,e,_,n,d⟩,_⟩:=I.tuple h;obtain⟨its',r',⟨o',e',_,n',d'⟩,_⟩:=I.tuple h';rw[e]at e'; cases e'
 rw[d]at d';injection d' with d1 _
 have:its=its':=by simpa using congrArg Qd d1
 subst this;exact r.inj r'
end
noncomputable abbrev Cx.wish (X:Cx)(E:HM->HQ->Prop):Cx:={ X with xe:=E }
noncomputable abbrev Cx.nox (X:Cx):Cx:=X.wish λ_ _=>JF
theorem Cx.Ok.wish {X:Cx}(ok:X.Ok)(E:HM->HQ->Prop):(X.wish E).Ok:=
 #[ok.mod,ok.kind,ok.glob,ok.blt,ok.above,ok.inj,ok.has,ok.cab,ok.hd,ok.frames,ok.stk,ok.exf,ok.bs,ok.bsz,ok.noex,ok.exfs,ok.funs,ok.frf]
theorem Cx.Ok.unwish {X:Cx}{E:HM->HQ->Prop}(ok:(X.wish E).Ok):X.Ok:=
 #[ok.mod,ok.kind,ok.glob,ok.blt,ok.above,ok.inj,ok.has,ok.cab,ok.hd,ok.frames,ok.stk,ok.exf,ok.bs,ok.bsz,ok.noex,ok.exfs,ok.funs,ok.frf]
section
variable{X:Cx}{pins:HK (HX×JR)}{σ:St}{H:Hp}{s:HQ}{E:HM->HQ->Prop}
theorem Inv.wish (I:Inv X pins σ H s)(E:HM->HQ->Prop):Inv (X.wish E) pins σ H s:=#[I.ok.wish E,I.os,I.bare,I.base,I.loc,I.cell,I.free,I.freeC,I.pin,I.hok,I.len]
theorem Inv.unwish (I:Inv (X.wish E) pins σ H s):Inv X pins σ H s:=#[I.ok.unwish,I.os,I.bare,I.base,I.loc,I.cell,I.free,I.freeC,I.pin,I.hok,I.len]
theorem SP.unwish {D:Ends}{f:Flow}{s':HQ}(h:SP (X.wish E) pins D f s'):SP X pins D f s':=by
 cases f with
 | next=>obtain⟨σ',H',I,q⟩:=h; exact#[σ',H',I.unwish,q]
 | brk=>obtain⟨σ',H',I,q⟩:=h; exact#[σ',H',I.unwish,q]
 | cont=>obtain⟨σ',H',I,q⟩:=h; exact#[σ',H',I.unwish,q]
 | ret u=>obtain⟨v,σ',H',I,r,q⟩:=h; exact#[v,σ',H',I.unwish,r,q]
theorem PSs.nox {st:HK KQ}{t:TS}(h:PSs X.nox st t):PSs X st t:=λpins s σ H D I hw=>
 J2 (h pins s σ H D (I.wish _) hw) (λ_ _ q=>q.unwish) λ_ _ z=>JF.elim z
end
section
variable{X:Cx}{st:KQ}{bK:HK KQ}{t u:TS}{e:Iz}{te:TE}{pos:KA}
noncomputable def vo:TS:=λD σ H=>D.nx σ H
noncomputable def F9 (t u:TS):TS:=λD σ H=>t { D with nx:=u D } σ H
theorem yW:PSs X [] vo:=λ_ _ σ H _ I h=>No #[σ,H,I,h]
theorem vp (h1:PS X st t)(h2:PSs X bK u):PSs X (st::bK) (F9 t u):=by
 intro pins s σ H D I h;refine wpAny_execs_cons (bJ (h1 pins s σ H { D with nx:=u D } I h) λf s1 q=>?_)
 cases f with
 | next=>
  obtain⟨σ',H',I',q⟩:=q;exact h2 pins s1 σ' H' D I' q
 | ret v=>exact q
 | brk=>exact q
 | cont=>exact q
noncomputable def B3:TS:=λD σ H=>D.bk σ H
noncomputable def D0:TS:=λD σ H=>D.ct σ H
theorem yX:PS X (.Pass pos) vo:=λ_ _ σ H _ I h=>wpAny_Pass #[σ,H,I,h]
theorem vt:PS X (.Break pos) B3:=λ_ _ σ H _ I h=>wpAny_Break #[σ,H,I,h]
theorem oQ:PS X (.Continue pos) D0:=λ_ _ σ H _ I h=>wpAny_Continue #[σ,H,I,h]
theorem Inv.quiet {pins:HK (HX×JR)}{σ:St}{H:Hp}{s:HQ}(I:Inv X pins σ H s):interactive X.env=false:=by simp[interactive,I.ok.kind]
theorem B4 {x j pos pos'}:PS X (.Expr (.Constant (.str x) j pos) pos') vo:=λ_ s σ H _ I h=>wpAny_Expr (Od (show SP X _ _ .next { s with toks:=s.toks+1 } from#[σ,H,I.tok _,h])) I.quiet
noncomputable def D2 (te:TE):TS:=λD σ H=>te σ H λ_ H1=>D.nx σ H1
theorem yY (he:PE X e te)(hs:swapsWith e K3 pos.line X.env=pure false:=by rfl):PS X (.Expr e pos) (D2 te):=by
 intro pins s σ H D I h;exact wpAny_Expr_any (bJ (he pins s σ H _ I h) λv s1 #[x,H1,I1,r1,q1]=>#[σ,H1,I1,q1]) I.quiet hs
noncomputable def Ga (te:TE):TS:=λD σ H=>te σ H D.rt
theorem B5 (he:PE X e te):PS X (.Return (ba e) pos) (Ga te):=by
 intro pins s σ H D I h;exact wpAny_Return_some (bJ (he pins s σ H _ I h) λv s1 #[x,H1,I1,r1,q1]=>#[x,σ,H1,I1,r1,q1])
noncomputable def D5:TS:=λD _ H=>D.rt .non H
theorem yZ:PS X (.Return K3 pos) D5:=λ_ _ σ H _ I h=>wpAny_Return_none #[.non,σ,H,I,rfl,h]
noncomputable def Gb (c:TT)(t u:TS):TS:=λD σ H=>c σ H λb H1=>if b=true then t D σ H1 else u D σ H1
theorem Ea {c:Iz}{a b:HK KQ}{tc:TT}(hc:PT X c tc)(ha:PSs X a t)(hb:PSs X b u):PS X (.If c a b pos) (Gb tc t u):=by
 intro pins s σ H D I h;refine wpAny_If (bJ (hc pins s σ H _ I h) λd s1 #[H1,I1,q1]=>?_)
 cases d with
 | true=>exact ha pins s1 σ H1 D I1 q1
 | false=>exact hb pins s1 σ H1 D I1 q1
end
noncomputable abbrev TG:=V->St->Hp->(St->Hp->Prop)->Prop
noncomputable abbrev B6:=HK V->St->Hp->(St->Hp->Prop)->Prop
noncomputable def PG (X:Cx)(target:Iz)(t:TG):Prop:=
 ∀(pins:HK (HX×JR)) (s:HQ) (σ:St) (H:Hp) (v:V) (u:HM) (Q:St->Hp->Prop),Inv X pins σ H s->RelV v u->t v σ H Q->
  wpAny (model X.prog X.w) X.A (assign target X.env u) (λ_ s'=>∃σ' H',Inv X pins σ' H' s'/\Q σ' H') X.xe s
noncomputable def Eb (X:Cx)(ts:HK Iz)(t:B6):Prop:=
 ∀(pins:HK (HX×JR)) (s:HQ) (σ:St) (H:Hp) (vs:HK V) (us:HK HM) (Q:St->Hp->Prop),Inv X pins σ H s->Vals vs us->t vs σ H Q->
  wpAny (model X.prog X.w) X.A (assignInOrder ((assignEach ts X.env).map (·.2)) us) (λ_ s'=>∃σ' H',Inv X pins σ' H' s'/\Q σ' H') X.xe s
noncomputable abbrev B7:=V->V->V->Hp->(Hp->Prop)->Prop
noncomputable def B8 (X:Cx)(t:B7):Prop:=
 ∀(pins:HK (HX×JR)) (s:HQ) (σ:St) (H:Hp) (o i v:V) (ov iv u:HM) (Q:Hp->Prop),Inv X pins σ H s->RelV o ov->RelV i iv->RelV v u->t o i v H Q->
  wpAny (model X.prog X.w) X.A (setItem ov iv u) (λ_ s'=>∃H',Inv X pins σ H' s'/\Q H') X.xe s
section
variable{X:Cx}{pos:KA}
noncomputable def Ec (i:HW):TG:=λv σ H Q=>Q (σ.set i (ba v)) H
theorem rT {i:HW}{x:Iv}(hN:X.N.Nodup)(hi:X.N[i]?=ba x)(hx:yT X.env.scope x)(hf:X.fn x=true\/X.env.scope.names.lookup x=ba .local:=by first|exact .inl rfl|exact .inr rfl|assumption):PG X (.Name x pos) (Ec i):=by
 intro pins s σ H v u Q I r h;exact Ox (gW I hN hi hx r (λs' I'=>#[_,H,I',h]) hf)
noncomputable def Gc:B6:=λvs σ H Q=>vs=[]/\Q σ H
noncomputable def Ed (t:TG)(u:B6):B6:=λvs σ H Q=>∃v r,vs=v::r/\t v σ H λσ' H'=>u r σ' H' Q
theorem y4:Eb X [] Gc:=by
 intro pins s σ H vs us Q I r h;obtain⟨e,h⟩:=h;subst e;cases r;exact Oy #[σ,H,I,h]
theorem vw {e:Iz}{es:HK Iz}{t:TG}{u:B6}(h1:PG X e t)(h2:Eb X es u)
  (hs:(assignEach (e::es) X.env).map (·.2)=assign e X.env::(assignEach es X.env).map (·.2):=by rfl):Eb X (e::es) (Ed t u):=by
 intro pins s σ H vs us Q I r h;obtain⟨v,vr,e1,h⟩:=h;subst e1;cases r with
 | cons r rr=>
  rw[hs];refine Ms (bJ (h1 pins s σ H _ _ _ I r h) λ_ s1 #[σ1,H1,I1,q1]=>?_)
  exact h2 pins s1 σ1 H1 _ _ Q I1 rr q1
noncomputable def Gd (K:Ig)(n:HW)(t:B6):TG:=λv σ H Q=>∃a xs,v=.ref a/\SqT K H a xs/\xs.length=n/\t xs σ H Q
theorem B9 {es:HK Iz}{k:HW}{t:B6}{n:HW}(hc:X.calm=true)(h:Eb X es t)
  (hn:(assignEach es X.env).length=n:=by rfl) (hst:(assignEach es X.env).findIdx? (·.1)=K3:=by rfl):PG X (.Tuple es k pos) (Gd X.K n t):=by
 intro pins s σ H v u Q I r hw;obtain⟨a,xs,e1,hq,hl,hw⟩:=hw;subst e1;cases r;obtain⟨its,rv,ht,hz⟩:=I.tuple hq;refine assign_Tuple_tuple (I.ok.hd hc) ht (by simp[hn,<- hl,rv.length]) hst λh' hx=>?_
 have I1:Inv X pins σ H { s with heap:=h' }:=I.kept (t':=s.toks) λb o e=>hx b o (Iy (Io e)) e
 exact h pins _ σ H xs _ Q I1 (by simpa using rv) hw
noncomputable def Ge (to ti:TE)(t:B7):TG:=λv σ H Q=>to σ H λo H1=>ti σ H1 λi H2=>t o i v H2 λH3=>Q σ H3
theorem Cb {o i:Iz}{to ti:TE}{t:B7}(ho:PE X o to)(hi:PE X i ti)(hs:B8 X t)
  (ha:∀v,assign (.Subscript o i pos) X.env v=(do
   let ov <- holding [v] (eval o X.env)
   let iv <- holding [v,ov] (eval i X.env)
   standAt pos
   holding [v,ov,iv] (setItem ov iv v)
   release [v,ov,iv] []):=by intro _; rfl):PG X (.Subscript o i pos) (Ge to ti t):=by
 intro pins s σ H v u Q I r h;rw[ha];refine HL (Jm (bJ (ho pins s σ H _ I h) λov s1 #[x,H1,I1,r1,q1]=>?_))
 refine HL (Jm (bJ (hi pins s1 σ H1 _ I1 q1) λiv s2 #[y,H2,I2,r2,q2]=>?_))
 refine HL (L6 (HL (Jm (bJ (hs pins s2 σ H2 x y v ov iv u _ I2 r1 r2 r q2) λ_ s3 #[H3,I3,q3]=>?_))))
 exact wpAny_release #[σ,H3,I3,q3]
noncomputable def Gf (te:TE)(g:TG):TS:=λD σ H=>te σ H λx H1=>g x σ H1 D.nx
theorem Cc {tg e:Iz}{te:TE}{g:TG}(he:PE X e te)(hg:PG X tg g)(hs:swapsWithSole [tg] e pos.line X.env=pure false:=by rfl)(hw:swappedStores [tg] e X.env=pure K3:=by rfl)
  (h1:(assignEach [tg] X.env).map (·.2)=[assign tg X.env]:=by rfl):PS X (.Assign [tg] e pos) (Gf te g):=by
 intro pins s σ H D I h;refine wpAny_Assign_stores (bJ (he pins s σ H _ I h) λv s1 #[x,H1,I1,r1,q1]=>?_) hs hw
 rw[h1];exact bJ (hg pins s1 σ H1 x v _ I1 r1 q1) λ_ s2 q=>q
noncomputable def Gg (i j:HW)(ta:TA):TS:=λD σ H=>ta σ H λvs H1=>∃v w,vs=[v,w]/\D.nx ((σ.set i (ba v)).set j (ba w)) H1
theorem Cd {i j:HW}{x y:Iv}{a b:Iz}{ta:TA}{px py pt:KA}{kt k2 pt2}(hc:X.calm=true)(hN:X.N.Nodup)(hi:X.N[i]?=ba x)(hj:X.N[j]?=ba y)(hij:i≠j)
  (hx:X.env.scope.names.lookup x=ba .local) (hy:X.env.scope.names.lookup y=ba .local) (ha:PA X [a,b] ta)
  (hw:swappedStores [.Tuple [.Name x px,.Name y py] kt pt] (.Tuple [a,b] k2 pt2) X.env=pure (ba [x,y]))
  (hs:swapsWithSole [.Tuple [.Name x px,.Name y py] kt pt] (.Tuple [a,b] k2 pt2) pos.line X.env=pure false:=by rfl) :
  PS X (.Assign [.Tuple [.Name x px,.Name y py] kt pt] (.Tuple [a,b] k2 pt2) pos) (Gg i j ta):=by
 intro pins s σ H D I h;rw[exec_Assign_arm];refine HL (L6 ?_);rw[hs];refine HL (HR ?_);rw[IK #v[]]
 refine HL (Tuple_ (bJ (ha _ pins s σ H _ I h) λus s1 #[vs,H1,I1,r1,q1]=>?_))
 obtain⟨v,w,e1,q1⟩:=q1;subst e1;obtain⟨u1,u2,rfl,rv,rw'⟩ : ∃u1 u2,us=[u1,u2]/\RelV v u1/\RelV w u2:=by
  cases r1 with
  | cons p q=>
   cases q with
   | cons p' q'=>
    cases q';exact#[_,_,rfl,p,p']
 refine IV ?_ (by show 2<=sizeLine; decide)
 have I2:Inv X pins σ H1 { s1 with heap:=s1.heap.push { cls:=.type "tuple",data:=.seq [u1,u2].toArray } }:=I1.kept (t':=s1.toks) λb o e=>HP _ e
 rw[hw];refine HL (HR ?_);show wpAny (model X.prog X.w) X.A (do rule "assign.swapped-stores"; let items <- unpackItems (.ref s1.heap.objs.size) 2 K3; assignInOrder [λv=>bindName X.env y v,λv=>bindName X.env x v] items.reverse; pure QX) _ _ _
 refine HL (Nc (HL (unpackItems_tuple (items:=[u1,u2].toArray) (I.ok.hd hc) (OU s1.heap _) λh' hx'=>?_)))
 have I3:=I2.kept (h':=h') (t':=s1.toks) λb o e=>hx' b o (Iy (Io e)) e
 show wpAny _ _ (assignInOrder [λv=>bindName X.env y v,λv=>bindName X.env x v] [u2,u1] >>= λ_=>pure QX) _ _ _
 refine HL (Ms (Pp (gW I3 hN hj (.inl hy) rw' (λs2 I4=>?_) (.inr hy))))
 refine Ms (Pp (gW I4 hN hi (.inl hx) rv (λs3 I5=>Oy (HR ?_)) (.inr hx)))
 rw[List.set_comm _ _ (Ne.symm hij)]at I5;exact#[_,H1,I5,q1]
end
section
variable{X:Cx}{pos:KA}
noncomputable def Ce (c:TT)(tb:TS):TS:=λD σ H=>∃W:HW->St->Hp->Prop,(∃m,W m σ H)/\∀m σ H,W m σ H->
 c σ H λb H1=>if b=true then ∃N:St->Hp->Prop,(∀σ' H',N σ' H'->∃m',m' < m/\W m' σ' H')/\tb { D with nx:=N,ct:=N,bk:=D.nx } σ H1 else D.nx σ H1
theorem vx {c:Iz}{body:HK KQ}{tc:TT}{tb:TS}(hp:NW (model X.prog X.w) X.A X.env X.xe)(hc:PT X c tc)(hb:PSs X body tb):PS X (.While c body [] pos) (Ce tc tb):=by
 intro pins s σ H D I h;obtain⟨W,⟨m0,w0⟩,turn⟩:=h;refine wpAny_While (codeAny_whileLoop (λn s'=>∃σ' H',Inv X pins σ' H' s'/\W n σ' H') ?_ m0 #[σ,H,I,w0])
 rintro n s1 ⟨σ1,H1,I1,w1⟩;refine KH hp (bJ (hc pins s1 σ1 H1 _ I1 (turn n σ1 H1 w1)) λb s2 #[H2,I2,q2]=>?_)
 cases b with
 | true=>
  obtain⟨N,hN,q2⟩:=q2;rw[Ix rfl];refine KH hp (bJ (hb pins s2 σ1 H2 _ I2 q2) λf s3 q3=>?_)
  cases f with
  | next=>
   obtain⟨σ3,H3,I3,n3⟩:=q3;obtain⟨m',hm,w3⟩:=hN σ3 H3 n3;exact#[m',hm,σ3,H3,I3,w3]
  | cont=>
   obtain⟨σ3,H3,I3,n3⟩:=q3;obtain⟨m',hm,w3⟩:=hN σ3 H3 n3;exact#[m',hm,σ3,H3,I3,w3]
  | brk=>exact q3
  | ret v=>exact q3
 | false=>
  rw[IK IA];exact No #[σ1,H2,I2,q2]
end
structure It where
 go:HW->Hp->Prop
 yld:HW->Hp->V->Hp->Prop
 stop:HW->Hp->Prop
noncomputable def iO (X:Cx)(pins:HK (HX×JR))(H:Hp)(b:HX):Prop:=
 H b=K3/\b≠X.env.locals/\b∉X.fs/\(b∈X.ex\/X.s₀.heap.objs.size<=b)/\(∀x c,X.env.cells.lookup x=ba c->c≠b)/\∀p∈X.pn++pins,p.1≠b
theorem Inv.fpOk {X:Cx}{pins:HK (HX×JR)}{σ:St}{H H':Hp}{s:HQ}{b:HX}(I:Inv X pins σ H s)(hb:s.heap.objs.size<=b)(hn:H' b=K3):iO X pins H' b:=by
 refine#[hn,Kj (IG I.lt hb),I.nofs hb,.inr (Jh I.sz hb),λx c e z=>?_,λp hp z=>?_]
 ·obtain⟨v,q⟩:=I.cell x c e;exact absurd (IG q.lt (by rw[z]; exact hb)) (JM _)
 ·exact absurd (IG (Io (I.pin p hp).1) (by rw[z]; exact hb)) (JM _)
structure Turn (P:IM)(w:IU)(K:Ig)(tg:Iz)(J:It)(fp:HK HX)(it:HX)(tn:HW->Jc->Prop):Prop where
 mem:it∈fp
 obj:∀i h,tn i h->∀b∈fp,∃o,h.get? b=ba o/\∀v,o.data≠.cell v
 keep:∀i h h',tn i h->(∀b∈fp,∀o,h.get? b=ba o->h'.get? b=ba o)->tn i h'
 item:∀(X:Cx),X.prog=P->X.w=w->X.K=K->X.calm=true->∀(i:HW) (pins:HK (HX×JR)) (s:HQ) (σ:St) (H:Hp) (E:HM->HQ->Prop),Inv X pins σ H s->(∀b∈fp,iO X pins H b)->tn i s.heap->J.go i H->
  wpAny (model P w) X.A (pyNext (.ref it)) (λr s1=>∃u,r=ba u/\
   wpAny (model P w) X.A (letOwnedTupleGo tg (.ref it) u) (λ_ s2=>∃x H',Inv X pins σ H' s2/\RelV x u/\J.yld i H x H'/\tn (i+1) s2.heap/\∀b∈fp,H' b=K3) E s1) E s
 done:∀(X:Cx),X.prog=P->X.w=w->X.K=K->X.calm=true->∀(i:HW) (pins:HK (HX×JR)) (s:HQ) (σ:St) (H:Hp) (E:HM->HQ->Prop),Inv X pins σ H s->(∀b∈fp,iO X pins H b)->tn i s.heap->J.stop i H->
  wpAny (model P w) X.A (pyNext (.ref it)) (λr s1=>r=K3/\Inv X pins σ H s1) E s
 self:∀(A:IQ) (i:HW) (s:HQ) (Q:HM->HQ->Prop) (E:HM->HQ->Prop),tn i s.heap->Q (.ref it) s->wpAny (model P w) A (pyIter (.ref it)) Q E s
noncomputable abbrev TI:=St->Hp->(It->Hp->Prop)->Prop
noncomputable def FR (X:Cx)(pins:HK (HX×JR))(σ:St)(tg:Iz)(R:It->Hp->Prop)(itv:HM)(s2:HQ):Prop:=
 ∃(it:HX) (fp:HK HX) (tn:HW->Jc->Prop) (J:It) (H':Hp),itv=.ref it/\Inv X pins σ H' s2/\Turn X.prog X.w X.K tg J fp it tn/\tn 0 s2.heap/\(∀b∈fp,iO X pins H' b)/\R J H'
noncomputable def PI (X:Cx)(tg iter:Iz)(wi:TI):Prop:=
 ∀(pins:HK (HX×JR)) (s:HQ) (σ:St) (H:Hp) (R:It->Hp->Prop),Inv X pins σ H s->wi σ H R->
  wpAny (model X.prog X.w) X.A (eval iter X.env) (λv s1=>wpAny (model X.prog X.w) X.A (pyIter v) (FR X pins σ tg R) X.xe s1) X.xe s
theorem rV {M:Rb}{A:IQ}{E:HM->HQ->Prop}{s:HQ}{tg:Iz}{it:HX}{u:HM}{o:JR}{n:JJ}{vs:ID HM}{Q:Rc->HQ->Prop}(ho:s.heap.get? it=ba o)(hc:o.cls=.type n)(hd:o.data=.fields vs)
    (hn:["enumerate","zip","dict_itemiterator","dict_reverseitemiterator","odict_iterator","itertools.zip_longest","itertools.pairwise"].contains n=false) (hQ:Q () s):wpAny M A (letOwnedTupleGo tg (.ref it) u) Q E s:=by
  unfold letOwnedTupleGo;cases tg <;> first
    | exact HR hQ
    | (cases u <;> first
        | exact HR hQ
        | (refine HL (Nd ho ?_)
           rw[hc,hd];show wpAny M A (if (["enumerate","zip","dict_itemiterator","dict_reverseitemiterator","odict_iterator","itertools.zip_longest","itertools.pairwise"].contains n&&vs[0]?==ba (rawInt _))=true then _ else _) Q E s
           rw[IK (by intro h; rw[hn,Bool.false_and]at h; cases h)]
           exact HR hQ))
noncomputable def Gh (K:Ig)(a:HX):It:=
 #[λi H=>∃xs x,SqL K H a xs/\xs[i]?=ba x,λi H x H'=>H'=H/\∀xs,SqL K H a xs->xs[i]?=ba x,λi H=>∃xs,SqL K H a xs/\xs.length<=i]
noncomputable def Gi (K:Ig)(a:HX):It:=
 #[λi H=>∃xs x,SqT K H a xs/\xs[i]?=ba x,λi H x H'=>H'=H/\∀xs,SqT K H a xs->xs[i]?=ba x,λi H=>∃xs,SqT K H a xs/\xs.length<=i]
noncomputable def Ee (lo:Ik)(n:HW):It:=#[λi _=>i < n,λi H x H'=>H'=H/\x=.int (lo+i),λi _=>n<=i]
theorem tN {P:IM}{w:IU}{K:Ig}{tg:Iz}(a it:HX):Turn P w K tg (Gh K a) [it] it (λi h=>h.IsListIter it a i) where
 mem:=by simp
 obj:=λi h st b hb=>by
  have e:b=it:=by simpa using hb
  subst e;obtain⟨o,e,c,d⟩:=st;exact#[o,e,λv z=>by rw[d]at z; cases z]
 keep:=λi h h' st k=>st.at λo e=>k it (by simp) o e
 item:=by
  intro X hP hw hK hc i pins s σ H E I hf st hg;subst hP hw hK;obtain⟨xs,x,hq,hx⟩:=hg;obtain⟨its,rv,p,hz⟩:=I.list hq;obtain⟨u,hu,ru⟩:=rv.get hx;obtain⟨f0,f1,f2,f3,f4,f5⟩:=hf it (by simp)
  refine wpAny_pyNext_list_item st p.isList (x:=u) (by simpa using hu) λh' st' sb=>?_
  have I1:Inv X pins σ H { s with heap:=h' }:=I.turned (t':=s.toks) (λb o hb e=>(sb.2 b hb).trans e) f0 f1 f3 f4 f5
  obtain⟨o,e,c,d⟩:=id st';exact#[u,rfl,rV (s:={ s with heap:=h' }) e c d #v[] #[x,H,I1,ru,#[rfl,λys hy=>by rw[I.list_inj hy hq]; exact hx],st',λb hb=>(hf b hb).1]]
 done:=by
  intro X hP hw hK hc i pins s σ H E I hf st hg;subst hP hw hK;obtain⟨xs,hq,hx⟩:=hg;obtain⟨its,rv,p,hz⟩:=I.list hq;obtain⟨f0,f1,f2,f3,f4,f5⟩:=hf it (by simp)
  have hl:=rv.length;exact wpAny_pyNext_list_end (I.ok.hd hc) st p.isList (by simp; omega) λh' eb=>#[rfl,I.turned (t':=s.toks) (λb o hb e=>eb b o hb e) f0 f1 f3 f4 f5]
 self:=λ_ _ _ _ _ st h=>wpAny_pyIter_listiter st h
theorem qL {P:IM}{w:IU}{K:Ig}{tg:Iz}(a it:HX):Turn P w K tg (Gi K a) [it] it (λi h=>h.IsTupleIter it a i) where
 mem:=by simp
 obj:=λi h st b hb=>by
  have e:b=it:=by simpa using hb
  subst e;obtain⟨o,e,c,d⟩:=st;exact#[o,e,λv z=>by rw[d]at z; cases z]
 keep:=λi h h' st k=>st.at λo e=>k it (by simp) o e
 item:=by
  intro X hP hw hK hc i pins s σ H E I hf st hg;subst hP hw hK;obtain⟨xs,x,hq,hx⟩:=hg;obtain⟨its,rv,p,hz⟩:=I.tuple hq;obtain⟨u,hu,ru⟩:=rv.get hx;obtain⟨f0,f1,f2,f3,f4,f5⟩:=hf it (by simp)
  refine wpAny_pyNext_tuple_item st (show s.heap.IsTuple a its.toArray from p) (x:=u) (by simpa using hu) λh' st' sb=>?_
  have I1:Inv X pins σ H { s with heap:=h' }:=I.turned (t':=s.toks) (λb o hb e=>(sb.2 b hb).trans e) f0 f1 f3 f4 f5
  obtain⟨o,e,c,d⟩:=id st';exact#[u,rfl,rV (s:={ s with heap:=h' }) e c d #v[] #[x,H,I1,ru,#[rfl,λys hy=>by rw[I.tuple_inj hy hq]; exact hx],st',λb hb=>(hf b hb).1]]
 done:=by
  intro X hP hw hK hc i pins s σ H E I hf st hg;subst hP hw hK;obtain⟨xs,hq,hx⟩:=hg;obtain⟨its,rv,p,hz⟩:=I.tuple hq;obtain⟨f0,f1,f2,f3,f4,f5⟩:=hf it (by simp)
  have hl:=rv.length;exact wpAny_pyNext_tuple_end (I.ok.hd hc) st (show s.heap.IsTuple a its.toArray from p) (by simp; omega) λh' eb=>#[rfl,I.turned (t':=s.toks) (λb o hb e=>eb b o hb e) f0 f1 f3 f4 f5]
 self:=λ_ _ _ _ _ st h=>wpAny_pyIter_tupleiter st h
theorem qM {P:IM}{w:IU}{K:Ig}{tg:Iz}(it:HX)(lo:Ik)(n:HW):Turn P w K tg (Ee lo n) [it] it (λi h=>Qp h it (lo+(i:HW)*1) ((n:Ik) - (i:HW)) 1) where
 mem:=by simp
 obj:=λi h st b hb=>by
  have e:b=it:=by simpa using hb
  subst e;exact#[_,st,λv z=>by
   have z':Data.fields _=Data.cell v:=z;cases z']
 keep:=λi h h' st k=>k it (by simp) _ st
 item:=by
  intro X hP hw hK hc i pins s σ H E I hf st hg;subst hP hw hK;obtain⟨f0,f1,f2,f3,f4,f5⟩:=hf it (by simp)
  have W:=Walks.range (prog:=X.prog) (w:=X.w) (I.ok.hd hc) it lo 1 n;refine W.item i s _ _ hg st λv h' tk hv st' kk=>?_
  obtain⟨t,rfl⟩:=hv;have I1:Inv X pins σ H { s with heap:=h',toks:=tk }:=I.turned (λb o hb e=>kk b o (by simpa using hb) e) f0 f1 f3 f4 f5
  refine#[_,rfl,rV (s:={ s with heap:=h',toks:=tk }) (n:="range_iterator") st' rfl rfl #v[] #[.int (lo+i),H,I1,#[t,?_],#[rfl,rfl],st',λb hb=>(hf b hb).1]]
  rw[Int.mul_one]
 done:=by
  intro X hP hw hK hc i pins s σ H E I hf st hg;subst hP hw hK;obtain⟨f0,f1,f2,f3,f4,f5⟩:=hf it (by simp)
  exact wpAny_pyNext_range_end (I.ok.hd hc) st (by have:n<=i:=hg; omega) λh' eb=>#[rfl,I.turned (t':=s.toks) (λb o hb e=>eb b o hb e) f0 f1 f3 f4 f5]
 self:=λ_ _ _ _ _ st h=>wpAny_pyIter_rangeiter st h
section
variable{X:Cx}{tg:Iz}
theorem oR {pins:HK (HX×JR)}{σ:St}{H:Hp}{s:HQ}{R:It->Hp->Prop}{E:HM->HQ->Prop}{lo hi:Ik}{t u v:Rl}{tk:HW}(I:Inv X pins σ H s)(h1 : -(2 ^ 62)<=lo)(h2:lo < 2 ^ 62)(h3 : -(2 ^ 62)<=hi)(h4:hi < 2 ^ 62)
  (q:R (Ee lo (hi - lo).toNat) H):wpAny (model X.prog X.w) X.A (pyIter (.ref s.heap.objs.size)) (FR X pins σ tg R) E { s with heap:=s.heap.push { cls:=.type "range",data:=.fields [.int lo t,.int hi u,.int 1 v].toArray },toks:=tk }:=by
 refine wpAny_pyIter_range (IsRange.new ..) (Qa h1 h2 h3 h4) ?_;have I1:Inv X pins σ H { s with heap:=s.heap.push { cls:=.type "range",data:=.fields [.int lo t,.int hi u,.int 1 v].toArray },toks:=tk }:=I.kept λb o e=>HP _ e
 refine#[(s.heap.push { cls:=.type "range",data:=.fields [.int lo t,.int hi u,.int 1 v].toArray }).objs.size,[(s.heap.push { cls:=.type "range",data:=.fields [.int lo t,.int hi u,.int 1 v].toArray }).objs.size],_,_,H,rfl,
  I1.kept (t':=tk) λb o e=>HP _ e,qM _ lo (hi - lo).toNat,?_,λb hb=>?_,q]
 ·have e1:lo+((0:HW):Ik)*1=lo:=by simp
  have e2:(((hi - lo).toNat:HW):Ik) - ((0:HW):Ik)=J4 lo hi 1:=by rw[N6]; split <;> omega
  show Qp _ _ (lo+((0:HW):Ik)*1) ((((hi - lo).toNat:HW):Ik) - ((0:HW):Ik)) 1;rw[e1,e2];exact Ij _ rfl
 ·have e:b=(s.heap.push { cls:=.type "range",data:=.fields [.int lo t,.int hi u,.int 1 v].toArray }).objs.size:=by simpa using hb
  subst e;exact I1.fpOk (Ih _) (I1.hok.fresh (Ih _))
noncomputable def Ef (ta:TA):TI:=λσ H R=>ta σ H λvs H1=>∃j:Ik,vs=[.int j]/\-(2 ^ 62)<=j/\j < 2 ^ 62/\R (Ee 0 j.toNat) H1
noncomputable def iRng2 (ta:TA):TI:=λσ H R=>ta σ H λvs H1=>∃i j:Ik,vs=[.int i,.int j]/\(-(2 ^ 62)<=i/\i < 2 ^ 62/\-(2 ^ 62)<=j/\j < 2 ^ 62)/\R (Ee i (j - i).toNat) H1
theorem tP {a:Iz}{ta:TA}{p pos:KA}(hg:Gl X "range")(hm:X.mg "range" = K3)(ha:PA X [a] ta)(hs:starEach [a] X.env=[(false,eval a X.env)]:=by rfl):PI X tg (.Call (.Name "range" p) [a] [] pos) (Ef ta):=by
 intro pins s σ H R I h;refine Call_ (iN I hg hm boot_range (Kx (bJ (ha pos pins s σ H _ I h) λus s1 #[vs,H1,I1,r1,q1]=>?_) hs rfl))
 obtain⟨j,e,q1,q2,q⟩:=q1;subst e;cases r1 with
 | cons r rr=>
  cases rr;obtain⟨t,rfl⟩:=r;exact Qe (oR I1 ∅ ∅ q1 q2 (by simpa using q))
theorem tQ {a b:Iz}{ta:TA}{p pos:KA}(hg:Gl X "range")(hm:X.mg "range" = K3)(ha:PA X [a,b] ta)(hs:starEach [a,b] X.env=[(false,eval a X.env),(false,eval b X.env)]:=by rfl)(hs2:starEach [b] X.env=[(false,eval b X.env)]:=by rfl) :
  PI X tg (.Call (.Name "range" p) [a,b] [] pos) (iRng2 ta):=by
 intro pins s σ H R I h;refine Call_ (iN I hg hm boot_range (Kx (bJ (ha pos pins s σ H _ I h) λus s1 #[vs,H1,I1,r1,q1]=>?_) (by rw[hs,hs2]) (by rw[hs2]; rfl)))
 obtain⟨i,j,e,⟨q1,q2,q3,q4⟩,q⟩:=q1;subst e;cases r1 with
 | cons r rr=>
  cases rr with
  | cons r' rr=>
   cases rr;obtain⟨t,rfl⟩:=r;obtain⟨t',rfl⟩:=r';exact call_range_2 (oR I1 q1 q2 q3 q4 q)
noncomputable def Gj (wi:TI)(g:TG)(tb:TS):TS:=λD σ H=>wi σ H λJ H1=>∃W:HW->HW->St->Hp->Prop,(∃m,W 0 m σ H1)/\∀i m σ H,W i m σ H->
 (J.stop i H/\D.nx σ H)\/(J.go i H/\∃N:St->Hp->Prop,(∀σ' H',N σ' H'->∃m',m' < m/\W (i+1) m' σ' H')/\∀x H',J.yld i H x H'->g x σ H' λσ2 H2=>tb { D with nx:=N,ct:=N,bk:=D.nx } σ2 H2)
noncomputable def iP (fp:HK HX)(h:Jc):HK (HX×JR):=fp.filterMap λb=>(h.get? b).map λo=>(b,o)
theorem eN {fp:HK HX}{h:Jc}{b:HX}{o:JR}(hb:b∈fp)(e:h.get? b=ba o):(b,o)∈iP fp h:=Mt.mpr #[b,hb,by rw[e]; rfl]
theorem tR {fp:HK HX}{h:Jc}{p:HX×JR}(hp:p∈iP fp h):p.1∈fp/\h.get? p.1=ba p.2:=by
 obtain⟨b,hb,e⟩:=Mt.mp hp;cases q:h.get? b with
 | none=>rw[q]at e; cases e
 | some o=>
  rw[q]at e;have e':(b,o)=p:=Jt e;subst e';exact#[hb,q]
theorem Inv.pinned {pins:HK (HX×JR)}{σ:St}{H:Hp}{s:HQ}{fp:HK HX}(I:Inv X pins σ H s)(hf:∀b∈fp,iO X pins H b)(ho:∀b∈fp,∃o,s.heap.get? b=ba o/\∀v,o.data≠.cell v):Inv X (pins++iP fp s.heap) σ H s:=
 I.pins_of λp hp=>(IY.mp hp).elim (λz=>I.pin p (IL _ z)) λz=>by
  obtain⟨hb,e⟩:=tR z;obtain⟨f0,f1,f2,_⟩:=hf p.1 hb;obtain⟨o,e',d⟩:=ho p.1 hb;rw[e]at e'; cases e'
  exact#[e,f0,f1,f2,d]
theorem Inv.unpinned {pins pl:HK (HX×JR)}{σ:St}{H:Hp}{s:HQ}(I:Inv X (pins++pl) σ H s):Inv X pins σ H s:=I.pins_of λp hp=>I.pin p (IL _ (J3 _ hp))
theorem Cf {iter:Iz}{body:HK KQ}{wi:TI}{g:TG}{tb:TS}{pos:KA}(hp:NW (model X.prog X.w) X.A X.env X.xe)(hc:X.calm=true)(hi:PI X tg iter wi)(hg:PG X tg g)(hb:PSs X body tb)
  (hs:∀x,foldedSetIterable iter X.env x=pure x:=by intro _; rfl):PS X (.For tg iter body [] pos) (Gj wi g tb):=by
 intro pins s σ H D I h;refine wpAny_For (bJ (hi pins s σ H _ I h) λv s1 h1=>bJ h1 λitv s2 h2=>?_) hs
 obtain⟨it,fp,tn,J,H2,e,I2,T,bq,f2,W,⟨m0,w0⟩,turn⟩:=h2;subst e;have stat:∀ {H':Hp},(∀b∈fp,H' b=K3)->∀b∈fp,iO X pins H' b:=λhn b hb=>#[hn b hb,(f2 b hb).2]
 refine codeAny_forLoop_any (λn s'=>∃i σ' H',Inv X pins σ' H' s'/\tn i s'.heap/\(∀b∈fp,H' b=K3)/\W i n σ' H') ?_ m0 #[0,σ,H2,I2,bq,λb hb=>(f2 b hb).1,w0]
 rintro n s3 ⟨i,σ3,H3,I3,st3,fr3,w3⟩;rcases turn i n σ3 H3 w3 with⟨stop,qn⟩|⟨go,N,hN,step⟩
 ·refine KH hp (bJ (T.done X rfl rfl rfl hc i pins s3 σ3 H3 X.xe I3 (stat fr3) st3 stop) λr s4 #[hr,I4]=>?_)
  subst hr;exact No #[σ3,H3,I4,qn]
 ·refine KH hp (bJ (T.item X rfl rfl rfl hc i pins s3 σ3 H3 X.xe I3 (stat fr3) st3 go) λr s4 #[u,hr,h4]=>?_)
  subst hr;refine KH hp (bJ h4 λ_ s5 #[x,H5,I5,r5,y5,st5,fr5]=>?_)
  have I5':=I5.pinned (stat fr5) (T.obj _ _ st5);refine KH hp (bJ (hg _ s5 σ3 H5 x u _ I5' r5 (step x H5 y5)) λ_ s6 #[σ6,H6,I6,q6]=>?_)
  refine KH hp (bJ (hb _ s6 σ6 H6 _ I6 q6) λf s7 q7=>?_)
  have again:∀ {σ7:St} {H7:Hp},Inv X (pins++iP fp s5.heap) σ7 H7 s7->N σ7 H7->∃m,m < n/\∃i σ' H',Inv X pins σ' H' s7/\tn i s7.heap/\(∀b∈fp,H' b=K3)/\W i m σ' H':=λ{σ7 H7} I7 n7=>by
   obtain⟨m',hm,w7⟩:=hN σ7 H7 n7;refine#[m',hm,i+1,σ7,H7,I7.unpinned,T.keep _ _ _ st5 λb hb o e=>(I7.pin (b,o) (IL _ (IL _ (eN hb e)))).1,λb hb=>?_,w7]
   obtain⟨o,e,d⟩:=T.obj _ _ st5 b hb;exact(I7.pin (b,o) (IL _ (IL _ (eN hb e)))).2.1
  cases f with
  | next=>obtain⟨σ7,H7,I7,n7⟩:=q7; exact again I7 n7
  | cont=>obtain⟨σ7,H7,I7,n7⟩:=q7; exact again I7 n7
  | brk=>obtain⟨σ7,H7,I7,q7⟩:=q7; exact#[σ7,H7,I7.unpinned,q7]
  | ret v=>obtain⟨x7,σ7,H7,I7,r7,q7⟩:=q7; exact#[x7,σ7,H7,I7.unpinned,r7,q7]
end
noncomputable abbrev R2:=V->V->Hp->VK->Prop
noncomputable def OpR (X:Cx)(f:HM->HM->Qo HM)(r:R2):Prop:=
 ∀(pins:HK (HX×JR)) (s:HQ) (σ:St) (H:Hp) (x y:V) (v u:HM) (Q:VK),Inv X pins σ H s->RelV x v->RelV y u->r x y H Q->
  wpAny (model X.prog X.w) X.A (f v u) (EP X pins σ Q) X.xe s
noncomputable def Gk (X:Cx)(f:HM->Qo HM)(r:V->Hp->VK->Prop):Prop:=
 ∀(pins:HK (HX×JR)) (s:HQ) (σ:St) (H:Hp) (x:V) (v:HM) (Q:VK),Inv X pins σ H s->RelV x v->r x H Q->
  wpAny (model X.prog X.w) X.A (f v) (EP X pins σ Q) X.xe s
noncomputable def CallR (X:Cx)(f:HM)(r:HK V->Hp->VK->Prop):Prop:=
 ∀(pins:HK (HX×JR)) (s:HQ) (σ:St) (H:Hp) (xs:HK V) (us:HK HM) (Q:VK),Inv X pins σ H s->Vals xs us->r xs H Q->
  wpAny (model X.prog X.w) X.A (call f us) (EP X pins σ Q) X.xe s
noncomputable def Gm (X:Cx)(r:V->Hp->(IF->Hp->Prop)->Prop):Prop:=
 ∀(pins:HK (HX×JR)) (s:HQ) (σ:St) (H:Hp) (x:V) (v:HM) (Q:IF->Hp->Prop),Inv X pins σ H s->RelV x v->r x H Q->
  wpAny (model X.prog X.w) X.A (truthy v) (TP X pins σ Q) X.xe s
noncomputable def FU (r:R2)(ta tb:TE):TE:=λσ H Q=>ta σ H λx H1=>tb σ H1 λy H2=>r x y H2 Q
noncomputable def Hz (r:V->Hp->VK->Prop)(ta:TE):TE:=λσ H Q=>ta σ H λx H1=>r x H1 Q
noncomputable def rI (C:Ik->Ik->Prop)(g:Ik->Ik->V):R2:=λx y H Q=>∃i j,x=.int i/\y=.int j/\C i j/\Q (g i j) H
noncomputable def Br (g:Ik->Ik->V):R2:=λx y H Q=>∃i j,x=.int i/\y=.int j/\Q (g i j) H
noncomputable def rU (g:Ik->V):V->Hp->VK->Prop:=λx H Q=>∃i,x=.int i/\Q (g i) H
section
variable{X:Cx}{a b c:Iz}{ta tb tc:TE}{pos:KA}
theorem Cg (ha:PE X a ta)(hb:PE X b tb){pins:HK (HX×JR)}{s:HQ}{σ:St}{H:Hp}{R:V->V->Hp->Prop}(I:Inv X pins σ H s)
  (h:ta σ H λx H1=>tb σ H1 λy H2=>R x y H2) {Q:HM->HQ->Prop} {f:HM->HM->Qo HM}
  (hf:∀v u s2 x y H2,Inv X pins σ H2 s2->RelV x v->RelV y u->R x y H2->wpAny (model X.prog X.w) X.A (f v u) Q X.xe s2) :
  wpAny (model X.prog X.w) X.A (eval a X.env) (λv s₁=>wpAny (model X.prog X.w) X.A (eval b X.env) (λu s₂=>wpAny (model X.prog X.w) X.A (f v u) Q X.xe s₂) X.xe s₁) X.xe s:=by
 refine bJ (ha pins s σ H _ I h) λv s1 #[x,H1,I1,r1,q1]=>?_
 refine bJ (hb pins s1 σ H1 _ I1 q1) λu s2 #[y,H2,I2,r2,q2]=>?_
 exact hf v u s2 x y H2 I2 r1 r2 q2
theorem Eg {op:Oz}{r:R2}(ho:OpR X (binaryOp op) r)(ha:PE X a ta)(hb:PE X b tb):PE X (.BinOp a op b pos) (FU r ta tb):=by
 intro pins s σ H Q I h;exact wpAny_BinOp (Cg ha hb I h λv u s2 x y H2 I2 rx ry q=>ho pins s2 σ H2 x y v u Q I2 rx ry q)
theorem Eh {op:UnaryOp}{r:V->Hp->VK->Prop}(ho:Gk X (unaryOp op) r)(ha:PE X a ta):PE X (.UnaryOp op a pos) (Hz r ta):=by
 intro pins s σ H Q I h;exact UnaryOp_ (bJ (ha pins s σ H _ I h) λv s1 #[x,H1,I1,r1,q1]=>ho pins s1 σ H1 x v Q I1 r1 q1)
theorem FV {f:HM->HM->Qo HM}{C:Ik->Ik->Prop}{g:Ik->Ik->Ik}
  (rule:∀(i j:Ik) (t u:Rl) (s:HQ) (Q:HM->HQ->Prop) (E:HM->HQ->Prop),C i j->Q (.int (g i j) s.toks) { s with toks:=s.toks+1 }->wpAny (model X.prog X.w) X.A (f (.int i t) (.int j u)) Q E s) :
  OpR X f (rI C λi j=>.int (g i j)):=by
 intro pins s σ H x y v u Q I rx ry h;obtain⟨i,j,rfl,rfl,hc,q⟩:=h;obtain⟨t,rfl⟩:=rx;obtain⟨t',rfl⟩:=ry;exact rule i j t t' s _ _ hc #[.int (g i j),H,I.tok _,#[_,rfl],q]
theorem Ei {f:HM->HM->Qo HM}{g:Ik->Ik->Ik}
  (rule:∀(i j:Ik) (t u:Rl) (s:HQ) (Q:HM->HQ->Prop) (E:HM->HQ->Prop),Q (.int (g i j) s.toks) { s with toks:=s.toks+1 }->wpAny (model X.prog X.w) X.A (f (.int i t) (.int j u)) Q E s) :
  OpR X f (Br λi j=>.int (g i j)):=by
 intro pins s σ H x y v u Q I rx ry h;obtain⟨i,j,rfl,rfl,q⟩:=h;obtain⟨t,rfl⟩:=rx;obtain⟨t',rfl⟩:=ry;exact rule i j t t' s _ _ #[.int (g i j),H,I.tok _,#[_,rfl],q]
theorem y6 {f:HM->HM->Qo HM}{g:Ik->Ik->IF}
  (rule:∀(i j:Ik) (t u:Rl) (s:HQ) (Q:HM->HQ->Prop) (E:HM->HQ->Prop),Q (.bool (g i j)) s->wpAny (model X.prog X.w) X.A (f (.int i t) (.int j u)) Q E s) :
  OpR X f (Br λi j=>.bl (g i j)):=by
 intro pins s σ H x y v u Q I rx ry h;obtain⟨i,j,rfl,rfl,q⟩:=h;obtain⟨t,rfl⟩:=rx;obtain⟨t',rfl⟩:=ry;exact rule i j t t' s _ _ #[.bl (g i j),H,I,rfl,q]
noncomputable def Gn (i j:Ik):Prop:=0 < j/\j < 1073741824
noncomputable def Go (i j:Ik):Prop:=0<=j/\j<=1000000/\i.natAbs < 2 ^ 64
noncomputable def CMul (i j:Ik):Prop:=(-(2 ^ 64) < i/\i < 2 ^ 64)\/(-(2 ^ 64) < j/\j < 2 ^ 64)
theorem CMul.ok {i j:Ik}(h:CMul i j):IntMulOk i j:=by
 rcases h with⟨h1,h2⟩|⟨h1,h2⟩
 ·exact .of_left (PR h1 h2)
 ·exact .of_right (PR h1 h2)
theorem Ch:OpR X (binaryOp .Add) (Br λi j=>.int (i+j)):=Ei λ_ _ _ _ _ _ _ q=>add_int q
theorem Ci:OpR X (binaryOp .Sub) (Br λi j=>.int (i - j)):=Ei λ_ _ _ _ _ _ _ q=>sub_int q
theorem Cj:OpR X (binaryOp .Mult) (rI CMul λi j=>.int (i*j)):=FV λ_ _ _ _ _ _ _ hc q=>mul_int q hc.ok
theorem y8:OpR X (binaryOp .FloorDiv) (rI Gn λi j=>.int (i / j)):=FV λi j _ _ _ _ _ hc q=>by
 have h1:(0:Ik) < j:=hc.1;have h2:j < 1073741824:=hc.2;exact floordiv_int ∅ (by rw[Int.fdiv_eq_ediv_of_nonneg i ∅]; exact q) (.inl (PyProof.noPylong_small ∅))
theorem Ck:OpR X (binaryOp .Mod) (rI (λ_ j=>0 < j) λi j=>.int (i % j)):=FV λi j _ _ _ _ _ hc q=>by
 have h1:(0:Ik) < j:=hc;exact mod_int' ∅ (by rw[Int.fmod_eq_emod_of_nonneg i ∅]; exact q)
theorem Cm:OpR X (binaryOp .Pow) (rI Go λi j=>.int (i ^ j.toNat)):=FV λ_ _ _ _ _ _ _ hc q=>pow_int_small hc.1 hc.2.1 hc.2.2 q
theorem HA {f:HM->Qo HM}{g:Ik->Ik}
  (rule:∀(i:Ik) (t:Rl) (s:HQ) (Q:HM->HQ->Prop) (E:HM->HQ->Prop),Q (.int (g i) s.toks) { s with toks:=s.toks+1 }->wpAny (model X.prog X.w) X.A (f (.int i t)) Q E s) :
  Gk X f (rU λi=>.int (g i)):=by
 intro pins s σ H x v Q I rx h;obtain⟨i,rfl,q⟩:=h;obtain⟨t,rfl⟩:=rx;exact rule i t s _ _ #[.int (g i),H,I.tok _,#[_,rfl],q]
theorem Cn:Gk X (unaryOp .USub) (rU λi=>.int (-i)):=HA λ_ _ _ _ _ q=>neg_int q
end
section
variable{X:Cx}{a b c:Iz}{ta tb tc:TE}{pos:KA}
theorem vy {pins:HK (HX×JR)}{σ:St}{H:Hp}{s:HQ}{Q:VK}{k k':IF}(I:Inv X pins σ H s)(q:Q (.bl k) H)(e:k=k'):EP X pins σ Q (.bool k') s:=by
 subst e;exact#[.bl k,H,I,rfl,q]
theorem Ej:OpR X (compareOp .Lt) (Br λi j=>.bl (decide (i < j))):=y6 λ_ _ _ _ _ _ _ q=>lt_int q
theorem Ek:OpR X (compareOp .LtE) (Br λi j=>.bl (decide (i<=j))):=y6 λ_ _ _ _ _ _ _ q=>le_int q
theorem El:OpR X (compareOp .Gt) (Br λi j=>.bl (decide (j < i))):=y6 λ_ _ _ _ _ _ _ q=>gt_int q
theorem Em:OpR X (compareOp .GtE) (Br λi j=>.bl (decide (j<=i))):=y6 λ_ _ _ _ _ _ _ q=>ge_int q
theorem Co:OpR X (compareOp .Is) (λx y H Q=>y=.non/\Q (.bl (decide (x=.non))) H):=by
 intro pins s σ H x y v u Q I rx ry h;obtain⟨rfl,q⟩:=h;cases ry;refine is_none_gen (vy I q ?_);cases x <;> first
  | (cases rx; rfl)
  | (obtain⟨t,rfl⟩:=rx; rfl)
theorem y9:OpR X (compareOp .IsNot) (λx y H Q=>y=.non/\Q (.bl (!decide (x=.non))) H):=by
 intro pins s σ H x y v u Q I rx ry h;obtain⟨rfl,q⟩:=h;cases ry;refine isnot_none_gen (vy I q ?_);cases x <;> first
  | (cases rx; rfl)
  | (obtain⟨t,rfl⟩:=rx; rfl)
theorem zb {op:Qb}{r:R2}(ho:OpR X (compareOp op) r)(ha:PE X a ta)(hb:PE X b tb)(hm:behindInMarks op b=false):PE X (.Compare a [op] [b] pos) (FU r ta tb):=by
 intro pins s σ H Q I h;exact wpAny_Compare1 (Cg ha hb I h λv u s2 x y H2 I2 rx ry q=>ho pins s2 σ H2 x y v u Q I2 rx ry q) hm
noncomputable def En (t:TE):TT:=λσ H Q=>t σ H λx H'=>∃k,x=.bl k/\Q k H'
theorem zd {op:Qb}{r:R2}(ho:OpR X (compareOp op) r)(ha:PE X a ta)(hb:PE X b tb)(hm:behindInMarks op b=false):PT X (.Compare a [op] [b] pos) (En (FU r ta tb)):=by
 intro pins s σ H Q I h;refine wpAny_isTrue_Compare1 (bJ (ha pins s σ H _ I h) λv s1 #[x,H1,I1,r1,q1]=>bJ (hb pins s1 σ H1 _ I1 q1) λu s2 #[y,H2,I2,r2,q2]=>
  bJ (ho pins s2 σ H2 x y v u _ I2 r1 r2 q2) λc s3 #[z,H3,I3,r3,k,e,q3]=>?_) hm
 subst e;cases r3;exact Ks #[H3,I3,q3]
noncomputable def Gp (K:Ig)(x:V)(H:Hp)(k:IF):Prop:=
 match x with
 | .non=>k=false
 | .bl b=>k=b
 | .int i=>k=(i != 0)
 | .str y=>y.length<=sizeLine/\k=((y.length:Ik) != 0)
 | .byt y=>y.size<=sizeLine/\k=((y.size:Ik) != 0)
 | .ref p=>(∃xs,SqL K H p xs/\k = !xs.isEmpty)\/(∃xs,SqT K H p xs/\k = !xs.isEmpty)\/∃kvs,H p=ba (.dK kvs)/\k = !kvs.isEmpty
 | _=>JF
theorem qN {κ:Type}{kvs:HK (κ×V)}{vs:HK (κ×HM)}(r:KV kvs vs):(!vs.isEmpty) = !kvs.isEmpty:=by
 cases r <;> rfl
theorem jX {xs:HK V}{its:HK HM}(r:Vals xs its):(!its.toArray.isEmpty) = !xs.isEmpty:=by
 cases r <;> simp
theorem iQ:(sizeLine:HW) < 2 ^ 63:=by rw[Jf]; decide
theorem Cp:Gm X (λx H Q=>∃k,Gp X.K x H k/\Q k H):=by
 intro pins s σ H x v Q I rx h;obtain⟨k,e,q⟩:=h;have hl:=iQ;have hs:sizeLine=16777216:=Jf;cases x with
 | non=>
  cases rx;have e':k=false:=e;subst e';exact truthy_none #[H,I,q]
 | bl b=>
  cases rx;have e':k=b:=e;subst e';exact Ks #[H,I,q]
 | int i=>
  obtain⟨t,rfl⟩:=rx;have e':k=(i != 0):=e;subst e';exact PySem.P.truthy_int #[H,I,q]
 | str y=>
  obtain⟨t,rfl⟩:=rx;obtain⟨hy,e'⟩ : y.length<=sizeLine/\k=((y.length:Ik) != 0):=e;subst e';exact PySem.P.truthy_str ∅ #[H,I.tok _,q]
 | byt y=>
  obtain⟨t,rfl⟩:=rx;obtain⟨hy,e'⟩ : y.size<=sizeLine/\k=((y.size:Ik) != 0):=e;subst e';exact PySem.W.truthy_bytes ∅ #[H,I.tok _,q]
 | ref p=>
  cases rx;have e':(∃xs,SqL X.K H p xs/\k = !xs.isEmpty)\/(∃xs,SqT X.K H p xs/\k = !xs.isEmpty)\/∃kvs,H p=ba (.dK kvs)/\k = !kvs.isEmpty:=e;rcases e' with⟨xs,hx,e'⟩|⟨xs,hx,e'⟩|⟨kvs,hx,e'⟩
  ·subst e';obtain⟨its,r,pl,hz⟩:=I.list hx;have hlen:=r.length;exact wpAny_truthy_list pl.isList (by simp only[Ii]; omega) #[H,I.tok _,by rw[jX r]; exact q]
  ·subst e';obtain⟨its,r,pl,hz⟩:=I.tuple hx;have hlen:=r.length;exact truthy_tuple pl (by simp only[Ii]; omega) #[H,I.tok _,by rw[jX r]; exact q]
  ·subst e';obtain⟨hz,hS,vs,r,m⟩ : kvs.length<=sizeLine/\(p==sysModules)=false/\∃vs,KV kvs vs/\s.heap.DictOf (nh X.prog X.w) p vs:=I.hok p _ hx;have hlen:kvs.length=vs.length:=MW r;exact wpAny_truthy_dict hS m ∅ #[H,I.tok _,by rw[qN r]; exact q]
 | _=>exact(show JF from e).elim
theorem qO:OpR X (binaryOp .Add) (λx y H Q=>∃i j,x=.str i/\y=.str j/\i.length+j.length<=sizeLine/\Q (.str (i++j)) H):=by
 intro pins s σ H x y v u Q I rx ry h;obtain⟨i,j,rfl,rfl,hz,q⟩:=h;obtain⟨t,rfl⟩:=rx;obtain⟨t',rfl⟩:=ry;exact add_str (λt' tk=>#[.str (i++j),H,I.tok _,#[_,rfl],q]) hz
theorem l4 {x:V}{us:HK HM}(r:Vals [x] us):∃u,us=[u]/\RelV x u:=by
 cases r with
 | cons r1 r2=>cases r2; exact#[_,rfl,r1]
theorem l5:CallR X (.type "int") (λxs H Q=>(∃i,xs=[.int i]/\Q (.int i) H)\/∃k,xs=[.bl k]/\Q (.int (if k then 1 else 0)) H):=by
 intro pins s σ H xs us Q I r h;rcases h with⟨i,rfl,q⟩|⟨k,rfl,q⟩
 ·obtain⟨u,rfl,t,rfl⟩:=l4 r;exact call_int_int #[.int i,H,I,#[_,rfl],q]
 ·obtain⟨u,rfl,r1⟩:=l4 r;cases r1;exact call_int_bool #[.int (if k then 1 else 0),H,I.tok _,#[_,rfl],q]
noncomputable def Gq (K:Ig)(x:V)(H:Hp)(n:HW):Prop:=
 match x with
 | .str y=>y.length<=sizeLine/\n=y.length
 | .byt y=>y.size<=sizeLine/\n=y.size
 | .ref p=>(∃xs,SqL K H p xs/\n=xs.length)\/∃xs,SqT K H p xs/\n=xs.length
 | _=>JF
theorem jY:CallR X (.builtin "len") (λxs H Q=>∃x n,xs=[x]/\Gq X.K x H n/\Q (.int n) H):=by
 intro pins s σ H xs us Q I r h;obtain⟨x,n,rfl,e,q⟩:=h;obtain⟨u,rfl,rx⟩:=l4 r;have hl:=iQ;have hs:sizeLine=16777216:=Jf;cases x with
 | str y=>
  obtain⟨t,rfl⟩:=rx;obtain⟨hy,e'⟩ : y.length<=sizeLine/\n=y.length:=e;subst e';exact len_str ∅ #[.int _,H,I.tok _,#[_,rfl],q]
 | byt y=>
  obtain⟨t,rfl⟩:=rx;obtain⟨hy,e'⟩ : y.size<=sizeLine/\n=y.size:=e;subst e';exact PySem.W.len_bytes ∅ #[.int _,H,I.tok _,#[_,rfl],q]
 | ref p=>
  cases rx;have e':(∃xs,SqL X.K H p xs/\n=xs.length)\/∃xs,SqT X.K H p xs/\n=xs.length:=e;rcases e' with⟨xs,hx,e'⟩|⟨xs,hx,e'⟩
  ·subst e';obtain⟨its,r',pl,hz⟩:=I.list hx;have hlen:=r'.length;exact Calls.call_len_list pl.isList (by simp only[Ii]; omega) #[.int xs.length,H,I.tok _,#[_,by simp only[Ii]; rw[hlen]],q]
  ·subst e';obtain⟨its,r',pl,hz⟩:=I.tuple hx;have hlen:=r'.length;exact len_tuple pl (by simp only[Ii]; omega) #[.int xs.length,H,I.tok _,#[_,by simp only[Ii]; rw[hlen]],q]
 | _=>exact(show JF from e).elim
end
section
variable{prog:IM}{w:IU}{A:IQ}{E:HM->HQ->Prop}{s:HQ}{K:Ig}{x dx C f:HX}{mA:Iv->HU HM}{name:Iv}{v:HM}
end
section
variable{P:IM}{w:IU}{H H':Hp}{h h':Jc}{a C dx:HX}{fs fs':HK (Iv×V)}
end
section
variable{X:Cx}{pins:HK (HX×JR)}{σ:St}{H:Hp}{s:HQ}{a C dx:HX}{fs:HK (Iv×V)}{f:Iv}{v:V}{A:IQ}{E:HM->HQ->Prop}
end
section
variable{X:Cx}{o e value:Iz}{f:Iv}{pos pos' tpos:KA}{ta tv:TE}
end
section
variable{X:Cx}{pins:HK (HX×JR)}{σ:St}{H:Hp}{s:HQ}{A:IQ}{E:HM->HQ->Prop}{Q:HM->HQ->Prop}{c:HM}{b:IF}
end
structure Room (k:HW)(A:IQ):Prop where
 hd:A.handled=K3
 dp:A.depth+3*k+5 < recursionLimit
 un:A.units+16*k+200 < cLine
theorem Room.deeper {k:HW}{A:IQ}(r:Room (k+1) A)(env:Ow):Room k (A.deeper env):=
 #[r.hd,by have:=r.dp; show A.depth+1+3*k+5 < _; omega,by have:=r.un; show A.units+3+16*k+200 < _; omega]
theorem Room.depth {k:HW}{A:IQ}(r:Room k A):A.depth < recursionLimit:=by have:=r.dp; omega
noncomputable def Eo:TA:=λ_ H Q=>Q [] H
noncomputable def Er (ta:TE)(tr:TA):TA:=λσ H Q=>ta σ H λx H1=>tr σ H1 λxs H2=>Q (x::xs) H2
section
variable{X:Cx}{e:Iz}{es:HK Iz}{te:TE}{t:TA}{pos:KA}
theorem vz:PA X [] Eo:=λ_ _ _ _ H Q I h=>Calls.spliced_nil #[[],H,I,.nil,h]
theorem nj (ha:PE X e te)(hr:PA X es t)(hs:starEach (e::es) X.env=(false,eval e X.env)::starEach es X.env:=by rfl):PA X (e::es) (Er te t):=by
 intro pos pins s σ H Q I h;rw[hs];show wpAny _ _ (spliced ((false,eval e X.env)::backTo pos (starEach es X.env))) _ _ s;refine Calls.spliced_cons (bJ (ha pins s σ H _ I h) λu s1 #[x,H1,I1,r1,q1]=>?_)
 exact bJ (hr pos pins s1 σ H1 _ I1 q1) λus s2 #[xs,H2,I2,r2,q2]=>#[x::xs,H2,I2,.cons r1 r2,q2]
noncomputable def Gr (t:TA):TE:=λσ H Q=>t σ H λxs H1=>xs.length<=sizeLine/\∀p,H1 p=K3->Q (.ref p) (bP H1 p (.tup xs))
noncomputable def Gs (t:TA):TE:=λσ H Q=>t σ H λxs H1=>xs.length<=sizeLine/\∀p,H1 p=K3->Q (.ref p) (bP H1 p (.lst xs))
theorem Cq {x1}(h:PA X es t):PE X (.Tuple es x1 pos) (Gr t):=by
 intro pins s σ H Q I hq;refine wpAny_Tuple_spliced (bJ (h pos pins s σ H _ I hq) λus s1 #[xs,H1,I1,r,z,q]=>#[by rw[<- r.length]; exact z,?_])
 have hf:H1 s1.heap.objs.size=K3:=I1.hok.fresh (Ih _);refine#[.ref s1.heap.objs.size,bP H1 s1.heap.objs.size (.tup xs),I1.laid (t':=s1.toks) (λb u e=>HP _ e) (Ih _) ?_,rfl,q _ hf]
 exact#[z,us,r,#[_,Ij _ rfl,rfl,_,rfl]]
theorem Cr (h:PA X es t):PE X (.List es pos) (Gs t):=by
 intro pins s σ H Q I hq;refine wpAny_List_spliced (bJ (h pos pins s σ H _ I hq) λus s1 #[xs,H1,I1,r,z,q]=>#[by rw[<- r.length]; exact z,?_])
 have hf:H1 s1.heap.objs.size=K3:=I1.hok.fresh (Ih _);refine#[.ref s1.heap.objs.size,bP H1 s1.heap.objs.size (.lst xs),I1.laid (t':=s1.toks) (λb u e=>HP _ e) (Ih _) ?_,rfl,q _ hf]
 exact#[z,us,0,r,Ij _ rfl]
end
noncomputable abbrev Sp:=HK V->Hp->VK->XK->Prop
noncomputable abbrev vA:=HK Ow->Hp->HQ->XK->HM->HQ->Prop
structure Env0 (P:IM)(w:IU)(K:Ig)(mg:Iv->HU HM)(base:Jc)(A:IQ)(outer:HK Ow)(s:HQ)(H:Hp):Prop where
 frames:A.frames=ba outer
 mod:Mod K mg base
 bs:∀b o,base.get? b=ba o->s.heap.get? b=ba o/\H b=K3
 bsz:base.objs.size<=s.heap.objs.size
 funs:s.heap.FunFrames base outer
 frf:∀b∈qK outer,H b=K3
 hok:HOk P w H s.heap
 bare:MO s.gens
noncomputable def CE (outer:HK Ow)(P:IM)(w:IU)(H:Hp)(s:HQ)(Q:VK)(u:HM)(s':HQ):Prop:=
 ∃v H',s'.os=s.os/\MO s'.gens/\Un (qK outer) [] H H' s.heap s'.heap/\HOk P w H' s'.heap/\RelV v u/\Q v H'
noncomputable def CR (CX:vA)(outer:HK Ow)(P:IM)(w:IU)(H:Hp)(s:HQ)(Q:VK)(E:XK)(r:OV)(s':HQ):Prop:=
 match r with
 | .ok (.ret u)=>CE outer P w H s Q u s'
 | .ok _=>JF
 | .error e=>CX outer H s E e s'
structure FnOk (P:IM)(w:IU)(K:Ig)(mg:Iv->HU HM)(base:Jc)(CX:vA)(k:HW)(f:HX)(fd:KC)(ps:HK Iv)(sp:Sp):Prop where
 len:∀vs H Q E,sp vs H Q E->vs.length=ps.length
 run:∀(A:IQ) (outer:HK Ow) (s:HQ) (H:Hp) (args:Args) (us:HK HM) (vs:HK V) (Q:VK) (E:XK),Room k A->Env0 P w K mg base A outer s H->OA s fd args (ps.zip us)->Vals vs us->sp vs H Q E->
  codeAny (model P w) A (.call (.ref f) args) (CR CX outer P w H s Q E) s
section
variable{X:Cx}{pins:HK (HX×JR)}{σ:St}{H:Hp}{s s':HQ}
theorem Inv.env0 (I:Inv X pins σ H s):Env0 X.prog X.w X.K X.mg X.base X.A X.stack s H:=
 #[I.ok.frames,I.ok.mod,I.bs,Jh I.ok.bsz I.sz,I.stack,I.stkFree,I.hok,I.bare]
theorem Inv.after {Q:VK}{u:HM}(I:Inv X pins σ H s)(h:CE X.stack X.prog X.w H s Q u s'):EP X pins σ Q u s':=by
 obtain⟨v,H',os,bare,un,hok,r,q⟩:=h;obtain⟨hh,g,d,t,os'⟩:=s';obtain rfl:os'=s.os:=os;exact#[v,H',I.call (h':=hh) (g':=g) (d':=d) (t':=t) (ch:=[]) un hok bare (λb z=>absurd z (by simp)),r,q]
end
noncomputable def vB (sp:Sp)(dvs:HK V)(E:XK)(t:TA):TE:=λσ H Q=>t σ H λvs H1=>sp (vs++dvs) H1 Q E
noncomputable def Binds (K:Ig)(fd:KC)(ps:HK Iv)(ds:HK HM):Prop:=
 ∀(s:HQ) (us:HK HM),K.In s.heap->(us++ds).length=ps.length->OA s fd #[us,[]] (ps.zip (us++ds))
theorem Binds.all {K:Ig}{fd:KC}{ps:HK Iv}(h:∀us:HK HM,us.length=ps.length->bindArgs fd #[us,[]]=pure (ps.zip us)):Binds K fd ps []:=λs us _ hl=>by
 rw[Kw]at hl ⊢;exact .of_eq (h us hl)
noncomputable def nk (CX:vA)(X:Cx)(E:XK):Prop:=∀(pins:HK (HX×JR)) (σ:St) (H:Hp) (s:HQ) (e:HM) (s':HQ),Inv X pins σ H s->CX X.stack H s E e s'->X.xe e s'
section
variable{X:Cx}{CX:vA}{k:HW}{f C:HX}{fd:KC}{ps:HK Iv}{sp:Sp}{dvs:HK V}{ds:HK HM}{E:XK}{x m:Iv}{p pos apos:KA}{e o:Iz}{es:HK Iz}{ta:TE}{t:TA}
theorem vC {pins:HK (HX×JR)}{σ:St}{H:Hp}{s:HQ}{Q:VK}{us:HK HM}{vs:HK V}(F:FnOk X.prog X.w X.K X.mg X.base CX k f fd ps sp)(hr:Room k X.A)(hb:Binds X.K fd ps ds)(hd:Vals dvs ds)(hx:nk CX X E)
  (I:Inv X pins σ H s) (r:Vals vs us) (h:sp (vs++dvs) H Q E):wpAny (model X.prog X.w) X.A (call (.ref f) us) (EP X pins σ Q) X.xe s:=by
 have r2:Vals (vs++dvs) (us++ds):=r.append hd;have hl:(us++ds).length=ps.length:=by rw[<- r2.length]; exact F.len _ _ _ _ h
 refine wpAny_call (LP (F.run X.A X.stack s H #[us,[]] (us++ds) (vs++dvs) Q E hr I.env0 (hb s us I.kIn hl) r2 h) λr s' hq=>?_)
 cases r with
 | error e=>exact hx pins σ H s e s' I hq
 | ok fl=>
  cases fl with
  | ret u=>exact I.after hq
  | next=>exact JF.elim hq
  | brk=>exact JF.elim hq
  | cont=>exact JF.elim hq
theorem ze (F:FnOk X.prog X.w X.K X.mg X.base CX k f fd ps sp)(hr:Room k X.A)(hg:Gl X x)(hm:X.mg x=ba (.ref f))(hk:JP X.K (.ref f)=true)(hb:Binds X.K fd ps ds)(hd:Vals dvs ds)(hx:nk CX X E)
  (ha:PA X (e::es) t) (hdb:(x==("__debug__" : Iv))=false:=by decide) (he:starEach (e::es) X.env=(false,eval e X.env)::starEach es X.env:=by rfl) (hpl:(backTo pos (starEach es X.env)).any (·.1)=false:=by rfl) :
  PE X (.Call (.Name x p) (e::es) [] pos) (vB sp dvs E t):=by
 intro pins s σ H Q I h;refine LH (rS I hg hm ?_ hdb);refine PySem.W.callWith_K (h₀:=X.base) I.ok.mod.kin hk (bJ (ha pos pins s σ H _ I h) λus s1 #[vs,H1,I1,r,q]=>#[I1.kIn,?_]) he hpl
 exact vC F hr hb hd hx I1 r q
theorem vD (F:FnOk X.prog X.w X.K X.mg X.base CX k f fd ps sp)(hr:Room k X.A)(hg:Gl X x)(hm:X.mg x=ba (.ref f))(hk:JP X.K (.ref f)=true)(hb:Binds X.K fd ps ds)(hd:Vals dvs ds)(hx:nk CX X E)
  (hdb:(x==("__debug__" : Iv))=false:=by decide):PE X (.Call (.Name x p) [] [] pos) (vB sp dvs E Eo):=by
 intro pins s σ H Q I h;refine LH (rS I hg hm ?_ hdb);exact PySem.W.callWith_K0 I.kIn hk (vC (us:=[]) F hr hb hd hx I .nil h)
end
section
variable{X:Cx}{CX:vA}{k:HW}{f C:HX}{fd:KC}{ps ks:HK Iv}{sp:Sp}{E:XK}{x m:Iv}{p pos apos kpos:KA}{e o:Iz}{es:HK Iz}{kws:HK Pl}{te ta:TE}{t tk:TA}{nm:HU Iv}
variable{g:HK HM->HK HM->HK HM}{gV:HK V->HK V->HK V}
end
structure FnScope (N P:HK Iv)(sc:Ld):Prop where
 kind:sc.kind=.function
 co:sc.isCoroutine=false
 gen:sc.isGenerator=false
 nd:N.Nodup
 pre:N.take P.length=P
 par:∀x∈P,sc.names.lookup x=ba .local\/sc.names.lookup x=ba .cell
 nofree:∀y∈sc.names,y.2≠.free
theorem l7 {kindOf:Iv->HU J5}{x:Iv}:∀ {binds:HK (Iv×HM)} {m:Iv->HU HM},(∀v,(x,v)∉binds)->bindL kindOf binds m x=m x
 | [],_,_=>rfl
 | (n,v)::r,m,h=>by
  unfold bindL;rw[l7 λw hw=>h w (JD _ hw)]
  split
  ·have:x≠n:=by rintro rfl; exact h v JG
   simp[this]
  ·rfl
theorem l8 {kindOf:Iv->HU J5}{x:Iv}:∀ {binds:HK (Iv×HM)} {m:Iv->HU HM},(∀v,(x,v)∉binds)->bindC kindOf binds m x=m x
 | [],_,_=>rfl
 | (n,v)::r,m,h=>by
  unfold bindC;rw[l8 λw hw=>h w (JD _ hw)]
  split
  ·rfl
  ·have:x≠n:=by rintro rfl; exact h v JG
   simp[this]
theorem l9 {kindOf:Iv->HU J5}{x:Iv}{v:HM}:∀ {P:HK Iv} {vs:HK HM} {i:HW} {m:Iv->HU HM},P.Nodup->P[i]?=ba x->vs[i]?=ba v->kindOf x=ba .local->
  bindL kindOf (P.zip vs) m x=ba v
 | [],_,_,_,_,h,_,_=>by simp at h
 | _::_,[],_,_,_,_,h,_=>by simp at h
 | p::P,w::vs,0,m,nd,h1,h2,hk=>by
  simp at h1 h2; subst h1; subst h2
  show bindL kindOf ((p,w)::P.zip vs) m p=_;unfold bindL;rw[l7 λv hv=>(KI.mp nd).1 (Np hv).1,Ix hk]
  simp
 | p::P,w::vs,i+1,m,nd,h1,h2,hk=>by
  show bindL kindOf ((p,w)::P.zip vs) m x=_;unfold bindL;exact l9 (i:=i) (KI.mp nd).2 (by simpa using h1) (by simpa using h2) hk
theorem ma {kindOf:Iv->HU J5}{x:Iv}{v:HM}:∀ {P:HK Iv} {vs:HK HM} {i:HW} {m:Iv->HU HM},P.Nodup->P[i]?=ba x->vs[i]?=ba v->kindOf x≠ba .local->
  bindC kindOf (P.zip vs) m x=ba v
 | [],_,_,_,_,h,_,_=>by simp at h
 | _::_,[],_,_,_,_,h,_=>by simp at h
 | p::P,w::vs,0,m,nd,h1,h2,hk=>by
  simp at h1 h2; subst h1; subst h2
  show bindC kindOf ((p,w)::P.zip vs) m p=_;unfold bindC;rw[l8 λv hv=>(KI.mp nd).1 (Np hv).1,IK hk]
  simp
 | p::P,w::vs,i+1,m,nd,h1,h2,hk=>by
  show bindC kindOf ((p,w)::P.zip vs) m x=_;unfold bindC;exact ma (i:=i) (KI.mp nd).2 (by simpa using h1) (by simpa using h2) hk
noncomputable def fw (N:HK Iv)(vs:HK V):St:=vs.map ba++IW (N.length - vs.length) K3
noncomputable def qP (CX:vA)(P:IM)(w:IU)(K:Ig)(mg:Iv->HU HM)(base:Jc)(N:HK Iv)(qual:Iv)(scope:Ld)(f:HX)(cd:HM)(A:IQ)(outer:HK Ow)(s:HQ)(H:Hp)(E:XK):Cx where
 prog:=P
 w:=w
 K:=K
 mg:=mg
 base:=base
 A:=A.deeper (envOfC qual scope s.heap.objs.size f cd)
 N:=N
 s₀:=s
 H₀:=H
 env:=envOfC qual scope s.heap.objs.size f cd
 outer:=outer
 stack:=envOfC qual scope s.heap.objs.size f cd::outer
 ex:=[]
 calm:=true
 fn:=λ_=>true
 pn:=[]
 xe:=λe s'=>wpAny (model P w) (A.deeper (envOfC qual scope s.heap.objs.size f cd)) (leaving (envOfC qual scope s.heap.objs.size f cd) e) (λ_ s''=>CX outer H s E e s'') (λe' s''=>CX outer H s E e' s'') s'
theorem oT {sc:Ld}{n:HW}{x:Iv}(h:sc.names.lookup x=ba .cell):∃c,(cellsFrom n sc.names []).lookup x=ba c:=by
 have q:=Nf sc.names n [] (.inl h);exact Jn.mp q
theorem tU {CX:vA}{P:IM}{w:IU}{K:Ig}{mg:Iv->HU HM}{base:Jc}{N ps:HK Iv}{qual:Iv}{scope:Ld}{f:HX}{cd:HM}{A:IQ}{outer:HK Ow}{s s1:HQ}{H:Hp}{E:XK}{us:HK HM}{vs:HK V}
  (S:FnScope N ps scope) (hd:A.handled=K3) (e0:Env0 P w K mg base A outer s H) (hl:vs.length=ps.length) (r:Vals vs us)
  (x:InCallC s s.heap.objs.size (bindL (envOfC qual scope s.heap.objs.size f cd).kindOf (ps.zip us) λ_=>K3) (cellsFrom (s.heap.objs.size+1) scope.names []) (bindC (envOfC qual scope s.heap.objs.size f cd).kindOf (ps.zip us) λ_=>K3) s1) :
  Inv (qP CX P w K mg base N qual scope f cd A outer s H E) [] (fw N vs) H s1:=by
 have hpl:ps.length<=N.length:=by have:=congrArg Qq S.pre; rw[Jp]at this; omega
 obtain⟨h1,tk,rfl,hk⟩:=x.done;have noA:∀b:HX,b∉(qP CX P w K mg base N qual scope f cd A outer s H E).ex:=λb z=>absurd (show b∈([]:HK HX)from z) (by simp)
 refine#[#[e0.mod,S.kind,rfl,rfl,Ih _,λy z c h1 h2=>?_,λy hy=>?_,λy c _ h=>?_,λ_=>hd,Around.frames_deeper e0.frames,.inr #[rfl,rfl],λb z=>absurd z (noA b),e0.bs,e0.bsz,λb _ _=>noA b,λb z=>absurd z (noA b),e0.funs,e0.frf],
  rfl,e0.bare,Un.kept hk,#[_,x.toInCall.ns,λi y v h1 h2 h3=>?_],λy c h=>#[_,x.cell y c h],e0.hok.fresh (Ih _),λy c h=>?_,λp hp=>absurd (show p∈([]:HK (HX×JR))from hp) (by simp),e0.hok.kept hk,?_]
 ·exact name_of_addr x.apart (KU h1) (KU h2)
 ·have hy:scope.names.lookup y=ba .cell\/scope.names.lookup y=ba .free:=hy;rcases hy with hy|hy
  ·exact oT hy
  ·exact absurd rfl (S.nofree _ (KU hy))
 ·exact Lp (x.above y c (KU h))
 ·have hi:i < vs.length:=by
   unfold fw at h2
   by_cases hi:i < vs.length
   ·exact hi
   ·rw[KD (by simpa using hi)]at h2
    rw[List.getElem?_replicate]at h2;split at h2 <;> cases h2
  have ha:vs[i]?=ba v:=by
   unfold fw at h2;rw[Je (by simpa using hi),HY]at h2
   cases e:vs[i]? with
   | none=>rw[e]at h2; cases h2
   | some a=>rw[e]at h2; cases h2; rfl
  obtain⟨u,hu,rv⟩:=r.get ha;have hp:ps[i]?=ba y:=by
   rw[<- S.pre,MX ∅]; exact h1
  have ndP:ps.Nodup:=by rw[<- S.pre]; exact S.nd.sublist (List.take_sublist _ _)
  refine#[u,rv,?_];rcases S.par y (Ip hp)with k|k
  ·exact .inl #[k,l9 ndP hp hu k]
  ·obtain⟨c,e⟩:=oT (n:=s.heap.objs.size+1) k;refine .inr #[.inl k,c,e,?_];have q:=x.cell y c e;rw[ma ndP hp hu (by show scope.names.lookup y≠_; rw[k]; decide)]at q
   exact q
 ·exact e0.hok.fresh (Lp (x.above y c (KU h)))
 ·unfold fw;show _=N.length;rw[Im,HN,NA];omega
theorem Et {CX:vA}{P:IM}{w:IU}{K:Ig}{mg:Iv->HU HM}{base:Jc}{k:HW}{f:HX}{name qual:Iv}{params:Arguments}{body:HK KQ}{scope:Ld}{dV kV doc pm cdv ct oc:HM}{an od:HU HX}
  {osl:ID (HU HM)} {N ps:HK Iv} {sp:Sp} (lk:K.lookup f=ba #[oc,od,.func (Kk name qual params body scope dV kV doc pm an cdv ct),osl]) (hcd:Li K cdv qual=true) (S:FnScope N ps scope)
  (len:∀vs H Q E,sp vs H Q E->vs.length=ps.length)
  (hbody:∀(A:IQ) (outer:HK Ow) (s:HQ) (H:Hp) (vs:HK V) (Q:VK) (E:XK),Room k (A.deeper (envOfC qual scope s.heap.objs.size f cdv))->sp vs H Q E->
   ∃t,PSs (qP CX P w K mg base N qual scope f cdv A outer s H E) body t/\t { nx:=λ_ H'=>Q .non H',rt:=Q } (fw N vs) H) :
  FnOk P w K mg base CX (k+1) f (Kk name qual params body scope dV kV doc pm an cdv ct) ps sp:=by
 refine#[len,λA outer s H args us vs Q E hr e0 hb r hsp=>?_]
 have hl:=len _ _ _ _ hsp;have KX:K.In s.heap:=e0.mod.kin.keeps λb o e=>(e0.bs b o e).1
 have lim:s.heap.NoLimit:=e0.mod.nolimit.keeps λb o e=>(e0.bs b o e).1
 have hkind:∀y∈ps.zip us,scope.names.lookup y.1=ba .local\/(scope.names.lookup y.1=ba .cell/\((cellsFrom (s.heap.objs.size+1) scope.names []).lookup y.1).isSome=true):=λ#[n,v] hy=>by
  rcases S.par n (Np hy).1 with q|q
  ·exact .inl q
  ·exact .inr #[q,Nf _ _ _ (.inl q)]
 refine codeAny_call_function hr.depth (KX _ _ lk) rfl S.co S.gen rfl (PySem.W.codeRec_of KX hcd) (hb _ _ _ _ ?_);refine wpAny_newFunctionEnv_cells S.kind hkind λenv he s1 x=>?_
 subst he;refine#[lim.keeps x.toInCall.keep,codeAny_func ?_];obtain⟨t,ht,hq⟩:=hbody A outer s H vs Q E (hr.deeper _) hsp;have I:Inv (qP CX P w K mg base N qual scope f cdv A outer s H E) [] (fw N vs) H s1:=tU S hr.hd e0 hl r x;refine J2 (ht [] s1 (fw N vs) H _ I hq) (λfl s' hs=>?_) λe s' hs=>hs
 have fin:∀ {σ':St} {H':Hp} {v:V} {u:HM},Inv (qP CX P w K mg base N qual scope f cdv A outer s H E) [] σ' H' s'->RelV v u->Q v H'->CE outer P w H s Q u s':=
  λ{σ' H' v u} J rv q=>#[v,H',J.os,J.bare,J.base,J.hok,rv,q]
 cases fl with
 | ret u=>
  obtain⟨v,σ',H',J,rv,q⟩:=hs;exact fin J rv q
 | next=>
  obtain⟨σ',H',J,q⟩:=hs;exact fin (v:=V.non) (u:=Ja) J rfl q
 | brk=>
  obtain⟨_,_,_,q⟩:=hs;exact JF.elim q
 | cont=>
  obtain⟨_,_,_,q⟩:=hs;exact JF.elim q
section
variable{X:Cx}{x:Iv}{p pos:KA}{e:Iz}{es:HK Iz}{t:TA}{id T:JJ}{r:HK V->Hp->VK->Prop}
noncomputable def Hq (r:HK V->Hp->VK->Prop)(t:TA):TE:=λσ H Q=>t σ H λvs H1=>r vs H1 Q
theorem oU (hc:CallR X (.builtin id) r)(hg:Gl X x)(hm:X.mg x=K3)(hv:bootBuiltins x=ba (.builtin id))(ha:PA X (e::es) t)(hn:x≠"__name__":=by decide)(hdb:(x==("__debug__" : Iv))=false:=by decide)
  (he:starEach (e::es) X.env=(false,eval e X.env)::starEach es X.env:=by rfl) (hpl:(backTo pos (starEach es X.env)).any (·.1)=false:=by rfl):PE X (.Call (.Name x p) (e::es) [] pos) (Hq r t):=by
 intro pins s σ H Q I h;refine LH (iN I hg hm hv ?_ hn hdb);exact OW (bJ (ha pos pins s σ H _ I h) λus s1 #[vs,H1,I1,r1,q1]=>hc pins s1 σ H1 vs us Q I1 r1 q1) he hpl
theorem tV (hc:CallR X (.type T) r)(hg:Gl X x)(hm:X.mg x=K3)(hv:bootBuiltins x=ba (.type T))(ha:PA X (e::es) t)(hn:x≠"__name__":=by decide)(hdb:(x==("__debug__" : Iv))=false:=by decide)
  (he:starEach (e::es) X.env=(false,eval e X.env)::starEach es X.env:=by rfl) (hpl:(backTo pos (starEach es X.env)).any (·.1)=false:=by rfl):PE X (.Call (.Name x p) (e::es) [] pos) (Hq r t):=by
 intro pins s σ H Q I h;refine LH (iN I hg hm hv ?_ hn hdb);exact Kx (bJ (ha pos pins s σ H _ I h) λus s1 #[vs,H1,I1,r1,q1]=>hc pins s1 σ H1 vs us Q I1 r1 q1) he hpl
end
end L2
namespace HT
open PySem PyProof.Rows
section
open PySem.SeqAt
open PySem.AutoSeq1 (wpAny_loadPart')
open PySem.MeetsSeq PySem.MeetsSeq2 PySem.MeetsSeq3
end
section
variable{prog:IM}{w:IU}{A:IQ}{E:HM->HQ->Prop}{s:HQ}
theorem zf {t b:HX}{vs ws:HK HM}{Q:HM->HQ->Prop}(ht:Ov s.heap t vs.toArray)(hb:Ov s.heap b ws.toArray)(hv:vs≠[])
  (h1:ws=[]->Q (.ref t) s) (h2:ws≠[]->Q (.ref s.heap.objs.size) { s with heap:=s.heap.push { cls:=.type "tuple",data:=.seq (vs++ws).toArray } })
  (hsz:vs.length+ws.length<=sizeLine):wpAny (model prog w) A (binaryOp .Add (.ref t) (.ref b)) Q E s:=by
 obtain⟨⟨cls,dd,data,sl⟩,ho,hc,n,hd⟩:=id ht;obtain⟨⟨cls2,dd2,data2,sl2⟩,ho2,hc2,n2,hd2⟩:=id hb;simp only at hc hd hc2 hd2;subst hc hd hc2 hd2;have e:vs.toArray++ws.toArray=(vs++ws).toArray:=by simp
 by_cases hw:ws=[]
 ·exact OB #[_,ho,rfl] #[_,ho2,rfl] M4 N7 LQ LM (LB _ _)
   (tuple_addW1 t b vs.toArray ws.toArray n n2 dd dd2 sl sl2 (by simpa using hv) (by simp[hw])) #[ho,ho2,h1 hw]
 ·refine OB #[_,ho,rfl] #[_,ho2,rfl] M4 N7 LQ LM (LB _ _)
   (tuple_addW2 t b vs.toArray ws.toArray n n2 dd dd2 sl sl2 (by simpa using hv) (by simpa using hw) (by rw[Ii,Ii]; exact hsz)) #[ho,ho2,?_]
  rw[e];exact h2 hw
noncomputable def cj (n d:HW):HU Ik->HW
 | none=>d
 | some v=>if v < 0 then(v+(n:Ik)).toNat else min v.toNat n
theorem oV (n d:HW):cj n d K3=d:=rfl
theorem rW (n d k:HW):cj n d (ba (k:Ik))=min k n:=by
 show(if (k:Ik) < 0 then((k:Ik)+(n:Ik)).toNat else min (k:Ik).toNat n)=min k n
 rw[IK ∅,Iu]
theorem Cs (n d:HW)(hd:d<=n)(o:HU Ik):cj n d o<=n:=by
 cases o with
 | none=>exact hd
 | some v=>
  show(if v < 0 then(v+(n:Ik)).toNat else min v.toNat n)<=n
  by_cases hv:v < 0
  ·rw[Ix hv]; omega
  ·rw[IK hv]; exact Nat.min_le_right _ _
theorem rX (v:Ik)(n d:HW):(if v < 0 then max (v+(n:Ik)) 0 else min v (n:Ik))=((cj n d (ba v):HW):Ik):=by
 show(if v < 0 then max (v+(n:Ik)) 0 else min v (n:Ik))=(((if v < 0 then(v+(n:Ik)).toNat else min v.toNat n):HW):Ik)
 by_cases hv:v < 0
 ·simp only[Ix hv]; omega
 ·simp only[IK hv]; omega
theorem qQ (lo hi:HU Ik)(n:HW):Lv lo hi 1 (n:Ik)=(((cj n 0 lo:HW):Ik),((cj n n hi:HW):Ik)):=by
 have h1:¬ ((1:Ik) < 0):=∅
 unfold Lv;simp only[h1,JA];refine Re ?_ ?_
 ·cases lo with
  | none=>rfl
  | some v=>exact rX v n 0
 ·cases hi with
  | none=>rfl
  | some v=>exact rX v n n
theorem qR (i j:HW):KG (i:Ik) (j:Ik) 1=j - i:=by
 unfold KG;have h1:(1:Ik) > 0:=∅
 simp only[h1,Kb,Int.ediv_one];split <;> omega
theorem jZ {v:HM}{o:HU Ik}{Q:HU Ik->HQ->Prop}(p:Mu v o)(h:Q o s):wpAny (model prog w) A (Pd v) Q E s:=by
 cases p with
 | none=>exact Pq h
 | int i t=>exact slicePart_int h
theorem eE {sl:HX}{vl vu:HM}{lo hi:HU Ik}{n:HW}{Q:Ik×Ik×HW->HQ->Prop}(hs:s.heap.IsSliceOf sl vl vu .none)(pl:Mu vl lo)(pu:Mu vu hi)
  (h:Q (((cj n 0 lo:HW):Ik),1,cj n n hi - cj n 0 lo) s):wpAny (model prog w) A (Mv (.ref sl) (pure (n:Ik))) Q E s:=by
 obtain⟨os,hos,hcs,hds⟩:=id hs;unfold Mv PM;refine HL (HL (Kn hos hds (x:=vl) rfl (HL (Kn hos hds (x:=vu) rfl (HL (Kn hos hds (x:=.none) rfl (HR ?_)))))));refine HL (Pq ?_);show wpAny _ _ (if ((1:Ik)==0)=true then _ else _) _ _ s
 rw[IK #v[]]
 refine HL (jZ pl (HL (jZ pu (HL (HR ?_)))));show wpAny _ _ (match Lv lo hi 1 (n:Ik)with|(lo,hi)=>pure (lo,(1:Ik),KG lo hi 1)) _ _ s
 rw[qQ lo hi n];show wpAny _ _ (pure (((cj n 0 lo:HW):Ik),(1:Ik),KG ((cj n 0 lo:HW):Ik) ((cj n n hi:HW):Ik) 1)) _ _ s;rw[qR];exact HR h
theorem vE (xs:ID HM)(i k:HW):((IN k).filterMap λ(m:HW)=>xs[((i:Ik)+(m:Ik)*1).toNat]?).toArray=((xs.toList.drop i).take k).toArray:=by
 have e:(λ(m:HW)=>xs[((i:Ik)+(m:Ik)*1).toNat]?)=λm=>xs[i+m]?:=by
  funext m
  have:((i:Ik)+(m:Ik)*1).toNat=i+m:=∅
  rw[this]
 rw[e];have:=pick_run xs i k;rw[List.filterMap_map]at this;have e2:((λx=>xs[x]?)∘λx=>i+x)=λm=>xs[i+m]?:=rfl
 rw[e2]at this;rw[this]
theorem gX {t sl:HX}{items:ID HM}{vl vu:HM}{lo hi:HU Ik}{Q:HM->HQ->Prop}(ht:Ov s.heap t items)(hs:s.heap.IsSliceOf sl vl vu .none)(pl:Mu vl lo)(pu:Mu vu hi)
  (hw:¬ (cj items.size 0 lo=0/\cj items.size items.size hi=items.size))
  (h:Q (.ref s.heap.objs.size) { s with heap:=s.heap.push { cls:=.type "tuple",data:=.seq ((items.toList.drop (cj items.size 0 lo)).take (cj items.size items.size hi - cj items.size 0 lo)).toArray } })
  (hsz:items.size<=sizeLine):wpAny (model prog w) A (getItem (.ref t) (.ref sl)) Q E s:=by
 have htake:sizeOk (.seq ((items.toList.drop (cj items.size 0 lo)).take (cj items.size items.size hi - cj items.size 0 lo)).toArray):=by
  show((items.toList.drop (cj items.size 0 lo)).take (cj items.size items.size hi - cj items.size 0 lo)).toArray.size<=sizeLine;rw[Ii,Jp,Lq,Il];omega
 have hj:cj items.size items.size hi<=items.size:=Cs _ _ (Ih _) hi;obtain⟨os,hos,hcs,hds⟩:=id hs;have hTs:s.TypeIs (.ref sl) "slice":=#[os,hos,hcs];unfold getItem
 try with_reducible refine Jm ?_
 first|refine HL (HR ?_)|skip
 refine HL (OC ht.typeIs #v[] ?_)
 refine HL (Jq (name:=Kl "__getitem__") ht.typeIs Kf
  (Jr Kf ht.typeIs NY ?_ (Oe _ _)))
 show wpAny _ _ (Lj (.ref t) >>= _) _ _ s;refine HL (PU ht ?_);refine HL (K7 hTs ?_);rw[Ix #v[]]
 refine HL (eE hs pl pu ?_);have hno:¬ ((((cj items.size 0 lo:HW):Ik)==0&&(1:Ik)==1&&(cj items.size items.size hi - cj items.size 0 lo)==items.size)=true):=by
  intro q;rw[HV,HV]at q;have q1:((cj items.size 0 lo:HW):Ik)=0:=eq_of_beq q.1.1;have q2:cj items.size items.size hi - cj items.size 0 lo=items.size:=eq_of_beq q.2;exact hw #[∅,∅]
 show wpAny _ _ (if (((cj items.size 0 lo:HW):Ik)==0&&(1:Ik)==1&&(cj items.size items.size hi - cj items.size 0 lo)==items.size)=true then _ else _) _ _ s
 rw[IK hno,vE]
 first
  | exact HL (m:=JX _) (IV (HR #[_,rfl,HR h]) htake)
  | exact HL (m:=JX _) (IV (HL (HR (HR #[_,rfl,HR h]))) htake)
  | exact HL (HL (m:=JX _) (IV (HR (HR #[_,rfl,HR h])) htake))
  | exact HL (HL (m:=JX _) (IV (HR #[_,rfl,HR h]) htake))
end
end HT
namespace L2
open PySem PySem.Spec PyProof.Rows
noncomputable abbrev TO:=St->Hp->(HU Ik->Hp->Prop)->Prop
noncomputable def PO (X:Cx)(e:HU Iz)(t:TO):Prop:=
 ∀(pins:HK (HX×JR)) (s:HQ) (σ:St) (H:Hp) (Q:HU Ik->Hp->Prop),Inv X pins σ H s->t σ H Q->
  wpAny (model X.prog X.w) X.A (evalPart e X.env) (λu s'=>∃o H',Inv X pins σ H' s'/\Mu u o/\Q o H') X.xe s
noncomputable def zh:TO:=λ_ H Q=>Q K3 H
noncomputable def Eu (t:TE):TO:=λσ H Q=>t σ H λx H1=>∃i,x=.int i/\Q (ba i) H1
section
variable{X:Cx}{e:Iz}{te:TE}{lo hi:HU Iz}{tl th:TO}{pos p2:KA}
theorem zj:PO X K3 zh:=by
 intro pins s σ H Q I h;rw[PV];exact HR #[K3,H,I,.none,h]
theorem zl (h:PE X e te):PO X (ba e) (Eu te):=by
 intro pins s σ H Q I hw;rw[evalPart_some];refine bJ (h pins s σ H _ I hw) λu s1 #[x,H1,I1,r1,q1]=>?_
 obtain⟨i,rfl,q⟩:=q1;obtain⟨t,rfl⟩:=r1;exact#[ba i,H1,I1,.int i t,q]
noncomputable def Ev (X:Cx)(r:V->HU Ik->HU Ik->Hp->VK->Prop):Prop:=
 ∀(pins:HK (HX×JR)) (s:HQ) (σ:St) (H:Hp) (x:V) (v vl vu:HM) (lo hi:HU Ik) (sl:HX) (Q:VK),Inv X pins σ H s->RelV x v->s.heap.IsSliceOf sl vl vu .none->Mu vl lo->Mu vu hi->r x lo hi H Q->
  ∃T id,typeLookup (.type T) "__getitem__" = pure (ba (.builtin id))/\s.TypeIs v T/\wpAny (model X.prog X.w) X.A (getItem v (.ref sl)) (EP X pins σ Q) X.xe s
noncomputable def HB (r:V->HU Ik->HU Ik->Hp->VK->Prop)(te:TE)(tl th:TO):TE:=λσ H Q=>te σ H λx H1=>tl σ H1 λl H2=>th σ H2 λu H3=>r x l u H3 Q
theorem vF {r:V->HU Ik->HU Ik->Hp->VK->Prop}(hr:Ev X r)(he:PE X e te)(hl:PO X lo tl)(hu:PO X hi th):PE X (.Subscript e (.Slice lo hi K3 p2) pos) (HB r te tl th):=by
 intro pins s σ H Q I h;refine Subscript_ (bJ (he pins s σ H _ I h) λv s1 #[x,H1,I1,r1,q1]=>?_)
 refine wpAny_Slice (bJ (hl pins s1 σ H1 _ I1 q1) λvl s2 #[l,H2,I2,pl,q2]=>bJ (hu pins s2 σ H2 _ I2 q2) λvu s3 #[u,H3,I3,pu,q3]=>?_)
 rw[PV];refine HR ?_;have I4:Inv X pins σ H3 { s3 with heap:=s3.heap.push { cls:=.type "slice",data:=.fields [vl,vu,.none].toArray } }:=I3.kept (t':=s3.toks) λb ob q=>HP _ q
 obtain⟨T,id,hT,ht,hg⟩:=hr pins { s3 with heap:=s3.heap.push { cls:=.type "slice",data:=.fields [vl,vu,.none].toArray } } σ H3 x v vl vu l u s3.heap.objs.size Q I4 r1 (QI ..) pl pu q3
 show wpAny (model X.prog X.w) X.A (subscriptTail e (.Slice lo hi K3 p2) v (.ref s3.heap.objs.size)) (EP X pins σ Q) X.xe { s3 with heap:=s3.heap.push { cls:=.type "slice",data:=.fields [vl,vu,.none].toArray } }
 exact tail_any (ops:=[.ref s3.heap.objs.size,v]) ht hT hg (by with_unfolding_all rfl)
noncomputable def j3 (xs:HK V)(lo hi:HU Ik):HK V:=(xs.drop (HT.cj xs.length 0 lo)).take (HT.cj xs.length xs.length hi - HT.cj xs.length 0 lo)
theorem jj (xs:HK V)(lo hi:HU Ik):(j3 xs lo hi).length<=xs.length:=by
 unfold j3;rw[Jp,Lq];omega
noncomputable def Gu (K:Ig):V->HU Ik->HU Ik->Hp->VK->Prop:=λx lo hi H Q=>∃a xs,x=.ref a/\SqT K H a xs/\
 ¬ (HT.cj xs.length 0 lo=0/\HT.cj xs.length xs.length hi=xs.length)/\∀p,H p=K3->Q (.ref p) (bP H p (.tup (j3 xs lo hi)))
theorem Ct:Ev X (Gu X.K):=by
 intro pins s σ H x v vl vu lo hi sl Q I rx hs pl pu h;obtain⟨a,xs,rfl,hx,hw,q⟩:=h;cases rx;obtain⟨its,r,ht,hz⟩:=I.tuple hx;have hlen:its.toArray.size=xs.length:=by rw[Ii]; exact r.length.symm
 refine#["tuple",_,PyProof.Rows.slot_tuple_getitem.lookup,ht.typeIs,?_];refine HT.gX ht hs pl pu (by rw[hlen]; exact hw) ?_ (by rw[hlen]; exact hz)
 rw[hlen];refine#[.ref s.heap.objs.size,_,I.laid (t':=s.toks) (o:=.tup (j3 xs lo hi)) (λb ob q=>HP _ q) (Ih _) ?_,rfl,q _ (I.hok.fresh (Ih _))]
 exact#[Jh (jj xs lo hi) hz,_,(r.drop (HT.cj xs.length 0 lo)).take (HT.cj xs.length xs.length hi - HT.cj xs.length 0 lo),OU _ _]
theorem Vals.nil_iff {xs:HK V}{us:HK HM}(r:Vals xs us):us=[]↔xs=[]:=by
 cases r with
 | nil=>simp
 | cons _ _=>simp
end
noncomputable def u9 (n:HW)(i:Ik):HU HW:=if 0<=i then(if i < n then ba i.toNat else K3)else if -(n:Ik)<=i then ba (i+n).toNat else K3
noncomputable def qI {α:Type}(xs:HK α)(i:Ik):HU α:=(u9 xs.length i).bind λj=>xs[j]?
theorem rY {n:HW}{i:Ik}{j:HW}(h:u9 n i=ba j):seqIndex? i n=ba j/\j < n/\-(n:Ik)<=i/\i < n:=by
 unfold u9 at h
 by_cases h0:0<=i
 ·rw[Ix h0]at h
  by_cases h1:i < n
  ·rw[Ix h1]at h;have e:i.toNat=j:=Jt h;exact#[by rw[O7 h0 h1,e],∅,∅,h1]
  ·rw[IK h1]at h; cases h
 ·rw[IK h0]at h
  by_cases h1 : -(n:Ik)<=i
  ·rw[Ix h1]at h;have e:(i+n).toNat=j:=Jt h;exact#[by rw[OD ∅ h1,e],∅,h1,∅]
  ·rw[IK h1]at h; cases h
theorem nq {α:Type}{xs:HK α}{i:Ik}{v:α}(h:qI xs i=ba v):∃j,seqIndex? i xs.length=ba j/\xs[j]?=ba v/\j < xs.length/\-(xs.length:Ik)<=i/\i < xs.length:=by
 unfold qI at h;cases e:u9 xs.length i with
 | none=>rw[e]at h; cases h
 | some j=>
  rw[e]at h;obtain⟨h1,h2,h3,h4⟩:=rY e;exact#[j,h1,h,h2,h3,h4]
theorem atI_nat {α:Type}{xs:HK α}{j:HW}{v:α}(h:xs[j]?=ba v):qI xs (j:Ik)=ba v:=by
 have hj:j < xs.length:=(HZ.mp h).1;have e:u9 xs.length (j:Ik)=ba j:=by
  unfold u9;rw[Ix ∅,Ix ∅]; simp
 unfold qI; rw[e]; exact h
noncomputable def nr (b:Iz):Prop:=∀o i,subscripted b false o i=operate [o,i] (getItem o i)
noncomputable def IxR (X:Cx)(r:R2):Prop:=
 ∀(value slice:Iz) (pins:HK (HX×JR)) (s:HQ) (σ:St) (H:Hp) (x y:V) (v u:HM) (Q:VK),Inv X pins σ H s->RelV x v->RelV y u->r x y H Q->
  subscripted slice false v u=operate [v,u] (getItem v u)->wpAny (model X.prog X.w) X.A (subscriptTail value slice v u) (EP X pins σ Q) X.xe s
noncomputable def MtR (X:Cx)(id:JJ)(r:V->HK V->Hp->VK->Prop):Prop:=
 ∀(pins:HK (HX×JR)) (s:HQ) (σ:St) (H:Hp) (x:V) (xs:HK V) (v:HM) (us:HK HM) (Q:VK),Inv X pins σ H s->RelV x v->Vals xs us->r x xs H Q->
  wpAny (model X.prog X.w) X.A (call (.builtin id) (v::us)) (EP X pins σ Q) X.xe s
section
variable{X:Cx}{a b:Iz}{ta tb:TE}{pos:KA}
theorem Ew {r:R2}(hr:IxR X r)(ha:PE X a ta)(hb:PE X b tb)(hs:nr b):PE X (.Subscript a b pos) (FU r ta tb):=by
 intro pins s σ H Q I h;exact Subscript_ (Cg ha hb I h λv u s2 x y H2 I2 rx ry q=>hr a b pins s2 σ H2 x y v u Q I2 rx ry q (hs _ _))
noncomputable def Gv (K:Ig):R2:=λx y H Q=>∃p xs i v,x=.ref p/\y=.int i/\SqL K H p xs/\qI xs i=ba v/\Q v H
noncomputable def Gw (K:Ig):R2:=λx y H Q=>∃p xs i v,x=.ref p/\y=.int i/\SqT K H p xs/\qI xs i=ba v/\Q v H
noncomputable def Gx:R2:=λx y H Q=>∃z i c,x=.str z/\y=.int i/\z.length<=sizeLine/\qI z.cps.toList i=ba c/\Q (.str #[[c].toArray]) H
theorem zm:IxR X (Gv X.K):=by
 intro value slice pins s σ H x y v u Q I rx ry h hs;obtain⟨p,xs,i,z,rfl,rfl,hq,he,q⟩:=h;cases rx;obtain⟨t,rfl⟩:=ry;obtain⟨its,r,pl,hz⟩:=I.list hq;obtain⟨j,h1,h2,h3,h4,h5⟩:=nq he;obtain⟨w,ew,rw'⟩:=r.get h2;have hl:=r.length;have hn:=iQ;have fin:EP X pins σ Q w s:=#[z,H,I,rw',q]
 by_cases h0:0<=i
 ·have hj:i.toNat=j:=by
   rw[O7 h0 h5]at h1;exact Jt h1
  exact item_listR pl.isList h0 ∅ (by rw[hj]; simpa using ew) fin hs
 ·have hj:(i+(its.toArray.size:Ik)).toNat=j:=by
   rw[OD ∅ h4]at h1
   rw[Ii,<- hl];exact Jt h1
  exact LR (x:=w) pl.isList.typeIs slot_list_getitem.lookup
   (wpAny_getItem_list_neg (Q:=λr s'=>r=w/\EP X pins σ Q r s') pl.isList ∅ (by rw[Ii] <;> omega) ∅ (by rw[hj]; simpa using ew) #[rfl,fin]) hs
theorem Cu:IxR X (Gw X.K):=by
 intro value slice pins s σ H x y v u Q I rx ry h hs;obtain⟨p,xs,i,z,rfl,rfl,hq,he,q⟩:=h;cases rx;obtain⟨t,rfl⟩:=ry;obtain⟨its,r,pl,hz⟩:=I.tuple hq;obtain⟨j,h1,h2,h3,h4,h5⟩:=nq he;obtain⟨w,ew,rw'⟩:=r.get h2;have hl:=r.length;have hn:=iQ;have fin:EP X pins σ Q w s:=#[z,H,I,rw',q];exact LR (x:=w) pl.typeIs slot_tuple_getitem.lookup
  (getItem_tuple (j:=j) (Q:=λr s'=>r=w/\EP X pins σ Q r s') pl ∅ ∅ (by rw[Ii,<- hl]; exact h1) (by simpa using ew) #[rfl,fin]) hs
theorem Cv:IxR X Gx:=by
 intro value slice pins s σ H x y v u Q I rx ry h hs;obtain⟨z,i,c,rfl,rfl,hz,he,q⟩:=h;obtain⟨t,rfl⟩:=rx;obtain⟨t',rfl⟩:=ry;obtain⟨j,h1,h2,h3,h4,h5⟩:=nq he;have hl:z.cps.toList.length=z.length:=by simp[QJ]
 rw[hl]at h1 h4 h5;have hn:=iQ;exact tail_any (typeIs_str s z t) slot_str_getitem.lookup (getItem_str (c:=c) (by
  have e1:decide (i < -(2 ^ 63:Ik))=false:=IP ∅
  have e2:decide (i>=2 ^ 63)=false:=IP ∅
  rw[e1,e2,N8]) (by rw[h1]; simpa using h2) #[.str #[[c].toArray],H,I.tok _,#[_,rfl],q]) hs
theorem qS (its:HK HM)(n j:HW)(u:HM):JK (·.setIfInBounds j u) { cls:=.type "list",data:=.seq its.toArray n }={ cls:=.type "list",data:=.seq (its.set j u).toArray n }:=by
 simp[JK]
theorem Inv.lst {pins:HK (HX×JR)}{σ:St}{H:Hp}{s:HQ}{p:HX}{xs:HK V}(I:Inv X pins σ H s)(h:H p=ba (.lst xs)) :
  ∃(its:HK HM) (n:HW),Vals xs its/\s.heap.get? p=ba { cls:=.type "list",data:=.seq its.toArray n }/\xs.length<=sizeLine:=by
 obtain⟨z,its,n,r,e⟩:=I.hok p _ h;exact#[its,n,r,e,z]
theorem Inv.lstUpd {pins:HK (HX×JR)}{σ:St}{H:Hp}{s:HQ}{p:HX}{xs ys:HK V}{its its':HK HM}{n n':HW}{f:JR->JR}(I:Inv X pins σ H s)(h:H p=ba (.lst xs))
  (ho:s.heap.get? p=ba { cls:=.type "list",data:=.seq its.toArray n }) (hf:f { cls:=.type "list",data:=.seq its.toArray n }={ cls:=.type "list",data:=.seq its'.toArray n' }) (r:Vals ys its') (hz:ys.length<=sizeLine) (t:HW) :
  Inv X pins σ (bP H p (.lst ys)) { s with heap:=s.heap.update p f,toks:=t }:=by
 have e:(s.heap.update p f).get? p=ba { cls:=.type "list",data:=.seq its'.toArray n' }:=by
  rw[JN f ho (by rw[hf] <;> rfl),hf]
 refine I.write (x:=p) (e:=p) (by rw[h]; trivial) (.inl rfl) (λb u hb q=>(IX _ _ (Ne.symm hb)).trans q) #[_,e] ?_
 exact#[hz,its',n',r,e]
noncomputable def Ex:V->V->V->Hp->(Hp->Prop)->Prop:=λo i v H Q=>∃p xs k j,o=.ref p/\i=.int k/\H p=ba (.lst xs)/\u9 xs.length k=ba j/\Q (bP H p (.lst (xs.set j v)))
theorem vG:B8 X Ex:=by
 intro pins s σ H o i v ov iv u Q I ro ri rv h;obtain⟨p,xs,k,j,rfl,rfl,hp,hj,q⟩:=h;cases ro;obtain⟨t,rfl⟩:=ri;obtain⟨its,n,r,ho,hz⟩:=I.lst hp;obtain⟨h1,h2,h3,h4⟩:=rY hj;have hl:=r.length;have hn:=iQ;have I':Inv X pins σ (bP H p (.lst (xs.set j v))) { s with heap:=s.heap.update p (JK (·.setIfInBounds j u)) }:=
  I.lstUpd hp ho (qS its n j u) (r.set rv j) (by rw[List.length_set]; exact hz) s.toks
 by_cases h0:0<=k
 ·have hk:k.toNat=j:=by
   rw[O7 h0 h4]at h1;exact Jt h1
  exact PySem.W.ki_setAt ho h0 ∅ (by rw[Ii,<- hl]; exact h4) (by rw[hk]; exact#[_,I',q])
 ·have hk:(k+(its.toArray.size:Ik)).toNat=j:=by
   rw[OD ∅ h3]at h1
   rw[Ii,<- hl];exact Jt h1
  exact PySem.W.ki_setBack ho ∅ (by rw[Ii,<- hl]; exact h3) ∅ (by rw[hk]; exact#[_,I',q])
theorem nu (lo hi:HU Ik)(n:HW):(sliceBounds lo hi K3 n).1=((HT.cj n 0 lo:HW):Ik)/\(sliceBounds lo hi K3 n).2.1=((HT.cj n n hi:HW):Ik)/\(sliceBounds lo hi K3 n).2.2=1:=by
 refine#[?_,?_,rfl]
 ·cases lo with
  | none=>simp[sliceBounds,HT.cj]
  | some i=>
   simp only[sliceBounds,HT.cj,OX,show(1:Ik) > 0 by decide,Kb]
   by_cases h:i < 0
   ·simp only[h,Kb] <;> omega
   ·simp only[h,JA] <;> omega
 ·cases hi with
  | none=>simp[sliceBounds,HT.cj]
  | some i=>
   simp only[sliceBounds,HT.cj,OX,show(1:Ik) > 0 by decide,Kb]
   by_cases h:i < 0
   ·simp only[h,Kb] <;> omega
   ·simp only[h,JA] <;> omega
theorem lA (its:HK HM)(lo hi:HU Ik):slicePick its.toArray lo hi K3=((its.drop (HT.cj its.length 0 lo)).take (HT.cj its.length its.length hi - HT.cj its.length 0 lo)).toArray:=by
 obtain⟨h1,h2,h3⟩:=nu lo hi its.toArray.size;unfold slicePick;rw[h1,h2,h3];simp only[sliceRange_one,pick_run,Ii] <;> rfl
noncomputable def Gy (K:Ig):V->HU Ik->HU Ik->Hp->VK->Prop:=λx lo hi H Q=>∃a xs,x=.ref a/\SqL K H a xs/\∀p,H p=K3->Q (.ref p) (bP H p (.lst (j3 xs lo hi)))
theorem zn:Ev X (Gy X.K):=by
 intro pins s σ H x v vl vu lo hi sl Q I rx hs pl pu h;obtain⟨a,xs,rfl,hx,q⟩:=h;cases rx;obtain⟨its,r,ht,hz⟩:=I.list hx;have hlen:=r.length;refine#["list",_,slot_list_getitem.lookup,ht.isList.typeIs,?_];refine wpAny_getItem_list_slice ht.isList hs pl pu .none (by simp) ?_ (by rw[Ii] <;> omega)
 rw[lA,<- hlen];refine#[.ref s.heap.objs.size,_,I.laid (t':=s.toks) (o:=.lst (j3 xs lo hi)) (λb ob q=>HP _ q) (Ih _) ?_,rfl,q _ (I.hok.fresh (Ih _))]
 exact#[Jh (jj xs lo hi) hz,_,0,(r.drop (HT.cj xs.length 0 lo)).take (HT.cj xs.length xs.length hi - HT.cj xs.length 0 lo),Ij _ rfl]
noncomputable def gx:V->IF
 | .non=>true
 | .bl _=>true
 | .int _=>true
 | .str _=>true
 | _=>false
noncomputable def zo:V->V->IF
 | .non,.non=>true
 | .bl a,.bl b=>a==b
 | .bl a,.int b=>(if a then 1 else 0)==b
 | .int a,.bl b=>a==(if b then 1 else 0)
 | .int a,.int b=>a==b
 | .str a,.str b=>a==b
 | _,_=>false
theorem Cw {A:IQ}{s:HQ}{y x:V}{u v:HM}(ry:RelV y u)(rx:RelV x v)(fy:gx y=true)(fx:gx x=true):Mw A s u v (zo y x):=by
 cases y with
 | non=>
  cases ry;cases x with
  | non=>cases rx; exact Q6 _
  | bl b=>cases rx; exact Qr b
  | int b=>obtain⟨t,rfl⟩:=rx; exact Qy b t
  | str b=>obtain⟨t,rfl⟩:=rx; exact Qz b t
  | _=>exact absurd (show false=true from fx) IA
 | bl a=>
  cases ry;cases x with
  | non=>cases rx; exact Qs a
  | bl b=>cases rx; exact Qt a b
  | int b=>obtain⟨t,rfl⟩:=rx; exact QA a b t
  | str b=>obtain⟨t,rfl⟩:=rx; exact QC a b t
  | _=>exact absurd (show false=true from fx) IA
 | int a=>
  obtain⟨t',rfl⟩:=ry;cases x with
  | non=>cases rx; exact QD a t'
  | bl b=>cases rx; exact QE a t' b
  | int b=>obtain⟨t,rfl⟩:=rx; exact QK a t' b t
  | str b=>obtain⟨t,rfl⟩:=rx; exact Oa a t' b t
  | _=>exact absurd (show false=true from fx) IA
 | str a=>
  obtain⟨t',rfl⟩:=ry;cases x with
  | non=>cases rx; exact QF a t'
  | bl b=>cases rx; exact QG a t' b
  | int b=>obtain⟨t,rfl⟩:=rx; exact Ob a t' b t
  | str b=>obtain⟨t,rfl⟩:=rx; exact QL a t' b t
  | _=>exact absurd (show false=true from fx) IA
 | _=>exact absurd (show false=true from fy) IA
noncomputable def qT (x:V)(u:HM):IF:=match u with
 | .none=>zo .non x
 | .bool b=>zo (.bl b) x
 | .int i _=>zo (.int i) x
 | .str z _=>zo (.str z) x
 | _=>false
theorem vH {x y:V}{u:HM}(r:RelV y u)(f:gx y=true):qT x u=zo y x:=by
 cases y with
 | non=>cases r; rfl
 | bl b=>cases r; rfl
 | int i=>obtain⟨t,rfl⟩:=r; rfl
 | str z=>obtain⟨t,rfl⟩:=r; rfl
 | _=>exact absurd (show false=true from f) IA
theorem gY {x:V}:∀ {xs:HK V} {us:HK HM},Vals xs us->xs.all gx=true->us.any (qT x)=xs.any λy=>zo y x
 | _,_,.nil,_=>rfl
 | y::xs,u::us,.cons r t,f=>by
  rw[Jo,HV]at f;rw[Ky,Ky,vH r f.1,gY t f.2]
theorem fA {A:IQ}{s:HQ}{x:V}{v:HM}(rx:RelV x v)(fx:gx x=true):∀ {xs:HK V} {us:HK HM},Vals xs us->xs.all gx=true->∀u∈us,Mw A s u v (qT x u)
 | _,_,.nil,_=>λu hu=>by cases hu
 | y::xs,u::us,.cons r t,f=>λu' hu=>by
  rw[Jo,HV]at f;rcases IE.mp hu with rfl|hu
  ·rw[vH r f.1]; exact Cw r rx f.1 fx
  ·exact fA rx fx t f.2 u' hu
noncomputable def FW (x:V)(xs:HK V):IF:=xs.any λy=>zo y x
noncomputable def Gz (K:Ig)(neg:IF):R2:=λx y H Q=>∃p xs,y=.ref p/\(SqL K H p xs\/SqT K H p xs)/\gx x=true/\xs.all gx=true/\Q (.bl (if neg then !FW x xs else FW x xs)) H
theorem tW:OpR X (compareOp .In) (Gz X.K false):=by
 intro pins s σ H x y v u Q I rx ry h;obtain⟨p,xs,rfl,hq,fx,fs,q⟩:=h;cases ry;rcases hq with hq|hq
 ·obtain⟨its,r,pl,hz⟩:=I.list hq;refine Pe (qT x) pl.isList (λw hw=>fA rx fx r fs w (by simpa using hw)) #[.bl _,H,I,rfl,?_]
  rw[show its.toArray.any (qT x)=its.any (qT x) by simp,gY r fs]
  exact q
 ·obtain⟨its,r,pl,hz⟩:=I.tuple hq;refine SeqAt.in_tupleAt (qT x) pl (λw hw=>fA rx fx r fs w (by simpa using hw)) #[.bl _,H,I,rfl,?_]
  rw[show its.toArray.any (qT x)=its.any (qT x) by simp,gY r fs]
  exact q
theorem nv:OpR X (compareOp .NotIn) (Gz X.K true):=by
 intro pins s σ H x y v u Q I rx ry h;obtain⟨p,xs,rfl,hq,fx,fs,q⟩:=h;cases ry;rcases hq with hq|hq
 ·obtain⟨its,r,pl,hz⟩:=I.list hq;refine Of (qT x) pl.isList (λw hw=>fA rx fx r fs w (by simpa using hw)) #[.bl _,H,I,rfl,?_]
  rw[show its.toArray.any (qT x)=its.any (qT x) by simp,gY r fs]
  exact q
 ·obtain⟨its,r,pl,hz⟩:=I.tuple hq;refine SeqAt.notIn_tupleAt (qT x) pl (λw hw=>fA rx fx r fs w (by simpa using hw)) #[.bl _,H,I,rfl,?_]
  rw[show its.toArray.any (qT x)=its.any (qT x) by simp,gY r fs]
  exact q
theorem nw:CallR X (.type "list") (λxs H Q=>∃p ys,xs=[.ref p]/\(SqL X.K H p ys\/SqT X.K H p ys)/\∀l,H l=K3->Q (.ref l) (bP H l (.lst ys))):=by
 intro pins s σ H xs us Q I r h;obtain⟨p,ys,rfl,hq,q⟩:=h;obtain⟨u,rfl,rx⟩:=l4 r;cases rx;have fin:∀(its:HK HM),Vals ys its->ys.length<=sizeLine->∀(h':Jc) (c':HW),(∀b o',s.heap.get? b=ba o'->h'.get? b=ba o')->
   h'.get? s.heap.objs.size=ba { cls:=.type "list",dict:=K3,data:=.seq its.toArray c',slots:=#[] }->EP X pins σ Q (.ref s.heap.objs.size) { s with heap:=h' }:=λits r' hz h' c' kp e=>
  #[.ref s.heap.objs.size,_,I.laid (t':=s.toks) kp (Ih _) (show ObjOk X.prog X.w _ h' _ (.lst ys)from#[hz,its,c',r',e]),rfl,q _ (I.hok.fresh (Ih _))]
 rcases hq with hq|hq
 ·obtain⟨its,r',pl,hz⟩:=I.list hq;have hlen:=r'.length;obtain⟨o,ho,hc,n,hd⟩:=pl.isList;exact PX p (.inl rfl) ho hc hd (λh' c' kp e=>fin its r' hz h' c' kp e) (by simp only[Ii] <;> omega)
 ·obtain⟨its,r',pl,hz⟩:=I.tuple hq;have hlen:=r'.length;obtain⟨o,ho,hc,n,hd⟩:=pl;exact PX p (.inr rfl) ho hc hd (λh' c' kp e=>fin its r' hz h' c' kp e) (by simp only[Ii] <;> omega)
theorem gy:CallR X (.type "tuple") (λxs H Q=>∃p ys,xs=[.ref p]/\((SqL X.K H p ys/\∀l,H l=K3->Q (.ref l) (bP H l (.tup ys)))\/(SqT X.K H p ys/\Q (.ref p) H))):=by
 intro pins s σ H xs us Q I r h;obtain⟨p,ys,rfl,h⟩:=h;obtain⟨u,rfl,rx⟩:=l4 r;cases rx;rcases h with⟨hq,q⟩|⟨hq,q⟩
 ·obtain⟨its,r',pl,hz⟩:=I.list hq;have hlen:=r'.length;refine call_tuple_list pl.isList (λh' kp=>?_) (by simp only[Ii] <;> omega)
  have I1:Inv X pins σ H { s with heap:=h' }:=I.kept (t':=s.toks) kp
  have I2:Inv X pins σ (bP H h'.objs.size (.tup ys)) { s with heap:=h'.push { cls:=.type "tuple",data:=.seq its.toArray } }:=
   I1.laid (t':=s.toks) (λb o e=>HP _ e) (Ih _) (show ObjOk X.prog X.w _ _ _ (.tup ys)from#[hz,its,r',OU _ _])
  exact#[.ref h'.objs.size,_,I2,rfl,q _ (I1.hok.fresh (Ih _))]
 ·obtain⟨its,r',pl,hz⟩:=I.tuple hq;exact call_tuple_same pl #[.ref p,H,I,rfl,q]
noncomputable def GB (K:Ig)(T:JJ)(x:V)(H:Hp):Prop:=match x with
 | .str _=>T = "str"
 | .int _=>T = "int"
 | .ref p=>(T = "list"/\∃xs,SqL K H p xs)\/(T = "tuple"/\∃o,K.lookup p=ba o/\o.cls=.type "tuple"/\o.dict=K3)\/
   (T = "dict"/\((∃kvs,H p=ba (.dK kvs))\/∃kvs,H p=ba (.dT kvs)))\/(T = "set"/\∃S n,H p=ba (.set S n))
 | _=>JF
theorem vI {pins:HK (HX×JR)}{σ:St}{H:Hp}{s:HQ}{T:JJ}{x:V}{v:HM}(I:Inv X pins σ H s)(r:RelV x v)(ty:GB X.K T x H) :
  s.TypeIs v T/\∀a,v=.ref a->∃ob,s.heap.get? a=ba ob/\ob.dict=K3:=by
 cases x with
 | str z=>
  obtain⟨t,rfl⟩:=r;cases(show T = "str" from ty)
  exact#[typeIs_str s z t,λ_ e=>nomatch e]
 | int i=>
  obtain⟨t,rfl⟩:=r;cases(show T = "int" from ty)
  exact#[Pr s i t,λ_ e=>nomatch e]
 | ref p=>
  cases r;rcases ty with⟨rfl,xs,hq⟩|⟨rfl,o,hk,hc,hd⟩|⟨rfl,hk⟩|⟨rfl,S,n,hk⟩
  ·obtain⟨its,_,pl,_⟩:=I.list hq;refine#[pl.isList.typeIs,λa e=>?_]
   cases e;obtain⟨o,n,e,c,hd,_⟩:=pl;exact#[o,e,hd]
  ·refine#[#[o,I.kIn p o hk,hc],λa e=>?_]
   cases e;exact#[o,I.kIn _ o hk,hd]
  ·have z:∃o,s.heap.get? p=ba o/\o.ExactDict:=by
    rcases hk with⟨kvs,hk⟩|⟨kvs,hk⟩
    ·obtain⟨_,_,_,_,o,_,_,e,ex,_⟩:=I.hok p _ hk;exact#[o,e,ex]
    ·obtain⟨_,_,_,_,o,_,_,e,ex,_⟩:=I.hok p _ hk;exact#[o,e,ex]
   obtain⟨o,e,ex⟩:=z;refine#[#[o,e,ex.1],λa e2=>?_]
   cases e2;exact#[o,e,ex.2.1]
  ·obtain⟨o,_,_,_,e,ex,_⟩:=I.hok p _ hk;refine#[#[o,e,ex.1],λa e2=>?_]
   cases e2;exact#[o,e,ex.2.1]
 | _=>exact JF.elim ty
variable{o e:Iz}{es:HK Iz}{to:TE}{t:TA}{name:Iv}{apos cpos:KA}{T id:JJ}{r:V->HK V->Hp->VK->Prop}
end
noncomputable def GC (X:Cx)(id:JJ)(r:V->HK V->Hp->VK->Prop):Prop:=
 ∀(pins:HK (HX×JR)) (s:HQ) (σ:St) (H:Hp) (x:V) (xs:HK V) (v:HM) (us:HK HM) (Q:VK),Inv X pins σ H s->RelV x v->Vals xs us->r x xs H Q->
  wpAny (model X.prog X.w) X.A (call (.builtin id) (v::us)) (EP X pins σ Q) X.xe s
theorem Vals.one:∀ {x:V} {us:HK HM},Vals [x] us->∃u,us=[u]/\RelV x u
 | _,_,.cons r .nil=>#[_,rfl,r]
theorem Vals.eraseIdx:∀ {xs:HK V} {us:HK HM} (i:HW),Vals xs us->Vals (xs.eraseIdx i) (us.eraseIdx i)
 | _,_,_,.nil=>.nil
 | _,_,0,.cons _ t=>t
 | _,_,i+1,.cons r t=>.cons r (Vals.eraseIdx i t)
theorem Vals.rep {xs:HK V}{us:HK HM}(h:Vals xs us):∀k:HW,Vals (IW k xs).flatten (IW k us).flatten
 | 0=>.nil
 | k+1=>by
  rw[JT,JT,KM,KM];exact Vals.append h (Vals.rep h k)
theorem md {α:Type}:∀(l:HK α) (i:HW),(l.eraseIdx i).length<=l.length
 | [],_=>Ih _
 | _::_,0=>KN _
 | _::r,i+1=>L4 (md r i)
theorem mf (its:HK HM):∀(k:HW) (acc:HK HM),
  Ps (λx1 x2=>x1++x2) acc.toArray (IW k its.toArray)=(acc++(IW k its).flatten).toArray
 | 0,acc=>by simp
 | k+1,acc=>by
  have e:acc.toArray++its.toArray=(acc++its).toArray:=by simp
  have e2:(acc++its)++(IW k its).flatten=acc++(IW (k+1) its).flatten:=by
   rw[JT,KM,Kt]
  rw[<- e2,<- mf its k (acc++its),<- e,JT,List.foldl_cons]
section
variable{X:Cx}{pins:HK (HX×JR)}{σ:St}{H:Hp}{s:HQ}{l b:HX}{xs ys zs:HK V}
theorem Inv.lset {its its':HK HM}{n:HW}{f:ID HM->ID HM}{t':HW}(I:Inv X pins σ H s)(hH:H l=ba (.lst xs))
  (e:s.heap.get? l=ba { cls:=.type "list",data:=.seq its.toArray n }) (hf:f its.toArray=its'.toArray) (hv:Vals ys its') (hz:ys.length<=sizeLine) :
  Inv X pins σ (bP H l (.lst ys)) { s with heap:=s.heap.update l (JK f),toks:=t' }:=by
 have q:=OY e f;rw[hf]at q;refine I.write (x:=l) (e:=l) (by rw[hH]; exact trivial) (.inl rfl) (λb' u hb hu=>(IX s.heap (JK f) (Ne.symm hb)).trans hu) #[_,q] ?_
 exact#[hz,its',_,hv,q]
theorem Inv.lnew {its:HK HM}{t':HW}(I:Inv X pins σ H s)(hv:Vals ys its)(hz:ys.length<=sizeLine) :
  Inv X pins σ (bP H s.heap.objs.size (.lst ys)) { s with heap:=s.heap.push { cls:=.type "list",data:=.seq its.toArray },toks:=t' }:=
 I.laid (λ_ _ q=>HP _ q) (Ih _) #[hz,its,0,hv,Ij _ rfl]
theorem Inv.fresh (I:Inv X pins σ H s):H s.heap.objs.size=K3:=I.hok.fresh (Ih _)
theorem Inv.lstM (I:Inv X pins σ H s)(hH:H l=ba (.lst xs)):xs.length<=sizeLine/\∃(its:HK HM) (n:HW),Vals xs its/\xs.length=its.length/\s.heap.get? l=ba { cls:=.type "list",data:=.seq its.toArray n }:=by
 obtain⟨z,its,n,r,e⟩:=I.hok l _ hH;exact#[z,its,n,r,r.length,e]
theorem oW {n:HW}(h:n<=sizeLine):KR n=false:=by
 unfold KR;exact IP ∅
end
section
variable{X:Cx}
noncomputable def zp:V->HK V->Hp->VK->Prop:=λx vs H Q=>∃l xs y,x=.ref l/\vs=[y]/\H l=ba (.lst xs)/\xs.length < sizeLine/\Q .non (bP H l (.lst (xs++[y])))
theorem tX:GC X "list.append" zp:=by
 intro pins s σ H x vs v us Q I rx rv h;obtain⟨l,xs,y,rfl,rfl,hH,hz,q⟩:=h;cases rx;obtain⟨u,rfl,ru⟩:=rv.one;obtain⟨z,its,n,r,hl,e⟩:=I.lstM hH;refine Mx F.slot_list_append #[_,e,rfl] F.entry_list_append (F.args_list_append_2 _ _) (OE l its.toArray n u (by rw[Ii]; omega)) #[e,?_]
 refine#[.non,_,I.lset (its':=its++[u]) hH e (by simp) (r.append #v[ru]) ?_,rfl,q]
 rw[Im,Kh];omega
noncomputable def zq:V->HK V->Hp->VK->Prop:=λx vs H Q=>∃l b xs zs,x=.ref l/\vs=[.ref b]/\H l=ba (.lst xs)/\H b=ba (.lst zs)/\xs.length+zs.length<=sizeLine/\Q .non (bP H l (.lst (xs++zs)))
theorem tY:GC X "list.extend" zq:=by
 intro pins s σ H x vs v us Q I rx rv h;obtain⟨l,b,xs,zs,rfl,rfl,hH,hB,hz,q⟩:=h;cases rx;obtain⟨u,rfl,ru⟩:=rv.one;cases ru;obtain⟨z,its,n,r,hl,e⟩:=I.lstM hH;obtain⟨z2,its2,n2,r2,hl2,e2⟩:=I.lstM hB;have hsz:its.toArray.size+its2.toArray.size<=sizeLine:=by rw[Ii,Ii]; omega
 have hlong:¬ (!its.toArray.isEmpty&&KR (its.toArray.size+its2.toArray.size))=true:=by
  rw[oW hsz,My];exact IA
 refine Mx F.slot_list_extend #[_,e,rfl] F.entry_list_extend (F.args_list_extend_2 _ _)
  (OF l its.toArray n b its2.toArray n2 hlong (by rw[Ii]; omega) ∅) #[e,e2,?_]
 refine#[.non,_,I.lset (its':=its++its2) hH e (by simp) (r.append r2) ?_,rfl,q]
 rw[Im];omega
noncomputable def Cy:V->HK V->Hp->VK->Prop:=λx vs H Q=>∃l xs i k y,x=.ref l/\vs=[.int i]/\H l=ba (.lst xs)/\-(2 ^ 63)<=i/\i < 2 ^ 63/\seqIndex? i xs.length=ba k/\xs[k]?=ba y/\Q y (bP H l (.lst (xs.eraseIdx k)))
theorem vJ:GC X "list.pop" Cy:=by
 intro pins s σ H x vs v us Q I rx rv h;obtain⟨l,xs,i,k,y,rfl,rfl,hH,h1,h2,hk,hy,q⟩:=h;cases rx;obtain⟨u,rfl,ru⟩:=rv.one;obtain⟨t,rfl⟩:=ru;obtain⟨z,its,n,r,hl,e⟩:=I.lstM hH;obtain⟨w,hw,rw'⟩:=r.get hy;refine Mx F.slot_list_pop #[_,e,rfl] F.entry_list_pop (F.args_list_pop_2 _ _)
  (Qu l its.toArray n i t k w (Pu h1 h2) (by rw[Ii,<- hl]; exact hk) (by rw[<- JB]; exact hw) (by rw[Ii]; omega)) #[e,?_]
 refine#[y,_,I.lset (its':=its.eraseIdx k) hH e ?_ (r.eraseIdx k) ?_,rw',q]
 ·show its.toArray.eraseIdxIfInBounds k=(its.eraseIdx k).toArray;rw[List.eraseIdxIfInBounds_toArray]
 ·have:=md xs k;omega
noncomputable def GD:R2:=λx y H Q=>∃l b xs zs,x=.ref l/\y=.ref b/\H l=ba (.lst xs)/\H b=ba (.lst zs)/\xs.length+zs.length<=sizeLine/\∀p,H p=K3->Q (.ref p) (bP H p (.lst (xs++zs)))
theorem Cz:OpR X (binaryOp .Add) GD:=by
 intro pins s σ H x y v u Q I rx ry h;obtain⟨l,b,xs,zs,rfl,rfl,hH,hB,hz,q⟩:=h;cases rx;cases ry;obtain⟨z,its,n,r,hl,e⟩:=I.lstM hH;obtain⟨z2,its2,n2,r2,hl2,e2⟩:=I.lstM hB;refine PySem.P.add_list e e2 ?_ (by rw[Ii,Ii]; omega)
 have ea:its.toArray++its2.toArray=(its++its2).toArray:=by simp
 rw[ea];exact#[.ref _,_,I.lnew (t':=s.toks) (r.append r2) (by rw[Im]; omega),rfl,q _ I.fresh]
noncomputable def GF:R2:=λx y H Q=>∃l k xs,x=.ref l/\y=.int k/\H l=ba (.lst xs)/\-(2 ^ 63)<=k/\k < 2 ^ 63/\xs.length*k.toNat<=sizeLine/\
 ∀p,H p=K3->Q (.ref p) (bP H p (.lst (IW k.toNat xs).flatten))
theorem zr {α:Type}(xs:HK α)(k:HW):(IW k xs).flatten.length=k*xs.length:=by
 induction k with
 | zero=>simp
 | succ k ih=>rw[JT,KM,Im,ih,Qf,Nat.add_comm]
theorem CA:OpR X (binaryOp .Mult) GF:=by
 intro pins s σ H x y v u Q I rx ry h;obtain⟨l,k,xs,rfl,rfl,hH,h1,h2,hz,q⟩:=h;cases rx;obtain⟨t,rfl⟩:=ry;obtain⟨z,its,n,r,hl,e⟩:=I.lstM hH;have hlen:its.toArray.size*k.toNat<=sizeLine:=by rw[Ii,<- hl]; exact hz
 have hcap:¬ its.toArray.size*k.toNat > (2 ^ 63 - 1) / 8:=by
  have:(sizeLine:HW)<=(2 ^ 63 - 1) / 8:=by decide
  omega
 have hfit:¬ (!Pv k)=true:=by
  rw[Pu h1 h2];exact IA
 have hlong:¬ KR (its.toArray.size*k.toNat)=true:=by
  rw[oW hlen];exact IA
 have hnew:Ps (λx1 x2=>x1++x2) #[] (IW (if its.toArray.isEmpty=true then 0 else k.toNat) its.toArray)=(IW k.toNat its).flatten.toArray:=by
  have f0:∀m:HW,Ps (λx1 x2=>x1++x2) #[] (IW m its.toArray)=(IW m its).flatten.toArray:=λm=>by
   have:=mf its m [];rw[List.nil_append]at this;exact this
  rw[f0];cases its with
  | nil=>simp
  | cons a r'=>rw[IK (by simp)]
 refine wpAny_binaryOp_repeat_ref (T:="list") (U:="int") #v[] #[_,e,rfl] (λs'=>Pr s' k t) noFill_list_mul F.fills_int_mul F.slot_int_rmul repeat_list F.slot_int_index.lookup
  (Mx F.slot_int_rmul (Pr s k t) F.entry_int_rmul (F.args_int_rmul_2 _ _) (int___rmul___int_list k t l its.toArray n)
   #[e,rfl,#[_,e,rfl],Mx F.slot_list_mul #[_,e,rfl] F.entry_list_mul (F.args_list_mul_2 _ _) (Ou l its.toArray n k t hfit hcap hlong) #[e,?_]])
 rw[hnew];exact#[.ref _,_,I.lnew (t':=s.toks) (r.rep k.toNat) (by rw[zr,Lr]; exact hz),rfl,q _ I.fresh]
end
section
variable{prog:IM}{w:IU}{A:IQ}{E:HM->HQ->Prop}{s:HQ}
end
section
variable{X:Cx}
end
section
variable{κ:Type} [Lg κ]
end
section
variable{P:IM}{w:IU}{H:Hp}{h:Jc}{a:HX}
end
section
variable{X:Cx}{pins:HK (HX×JR)}{σ:St}{H:Hp}{s:HQ}{a:HX}{y v:V}{u r:HM}{o:HU V}{A:IQ}{E:HM->HQ->Prop}
theorem Inv.big (I:Inv X pins σ H s):sysModules < s.heap.objs.size:=by
 have h:mainGlobals < s.heap.objs.size:=(I.mod.glob.keeps I.bk).lt;exact Nat.lt_trans #v[] h
theorem ny {h':Jc}{t':HW}{ob:HO}(I:Inv X pins σ H s)(mu:DU (H a))(hs:JZ a s.heap h')(he:∃q,h'.get? a=ba q)(new:ObjOk X.prog X.w (bP H a ob) h' a ob) :
  Inv X pins σ (bP H a ob) { s with heap:=h',toks:=t' }:=
 I.write (x:=a) (e:=a) mu (.inl rfl) (λb q hb z=>(hs.2 b hb).trans z) he new
end
section
variable{X:Cx}{pins:HK (HX×JR)}{σ:St}{H:Hp}{s:HQ}{a:HX}{kvs:HK (nb×V)}{k:nb}{u:HM}{A:IQ}{E:HM->HQ->Prop}
end
section
variable{X:Cx}{o i e value:Iz}{pos pos' tpos:KA}{td ty tv:TE}
end
section
variable{X:Cx}{pos:KA}
end
noncomputable abbrev VV:HK (V×V)->HK (HM×HM)->Prop:=Na λp q=>RelV p.1 q.1/\RelV p.2 q.2
section
variable{X:Cx}{pins:HK (HX×JR)}{σ:St}{H:Hp}{s:HQ}{a:HX}{y d:V}{u r:HM}{o:HU V}{A:IQ}{E:HM->HQ->Prop}
end
section
variable{X:Cx}{o e f:Iz}{apos cpos:KA}{td ty tx:TE}
end
section
variable{X:Cx}{pins:HK (HX×JR)}{σ:St}{H:Hp}{s:HQ}{a:HX}{kvs:HK (nb×V)}{A:IQ}{E:HM->HQ->Prop}
end
section
variable{X:Cx}{pins:HK (HX×JR)}{σ:St}{H:Hp}{s:HQ}{a:HX}{y:V}{u:HM}{A:IQ}{E:HM->HQ->Prop}
end
end L2
namespace Att
open PySem PySem.W PySem.Calls PyProof.Rows
theorem jx {P:Pw}{h:Jc}:∀(ns:HK Ik) (vs:HK HM),WellAll P h vs (ns.map WData.int)->Pn vs ns:=by
 intro ns
 induction ns with
 | nil=>
  intro vs w;rw[List.map_nil]at w;cases w;exact .nil
 | cons n ns ih=>
  intro vs w;rw[JH]at w;cases w with
  | cons a b=>
   cases a;exact .cons _ _ (ih _ b)
theorem tZ {l:OpenLaw}{n:HW}(hn:l.most=ba n){P:Pw}{h:Jc}{args:HK WData}{vals:HK HM}
  (hpre:l.row.toRowW.claim.pre args=true) (hwl:WellAll P h vals args) :
  ∃a vs ns,vals=[IR a]/\args=[WData.list (ns.map WData.int)]/\h.get? a=ba { cls:=.type "list",data:=.seq vs.toArray }/\Pn vs ns/\ns.length<=n:=by
 have hsh:WShape.hasAll [] args [.list .int]=true:=(pre_splitW hpre).1;have hc:l.pre.holds [] { args:=args }=true:=(pre_splitW hpre).2;obtain⟨d,r,rfl,h1,h2⟩:=hasAllW_cons hsh;obtain rfl:=hasAllW_nil h2;obtain⟨xs,rfl,h3⟩:=hasW_list h1;obtain⟨ns,rfl⟩:=items_int h3;have hlen:ns.length<=n:=by
  unfold OpenLaw.pre at hc;have h4:(WTm.not (.lt (.lit (.int (n:Ik))) (.len (.arg 0)))).holds [] { args:=[.list (ns.map .int)] }=true:=by
   have h4:=(holds_andW hc).1;rw[hn]at h4;exact h4
  have h5:=condW_of h4 (w_not (w_lt w_lit (w_len_list (w_arg rfl))));rw[HN]at h5;refine OZ λq=>?_
  have q':(n:Ik) < ((ns.length:HW):Ik):=∅
  first
   | (rw[JY q']at h5; exact absurd h5 #v[])
   | (simp at h5; omega)
 cases hwl with
 | cons w1 w2=>
  cases w2;cases w1 with
  | list ho hall=>exact#[_,_,ns,rfl,rfl,ho,jx ns _ hall,hlen]
theorem t4 (l:OpenLaw)(args:HK WData):l.row.toRowW.claim.post args (.bool true) args=true:=
 postW_of (r:=l.row.toRowW) (X:=(true==true))
  (show WShape.has [] (.bool true) .bool=true by first|rfl|decide|simp[WShape.has,WShape.arms,WShape.armsAll])
  (show(WTm.eq .res (.lit (.bool true))).value [] { args:=args,res:=ba (.bool true),after:=args }=ba (.bool (true==true))from w_eq_bool (w_res rfl) w_lit) rfl
theorem attach_call {l:OpenLaw}{n:HW}{q:IM}{loose:HK Iv}{XP:(Iv->HU HM)->Jc->Prop}{YP:IU->Jc->Prop}{d:DefRec}
  (hn:l.most=ba n) (hdf:d.params.defaults=[])
  (call:∀(w:IU) (s₀ s₁:HQ) (mg mb:Iv->HU HM) (fa:HX) (o:JR) (pm cd doc:HM) (a:HX) (vs:HK HM) (ns:HK Ik),
   Ground q loose [] XP w s₀ mg mb s₁.heap->YP w s₁.heap->
   s₁.heap.get? fa=ba o->o.data=.func (docDef d.name d.params d.body d.scope pm cd doc)->s₁.heap.CodeRec cd d.name->mg d.name=ba (.ref fa)->
   s₁.heap.get? a=ba { cls:=.type "list",data:=.seq vs.toArray }->Pn vs ns->ns.length<=n->s₁.gens=#[]->
   codeAny (model l.prog w) callerA (.call (.ref fa) #[[.ref a],[]]) (λr s'=>r=.ok (.ret (.bool true))/\OldK s₁.heap s'.heap/\s'.os=s₁.os/\MO s'.gens) s₁) :
  WalkO q loose XP YP l.row.toRowW d [] (λf vs=>Px f vs):=by
 intro w s₀ s₁ mg mb G Y fa o pm cd doc dV kV ho hd hcd hD hmg hg args vals as hpre hlay hrd hwl hlo;obtain rfl:dV=.none:=Dflts.none hD hdf;obtain rfl:kV=.none:=Dflts.noKw hD;obtain⟨a,vs,ns,rfl,rfl,hobj,hints,hlen⟩:=tZ hn hpre hwl;refine enter_call (LP (call w s₀ s₁ mg mb fa o pm cd doc a vs ns G Y ho (fd_plain hd) hcd hmg hobj hints hlen hg) λr s' hq=>?_)
 obtain⟨rfl,h2,h3,h4⟩:=hq;exact#[.inl #[.bool true,.bool true,[],rfl,λ_=>rfl,.bool true,t4 l _,λ_=>#[QR,λ_ hm=>(nomatch hm)]],h2,h3,h4]
section
variable{prog:IM}{w:IU}{A:IQ}{E:HM->HQ->Prop}{s:HQ}{K:Frag}
end
end Att
namespace L2
open PySem PySem.Spec PyProof.Rows
theorem mh:∀ {vs:HK HM} {ns:HK Ik},Pn vs ns->Vals (ns.map V.int) vs
 | _,_,.nil=>.nil
 | _,_,.cons n t h=>.cons #[t,rfl] (mh h)
noncomputable def vK (H:Hp):Prop:=∀b,H b=K3\/∃o xs,H b=ba (.frz o (.lst xs))
theorem vL {P:IM}{w:IU}{K:Ig}{mg mb:Iv->HU HM}{CX:vA}{k:HW}{fa a:HX}{fd:KC}{x:Iv}{sp:Sp}{s₁:HQ}{vs:HK HM}{ns:HK Ik}
  (KX:K.In s₁.heap) (hns:s₁.heap.Ns mainGlobals mg) (hb:s₁.heap.Ns builtinsNs mb) (hbb:∀x:Iv,x≠"__name__"->mb x=bootBuiltins x) (hlim:s₁.heap.NoLimit) (hg:s₁.gens=#[])
  (ha:s₁.heap.get? a=ba { cls:=.type "list",data:=.seq vs.toArray }) (hi:Pn vs ns) (hl:ns.length<=sizeLine) (hr:Room k callerA)
  (F:∀base:Jc,K.In base->base.Ns mainGlobals mg->FnOk P w K mg base CX k fa fd [x] sp) (hbind:∀(s:HQ) (u:HM),OA s fd #[[u],[]] [(x,u)])
  (hsp:∀H:Hp,vK H->SqL K H a (ns.map V.int)->sp [.ref a] H (λv _=>v=.bl true) λ_ _ _=>JF)
  (hCX:∀H e s',CX [] H s₁ (λ_ _ _=>JF) e s'->JF) :
  codeAny (model P w) callerA (.call (.ref fa) #[[.ref a],[]]) (λr s'=>r=.ok (.ret (.bool true))/\OldK s₁.heap s'.heap/\s'.os=s₁.os/\MO s'.gens) s₁:=by
 have rv:=mh hi;have lenV:=hi.length;have core:∀H:Hp,vK H->SqL K H a (ns.map V.int)->HOk P w H s₁.heap->(∀b,H b≠K3->b=a)->(H a≠K3->K.lookup a=K3)->
   codeAny (model P w) callerA (.call (.ref fa) #[[.ref a],[]]) (λr s'=>r=.ok (.ret (.bool true))/\OldK s₁.heap s'.heap/\s'.os=s₁.os/\MO s'.gens) s₁:=by
  intro H hO hS hok hA hK;have base_of:∀ {b:HX} {o:JR},s₁.heap.get? b=ba o->H b=K3->(ni s₁.heap H).get? b=ba o:=λe n=>vf e n
  have noA:∀ {b:HX} {o:JR} {es:ID Ku} {ep:HW},s₁.heap.get? b=ba o->o.data=.dict es ep->H b=K3:=λ{b o es ep} e d=>by
   cases q:H b with
   | none=>rfl
   | some u=>
    have e':b=a:=hA b (by rw[q]; simp)
    subst e';rw[ha]at e; cases e
    have d':Data.seq vs.toArray _=Data.dict es ep:=d;cases d'
  have nsK:∀ {b:HX} {m:Iv->HU HM},s₁.heap.Ns b m->(ni s₁.heap H).Ns b m:=λ{b m} #[o,es,ep,e,d,r]=>#[o,es,ep,base_of e (noA e d),d,r]
  have hKb:K.In (ni s₁.heap H):=λb o e=>base_of (KX b o e) (by
   cases q:H b with
   | none=>rfl
   | some u=>
    have e':b=a:=hA b (by rw[q]; simp)
    subst e';rw[hK (by rw[q]; simp)]at e; cases e)
  have hM:Mod K mg (ni s₁.heap H):=#[hKb,nsK hns,#[mb,nsK hb,hbb],let ⟨mc,h1,h2⟩:=hlim; #[mc,nsK h1,h2]]
  have e0:Env0 P w K mg (ni s₁.heap H) callerA [] s₁ H:=#[rfl,hM,λb o e=>yR e,Nat.le_of_eq (tL _ _),trivial,λb hb=>absurd (show b∈([]:HK HX)from hb) (by simp),hok,.of_eq hg]
  refine LP ((F _ hKb (nsK hns)).run callerA [] s₁ H #[[.ref a],[]] [.ref a] [.ref a] _ _ hr e0 (hbind s₁ (.ref a)) #v[rfl] (hsp H hO hS)) λr s' h=>?_
  cases r with
  | error e=>exact(hCX H e s' h).elim
  | ok fl=>
   cases fl with
   | next=>exact JF.elim h
   | brk=>exact JF.elim h
   | cont=>exact JF.elim h
   | ret u=>
    obtain⟨v,H',os,bare,un,hok',r',q⟩:=h;have q':v=.bl true:=q;subst q';obtain rfl:u=Lh true:=r';refine#[rfl,OldK.of_keep λb o e=>?_,os,bare]
    cases q:H b with
    | none=>exact un.keep b o e q (by intro z; exact absurd (show b∈([]:HK HX)from z) (by simp)) (by simp)
    | some u=>
     rcases hO b with z|⟨ob,xs,z⟩
     ·rw[q]at z; cases z
     ·have z2:=un.frzs b ob _ z;obtain⟨e1,_⟩:=hok b _ z;obtain⟨e2,_⟩:=hok' b _ z2;rw[e]at e1; cases e1
      exact e2
 cases hk:K.lookup a with
 | some o=>
  have e:=KX a o hk;rw[ha]at e;cases e;refine core (λ_=>K3) (λ_=>.inl rfl) (.inr #[_,vs.toArray,_,hk,rfl,rfl,rfl,by rw[Ii,lenV]; exact hl,by simpa using rv]) (λb u z=>by have z':(K3:HU HO)=ba u:=z; cases z') (λb z=>absurd rfl z) λz=>absurd rfl z
 | none=>
  refine core (λb=>if b=a then ba (.frz { cls:=.type "list",data:=.seq vs.toArray } (.lst (ns.map V.int)))else K3) (λb=>?_) (.inl (.inr #[{ cls:=.type "list",data:=.seq vs.toArray },Ix rfl])) (λb u z=>?_) (λb z=>?_) λ_=>hk
  ·by_cases hb:b=a
   ·exact .inr #[_,_,Ix hb]
   ·exact .inl (IK hb)
  ·by_cases hb:b=a
   ·have z':=(Ix hb).symm.trans z;cases z';subst hb;exact#[ha,by rw[HN]; exact hl,vs,_,rv,ha]
   ·have z':=(IK hb).symm.trans z;cases z'
  ·by_cases hb:b=a
   ·exact hb
   ·exact absurd (IK hb) z
theorem zt {l:Nq}{n k:HW}{q:IM}{loose:HK Iv}{XP:(Iv->HU HM)->Jc->Prop}{YP:IU->Jc->Prop}{d:DefRec}{K:Pw->Ig}{CX:IU->vA}{sp:IU->Sp}{x:Iv}
  (hn:l.most=ba n) (hn2:n<=sizeLine) (hdf:d.params.defaults=[]) (hr:Room k callerA)
  (hY:∀(w:IU) (h:Jc),YP w h->(K w.params).In h)
  (F:∀(w:IU) (mg:Iv->HU HM) (fa:HX) (h:Jc),(K w.params).In h->h.Ns mainGlobals mg->mg d.name=ba (.ref fa)->
   ∃fd:KC,(∀(s:HQ) (u:HM),OA s fd #[[u],[]] [(x,u)])/\
    ∀base:Jc,(K w.params).In base->base.Ns mainGlobals mg->FnOk l.prog w (K w.params) mg base (CX w) k fa fd [x] (sp w))
  (hsp:∀(w:IU) (H:Hp) (a:HX) (ns:HK Ik),ns.length<=n->vK H->SqL (K w.params) H a (ns.map V.int)->sp w [.ref a] H (λv _=>v=.bl true) λ_ _ _=>JF)
  (hCX:∀(w:IU) (H:Hp) (s:HQ) (e:HM) (s':HQ),CX w [] H s (λ_ _ _=>JF) e s'->JF) :
  PY q loose XP YP l.row.toRowW d [] (λf vs=>Px f vs):=by
 refine Att.attach_call hn hdf λw s₀ s₁ mg mb fa o pm cd doc a vs ns G Y ho hd hcd hmg hobj hints hlen hg=>?_
 have KX:=hY w _ Y;obtain⟨fd,hb,hF⟩:=F w mg fa _ KX G.T.g hmg;exact vL KX G.T.g G.T.b G.T.builtins G.T.nolimit hg hobj hints (Jh hlen hn2) hr hF hb (λH hO hS=>hsp w H a ns hlen hO hS) λH e s'=>hCX w H s₁ e s'
noncomputable def dD (s:KQ):Arguments:=match s with
 | .FunctionDef _ a _ _ _ _ _ _ _ _=>a
 | _=>{ posonlyargs:=[],args:=[],vararg:=K3,kwonlyargs:=[],kw_defaults:=[],kwarg:=K3,defaults:=[] }
noncomputable def cH (s:KQ):HK KQ:=match s with
 | .FunctionDef _ _ b _ _ _ _ _ _ _=>b
 | _=>[]
noncomputable def af (s:KQ):Ld:=match s with
 | .FunctionDef _ _ _ _ _ _ sc _ _ _=>sc
 | _=>{ kind:=.function,names:=[],isGenerator:=false,isCoroutine:=false }
noncomputable abbrev vc:vA:=λ_ _ _ _ _ _=>JF
noncomputable abbrev E0:XK:=λ_ _ _=>JF
theorem Bs {X:Cx}:nk vc X E0:=λ_ _ _ _ _ _ _ h=>h.elim
structure Fun (K:Ig)(x qual:Iv)(st:KQ)(f:HX)(fd:KC):Prop where
 ex:∃(oc:HM) (od:HU HX) (kV doc pm:HM) (an:HU HX) (cdv ct:HM) (osl:ID (HU HM)),
  fd=Kk x qual (dD st) (cH st) (af st) .none kV doc pm an cdv ct/\K.lookup f=ba #[oc,od,.func fd,osl]/\Li K cdv qual=true
 kp:JP K (.ref f)=true
section
variable{P:IM}{w:IU}{K:Ig}{mg:Iv->HU HM}{base:Jc}
theorem Fun.ok {x qual:Iv}{st:KQ}{f:HX}{fd:KC}{N ps:HK Iv}{k:HW}{sp:Sp}(F:Fun K x qual st f fd)(S:FnScope N ps (af st))(len:∀vs H Q E,sp vs H Q E->vs.length=ps.length)
  (hbody:∀(cdv:HM) (A:IQ) (outer:HK Ow) (s:HQ) (H:Hp) (vs:HK V) (Q:VK) (E:XK),Room k (A.deeper (envOfC qual (af st) s.heap.objs.size f cdv))->sp vs H Q E->
   ∃t,PSs (qP vc P w K mg base N qual (af st) f cdv A outer s H E).nox (cH st) t/\t { nx:=λ_ H'=>Q .non H',rt:=Q } (fw N vs) H):FnOk P w K mg base vc (k+1) f fd ps sp:=by
 obtain⟨oc,od,kV,doc,pm,an,cdv,ct,osl,rfl,lk,hcd⟩:=F.ex;refine Et lk hcd S len λA outer s H vs Q E hr hsp=>?_
 obtain⟨t,h,q⟩:=hbody cdv A outer s H vs Q E hr hsp;exact#[t,h.nox,q]
theorem Fun.binds {x qual:Iv}{st:KQ}{f:HX}{fd:KC}{ps:HK Iv}(F:Fun K x qual st f fd)
  (h:∀(kV doc pm:HM) (an:HU HX) (cdv ct:HM) (us:HK HM),us.length=ps.length->bindArgs (Kk x qual (dD st) (cH st) (af st) .none kV doc pm an cdv ct) #[us,[]]=pure (ps.zip us)):Binds K fd ps []:=by
 obtain⟨oc,od,kV,doc,pm,an,cdv,ct,osl,rfl,lk,hcd⟩:=F.ex;exact .all (h kV doc pm an cdv ct)
theorem vM {x qual:Iv}{st:KQ}{f:HX}{oc:HM}{od an:HU HX}{osl:ID (HU HM)}{kV doc pm cdv ct:HM}(l:K.lookup f=ba #[oc,od,.func (Kk x qual (dD st) (cH st) (af st) .none kV doc pm an cdv ct),osl])
  (c:Li K cdv qual=true) (k:JP K (.ref f)=true):Fun K x qual st f (Kk x qual (dD st) (cH st) (af st) .none kV doc pm an cdv ct):=#[#[oc,od,kV,doc,pm,an,cdv,ct,osl,rfl,l,c],k]
end
section
variable{X:Cx}
theorem pv (i:HW){x:Iv}{pos:KA}(hN:X.N[i]?=ba x:=by rfl)(hv:FQ X.env.scope x:=by first|exact Or.inl rfl|exact Rf (Or.inl rfl)|exact Rf (Rf rfl))(hd:(x==("__debug__" : Iv))=false:=by decide)
  (hcd:(x==("__classdict__" : Iv))=false:=by decide):PE X (.Name x pos) (BW i):=vg hN hv hd hcd
end
end L2
namespace Mi
open PySem PySem.Spec PyProof.Rows L2
noncomputable def eO (t:Jx)(n:HW):IF:=decide (KY t.place 0=0)&&(IN n).all λi=>decide (KY t.place (t.place.getD i 0+1)=i+1)
noncomputable def eF (w:IU):IF:=w.params.followText "set-order"
section
variable{prog:IM}{w:IU}{A:IQ}{E:HM->HQ->Prop}{s:HQ}{xs:HK Iv}{es:ID (Ik×HM)}{t:Jx}
end
inductive W where
 | non|bl (b:IF)|int (i:Ik)|str (x:Iv)|tup (xs:HK W)|ref (i:HW)
inductive T where
 | int (i:Ik)|str (x:Iv)|tup (xs:HK T)
mutual
noncomputable def T.beq:T->T->IF
 | .int i,.int j=>i==j
 | .str x,.str y=>x==y
 | .tup xs,.tup ys=>T.beqs xs ys
 | _,_=>false
noncomputable def T.beqs:HK T->HK T->IF
 | [],[]=>true
 | x::xs,y::ys=>T.beq x y&&T.beqs xs ys
 | _,_=>false
end
mutual
theorem T.beq_iff:∀x y:T,T.beq x y=true↔x=y
 | .int i,.int j=>by simp[T.beq]
 | .str x,.str y=>by simp[T.beq]
 | .tup xs,.tup ys=>by simp[T.beq,T.beqs_iff xs ys]
 | .int _,.str _|.int _,.tup _|.str _,.int _|.str _,.tup _|.tup _,.int _|.tup _,.str _=>by simp[T.beq]
theorem T.beqs_iff:∀xs ys:HK T,T.beqs xs ys=true↔xs=ys
 | [],[]=>by simp[T.beqs]
 | x::xs,y::ys=>by simp[T.beqs,T.beq_iff x y,T.beqs_iff xs ys]
 | [],_::_|_::_,[]=>by simp[T.beqs]
end
noncomputable instance:Lg T:=λx y=>decidable_of_iff (T.beq x y=true) (T.beq_iff x y)
mutual
noncomputable def T.w:T->W
 | .int i=>.int i
 | .str x=>.str x
 | .tup xs=>.tup (T.ws xs)
noncomputable def T.ws:HK T->HK W
 | []=>[]
 | x::xs=>T.w x::T.ws xs
end
mutual
noncomputable def W.t:W->HU T
 | .int i=>ba (.int i)
 | .str x=>ba (.str x)
 | .tup xs=>(W.ts xs).map .tup
 | _=>K3
noncomputable def W.ts:HK W->HU (HK T)
 | []=>ba []
 | x::xs=>match W.t x,W.ts xs with
  | some y,ba ys=>ba (y::ys)
  | _,_=>K3
end
mutual
theorem W.t_w:∀ {w:W} {k:T},W.t w=ba k->k.w=w
 | .int i,_,h=>by cases h; rfl
 | .str x,_,h=>by cases h; rfl
 | .tup xs,_,h=>by
  simp only[W.t,HS]at h;obtain⟨ks,h1,h2⟩:=h;subst h2;simp only[T.w,W.ts_w h1]
 | .non,_,h|.bl _,_,h|.ref _,_,h=>by cases h
theorem W.ts_w:∀ {ws:HK W} {ks:HK T},W.ts ws=ba ks->T.ws ks=ws
 | [],_,h=>by cases h; rfl
 | w::ws,_,h=>by
  simp only[W.ts]at h;split at h
  ·rename_i y ys h1 h2;cases h;simp only[T.ws,W.t_w h1,W.ts_w h2]
  ·cases h
end
mutual
theorem T.w_t:∀k:T,W.t k.w=ba k
 | .int _=>rfl
 | .str _=>rfl
 | .tup xs=>by simp only[T.w,W.t,T.ws_ts xs,IZ]
theorem T.ws_ts:∀ks:HK T,W.ts (T.ws ks)=ba ks
 | []=>rfl
 | x::xs=>by simp only[T.ws,W.ts,T.w_t x,T.ws_ts xs]
end
mutual
noncomputable def T.depth:T->HW
 | .tup xs=>T.depths xs+1
 | _=>0
noncomputable def T.depths:HK T->HW
 | []=>0
 | x::xs=>max (T.depth x) (T.depths xs)
end
mutual
noncomputable def T.draws:T->HW
 | .tup xs=>T.drawss xs+1
 | _=>1
noncomputable def T.drawss:HK T->HW
 | []=>0
 | x::xs=>T.draws x+T.drawss xs
end
mutual
noncomputable def ee (wd:IU):T->Ik
 | .int i=>hashInt i
 | .str x=>hashStr wd x
 | .tup xs=>reduceHash (Lw (gG wd xs))
noncomputable def gG (wd:IU):HK T->HK Ik
 | []=>[]
 | x::xs=>ee wd x::gG wd xs
end
noncomputable def T.isTup:T->IF
 | .tup _=>true
 | _=>false
noncomputable def aF:HW:=6
inductive O where
 | lst (xs:HK W)
 | fro (xs:HK W)
 | stt (ks:HK T)
 | rng (lo hi:Ik)
 | dic (kvs:HK (T×W))
 | frd (kvs:HK (T×W))
noncomputable abbrev aa:=HK O
noncomputable abbrev Fm:=HK (HU W)
section
variable (K:Ig) (A:HK HX) (H:Hp)
mutual
inductive Rel:W->V->Prop
 | non:Rel .non .non
 | bl {b:IF}:Rel (.bl b) (.bl b)
 | int {i:Ik}:Rel (.int i) (.int i)
 | str {x:Iv}:Rel (.str x) (.str x)
 | tup {ws:HK W} {a:HX} {vs:HK V}:SqT K H a vs->RelL ws vs->Rel (.tup ws) (.ref a)
 | ref {i:HW} {a:HX}:A[i]?=ba a->Rel (.ref i) (.ref a)
inductive RelL:HK W->HK V->Prop
 | nil:RelL [] []
 | cons {w:W} {v:V} {ws:HK W} {vs:HK V}:Rel w v->RelL ws vs->RelL (w::ws) (v::vs)
end
end
section
variable{K:Ig}{A A' A'':HK HX}{H H' H'':Hp}
structure Ext (K:Ig)(A:HK HX)(H:Hp)(A':HK HX)(H':Hp):Prop where
 ad:∀(i:HW) (a:HX),A[i]?=ba a->A'[i]?=ba a
 tp:∀(a:HX) (vs:HK V),SqT K H a vs->SqT K H' a vs
 fz:∀(a:HX) (o:JR) (u:HO),H a=ba (.frz o u)->H' a=ba (.frz o u)
theorem Ext.refl:Ext K A H A H:=#[λ_ _ h=>h,λ_ _ h=>h,λ_ _ _ h=>h]
theorem Ext.trans (e:Ext K A H A' H')(f:Ext K A' H' A'' H''):Ext K A H A'' H'':=#[λi a h=>f.ad i a (e.ad i a h),λa vs h=>f.tp a vs (e.tp a vs h),λa o u h=>f.fz a o u (e.fz a o u h)]
mutual
theorem Rel.mono (e:Ext K A H A' H'):∀ {w:W} {v:V},Rel K A H w v->Rel K A' H' w v
 | _,_,.non=>.non
 | _,_,.bl=>.bl
 | _,_,.int=>.int
 | _,_,.str=>.str
 | _,_,.tup h r=>.tup (e.tp _ _ h) (RelL.mono e r)
 | _,_,.ref h=>.ref (e.ad _ _ h)
theorem RelL.mono (e:Ext K A H A' H'):∀ {ws:HK W} {vs:HK V},RelL K A H ws vs->RelL K A' H' ws vs
 | _,_,.nil=>.nil
 | _,_,.cons r t=>.cons (Rel.mono e r) (RelL.mono e t)
end
theorem RelL.length:∀ {ws:HK W} {vs:HK V},RelL K A H ws vs->ws.length=vs.length
 | _,_,.nil=>rfl
 | _,_,.cons _ t=>by simp[RelL.length t]
theorem RelL.get:∀ {ws:HK W} {vs:HK V} {i:HW} {w:W},RelL K A H ws vs->ws[i]?=ba w->∃v,vs[i]?=ba v/\Rel K A H w v
 | _,_,_,_,.nil,e=>by simp at e
 | _,_,0,_,.cons r _,e=>by simp at e; subst e; exact#[_,rfl,r]
 | _,_,i+1,w,.cons _ t,e=>by
  obtain⟨u,h1,h2⟩:=RelL.get (i:=i) (w:=w) t (by simpa using e)
  exact#[u,by simpa using h1,h2]
theorem RelL.append:∀ {xs ys:HK W} {us ws:HK V},RelL K A H xs us->RelL K A H ys ws->RelL K A H (xs++ys) (us++ws)
 | _,_,_,_,.nil,s=>s
 | _,_,_,_,.cons r t,s=>.cons r (RelL.append t s)
theorem RelL.take:∀ {xs:HK W} {us:HK V} (n:HW),RelL K A H xs us->RelL K A H (xs.take n) (us.take n)
 | _,_,0,_=>.nil
 | _,_,_+1,.nil=>.nil
 | _,_,n+1,.cons r t=>.cons r (RelL.take n t)
theorem RelL.drop:∀ {xs:HK W} {us:HK V} (n:HW),RelL K A H xs us->RelL K A H (xs.drop n) (us.drop n)
 | _,_,0,r=>r
 | _,_,_+1,.nil=>.nil
 | _,_,n+1,.cons _ t=>RelL.drop n t
theorem RelL.set {x:W}{u:V}(r:Rel K A H x u):∀ {xs:HK W} {us:HK V} (i:HW),RelL K A H xs us->RelL K A H (xs.set i x) (us.set i u)
 | _,_,_,.nil=>.nil
 | _,_,0,.cons _ t=>.cons r t
 | _,_,i+1,.cons q t=>.cons q (RelL.set r i t)
theorem RelL.rep {xs:HK W}{us:HK V}(h:RelL K A H xs us):∀k:HW,RelL K A H (IW k xs).flatten (IW k us).flatten
 | 0=>.nil
 | k+1=>by
  rw[JT,JT,KM,KM];exact RelL.append h (RelL.rep h k)
theorem RelL.eraseIdx:∀ {xs:HK W} {us:HK V} (i:HW),RelL K A H xs us->RelL K A H (xs.eraseIdx i) (us.eraseIdx i)
 | _,_,_,.nil=>.nil
 | _,_,0,.cons _ t=>t
 | _,_,i+1,.cons r t=>.cons r (RelL.eraseIdx i t)
noncomputable def FroL (K:Ig)(H:Hp)(a:HX)(vs:HK V):Prop:=
 (∃o,H a=ba (.frz o (.lst vs)))\/
  ∃(o:JR) (its:ID HM) (n:HW),K.lookup a=ba o/\o.cls=.type "list"/\o.dict=K3/\o.data=.seq its n/\its.size<=sizeLine/\Vals vs its.toList
theorem FroL.sq {a:HX}{vs:HK V}(h:FroL K H a vs):SqL K H a vs:=by
 rcases h with⟨o,h⟩|h
 ·exact .inl (.inr #[o,h])
 ·exact .inr h
noncomputable def vN (wd:IU)(x:T×HX×HM):Ku:=#[ee wd x.1,.ref x.2.1,x.2.2]
noncomputable def DicAt (wd:IU)(a:HX)(xs:HK (T×HX×HM))(h:Jc):Prop:=
 xs.length<=sizeLine/\(a==sysModules)=false/\(xs.map (·.1)).Nodup/\∃o es ep,h.get? a=ba o/\o.ExactDict/\o.data=.dict es ep/\es.toList=xs.map (vN wd)
noncomputable def dP (wd:IU)(a:HX)(xs:HK (T×HX×HM)):HO:=.ext (DicAt wd a xs)
noncomputable def KRel (K:Ig)(A:HK HX)(H:Hp):HK (T×W)->HK (T×HX×HM)->Prop:=
 Na λ(p:T×W) (q:T×HX×HM)=>p.1=q.1/\p.1.isTup=true/\p.1.depth<=aF/\Rel K A H p.1.w (.ref q.2.1)/\∃v,Rel K A H p.2 v/\RelV v q.2.2
theorem KRel.mono (e:Ext K A H A' H'){kvs:HK (T×W)}{xs:HK (T×HX×HM)}(h:KRel K A H kvs xs):KRel K A' H' kvs xs:=
 Paired.mapP h λ_ _ #[h1,h2,h3,h4,v,h5,h6]=>#[h1,h2,h3,h4.mono e,v,h5.mono e,h6]
variable{wd:IU}
noncomputable def zu (wd:IU)(as:HK HX)(o:JR):Prop:=o.ExactSet/\∃es ep t,o.data=.set es ep t/\es.size<=sizeLine/\t.fits es.size=true/\t.led=(!eF wd)/\(t.plain=true->es.size=0\/eO t es.size=true)/\es.toList.map (·.2)=as.map IR
noncomputable def ObjRel (wd:IU)(K:Ig)(A:HK HX)(H:Hp)(a:HX):O->Prop
 | .lst ws=>∃vs,H a=ba (.lst vs)/\RelL K A H ws vs
 | .fro ws=>∃vs,FroL K H a vs/\RelL K A H ws vs
 | .stt ks=>∃o φ as,H a=ba (.frz o (.ext φ))/\zu wd as o/\RelL K A H (T.ws ks) (as.map V.ref)
 | .rng lo hi=>H a=ba (.rng lo hi)
 | .dic kvs=>∃xs,H a=ba (dP wd a xs)/\KRel K A H kvs xs
 | .frd kvs=>∃o xs,H a=ba (.frz o (dP wd a xs))/\KRel K A H kvs xs
noncomputable def O.mut:O->IF
 | .fro _=>false
 | .stt _=>false
 | .rng _ _=>false
 | .frd _=>false
 | _=>true
structure StoreOk (wd:IU)(K:Ig)(A:HK HX)(H:Hp)(S:aa):Prop where
 len:A.length=S.length
 nd:∀(i j:HW) (a:HX) (o u:O),S[i]?=ba o->o.mut=true->S[j]?=ba u->u.mut=true->A[i]?=ba a->A[j]?=ba a->i=j
 obj:∀(i:HW) (o:O) (a:HX),S[i]?=ba o->A[i]?=ba a->ObjRel wd K A H a o
noncomputable def EnvRel (K:Ig)(A:HK HX)(H:Hp)(ρ:Fm)(σ:L2.St):Prop:=
 ρ.length=σ.length/\∀(i:HW) (w:W),ρ[i]?=ba (ba w)->∃v,σ[i]?=ba (ba v)/\Rel K A H w v
theorem EnvRel.mono {ρ:Fm}{σ:L2.St}(e:Ext K A H A' H')(h:EnvRel K A H ρ σ):EnvRel K A' H' ρ σ:=
 #[h.1,λi w q=>let ⟨v,a,b⟩:=h.2 i w q; #[v,a,b.mono e]]
theorem EnvRel.set {ρ:Fm}{σ:L2.St}{w:W}{v:V}(h:EnvRel K A H ρ σ)(r:Rel K A H w v)(i:HW):EnvRel K A H (ρ.set i (ba w)) (σ.set i (ba v)):=by
 refine#[by simp[h.1],λj w' q=>?_]
 rw[Kd]at q ⊢
 by_cases e:i=j
 ·subst e;rw[Ix rfl]at q ⊢
  by_cases hl:i < ρ.length
  ·rw[Ix hl]at q;rw[Ix (h.1 ▸ hl)];cases q;exact#[v,rfl,r]
  ·rw[IK hl]at q; cases q
 ·rw[IK e]at q ⊢;exact h.2 j w' q
noncomputable def Wr (H:Hp)(p:HX):Prop:=H p=K3\/(∃xs,H p=ba (.lst xs))\/(∃φ,H p=ba (.ext φ))\/∃ks,H p=ba (.dK ks)
theorem Wr.lst {p:HX}{xs:HK V}(h:H p=ba (.lst xs)):Wr H p:=.inr (.inl #[xs,h])
theorem Wr.ext {p:HX}{φ:Jc->Prop}(h:H p=ba (.ext φ)):Wr H p:=.inr (.inr (.inl #[φ,h]))
theorem Wr.ne_tup {p a:HX}{xs:HK V}(hp:Wr H p)(h:H a=ba (.tup xs)):a≠p:=by
 intro e; subst e
 rcases hp with q|⟨xs,q⟩|⟨φ,q⟩|⟨ks,q⟩ <;> (rw[h]at q; cases q)
theorem Wr.ne_frz {p a:HX}{o:JR}{u:HO}(hp:Wr H p)(h:H a=ba (.frz o u)):a≠p:=by
 intro e; subst e
 rcases hp with q|⟨xs,q⟩|⟨φ,q⟩|⟨ks,q⟩ <;> (rw[h]at q; cases q)
theorem Wr.ne_rng {p a:HX}{lo hi:Ik}(hp:Wr H p)(h:H a=ba (.rng lo hi)):a≠p:=by
 intro e; subst e
 rcases hp with q|⟨xs,q⟩|⟨φ,q⟩|⟨ks,q⟩ <;> (rw[h]at q; cases q)
theorem rZ {p:HX}{o:HO}(hp:Wr H p){a:HX}{vs:HK V}(h:SqT K H a vs):SqT K (bP H p o) a vs:=by
 rcases h with(h|⟨o',h⟩)|h
 ·exact .inl (.inl (by rw[aK (hp.ne_tup h)]; exact h))
 ·exact .inl (.inr #[o',by rw[aK (hp.ne_frz h)]; exact h])
 ·exact .inr h
theorem vO {p:HX}{o:HO}(hp:Wr H p){a:HX}{vs:HK V}(h:FroL K H a vs):FroL K (bP H p o) a vs:=by
 rcases h with⟨o',h⟩|h
 ·exact .inl #[o',by rw[aK (hp.ne_frz h)]; exact h]
 ·exact .inr h
theorem c9 {p:HX}{o:HO}(hp:Wr H p):Ext K A H A (bP H p o):=#[λ_ _ h=>h,λ_ _ h=>rZ hp h,λ_ _ _ h=>by rw[aK (hp.ne_frz h)]; exact h]
theorem cJ {p:HX}{o:HO}(hp:H p=K3):Ext K A H (A++[p]) (bP H p o):=
 #[λi a h=>by rw[Je (HZ.mp h).1]; exact h,λ_ _ h=>rZ (.inl hp) h,λ_ _ _ h=>by rw[aK (Wr.ne_frz (.inl hp) h)]; exact h]
theorem ObjRel.keep {p a:HX}{o:HO}{b:O}(hp:Wr H p)(hne:b.mut=true->a≠p)(e:Ext K A H A' (bP H p o))(h:ObjRel wd K A H a b):ObjRel wd K A' (bP H p o) a b:=by
 cases b with
 | lst ws=>
  obtain⟨vs,q,r⟩:=h;exact#[vs,by rw[aK (hne rfl)]; exact q,r.mono e]
 | fro ws=>
  obtain⟨vs,q,r⟩:=h;exact#[vs,vO hp q,r.mono e]
 | stt ks=>
  obtain⟨ob,φ,as,q,r1,r2⟩:=h;exact#[ob,φ,as,by rw[aK (hp.ne_frz q)]; exact q,r1,r2.mono e]
 | rng lo hi=>
  have h:H a=ba (.rng lo hi):=h;show bP H p o a=ba (.rng lo hi);rw[aK (hp.ne_rng h)];exact h
 | dic kvs=>
  obtain⟨xs,q,r⟩:=h;exact#[xs,by rw[aK (hne rfl)]; exact q,r.mono e]
 | frd kvs=>
  obtain⟨ob,xs,q,r⟩:=h;exact#[ob,xs,by rw[aK (hp.ne_frz q)]; exact q,r.mono e]
theorem ObjRel.there {a:HX}{b:O}(h:ObjRel wd K A H a b)(hm:b.mut=true):H a≠K3:=by
 cases b with
 | lst ws=>obtain⟨vs,q,r⟩:=h; rw[q]; intro z; cases z
 | fro ws=>cases hm
 | stt ws=>cases hm
 | rng lo hi=>cases hm
 | dic kvs=>obtain⟨vs,q,r⟩:=h; rw[q]; intro z; cases z
 | frd ws=>cases hm
theorem ObjRel.wr {a:HX}{b:O}(h:ObjRel wd K A H a b)(hm:b.mut=true):Wr H a:=by
 cases b with
 | lst ws=>obtain⟨vs,q,r⟩:=h; exact .lst q
 | fro ws=>cases hm
 | stt ws=>cases hm
 | rng lo hi=>cases hm
 | dic kvs=>obtain⟨vs,q,r⟩:=h; exact .ext q
 | frd ws=>cases hm
theorem StoreOk.lay {S:aa}{p:HX}{o:HO}(h:StoreOk wd K A H S)(hp:H p=K3):StoreOk wd K A (bP H p o) S:=
 #[h.len,h.nd,λi b a e ea=>(h.obj i b a e ea).keep (.inl hp) (λhm z=>(h.obj i b a e ea).there hm (z ▸ hp)) (c9 (.inl hp))]
theorem StoreOk.pushO {S:aa}{p:HX}{n:O}{u:HO}(h:StoreOk wd K A H S)(hp:H p=K3)(r:ObjRel wd K (A++[p]) (bP H p u) p n):StoreOk wd K (A++[p]) (bP H p u) (S++[n]):=by
 have ex:Ext K A H (A++[p]) (bP H p u):=cJ hp;have old:∀ {i:HW} {o:O} {a:HX},(S++[n])[i]?=ba o->(A++[p])[i]?=ba a->i < S.length->S[i]?=ba o/\A[i]?=ba a:=λ{i o a} e ea hl=>by
  rw[Je hl]at e;rw[Je (h.len ▸ hl)]at ea;exact#[e,ea]
 have new:∀ {i:HW} {o:O} {a:HX},(S++[n])[i]?=ba o->(A++[p])[i]?=ba a->¬ i < S.length->i=S.length/\o=n/\a=p:=λ{i o a} e ea hl=>by
  have hi:i=S.length:=by
   have:=(HZ.mp e).1;simp at this;omega
  subst hi;simp at e;rw[<- h.len]at ea;simp at ea;exact#[rfl,e.symm,ea.symm]
 refine#[by simp[h.len],λi j a o u e1 m1 e2 m2 a1 a2=>?_,λi o a e ea=>?_]
 ·by_cases hi:i < S.length <;> by_cases hj:j < S.length
  ·obtain⟨x1,y1⟩:=old e1 a1 hi;obtain⟨x2,y2⟩:=old e2 a2 hj;exact h.nd i j a o u x1 m1 x2 m2 y1 y2
  ·obtain⟨x1,y1⟩:=old e1 a1 hi;obtain⟨_,_,z⟩:=new e2 a2 hj;subst z;exact absurd hp ((h.obj i o a x1 y1).there m1)
  ·obtain⟨x2,y2⟩:=old e2 a2 hj;obtain⟨_,_,z⟩:=new e1 a1 hi;subst z;exact absurd hp ((h.obj j u a x2 y2).there m2)
  ·rw[(new e1 a1 hi).1,(new e2 a2 hj).1]
 ·by_cases hi:i < S.length
  ·obtain⟨x1,y1⟩:=old e ea hi;exact(h.obj i o a x1 y1).keep (.inl hp) (λhm z=>(h.obj i o a x1 y1).there hm (z ▸ hp)) ex
  ·obtain⟨_,rfl,rfl⟩:=new e ea hi;exact r
theorem StoreOk.push {S:aa}{p:HX}{ws:HK W}{vs:HK V}(h:StoreOk wd K A H S)(hp:H p=K3)(r:RelL K A H ws vs):StoreOk wd K (A++[p]) (bP H p (.lst vs)) (S++[.lst ws]):=
 h.pushO hp #[vs,bf,r.mono (cJ hp)]
theorem StoreOk.writeO {S:aa}{i:HW}{p:HX}{o0 n:O}{u:HO}(h:StoreOk wd K A H S)(e:S[i]?=ba o0)(m0:o0.mut=true)(ea:A[i]?=ba p)(r:ObjRel wd K A (bP H p u) p n) :
  StoreOk wd K A (bP H p u) (S.set i n)/\Ext K A H A (bP H p u):=by
 have hw:Wr H p:=(h.obj i _ p e ea).wr m0;have ex:Ext K A H A (bP H p u):=c9 hw;have hl:i < S.length:=(HZ.mp e).1;refine#[#[by simp[h.len],λj k a o u e1 m1 e2 m2 a1 a2=>?_,λj o a e1 a1=>?_],ex]
 ·have get:∀ {j:HW} {o:O},(S.set i n)[j]?=ba o->o.mut=true->∃o',S[j]?=ba o'/\o'.mut=true:=λ{j o} q m=>by
   rw[Kd]at q
   by_cases z:i=j
   ·subst z; exact#[_,e,m0]
   ·rw[IK z]at q; exact#[o,q,m]
  obtain⟨o',x1,m1'⟩:=get e1 m1;obtain⟨u',x2,m2'⟩:=get e2 m2;exact h.nd j k a o' u' x1 m1' x2 m2' a1 a2
 ·rw[Kd]at e1
  by_cases z:i=j
  ·subst z;rw[Ix rfl,Ix hl]at e1;cases e1;rw[ea]at a1; cases a1
   exact r
  ·rw[IK z]at e1;exact(h.obj j o a e1 a1).keep hw (λhm q=>z (h.nd i j p _ o e m0 e1 hm ea (q ▸ a1))) ex
theorem StoreOk.write {S:aa}{i:HW}{p:HX}{ws:HK W}{us:HK V}{ws0:HK W}(h:StoreOk wd K A H S)(e:S[i]?=ba (.lst ws0))(ea:A[i]?=ba p)(r:RelL K A H ws us) :
  StoreOk wd K A (bP H p (.lst us)) (S.set i (.lst ws))/\Ext K A H A (bP H p (.lst us)):=
 h.writeO e rfl ea #[us,bf,r.mono (c9 ((h.obj i _ p e ea).wr rfl))]
end
noncomputable def gZ (S:aa)(i:HW):HU (HK W):=match S[i]? with
 | some (.lst xs)=>ba xs
 | some (.fro xs)=>ba xs
 | _=>K3
noncomputable def oN (S:aa)(i:HW):HU (HK W):=match S[i]? with
 | some (.lst xs)=>ba xs
 | _=>K3
noncomputable def lB (S:aa)(xs:HK W):HU (W×aa):=if xs.length<=sizeLine then ba (.ref S.length,S++[.lst xs])else K3
noncomputable def qU (S:aa)(xs:HK W):HU (W×aa):=if xs.length<=sizeLine then ba (.tup xs,S)else K3
noncomputable def zv (j:Ik):IF:=decide (0 < j)&&decide (j < 1073741824)
noncomputable def t8 (i j:Ik):IF:=(decide (-(2 ^ 64) < i)&&decide (i < 2 ^ 64))||(decide (-(2 ^ 64) < j)&&decide (j < 2 ^ 64))
noncomputable def Ey (i j:Ik):IF:=decide (0<=j)&&decide (j<=1000000)&&decide (i.natAbs < 2 ^ 64)
inductive BOp where|add|sub|mul|fdiv|mod|pow
 deriving Lg
noncomputable def yO (c:Ik->Ik->IF)(f:Ik->Ik->Ik)(x y:W)(S:aa):HU (W×aa):=match x,y with
 | .int i,.int j=>if c i j then ba (.int (f i j),S)else K3
 | _,_=>K3
noncomputable def t9 (x y:W)(S:aa):HU (W×aa):=match x with
 | .int i=>match y with
  | .int j=>ba (.int (i+j),S)
  | _=>K3
 | .str x=>match y with
  | .str y=>if x.length+y.length<=sizeLine then ba (.str (x++y),S)else K3
  | _=>K3
 | .tup xs=>match y with
  | .tup ys=>qU S (xs++ys)
  | _=>K3
 | .ref i=>match y with
  | .ref j=>match oN S i,oN S j with
   | some xs,ba ys=>lB S (xs++ys)
   | _,_=>K3
  | _=>K3
 | _=>K3
noncomputable def vP (x y:W)(S:aa):HU (W×aa):=match x with
 | .str x=>match y with
  | .int k=>if k < 2 ^ 24/\-(2 ^ 24)<=k/\x.length*k.toNat<=sizeLine then ba (.str (Rm x k),S)else K3
  | _=>K3
 | .ref i=>match y with
  | .int k=>match oN S i with
   | some xs=>if k < 2 ^ 24/\-(2 ^ 24)<=k/\xs.length*k.toNat<=sizeLine then lB S (IW k.toNat xs).flatten else K3
   | none=>K3
  | _=>K3
 | x=>yO t8 (· * ·) x y S
noncomputable def fB:BOp->W->W->aa->HU (W×aa)
 | .add,x,y,S=>t9 x y S
 | .sub,x,y,S=>yO (λ_ _=>true) (· - ·) x y S
 | .mul,x,y,S=>vP x y S
 | .fdiv,x,y,S=>yO (λ_ j=>zv j) (· / ·) x y S
 | .mod,x,y,S=>yO (λ_ j=>decide (0 < j)) (· % ·) x y S
 | .pow,x,y,S=>yO Ey (λi j=>i ^ j.toNat) x y S
noncomputable def BOp.py:BOp->Oz
 | .add=>.Add|.sub=>.Sub|.mul=>.Mult|.fdiv=>.FloorDiv|.mod=>.Mod|.pow=>.Pow
section
variable (X:Cx)
noncomputable def dB (pins:HK (HX×JR))(σ:L2.St)(A:HK HX)(H:Hp)(S':aa)(w:W)(u:HM)(s':HQ):Prop:=
 ∃v H' A',Inv X pins σ H' s'/\RelV v u/\Ext X.K A H A' H'/\StoreOk X.w X.K A' H' S'/\Rel X.K A' H' w v
noncomputable abbrev FE:=Fm->aa->HU (W×aa)
noncomputable def LOp (f:HM->HM->Qo HM)(g:W->W->aa->HU (W×aa)):Prop:=
 ∀(pins:HK (HX×JR)) (s:HQ) (σ:L2.St) (H:Hp) (A:HK HX) (S:aa) (x y:W) (a b:V) (u v:HM) (w:W) (S':aa),Inv X pins σ H s->StoreOk X.w X.K A H S->
  Rel X.K A H x a->RelV a u->Rel X.K A H y b->RelV b v->g x y S=ba (w,S')->wpAny (model X.prog X.w) X.A (f u v) (dB X pins σ A H S' w) X.xe s
end
section
variable{X:Cx}
theorem j4 {S:aa}{i:HW}{xs:HK W}(h:oN S i=ba xs):S[i]?=ba (.lst xs):=by
 unfold oN at h;split at h
 ·cases h; assumption
 ·cases h
theorem ey {A:HK HX}{H:Hp}{S:aa}{i:HW}{xs:HK W}{a:HX}(so:StoreOk X.w X.K A H S)(h:oN S i=ba xs)(ea:A[i]?=ba a):∃vs,H a=ba (.lst vs)/\RelL X.K A H xs vs:=
 so.obj i _ a (j4 h) ea
theorem ci {A:HK HX}{H:Hp}{S:aa}{i:HW}{xs:HK W}{a:HX}(so:StoreOk X.w X.K A H S)(h:gZ S i=ba xs)(ea:A[i]?=ba a):∃vs,SqL X.K H a vs/\RelL X.K A H xs vs:=by
 unfold gZ at h;split at h
 ·cases h;obtain⟨vs,q,r⟩:=so.obj i _ a (by assumption) ea
  exact#[vs,.of q,r]
 ·cases h;obtain⟨vs,q,r⟩:=so.obj i _ a (by assumption) ea
  exact#[vs,q.sq,r]
 ·cases h
theorem jO {S S':aa}{xs:HK W}{w:W}(h:lB S xs=ba (w,S')):xs.length<=sizeLine/\w=.ref S.length/\S'=S++[.lst xs]:=by
 unfold lB at h;split at h
 ·cases h; exact#[by assumption,rfl,rfl]
 ·cases h
theorem r0 {S S':aa}{xs:HK W}{w:W}(h:qU S xs=ba (w,S')):xs.length<=sizeLine/\w=.tup xs/\S'=S:=by
 unfold qU at h;split at h
 ·cases h; exact#[by assumption,rfl,rfl]
 ·cases h
theorem zw {A:HK HX}{H:Hp}{S:aa}{ws:HK W}{vs:HK V}{Q:VK}{p:HX}(so:StoreOk X.w X.K A H S)(r:RelL X.K A H ws vs)(hp:H p=K3)
  (q:∀v H' A',Ext X.K A H A' H'->StoreOk X.w X.K A' H' (S++[.lst ws])->Rel X.K A' H' (.ref S.length) v->Q v H'):Q (.ref p) (bP H p (.lst vs)):=
 q _ _ (A++[p]) (cJ hp) (so.push hp r) (.ref (by rw[<- so.len]; simp))
theorem zx {A:HK HX}{H:Hp}{S:aa}{ws:HK W}{vs:HK V}{Q:VK}{p:HX}(so:StoreOk X.w X.K A H S)(r:RelL X.K A H ws vs)(hp:H p=K3)
  (q:∀v H' A',Ext X.K A H A' H'->StoreOk X.w X.K A' H' S->Rel X.K A' H' (.tup ws) v->Q v H'):Q (.ref p) (bP H p (.tup vs)):=
 q _ _ A (c9 (.inl hp)) (so.lay hp) (.tup (.of bf) (r.mono (c9 (.inl hp))))
noncomputable def Ez (K:Ig):R2:=λx y H Q=>∃a b xs ys,x=.ref a/\y=.ref b/\SqT K H a xs/\SqT K H b ys/\xs.length+ys.length<=sizeLine/\
 (xs=[]->Q (.ref b) H)/\(ys=[]->Q (.ref a) H)/\(∀p,H p=K3->Q (.ref p) (bP H p (.tup (xs++ys))))
theorem zy:OpR X (binaryOp .Add) (Ez X.K):=by
 intro pins s σ H x y v u Q I rx ry h;obtain⟨a,b,xs,ys,rfl,rfl,ha,hb,hz,q0,q1,q2⟩:=h;cases rx;cases ry;obtain⟨its,r1,p1,_⟩:=I.tuple ha;obtain⟨its2,r2,p2,_⟩:=I.tuple hb
 by_cases hx:xs=[]
 ·obtain⟨⟨cls,dd,data,sl⟩,ho,hc,n,hd⟩:=id p1;obtain⟨⟨cls2,dd2,data2,sl2⟩,ho2,hc2,n2,hd2⟩:=id p2;simp only at hc hd hc2 hd2;subst hc hd hc2 hd2;exact OB #[_,ho,rfl] #[_,ho2,rfl] M4 N7 LQ LM (LB _ _)
   (tuple_addW0 a b its.toArray its2.toArray n n2 dd dd2 sl sl2 (by simp[r1.nil_iff.mpr hx])) #[ho,ho2,#[.ref b,H,I,rfl,q0 hx]]
 ·refine HT.zf p1 p2 (λz=>hx (r1.nil_iff.mp z)) (λz=>#[.ref a,H,I,rfl,q1 (r2.nil_iff.mp z)]) (λz=>?_) (by rw[<- r1.length,<- r2.length]; exact hz)
  refine#[.ref s.heap.objs.size,_,I.laid (t':=s.toks) (o:=.tup (xs++ys)) (λb ob q=>HP _ q) (Ih _) ?_,rfl,q2 _ (I.hok.fresh (Ih _))]
  exact#[by rw[Im]; exact hz,_,r1.append r2,OU _ _]
theorem RelL.nil_iff {K:Ig}{A:HK HX}{H:Hp}{ws:HK W}{vs:HK V}(r:RelL K A H ws vs):vs=[]↔ws=[]:=by
 cases r <;> simp
theorem qV:OpR X (binaryOp .Mult) (λx y H Q=>∃z k,x=.str z/\y=.int k/\MulOk z k/\Q (.str (Rm z k)) H):=by
 intro pins s σ H x y v u Q I rx ry h;obtain⟨z,k,rfl,rfl,ok,q⟩:=h;obtain⟨t,rfl⟩:=rx;obtain⟨t',rfl⟩:=ry;exact SB.mul ok λt2 k2=>#[.str _,H,I.tok _,#[_,rfl],q]
theorem vQ {x:Iv}{k:Ik}(h1:k < 16777216)(h2 : -16777216<=k)(h3:x.length*k.toNat<=sizeLine):MulOk x k:=by
 have hs:sizeLine=16777216:=Jf;rw[hs]at h3;refine#[?_,λa b=>?_,λ_ _=>?_]
 ·rw[Bool.or_eq_false_iff];exact#[IP ∅,IP ∅]
 ·have hk:0 < k:=∅
  have e:(x.length:Ik)*k=((x.length*k.toNat:HW):Ik):=by
   rw[Nr,NZ ∅]
  intro hgt;have h4:(2 ^ 63 - 1:Ik) < (x.length:Ik)*k:=(Int.ediv_lt_iff_lt_mul hk).mp hgt;rw[e]at h4;generalize x.length*k.toNat=z at h3 h4;omega
 ·unfold PN;rw[hs];exact IP ∅
noncomputable def EndV (wd:IU)(K:Ig)(A:HK HX)(H:Hp)(S':aa)(w:W):VK:=λv H'=>∃A',Ext K A H A' H'/\StoreOk wd K A' H' S'/\Rel K A' H' w v
theorem EndV.here {A:HK HX}{H:Hp}{S:aa}{w:W}{v:V}(so:StoreOk X.w X.K A H S)(r:Rel X.K A H w v):EndV X.w X.K A H S w v H:=#[A,.refl,so,r]
theorem EndV.lst {A:HK HX}{H:Hp}{S:aa}{ws:HK W}{vs:HK V}{p:HX}(so:StoreOk X.w X.K A H S)(r:RelL X.K A H ws vs)(hp:H p=K3):EndV X.w X.K A H (S++[.lst ws]) (.ref S.length) (.ref p) (bP H p (.lst vs)):=
 zw (Q:=EndV X.w X.K A H (S++[.lst ws]) (.ref S.length)) so r hp λv H' A' a b c=>#[A',a,b,c]
theorem EndV.tup {A:HK HX}{H:Hp}{S:aa}{ws:HK W}{vs:HK V}{p:HX}(so:StoreOk X.w X.K A H S)(r:RelL X.K A H ws vs)(hp:H p=K3):EndV X.w X.K A H S (.tup ws) (.ref p) (bP H p (.tup vs)):=
 zx (Q:=EndV X.w X.K A H S (.tup ws)) so r hp λv H' A' a b c=>#[A',a,b,c]
theorem EP.post {pins:HK (HX×JR)}{σ:L2.St}{A:HK HX}{H:Hp}{S':aa}{w:W}{u:HM}{s':HQ}(h:EP X pins σ (EndV X.w X.K A H S' w) u s'):dB X pins σ A H S' w u s':=by
 obtain⟨v,H',I',r,A',x,y,z⟩:=h;exact#[v,H',A',I',r,x,y,z]
theorem OpR.go {f:HM->HM->Qo HM}{r:R2}(h:OpR X f r){pins:HK (HX×JR)}{σ:L2.St}{A:HK HX}{H:Hp}{S':aa}{w:W}{s:HQ}{a b:V}{u v:HM}(I:Inv X pins σ H s)(ru:RelV a u)(rv:RelV b v)
  (q:r a b H (EndV X.w X.K A H S' w)):wpAny (model X.prog X.w) X.A (f u v) (dB X pins σ A H S' w) X.xe s:=bJ (h pins s σ H a b u v _ I ru rv q) λ_ _=>EP.post
theorem zz:LOp X (binaryOp .Add) (fB .add):=by
 intro pins s σ H A S x y a b u v w S' I so rx ru ry rv e;cases rx with
 | int=>cases ry with
  | int=>cases e; exact OpR.go Ch I ru rv #[_,_,rfl,rfl,.here so .int]
  | _=>cases e
 | str=>cases ry with
  | str=>
   simp only[fB,t9]at e;split at e
   ·cases e; exact OpR.go qO I ru rv #[_,_,rfl,rfl,by assumption,.here so .str]
   ·cases e
  | _=>cases e
 | tup h1 r1=>cases ry with
  | tup h2 r2=>
   obtain⟨hl,rfl,rfl⟩:=r0 (show qU S _=_ from e)
   rw[Im,r1.length,r2.length]at hl;refine OpR.go zy I ru rv #[_,_,_,_,rfl,rfl,h1,h2,hl,λz=>?_,λz=>?_,λp hp=>.tup so (r1.append r2) hp]
   ·have z':=r1.nil_iff.mp z;subst z';exact .here so (.tup h2 r2)
   ·have z':=r2.nil_iff.mp z;subst z';rw[Kw];exact .here so (.tup h1 r1)
  | _=>cases e
 | ref h1=>cases ry with
  | ref h2=>
   simp only[fB,t9]at e;split at e
   ·obtain⟨hl,rfl,rfl⟩:=jO e;obtain⟨vs,q1,r1⟩:=ey so (by assumption) h1
    obtain⟨us,q2,r2⟩:=ey so (by assumption) h2
    rw[Im,r1.length,r2.length]at hl;exact OpR.go Cz I ru rv #[_,_,_,_,rfl,rfl,q1,q2,hl,λp hp=>.lst so (r1.append r2) hp]
   ·cases e
  | _=>cases e
 | _=>cases e
theorem oX {f:HM->HM->Qo HM}{c:Ik->Ik->IF}{g:Ik->Ik->Ik}{r:R2}(h:OpR X f r)(hr:∀i j H Q,c i j=true->Q (.int (g i j)) H->r (.int i) (.int j) H Q):LOp X f (yO c g):=by
 intro pins s σ H A S x y a b u v w S' I so rx ru ry rv e;cases rx with
 | int=>cases ry with
  | int=>
   unfold yO at e;dsimp only at e;split at e
   ·cases e; exact OpR.go h I ru rv (hr _ _ _ _ (by assumption) (.here so .int))
   ·cases e
  | _=>cases e
 | _=>cases e
theorem zA:LOp X (binaryOp .Sub) (fB .sub):=oX Ci λ_ _ _ _ _ q=>#[_,_,rfl,rfl,q]
theorem zB {i j:Ik}(h:t8 i j=true):CMul i j:=by
 unfold t8 at h;rw[J0,HV,HV,Iw,Iw,Iw,Iw]at h;exact h
theorem zC:LOp X (binaryOp .Mult) (fB .mul):=by
 have hI:LOp X (binaryOp .Mult) (yO t8 (· * ·)):=oX Cj λ_ _ _ _ h q=>#[_,_,rfl,rfl,zB h,q]
 intro pins s σ H A S x y a b u v w S' I so rx ru ry rv e;cases x with
 | str z=>
  cases rx with
  | str=>cases ry with
   | int=>
    simp only[fB,vP]at e;split at e
    ·rename_i hc;cases e; exact OpR.go qV I ru rv #[_,_,rfl,rfl,vQ ∅ ∅ hc.2.2,.here so .str]
    ·cases e
   | _=>cases e
 | ref z=>
  cases rx with
  | ref h1=>cases ry with
   | int=>
    simp only[fB,vP]at e;split at e
    ·split at e
     ·rename_i hc;obtain⟨hl,rfl,rfl⟩:=jO e;obtain⟨vs,q1,r1⟩:=ey so (by assumption) h1
      rw[r1.length]at hc;exact OpR.go CA I ru rv #[_,_,_,rfl,rfl,q1,∅,∅,hc.2.2,λp hp=>.lst so (r1.rep _) hp]
     ·cases e
    ·cases e
   | _=>cases e
 | _=>exact hI _ _ _ _ _ _ _ _ _ _ _ _ _ _ I so rx ru ry rv e
theorem vR:LOp X (binaryOp .FloorDiv) (fB .fdiv):=oX y8 λ_ _ _ _ h q=>#[_,_,rfl,rfl,by
 unfold zv at h;rw[HV,Iw,Iw]at h;exact h,q]
theorem zD:LOp X (binaryOp .Mod) (fB .mod):=oX Ck λ_ _ _ _ h q=>#[_,_,rfl,rfl,Jl h,q]
theorem zE:LOp X (binaryOp .Pow) (fB .pow):=oX Cm λ_ _ _ _ h q=>#[_,_,rfl,rfl,by
 unfold Ey at h;rw[HV,HV,Iw,Iw,Iw]at h;exact#[h.1.1,h.1.2,h.2],q]
theorem r4 (o:BOp):LOp X (binaryOp o.py) (fB o):=by
 cases o
 ·exact zz
 ·exact zA
 ·exact zC
 ·exact vR
 ·exact zD
 ·exact zE
end
noncomputable def oY (f:W->W->HU IF):HK W->HK W->HU IF
 | [],[]=>ba true
 | [],_::_=>ba false
 | _::_,[]=>ba false
 | x::xs,y::ys=>match f x y,oY f xs ys with
  | some a,ba b=>ba (a&&b)
  | _,_=>K3
noncomputable def b2 (b:IF):Ik:=if b then 1 else 0
noncomputable def oZ (S:aa):HW->W->W->HU IF
 | _,.non,y=>match y with
  | .non=>ba true
  | _=>K3
 | _,.bl a,y=>match y with
  | .bl b=>ba (a==b)
  | _=>K3
 | _,.int a,y=>match y with
  | .int b=>ba (a==b)
  | _=>K3
 | _,.str a,y=>match y with
  | .str b=>ba (a==b)
  | _=>K3
 | 0,_,_=>K3
 | d+1,.tup xs,y=>match y with
  | .tup ys=>oY (oZ S d) xs ys
  | _=>K3
 | d+1,.ref i,y=>match y with
  | .ref j=>match oN S i,oN S j with
   | some xs,ba ys=>if xs.length=ys.length then oY (oZ S d) xs ys else ba false
   | _,_=>K3
  | _=>K3
section
variable{X:Cx}{pins:HK (HX×JR)}{σ:L2.St}{H:Hp}{s:HQ}{A:HK HX}{S:aa}
noncomputable def RU (K:Ig)(A:HK HX)(H:Hp)(w:W)(u:HM):Prop:=∃v,Rel K A H w v/\RelV v u
theorem r6 {ws:HK W}{vs:HK V}{us:HK HM}(r:RelL X.K A H ws vs)(q:Vals vs us):∀(j:HW) (h1:j < ws.length) (h2:j < us.length),RU X.K A H ws[j] us[j]:=by
 induction ws generalizing vs us with
 | nil=>intro j h1; simp at h1
 | cons w ws ih=>
  cases r with
  | cons r1 rr=>
   cases q with
   | cons q1 qq=>
    intro j h1 h2;cases j with
    | zero=>exact#[_,r1,q1]
    | succ j=>exact ih rr qq j (by simpa using h1) (by simpa using h2)
theorem vS {ws:HK W}{u:HM}(I:Inv X pins σ H s)(h:RU X.K A H (.tup ws) u):∃a its,u=.ref a/\Ov s.heap a its/\its.size=ws.length/\ws.length<=sizeLine/\∀(j:HW) (h1:j < ws.length) (h2:j < its.size),RU X.K A H ws[j] its[j]:=by
 obtain⟨v,r,q⟩:=h;cases r with
 | tup sq rl=>
  obtain⟨its,rv,ht,hz⟩:=I.tuple sq;refine#[_,its.toArray,q,ht,by rw[Ii,<- rv.length,rl.length],by rw[rl.length]; exact hz,λj h1 h2=>?_]
  have:=r6 rl rv j h1 (by simpa using h2)
  simpa using this
theorem vT {i:HW}{ws:HK W}{u:HM}(I:Inv X pins σ H s)(so:StoreOk X.w X.K A H S)(e:oN S i=ba ws)(h:RU X.K A H (.ref i) u):∃a its,u=.ref a/\A[i]?=ba a/\s.heap.IsList a its/\its.size=ws.length/\ws.length<=sizeLine/\∀(j:HW) (h1:j < ws.length) (h2:j < its.size),RU X.K A H ws[j] its[j]:=by
 obtain⟨v,r,q⟩:=h;cases r with
 | ref ea=>
  obtain⟨vs,hq,rl⟩:=ey so e ea;obtain⟨its,rv,ht,hz⟩:=I.list (.of hq);refine#[_,its.toArray,q,ea,ht.isList,by rw[Ii,<- rv.length,rl.length],by rw[rl.length]; exact hz,λj h1 h2=>?_]
  have:=r6 rl rv j h1 (by simpa using h2)
  simpa using this
theorem j5 {f:W->W->HU IF}:∀ {xs ys:HK W} {k:IF},oY f xs ys=ba k->∃e:HW->IF,(∀(j:HW) (h1:j < xs.length) (h2:j < ys.length),f xs[j] ys[j]=ba (e j))/\
  k=((IN (min xs.length ys.length)).all e&&xs.length==ys.length)
 | [],[],k,h=>#[λ_=>true,λj h1=>by simp at h1,by cases h; rfl]
 | [],_::_,k,h=>#[λ_=>true,λj h1=>by simp at h1,by cases h; simp]
 | _::_,[],k,h=>#[λ_=>true,λj h1 h2=>by simp at h2,by cases h; simp]
 | x::xs,y::ys,k,h=>by
  simp only[oY]at h;split at h
  ·rename_i a b ha hb;cases h;obtain⟨e,h1,h2⟩:=j5 hb;refine#[λj=>match j with|0=>a|j+1=>e j,λj hj1 hj2=>?_,?_]
   ·cases j with
    | zero=>exact ha
    | succ j=>exact h1 j (by simpa using hj1) (by simpa using hj2)
   ·subst h2;simp only[JC,Nat.add_min_add_right,Ng,Jo,Qg,Bool.and_assoc];congr 2;simp
  ·cases h
theorem zF (I:Inv X pins σ H s)(so:StoreOk X.w X.K A H S):∀(d:HW) {x y:W} {v:V} {k:IF},Rel X.K A H x v->Rel X.K A H y v->oZ S d x y=ba k->k=true:=by
 intro d
 induction d with
 | zero=>
  intro x y v k rx ry e;cases rx with
  | non=>cases ry; cases e; rfl
  | bl=>cases ry; cases e; exact Jj _
  | int=>cases ry; cases e; exact Jj _
  | str=>cases ry; cases e; exact Jj _
  | tup _ _=>cases e
  | ref _=>cases e
 | succ d ih=>
  have lists:∀ {xs ys:HK W} {vs:HK V} {k:IF},RelL X.K A H xs vs->RelL X.K A H ys vs->oY (oZ S d) xs ys=ba k->k=true:=by
   intro xs
   induction xs with
   | nil=>
    intro ys vs k r1 r2 e;cases r1; cases r2; cases e; rfl
   | cons x xs ihx=>
    intro ys vs k r1 r2 e;cases r1 with
    | cons p1 q1=>
     cases r2 with
     | cons p2 q2=>
      simp only[oY]at e;split at e
      ·rename_i a b ha hb;cases e;rw[ih p1 p2 ha,ihx q1 q2 hb];rfl
      ·cases e
  intro x y v k rx ry e;cases rx with
  | non=>cases ry; cases e; rfl
  | bl=>cases ry; cases e; exact Jj _
  | int=>cases ry; cases e; exact Jj _
  | str=>cases ry; cases e; exact Jj _
  | tup h1 r1=>
   cases ry with
   | tup h2 r2=>
    rw[I.tuple_inj h1 h2]at r1;exact lists r1 r2 e
   | ref ea=>cases e
  | ref ea=>
   cases ry with
   | tup h2 r2=>cases e
   | ref eb=>
    simp only[oZ]at e;split at e
    ·rename_i xs ys hx hy;have:=so.nd _ _ _ _ _ (j4 hx) rfl (j4 hy) rfl ea eb;subst this;rw[hx]at hy; cases hy
     rw[Ix rfl]at e;obtain⟨vs,q,r⟩:=ey so hx ea;exact lists r r e
    ·cases e
theorem be (A:IQ):A.in1.units=A.units+1:=rfl
noncomputable abbrev DM (B:IQ)(s:HQ)(u v:HM)(k:IF):Prop:=SeqAt.RcAt B s u v k/\SeqAt.RcNeAt B s u v (!k)/\Mw B s u v k
open SeqAt in
theorem Bt (I:Inv X pins σ H s)(so:StoreOk X.w X.K A H S):∀(d:HW) (B:IQ) {x y:W} {u v:HM} {k:IF},B.units+d < cLine->RU X.K A H x u->RU X.K A H y v->oZ S d x y=ba k->DM B s u v k:=by
 have non:∀ {B:IQ} {y:W} {u v:HM} {k:IF} {d:HW},RU X.K A H .non u->RU X.K A H y v->oZ S d .non y=ba k->DM B s u v k:=by
  intro B y u v k d ⟨_,rx,ra⟩ ⟨_,ry,rb⟩ e;cases rx;cases(show u=Ja from ra)
  cases y with
  | non=>
   have e:ba (true)=ba k:=by cases d <;> exact e
   cases e;cases ry;cases(show v=Ja from rb)
   exact#[.none_none,.none_none,.same _]
  | _=>cases d <;> cases e
 have bl:∀ {B:IQ} {b:IF} {y:W} {u v:HM} {k:IF} {d:HW},RU X.K A H (.bl b) u->RU X.K A H y v->oZ S d (.bl b) y=ba k->DM B s u v k:=by
  intro B b y u v k d ⟨_,rx,ra⟩ ⟨_,ry,rb⟩ e;cases rx;cases(show u=Lh _ from ra)
  cases y with
  | bl c=>
   have e:ba (b==c)=ba k:=by cases d <;> exact e
   cases e;cases ry;cases(show v=Lh _ from rb)
   exact#[.bool_bool _ _,.bool_bool _ _,.bool_bool _ _]
  | _=>cases d <;> cases e
 have int:∀ {B:IQ} {b:Ik} {y:W} {u v:HM} {k:IF} {d:HW},RU X.K A H (.int b) u->RU X.K A H y v->oZ S d (.int b) y=ba k->DM B s u v k:=by
  intro B b y u v k d ⟨_,rx,ra⟩ ⟨_,ry,rb⟩ e;cases rx;obtain⟨t0,rfl⟩ : ∃t,u=M3 _ t:=ra;cases y with
  | int c=>
   have e:ba (b==c)=ba k:=by cases d <;> exact e
   cases e;cases ry;obtain⟨t,rfl⟩ : ∃t,v=M3 _ t:=rb;exact#[.int_int _ _ _ _,.int_int _ _ _ _,.int_int _ _ _ _]
  | _=>cases d <;> cases e
 have str:∀ {B:IQ} {b:Iv} {y:W} {u v:HM} {k:IF} {d:HW},RU X.K A H (.str b) u->RU X.K A H y v->oZ S d (.str b) y=ba k->DM B s u v k:=by
  intro B b y u v k d ⟨_,rx,ra⟩ ⟨_,ry,rb⟩ e;cases rx;obtain⟨t0,rfl⟩ : ∃t,u=L3 _ t:=ra;cases y with
  | str c=>
   have e:ba (b==c)=ba k:=by cases d <;> exact e
   cases e;cases ry;obtain⟨t,rfl⟩ : ∃t,v=L3 _ t:=rb;exact#[.str_str _ _ _ _,.str_str _ _ _ _,.str_str _ _ _ _]
  | _=>cases d <;> cases e
 intro d
 induction d with
 | zero=>
  intro B x y u v k hu rx ry e;cases x with
  | non=>exact non rx ry e
  | bl b=>exact bl rx ry e
  | int b=>exact int rx ry e
  | str b=>exact str rx ry e
  | _=>cases e
 | succ d ih=>
  intro B x y u v k hu rx ry e;have hu0:B.units < cLine:=∅
  have hu1:B.in1.units+d < cLine:=by rw[be]; omega
  have rx0:=rx;have ry0:=ry;have fin:∀ {a b:HX},u=.ref a->v=.ref b->RcAt B s u v k->RcNeAt B s u v (!k)->DM B s u v k:=by
   intro a b ea eb h1 h2;subst ea eb;refine#[h1,h2,?_]
   by_cases hab:a=b
   ·subst hab;obtain⟨v1,q1,z1⟩:=rx0;obtain⟨v2,q2,z2⟩:=ry0;have e12:v1=v2:=z1.inj z2;subst e12;have:=zF I so (d+1) q1 q2 e;subst this;exact EqAt.same _
   ·exact EqAt.of_refs hab h1
  cases x with
  | non=>exact non rx ry e
  | bl b=>exact bl rx ry e
  | int b=>exact int rx ry e
  | str b=>exact str rx ry e
  | tup xs=>
   cases y with
   | tup ys=>
    obtain⟨a,its,rfl,ht,hs,_,hi⟩:=vS I rx;obtain⟨b,its2,rfl,ht2,hs2,_,hi2⟩:=vS I ry;obtain⟨f,h1,h2⟩:=j5 (show oY (oZ S d) xs ys=ba k from e)
    have he:∀j (h1:j < its.size) (h2:j < its2.size),EqAt B.in1 s its[j] its2[j] (f j):=λj j1 j2=>
     (ih B.in1 hu1 (hi j (hs ▸ j1) j1) (hi2 j (hs2 ▸ j2) j2) (h1 j (hs ▸ j1) (hs2 ▸ j2))).2.2
    rw[<- hs,<- hs2]at h2;subst h2;exact fin rfl rfl (RcAt.tuples ht ht2 hu0 he) (RcNeAt.tuples ht ht2 hu0 he)
   | _=>cases e
  | ref i=>
   cases y with
   | ref j=>
    simp only[oZ]at e;split at e
    ·rename_i ws ws2 hw hw2;obtain⟨a,its,rfl,_,hl,hs,_,hi⟩:=vT I so hw rx;obtain⟨b,its2,rfl,_,hl2,hs2,_,hi2⟩:=vT I so hw2 ry;split at e
     ·rename_i hlen;obtain⟨f,h1,h2⟩:=j5 e;have he:∀j (h1:j < its.size) (h2:j < its2.size),EqAt B.in1 s its[j] its2[j] (f j):=λj j1 j2=>
       (ih B.in1 hu1 (hi j (hs ▸ j1) j1) (hi2 j (hs2 ▸ j2) j2) (h1 j (hs ▸ j1) (hs2 ▸ j2))).2.2
      have hk:k=(IN its.size).all f:=by rw[h2,hs,hlen]; simp
      subst hk;exact fin rfl rfl (RcAt.lists hl hl2 (by rw[hs,hs2,hlen]) hu0 he) (RcNeAt.lists hl hl2 (by rw[hs,hs2,hlen]) hu0 he)
     ·rename_i hlen;cases e;have hb:(its.size != its2.size)=true:=by rw[hs,hs2]; simpa using hlen
      exact fin rfl rfl (RcAt.lists_lengths hl hl2 hb hu0) (RcNeAt.lists_lengths hl hl2 hb hu0)
    ·cases e
   | _=>cases e
end
noncomputable def Bu (fe fl:W->W->HU IF):HK W->HK W->HU IF
 | [],[]=>ba false
 | [],_::_=>ba true
 | _::_,[]=>ba false
 | x::xs,y::ys=>match fe x y with
  | some true=>Bu fe fl xs ys
  | some false=>fl x y
  | none=>K3
noncomputable def HC (S:aa):HW->W->W->HU IF
 | _,.int a,.int b=>ba (decide (a < b))
 | _,.str a,.str b=>ba (decide (a.cps.toList < b.cps.toList))
 | d+1,.tup xs,.tup ys=>Bu (oZ S d) (HC S d) xs ys
 | _,_,_=>K3
noncomputable def LtAt (B:IQ)(s:HQ)(u v:HM)(k:IF):Prop:=
 ∀(prog:IM) (w:IU) (E:HM->HQ->Prop) (Q:HM->HQ->Prop),Q (.bool k) s->wpAny (model prog w) B (richCompare .Lt u v) Q E s
inductive LexR (B:IQ)(s:HQ):HK HM->HK HM->IF->Prop
 | nn:LexR B s [] [] false
 | nc {v:HM} {vs:HK HM}:LexR B s [] (v::vs) true
 | cn {v:HM} {vs:HK HM}:LexR B s (v::vs) [] false
 | eq {u v:HM} {us vs:HK HM} {k:IF}:Mw B s u v true->LexR B s us vs k->LexR B s (u::us) (v::vs) k
 | ne {u v:HM} {us vs:HK HM} {k:IF}:Mw B s u v false->LtAt B s u v k->LexR B s (u::us) (v::vs) k
section
open PySem.SeqAt
open PySem.AutoSeq1 (wpAny_loadPart')
open PySem.MeetsSeq PySem.MeetsSeq2 PySem.MeetsSeq3
theorem nz (l b:HX)(items items2:ID HM)(n n2:HW)(dd dd2:HU HX)(sl sl2:ID (HU HM))(k:IF) :
  Meets (Le.«tuple.__lt__» #[[.ref l,.ref b],[]])
   (λB R s=>s.heap.get? l=ba { cls:=.type "tuple",dict:=dd,data:=.seq items n,slots:=sl }/\s.heap.get? b=ba { cls:=.type "tuple",dict:=dd2,data:=.seq items2 n2,slots:=sl2 }/\
    LexR B.in1 s items.toList items2.toList k/\R (.ok (.ret (.bool k))) s):=
 .of_wp λprog w A R s h=>by
  obtain⟨hp,g,d,tk,os⟩:=s; obtain⟨hl,hb,hx,h⟩:=h
  have f2:=PZ;have z1:items.toList.length=items.size:=by simp
  have z2:items2.toList.length=items2.size:=by simp
  wp_walk using Mf hl,Mf hb,Ls _ (λbK b s'=>b.1=K3/\s'=#[hp,g,d,tk,os]/\∃(vs ws:HK HM),bK=vs.zip ws/\
   LexR A.in1 #[hp,g,d,tk,os] vs ws k/\vs.length+items2.size=ws.length+items.size) _
  case turn=>
   rintro⟨y,x⟩ bK b s' ⟨hb',rfl,vs,ws,hz,hlx,hlen⟩;cases hlx with
   | nn=>rw[OG]at hz; cases hz
   | nc=>rw[OG]at hz; cases hz
   | cn=>rw[List.zip_nil_right]at hz; cases hz
   | eq he hr=>
    rw[K8]at hz;injection hz with hyx hrest
    injection hyx with hy hx
    subst hy hx;simp only[JC]at hlen;refine HL (he prog w _ _ ?_)
    wp_walk
    exact#[rfl,rfl,_,_,hrest,hr,∅]
   | ne he hr=>
    rw[K8]at hz;injection hz with hyx hrest
    injection hyx with hy hx
    subst hy hx;refine HL (he prog w _ _ ?_);have hri:=hr prog w
    wp_walk using hri
    exact#[_,rfl,by simpa using h]
  case fin=>
   rintro⟨b1,b2⟩ s' ⟨hb',rfl,vs,ws,hz,hlx,hlen⟩;simp only at hb';subst hb';have hv:k=decide (items.size < items2.size):=by
    cases hlx with
    | nn=>simp only[Ke]at hlen; exact(IP ∅).symm
    | nc=>simp only[Ke,JC]at hlen; exact(JY ∅).symm
    | cn=>simp only[Ke,JC]at hlen; exact(IP ∅).symm
    | eq _ _=>rw[K8]at hz; cases hz
    | ne _ _=>rw[K8]at hz; cases hz
   subst hv
   wp_walk
   exact#[_,rfl,by simpa [OQ]using h]
  case h=>
   exact#[rfl,rfl,items.toList,items2.toList,rfl,hx,∅]
end
theorem LtAt.tuples {B:IQ}{s:HQ}{l b:HX}{items items2:ID HM}{k:IF}(hl:Ov s.heap l items)(hb:Ov s.heap b items2)(hu:B.units < cLine)(hx:LexR B.in1 s items.toList items2.toList k) :
  LtAt B s (.ref l) (.ref b) k:=λprog w E Q h=>by
 obtain⟨⟨cls,dd,data,sl⟩,ho,hc,n,hd⟩:=id hl;obtain⟨⟨cls2,dd2,data2,sl2⟩,ho2,hc2,n2,hd2⟩:=id hb;simp only at hc hd hc2 hd2;subst hc hd hc2 hd2;exact richCompare_meets_room (op:=.Lt) #[_,ho,rfl] #[_,ho2,rfl] PySem.F.slot_tuple_lt PySem.F.entry_tuple_lt (PySem.F.args_tuple_lt_2 _ _) (nz l b items items2 n n2 dd dd2 sl sl2 k)
  #[ho,ho2,hx,show Lh k≠Value.notImplemented/\Q (.bool k) s from#[(λx=>nomatch x),h]] hu
section
variable{X:Cx}{pins:HK (HX×JR)}{σ:L2.St}{H:Hp}{s:HQ}{A:HK HX}{S:aa}
end
inductive COp where|eq|ne|lt|le|gt|ge|isin|notin|is|isnot
 deriving Lg
noncomputable def COp.py:COp->Qb
 | .eq=>.Eq|.ne=>.NotEq|.lt=>.Lt|.le=>.LtE|.gt=>.Gt|.ge=>.GtE|.isin=>.In|.notin=>.NotIn|.is=>.Is|.isnot=>.IsNot
noncomputable def cK:W->IF
 | .non=>true
 | .bl _=>true
 | .int _=>true
 | .str _=>true
 | _=>false
noncomputable def zG:W->W->IF
 | .non,.non=>true
 | .bl a,.bl b=>a==b
 | .bl a,.int b=>b2 a==b
 | .int a,.bl b=>a==b2 b
 | .int a,.int b=>a==b
 | .str a,.str b=>a==b
 | _,_=>false
noncomputable def ff (S:aa):W->HU (HK W)
 | .tup xs=>ba xs
 | .ref i=>gZ S i
 | _=>K3
noncomputable abbrev gH:HW:=20
noncomputable def CB (x y:W)(S:aa):HU IF:=match ff S y with
 | some ys=>if cK x&&ys.all cK then ba (ys.any λz=>zG z x)else K3
 | none=>K3
noncomputable def vU:W->IF
 | .non=>true
 | _=>false
noncomputable def vV (f:Ik->Ik->IF):W->W->HU IF
 | .int i,.int j=>ba (f i j)
 | _,_=>K3
noncomputable def EA:COp->W->W->aa->HU IF
 | .eq,x,y,S=>oZ S gH x y
 | .ne,x,y,S=>(oZ S gH x y).map (!·)
 | .lt,x,y,_=>vV (λi j=>decide (i < j)) x y
 | .le,x,y,_=>vV (λi j=>decide (i<=j)) x y
 | .gt,x,y,_=>vV (λi j=>decide (j < i)) x y
 | .ge,x,y,_=>vV (λi j=>decide (j<=i)) x y
 | .isin,x,y,S=>CB x y S
 | .notin,x,y,S=>(CB x y S).map (!·)
 | .is,x,y,_=>if vU y then ba (vU x)else K3
 | .isnot,x,y,_=>if vU y then ba (!vU x)else K3
noncomputable def j6 (o:COp)(x y:W)(S:aa):HU (W×aa):=(EA o x y S).map λk=>(.bl k,S)
section
variable{X:Cx}
theorem r8 {pins:HK (HX×JR)}{σ:L2.St}{H:Hp}{s:HQ}{A:HK HX}{S:aa}{k:IF}(I:Inv X pins σ H s)(so:StoreOk X.w X.K A H S):dB X pins σ A H S (.bl k) (.bool k) s:=
 #[.bl k,H,A,I,rfl,.refl,so,.bl]
theorem zH {o:COp}{x y w:W}{S S':aa}(h:j6 o x y S=ba (w,S')):∃k,EA o x y S=ba k/\w=.bl k/\S'=S:=by
 unfold j6 at h;rw[HS]at h;obtain⟨k,h1,h2⟩:=h;cases h2;exact#[k,h1,rfl,rfl]
theorem o4 {A:HK HX}{H:Hp}{w:W}{v:V}(r:Rel X.K A H w v)(f:cK w=true):gx v=true:=by
 cases r <;> first|rfl|cases f
theorem mj {A:HK HX}{H:Hp}:∀ {ws:HK W} {vs:HK V},RelL X.K A H ws vs->ws.all cK=true->vs.all gx=true
 | _,_,.nil,_=>rfl
 | _,_,.cons r t,f=>by
  rw[Jo,HV]at f ⊢;exact#[o4 r f.1,mj t f.2]
theorem zI {A:HK HX}{H:Hp}{x y:W}{u v:V}(r:Rel X.K A H x u)(q:Rel X.K A H y v)(fx:cK x=true)(fy:cK y=true):zo u v=zG x y:=by
 cases r <;> cases q <;> first|rfl|cases fx|cases fy
theorem r9 {A:HK HX}{H:Hp}{y:W}{v:V}(q:Rel X.K A H y v)(fy:cK y=true):∀ {ws:HK W} {vs:HK V},RelL X.K A H ws vs->ws.all cK=true->FW v vs=ws.any λz=>zG z y
 | _,_,.nil,_=>rfl
 | _,_,.cons r t,f=>by
  rw[Jo,HV]at f;have:=r9 q fy t f.2;unfold FW at this ⊢;rw[Ky,Ky,zI r q f.1 fy,this]
theorem nA {pins:HK (HX×JR)}{σ:L2.St}{H:Hp}{s:HQ}{A:HK HX}{S:aa}{y:W}{b:V}{ys:HK W}(so:StoreOk X.w X.K A H S)(r:Rel X.K A H y b)(e:ff S y=ba ys):∃p vs,b=.ref p/\(SqL X.K H p vs\/SqT X.K H p vs)/\RelL X.K A H ys vs:=by
 cases r with
 | tup h1 r1=>cases e; exact#[_,_,rfl,.inr h1,r1]
 | ref ea=>
  obtain⟨vs,h1,r1⟩:=ci so e ea;exact#[_,vs,rfl,.inl h1,r1]
 | _=>cases e
theorem vW {neg:IF}{o:Qb}(ho:OpR X (compareOp o) (Gz X.K neg)){pins:HK (HX×JR)}{σ:L2.St}{H:Hp}{s:HQ}{A:HK HX}{S:aa}{x y:W}{a b:V}{u v:HM}{ys:HK W}(I:Inv X pins σ H s)(so:StoreOk X.w X.K A H S)
  (rx:Rel X.K A H x a) (ru:RelV a u) (ry:Rel X.K A H y b) (rv:RelV b v) (e:ff S y=ba ys) (f:(cK x&&ys.all cK)=true) :
  wpAny (model X.prog X.w) X.A (compareOp o u v) (dB X pins σ A H S (.bl (if neg then !ys.any λz=>zG z x else ys.any λz=>zG z x))) X.xe s:=by
 obtain⟨p,vs,rfl,hq,rl⟩:=nA (pins:=pins) (σ:=σ) (s:=s) so ry e;rw[HV]at f;refine OpR.go ho I ru rv #[p,vs,rfl,hq,o4 rx f.1,mj rl f.2,?_];rw[r9 rx f.1 rl f.2];exact .here so .bl
theorem zJ (hu:X.A.units+gH < cLine)(o:COp):LOp X (compareOp o.py) (j6 o):=by
 intro pins s σ H A S x y a b u v w S' I so rx ru ry rv e;obtain⟨k,ek,e1,e2⟩:=zH e;subst e1;subst e2;clear e
 rename aa=>S
 have twoI:∀ {f:Ik->Ik->IF},vV f x y=ba k->∃i j,x=.int i/\y=.int j/\k=f i j:=by
  intro f h;cases x with
  | int i=>cases y with
   | int j=>cases h; exact#[i,j,rfl,rfl,rfl]
   | _=>cases h
  | _=>cases h
 have hu1:X.A.units+1 < cLine:=by have:gH=20:=rfl; omega
 have ofSq:∀ {c:IF},CB x y S=ba c->(∃ys,ff S y=ba ys/\(cK x&&ys.all cK)=true/\c=ys.any λz=>zG z x):=by
  intro c h;unfold CB at h;split at h
  ·split at h
   ·cases h; exact#[_,by assumption,by assumption,rfl]
   ·cases h
  ·cases h
 have ofN:∀ {c:IF},(if vU y then ba c else K3)=ba k->y=.non/\k=c:=by
  intro c h;cases y with
  | non=>cases h; exact#[rfl,rfl]
  | _=>cases h
 cases o with
 | eq=>exact(Bt I so gH X.A hu #[a,rx,ru] #[b,ry,rv] ek).1 _ _ _ _ (r8 I so)
 | ne=>
  obtain⟨k',h1,rfl⟩:=HS.mp ek;exact(Bt I so gH X.A hu #[a,rx,ru] #[b,ry,rv] h1).2.1 _ _ _ _ (r8 I so)
 | lt=>
  obtain⟨i,j,rfl,rfl,rfl⟩:=twoI ek;cases rx; cases ry
  exact OpR.go Ej I ru rv #[_,_,rfl,rfl,.here so .bl]
 | le=>
  obtain⟨i,j,rfl,rfl,rfl⟩:=twoI ek;cases rx; cases ry
  exact OpR.go Ek I ru rv #[_,_,rfl,rfl,.here so .bl]
 | gt=>
  obtain⟨i,j,rfl,rfl,rfl⟩:=twoI ek;cases rx; cases ry
  exact OpR.go El I ru rv #[_,_,rfl,rfl,.here so .bl]
 | ge=>
  obtain⟨i,j,rfl,rfl,rfl⟩:=twoI ek;cases rx; cases ry
  exact OpR.go Em I ru rv #[_,_,rfl,rfl,.here so .bl]
 | isin=>
  obtain⟨ys,h1,h2,rfl⟩:=ofSq ek;exact vW (neg:=false) tW I so rx ru ry rv h1 h2
 | notin=>
  obtain⟨c,h,rfl⟩:=HS.mp ek;obtain⟨ys,h1,h2,rfl⟩:=ofSq h;exact vW (neg:=true) nv I so rx ru ry rv h1 h2
 | is=>
  obtain⟨rfl,rfl⟩:=ofN ek;cases ry;refine OpR.go Co I ru rv #[rfl,?_];cases rx <;> exact .here so .bl
 | isnot=>
  obtain⟨rfl,rfl⟩:=ofN ek;cases ry;refine OpR.go y9 I ru rv #[rfl,?_];cases rx <;> exact .here so .bl
end
end Mi
namespace HT
open PySem PyProof.Rows
section
variable{prog:IM}{w:IU}{A:IQ}{E:HM->HQ->Prop}{s:HQ}
theorem gb {t sl:HX}{items:ID HM}{vl vu:HM}{lo hi:HU Ik}{Q:HM->HQ->Prop}(ht:Ov s.heap t items)(hs:s.heap.IsSliceOf sl vl vu .none)(pl:Mu vl lo)(pu:Mu vu hi)
  (hw:cj items.size 0 lo=0/\cj items.size items.size hi=items.size) (h:Q (.ref t) s):wpAny (model prog w) A (getItem (.ref t) (.ref sl)) Q E s:=by
 obtain⟨os,hos,hcs,hds⟩:=id hs;have hTs:s.TypeIs (.ref sl) "slice":=#[os,hos,hcs];unfold getItem
 try with_reducible refine Jm ?_
 first|refine HL (HR ?_)|skip
 refine HL (OC ht.typeIs #v[] ?_)
 refine HL (Jq (name:=Kl "__getitem__") ht.typeIs Kf
  (Jr Kf ht.typeIs NY ?_ (Oe _ _)))
 show wpAny _ _ (Lj (.ref t) >>= _) _ _ s;refine HL (PU ht ?_);refine HL (K7 hTs ?_);rw[Ix #v[]]
 refine HL (eE hs pl pu ?_);have hyes:((((cj items.size 0 lo:HW):Ik)==0&&(1:Ik)==1&&(cj items.size items.size hi - cj items.size 0 lo)==items.size)=true):=by
  rw[hw.1,hw.2];simp
 show wpAny _ _ (if (((cj items.size 0 lo:HW):Ik)==0&&(1:Ik)==1&&(cj items.size items.size hi - cj items.size 0 lo)==items.size)=true then _ else _) _ _ s
 rw[Ix hyes];unfold Py;refine HL (HL (K7 ht.typeIs (HR ?_)));rw[Ix #v[]]
 exact HL (Nc (HL (HR (HR #[_,rfl,HR h]))))
end
end HT
namespace Mi
open PySem PySem.Spec PyProof.Rows L2
noncomputable def vd (x y:W)(S:aa):HU (W×aa):=match x,y with
 | .tup xs,.int i=>(qI xs i).map λw=>(w,S)
 | .ref r,.int i=>match gZ S r with
  | some xs=>(qI xs i).map λw=>(w,S)
  | none=>K3
 | .str x,.int i=>if x.length<=sizeLine then(qI x.cps.toList i).map λc=>(.str #[[c].toArray],S)else K3
 | _,_=>K3
noncomputable def j7 (xs:HK W)(lo hi:HU Ik):HK W:=(xs.drop (HT.cj xs.length 0 lo)).take (HT.cj xs.length xs.length hi - HT.cj xs.length 0 lo)
noncomputable def ve (x:W)(lo hi:HU Ik)(S:aa):HU (W×aa):=match x with
 | .tup xs=>ba (.tup (j7 xs lo hi),S)
 | .ref r=>match gZ S r with
  | some xs=>ba (.ref S.length,S++[.lst (j7 xs lo hi)])
  | none=>K3
 | _=>K3
noncomputable def ub (o i v:W)(S:aa):HU aa:=match o,i with
 | .ref r,.int k=>match oN S r with
  | some xs=>match u9 xs.length k with
   | some j=>ba (S.set r (.lst (xs.set j v)))
   | none=>K3
  | none=>K3
 | _,_=>K3
section
variable (X:Cx)
noncomputable def LIx (g:W->W->aa->HU (W×aa)):Prop:=
 ∀(value slice:Iz) (pins:HK (HX×JR)) (s:HQ) (σ:L2.St) (H:Hp) (A:HK HX) (S:aa) (x y:W) (a b:V) (u v:HM) (w:W) (S':aa),Inv X pins σ H s->StoreOk X.w X.K A H S->
  Rel X.K A H x a->RelV a u->Rel X.K A H y b->RelV b v->g x y S=ba (w,S')->subscripted slice false u v=operate [u,v] (getItem u v)->wpAny (model X.prog X.w) X.A (subscriptTail value slice u v) (dB X pins σ A H S' w) X.xe s
noncomputable def LSl (g:W->HU Ik->HU Ik->aa->HU (W×aa)):Prop:=
 ∀(pins:HK (HX×JR)) (s:HQ) (σ:L2.St) (H:Hp) (A:HK HX) (S:aa) (x:W) (a:V) (v vl vu:HM) (lo hi:HU Ik) (sl:HX) (w:W) (S':aa),Inv X pins σ H s->StoreOk X.w X.K A H S->
  Rel X.K A H x a->RelV a v->s.heap.IsSliceOf sl vl vu .none->Mu vl lo->Mu vu hi->g x lo hi S=ba (w,S')->
  ∃T id,typeLookup (.type T) "__getitem__" = pure (ba (.builtin id))/\s.TypeIs v T/\wpAny (model X.prog X.w) X.A (getItem v (.ref sl)) (dB X pins σ A H S' w) X.xe s
noncomputable def LSet (g:W->W->W->aa->HU aa):Prop:=
 ∀(pins:HK (HX×JR)) (s:HQ) (σ:L2.St) (H:Hp) (A:HK HX) (S:aa) (o i x:W) (ao ai ax:V) (uo ui ux:HM) (S':aa),Inv X pins σ H s->StoreOk X.w X.K A H S->
  Rel X.K A H o ao->RelV ao uo->Rel X.K A H i ai->RelV ai ui->Rel X.K A H x ax->RelV ax ux->g o i x S=ba S'->
  wpAny (model X.prog X.w) X.A (setItem uo ui ux) (λ_ s'=>∃H' A',Inv X pins σ H' s'/\Ext X.K A H A' H'/\StoreOk X.w X.K A' H' S') X.xe s
noncomputable def LCall (f:HM)(g:HK W->aa->HU (W×aa)):Prop:=
 ∀(pins:HK (HX×JR)) (s:HQ) (σ:L2.St) (H:Hp) (A:HK HX) (S:aa) (xs:HK W) (vs:HK V) (us:HK HM) (w:W) (S':aa),Inv X pins σ H s->StoreOk X.w X.K A H S->
  RelL X.K A H xs vs->Vals vs us->g xs S=ba (w,S')->wpAny (model X.prog X.w) X.A (call f us) (dB X pins σ A H S' w) X.xe s
noncomputable def LMeth (id:JJ)(g:W->HK W->aa->HU (W×aa)):Prop:=
 ∀(pins:HK (HX×JR)) (s:HQ) (σ:L2.St) (H:Hp) (A:HK HX) (S:aa) (x:W) (a:V) (u:HM) (xs:HK W) (vs:HK V) (us:HK HM) (w:W) (S':aa),Inv X pins σ H s->StoreOk X.w X.K A H S->
  Rel X.K A H x a->RelV a u->RelL X.K A H xs vs->Vals vs us->g x xs S=ba (w,S')->wpAny (model X.prog X.w) X.A (call (.builtin id) (u::us)) (dB X pins σ A H S' w) X.xe s
end
section
variable{X:Cx}{pins:HK (HX×JR)}{σ:L2.St}{H:Hp}{s:HQ}{A:HK HX}{S:aa}
theorem IxR.go {r:R2}(h:IxR X r){S':aa}{w:W}{a b:V}{u v:HM}{value slice:Iz}(I:Inv X pins σ H s)(ru:RelV a u)(rv:RelV b v)(q:r a b H (EndV X.w X.K A H S' w))(hs:subscripted slice false u v=operate [u,v] (getItem u v)) :
  wpAny (model X.prog X.w) X.A (subscriptTail value slice u v) (dB X pins σ A H S' w) X.xe s:=bJ (h value slice pins s σ H a b u v _ I ru rv q hs) λ_ _=>EP.post
theorem CallR.go {f:HM}{r:HK V->Hp->VK->Prop}(h:CallR X f r){S':aa}{w:W}{vs:HK V}{us:HK HM}(I:Inv X pins σ H s)(rv:Vals vs us)(q:r vs H (EndV X.w X.K A H S' w)) :
  wpAny (model X.prog X.w) X.A (call f us) (dB X pins σ A H S' w) X.xe s:=bJ (h pins s σ H vs us _ I rv q) λ_ _=>EP.post
theorem MtR.go {id:JJ}{r:V->HK V->Hp->VK->Prop}(h:MtR X id r){S':aa}{w:W}{a:V}{u:HM}{vs:HK V}{us:HK HM}(I:Inv X pins σ H s)(ru:RelV a u)(rv:Vals vs us)(q:r a vs H (EndV X.w X.K A H S' w)) :
  wpAny (model X.prog X.w) X.A (call (.builtin id) (u::us)) (dB X pins σ A H S' w) X.xe s:=bJ (h pins s σ H a vs u us _ I ru rv q) λ_ _=>EP.post
theorem sa {xs:HK W}{vs:HK V}{i:Ik}{w:W}(r:RelL X.K A H xs vs)(e:qI xs i=ba w):∃v,qI vs i=ba v/\Rel X.K A H w v:=by
 unfold qI at e ⊢;rw[r.length]at e;cases q:u9 vs.length i with
 | none=>rw[q]at e; cases e
 | some j=>
  rw[q]at e;obtain⟨v,h1,h2⟩:=r.get (show xs[j]?=ba w from e)
  exact#[v,h1,h2]
theorem HD (hu:X.A.units+10 < cLine):LIx X vd:=by
 intro value slice pins s σ H A S x y a b u v w S' I so rx ru ry rv e hs;cases rx with
 | tup h1 r1=>cases ry with
  | int=>
   simp only[vd,HS]at e;obtain⟨w',e1,e2⟩:=e;cases e2;obtain⟨z,h2,r2⟩:=sa r1 e1;exact IxR.go Cu I ru rv #[_,_,_,_,rfl,rfl,h1,h2,.here so r2] hs
  | _=>cases e
 | ref ea=>cases ry with
  | int=>
   simp only[vd]at e;split at e
   ·rename_i ws hw;rw[HS]at e;obtain⟨w',e1,e2⟩:=e;cases e2;obtain⟨vs,h1,r1⟩:=ci so hw ea;obtain⟨z,h2,r2⟩:=sa r1 e1;exact IxR.go zm I ru rv #[_,_,_,_,rfl,rfl,h1,h2,.here so r2] hs
   ·cases e
  | _=>cases e
 | str=>cases ry with
  | int=>
   simp only[vd]at e;split at e
   ·rw[HS]at e;obtain⟨c,e1,e2⟩:=e;cases e2;exact IxR.go Cv I ru rv #[_,_,_,rfl,rfl,by assumption,e1,.here so .str] hs
   ·cases e
  | _=>cases e
 | _=>cases ry <;> cases e
theorem nB {xs:HK W}{vs:HK V}{lo hi:HU Ik}(r:RelL X.K A H xs vs):RelL X.K A H (j7 xs lo hi) (j3 vs lo hi):=by
 unfold j7 j3;rw[r.length];exact(r.drop _).take _
theorem zK:Ev X (λx lo hi H Q=>∃a xs,x=.ref a/\SqT X.K H a xs/\(j3 xs lo hi=xs->Q (.ref a) H)/\∀p,H p=K3->Q (.ref p) (bP H p (.tup (j3 xs lo hi)))):=by
 intro pins s σ H x v vl vu lo hi sl Q I rx hs pl pu h;obtain⟨a,xs,rfl,hx,q0,q⟩:=h
 by_cases hw:(HT.cj xs.length 0 lo=0/\HT.cj xs.length xs.length hi=xs.length)
 ·cases rx;obtain⟨its,r,ht,hz⟩:=I.tuple hx;have hlen:its.toArray.size=xs.length:=by rw[Ii]; exact r.length.symm
  refine#["tuple",_,PyProof.Rows.slot_tuple_getitem.lookup,ht.typeIs,?_];refine HT.gb ht hs pl pu (by rw[hlen]; exact hw) #[.ref a,H,I,rfl,q0 ?_]
  unfold j3;rw[hw.1,hw.2];simp
 ·exact Ct pins s σ H (.ref a) v vl vu lo hi sl Q I rx hs pl pu #[a,xs,rfl,hx,hw,q]
theorem HE:LSl X ve:=by
 intro pins s σ H A S x a v vl vu lo hi sl w S' I so rx rv hs pl pu e;cases rx with
 | tup h1 r1=>
  cases e;obtain⟨T,id,z1,z2,z3⟩:=zK pins s σ H _ v vl vu lo hi sl (EndV X.w X.K A H S (.tup (j7 _ lo hi))) I rv hs pl pu #[_,_,rfl,h1,λq=>.here so (.tup h1 (by have:=nB (lo:=lo) (hi:=hi) r1; rw[q]at this; exact this)),λp hp=>.tup so (nB r1) hp]
  exact#[T,id,z1,z2,bJ z3 λ_ _=>EP.post]
 | ref ea=>
  simp only[ve]at e;split at e
  ·rename_i ws hw;cases e;obtain⟨vs,h1,r1⟩:=ci so hw ea;obtain⟨T,id,z1,z2,z3⟩:=zn pins s σ H _ v vl vu lo hi sl (EndV X.w X.K A H (S++[.lst (j7 ws lo hi)]) (.ref S.length)) I rv hs pl pu #[_,_,rfl,h1,λp hp=>.lst so (nB r1) hp]
   exact#[T,id,z1,z2,bJ z3 λ_ _=>EP.post]
  ·cases e
 | _=>cases e
theorem lset (hu:X.A.units+10 < cLine):LSet X ub:=by
 intro pins s σ H A S o i x ao ai ax uo ui ux S' I so ro ruo ri rui rx rux e;cases ro with
 | ref ea=>cases ri with
  | int=>
   simp only[ub]at e;split at e
   ·rename_i ws hw;split at e
    ·rename_i j hj;cases e;obtain⟨vs,h1,r1⟩:=ey so hw ea;rw[r1.length]at hj;obtain⟨so',ex⟩:=so.write (j4 hw) ea (r1.set rx j);exact bJ (vG pins s σ H _ _ _ uo ui ux (λH'=>H'=bP H _ (.lst (vs.set j ax))) I ruo rui rux #[_,_,_,_,rfl,rfl,h1,hj,rfl]) λ_ s' #[H',I',e']=>#[_,A,e' ▸ I',ex,so']
    ·cases e
   ·cases e
  | _=>cases e
 | _=>cases ri <;> cases e
noncomputable def qW (xs:HK W)(S:aa):HU (W×aa):=match xs with
 | [.tup ys]=>ba (.int ys.length,S)
 | [.str y]=>if y.length<=sizeLine then ba (.int y.length,S)else K3
 | [.ref i]=>(gZ S i).map λys=>(.int ys.length,S)
 | _=>K3
theorem uc:LCall X (.builtin "len") qW:=by
 intro pins s σ H A S xs vs us w S' I so rl rv e;cases rl with
 | nil=>cases e
 | cons r t=>
  cases t with
  | cons _ _=>cases r <;> cases e
  | nil=>
   cases r with
   | tup h1 r1=>cases e; rw[r1.length]; exact CallR.go jY I rv #[_,_,rfl,.inr #[_,h1,rfl],.here so .int]
   | str=>
    simp only[qW]at e;split at e
    ·cases e; exact CallR.go jY I rv #[_,_,rfl,#[by assumption,rfl],.here so .int]
    ·cases e
   | ref ea=>
    simp only[qW,HS]at e;obtain⟨ws,hw,e2⟩:=e;cases e2;obtain⟨vs',h1,r1⟩:=ci so hw ea;rw[r1.length];exact CallR.go jY I rv #[_,_,rfl,.inl #[_,h1,rfl],.here so .int]
   | _=>cases e
noncomputable def g7 (xs:HK W)(S:aa):HU (W×aa):=match xs with
 | [x]=>match ff S x with
  | some ys=>ba (.ref S.length,S++[.lst ys])
  | none=>K3
 | _=>K3
theorem gI:LCall X (.type "list") g7:=by
 intro pins s σ H A S xs vs us w S' I so rl rv e;cases rl with
 | nil=>cases e
 | cons r t=>
  cases t with
  | cons _ _=>cases e
  | nil=>
   simp only[g7]at e;split at e
   ·rename_i ys hy;cases e;obtain⟨p,vs',rfl,hq,r1⟩:=nA (pins:=pins) (σ:=σ) (s:=s) so r hy;exact CallR.go nw I rv #[p,vs',rfl,hq,λl hl=>.lst so r1 hl]
   ·cases e
noncomputable def j8 (xs:HK W)(S:aa):HU (W×aa):=match xs with
 | [.tup ys]=>ba (.tup ys,S)
 | [.ref i]=>match gZ S i with
  | some ys=>ba (.tup ys,S)
  | none=>K3
 | _=>K3
theorem jk:LCall X (.type "tuple") j8:=by
 intro pins s σ H A S xs vs us w S' I so rl rv e;cases rl with
 | nil=>cases e
 | cons r t=>
  cases t with
  | cons _ _=>cases r <;> cases e
  | nil=>
   cases r with
   | tup h1 r1=>cases e; exact CallR.go gy I rv #[_,_,rfl,.inr #[h1,.here so (.tup h1 r1)]]
   | ref ea=>
    simp only[j8]at e;split at e
    ·rename_i ys hy;cases e;obtain⟨vs',h1,r1⟩:=ci so hy ea;exact CallR.go gy I rv #[_,_,rfl,.inl #[h1,λl hl=>.tup so r1 hl]]
    ·cases e
   | _=>cases e
noncomputable def EB (xs:HK W)(S:aa):HU (W×aa):=match xs with
 | [.int i]=>ba (.int i,S)
 | [.bl b]=>ba (.int (if b then 1 else 0),S)
 | _=>K3
theorem ud:LCall X (.type "int") EB:=by
 intro pins s σ H A S xs vs us w S' I so rl rv e;cases rl with
 | nil=>cases e
 | cons r t=>
  cases t with
  | cons _ _=>cases r <;> cases e
  | nil=>
   cases r with
   | int=>cases e; exact CallR.go l5 I rv (.inl #[_,rfl,.here so .int])
   | bl=>cases e; exact CallR.go l5 I rv (.inr #[_,rfl,.here so .int])
   | _=>cases e
noncomputable def g8 (x:W)(xs:HK W)(S:aa):HU (W×aa):=match x,xs with
 | .ref i,[y]=>match oN S i with
  | some ys=>if ys.length < sizeLine then ba (.non,S.set i (.lst (ys++[y])))else K3
  | none=>K3
 | _,_=>K3
theorem iR {i:HW}{p:HX}{ws ws0:HK W}{us:HK V}(so:StoreOk X.w X.K A H S)(e:oN S i=ba ws0)(ea:A[i]?=ba p)(r:RelL X.K A H ws us){w:W}{v:V}(rw':Rel X.K A H w v) :
  EndV X.w X.K A H (S.set i (.lst ws)) w v (bP H p (.lst us)):=by
 obtain⟨so',ex⟩:=so.write (j4 e) ea r;exact#[A,ex,so',rw'.mono ex]
theorem nC:LMeth X "list.append" g8:=by
 intro pins s σ H A S x a u xs vs us w S' I so rx ru rl rv e;cases rx with
 | ref ea=>
  cases rl with
  | nil=>cases e
  | cons r t=>
   cases t with
   | cons _ _=>cases e
   | nil=>
    simp only[g8]at e;split at e
    ·rename_i ys hy;split at e
     ·rename_i hl;cases e;obtain⟨vs',h1,r1⟩:=ey so hy ea;rw[r1.length]at hl;exact MtR.go tX I ru rv #[_,_,_,rfl,rfl,h1,hl,iR so hy ea (r1.append #v[r]) .non]
     ·cases e
    ·cases e
 | _=>cases e
noncomputable def jP (x:W)(xs:HK W)(S:aa):HU (W×aa):=match x,xs with
 | .ref i,[.ref j]=>match oN S i,oN S j with
  | some ys,ba zs=>if ys.length+zs.length<=sizeLine then ba (.non,S.set i (.lst (ys++zs)))else K3
  | _,_=>K3
 | _,_=>K3
theorem nD:LMeth X "list.extend" jP:=by
 intro pins s σ H A S x a u xs vs us w S' I so rx ru rl rv e;cases rx with
 | ref ea=>
  cases rl with
  | nil=>cases e
  | cons r t=>
   cases t with
   | cons _ _=>cases r <;> cases e
   | nil=>
    cases r with
    | ref eb=>
     simp only[jP]at e;split at e
     ·rename_i ys zs hy hz;split at e
      ·rename_i hl;cases e;obtain⟨vs',h1,r1⟩:=ey so hy ea;obtain⟨vs2,h2,r2⟩:=ey so hz eb;rw[r1.length,r2.length]at hl;exact MtR.go tY I ru rv #[_,_,_,_,rfl,rfl,h1,h2,hl,iR so hy ea (r1.append r2) .non]
      ·cases e
     ·cases e
    | _=>cases e
 | _=>cases e
noncomputable def zL (x:W)(xs:HK W)(S:aa):HU (W×aa):=match x,xs with
 | .ref i,[.int k]=>match oN S i with
  | some ys=>if -(2 ^ 63)<=k/\k < 2 ^ 63 then match seqIndex? k ys.length with
   | some j=>match ys[j]? with
    | some y=>ba (y,S.set i (.lst (ys.eraseIdx j)))
    | none=>K3
   | none=>K3
   else K3
  | none=>K3
 | _,_=>K3
theorem ue:LMeth X "list.pop" zL:=by
 intro pins s σ H A S x a u xs vs us w S' I so rx ru rl rv e;cases rx with
 | ref ea=>
  cases rl with
  | nil=>cases e
  | cons r t=>
   cases t with
   | cons _ _=>cases r <;> cases e
   | nil=>
    cases r with
    | int=>
     simp only[zL]at e;split at e
     ·rename_i ys hy;split at e
      ·rename_i hk;split at e
       ·rename_i j hj;split at e
        ·rename_i y hyj;cases e;obtain⟨vs',h1,r1⟩:=ey so hy ea;obtain⟨v',h2,r2⟩:=r1.get hyj;rw[r1.length]at hj;exact MtR.go vJ I ru rv #[_,_,_,_,_,rfl,rfl,h1,hk.1,hk.2,hj,h2,iR so hy ea (r1.eraseIdx j) r2]
        ·cases e
       ·cases e
      ·cases e
     ·cases e
    | _=>cases e
 | _=>cases e
noncomputable def iS:HK W->HU (HK Iv)
 | []=>ba []
 | .str x::xs=>(iS xs).map (x :: ·)
 | _::_=>K3
noncomputable def sd (x:W)(xs:HK W)(S:aa):HU (W×aa):=match x,xs with
 | .str x,[y]=>match ff S y with
  | some ys=>match iS ys with
   | some zs=>if (zs.map (·.length)).sum+zs.length*x.length<=16777216 then ba (.str (Qv x zs),S)else K3
   | none=>K3
  | none=>K3
 | _,_=>K3
theorem j9:∀ {ws:HK W} {vs:HK V} {us:HK HM} {zs:HK Iv},RelL X.K A H ws vs->Vals vs us->iS ws=ba zs->StrsAre us zs
 | _,_,_,zs,.nil,.nil,e=>by cases e; exact .nil
 | _,_,_,zs,.cons r t,.cons q p,e=>by
  cases r with
  | str=>
   simp only[iS,HS]at e;obtain⟨z,e1,e2⟩:=e;subst e2;obtain⟨tk,rfl⟩ : ∃t,_=L3 _ t:=q;exact .cons _ tk (j9 t p e1)
  | _=>cases e
theorem qX:LMeth X "str.join" sd:=by
 intro pins s σ H A S x a u xs vs us w S' I so rx ru rl rv e;cases rx with
 | str=>
  cases rl with
  | nil=>cases e
  | cons r t=>
   cases t with
   | cons _ _=>cases e
   | nil=>
    simp only[sd]at e;split at e
    ·rename_i ys hy;split at e
     ·rename_i zs hz;split at e
      ·rename_i hl;cases e;obtain⟨p,vs',rfl,hq,r1⟩:=nA (pins:=pins) (σ:=σ) (s:=s) so r hy;obtain⟨t0,rfl⟩ : ∃t,u=L3 _ t:=ru;obtain⟨u1,rfl,ru1⟩:=l4 rv;have ru1':u1=IR p:=ru1;subst ru1';rcases hq with hq|hq
       ·obtain⟨its,rr,pl,hz'⟩:=I.list hq;exact join_list pl.isList (by simpa using j9 r1 rr hz) hl λt' k=>#[.str _,H,A,I.tok _,#[_,rfl],.refl,so,.str]
       ·obtain⟨its,rr,pl,hz'⟩:=I.tuple hq;exact join_tuple pl (by simpa using j9 r1 rr hz) hl λt' k=>#[.str _,H,A,I.tok _,#[_,rfl],.refl,so,.str]
      ·cases e
     ·cases e
    ·cases e
 | _=>cases e
noncomputable def gc (S:aa):W->HU IF
 | .non=>ba false
 | .bl b=>ba b
 | .int i=>ba (i != 0)
 | .str y=>if y.length<=sizeLine then ba ((y.length:Ik) != 0)else K3
 | .tup xs=>ba (!xs.isEmpty)
 | .ref i=>(gZ S i).map λxs=>!xs.isEmpty
theorem jl {ws:HK W}{vs:HK V}(r:RelL X.K A H ws vs):(!ws.isEmpty) = !vs.isEmpty:=by cases r <;> rfl
theorem GH {x:W}{a:V}{u:HM}{k:IF}{Q:IF->HQ->Prop}(I:Inv X pins σ H s)(so:StoreOk X.w X.K A H S)(rx:Rel X.K A H x a)(ru:RelV a u)(e:gc S x=ba k)(hq:∀s',Inv X pins σ H s'->Q k s') :
  wpAny (model X.prog X.w) X.A (truthy u) Q X.xe s:=by
 refine bJ (Cp pins s σ H a u (λb H'=>b=k/\H'=H) I ru #[k,?_,rfl,rfl]) λb s' #[H',I',e1,e2]=>?_
 ·cases rx with
  | non=>cases e; rfl
  | bl=>cases e; rfl
  | int=>cases e; rfl
  | str=>
   simp only[gc]at e;split at e
   ·cases e; exact#[by assumption,rfl]
   ·cases e
  | tup h1 r1=>cases e; exact .inr (.inl #[_,h1,jl r1])
  | ref ea=>
   simp only[gc,HS]at e;obtain⟨ws,hw,e2⟩:=e;subst e2;obtain⟨vs,h1,r1⟩:=ci so hw ea;exact .inl #[_,h1,jl r1]
 ·subst e1 e2;exact hq s' I'
end
noncomputable def cq (w:IU):JR:={ cls:=.type "set",dict:=K3,data:=.set #[] 0 (.fresh 0 0 (!eF w)) }
section
variable{prog:IM}{w:IU}{A:IQ}{E:HM->HQ->Prop}{s:HQ}{R:OV->HQ->Prop}{I:HX}{fp wr:HK HX}{G:ID NJ->ID NJ->Prop}{n:HW}{P:HW->HM->Prop}{St:HW->HQ->Prop}
theorem vX (a:HM){Q₁:HM->HQ->Prop}(h:Q₁ (.ref s.heap.objs.size) { s with heap:=s.heap.push (cq w) }):codeAny (model prog w) A (.call (.builtin "set.__new__") #[[.type "set",a],[]]) (wants Q₁ E) s:=by
 refine Nt ?_;show wpAny _ A.in1 (checkBuiltinCall "set.__new__" #[[.type "set",a],[]] >>= λ_=>again (.builtin "set.__new__" #[[.type "set",a],[]])) _ _ s
 refine HL (LN (F.newCall_set_1 a) (HR #[Kc F.plain_set_new _,Ju F.entry_set_new ?_]));rw[Jk F.plain_set_new _];unfold Le.«set.__new__» Pz;have hsub:=Og;obtain⟨hp,g,d,tk,os⟩:=s;dsimp only
 wp_walk
 refine KZ (HR ?_);dsimp only;simp only[newObj];exact HL (Qw (HR (HR h)))
end
theorem fD:Slot "set_iterator" "__next__" "set_iterator.__next__":=.of (owner:="set_iterator") (n:="__next__") (by rw[Pf,NB]; kernel_rfl) (by decide +kernel) (by decide +kernel) (by decide +kernel) (by first|exact .inl (by decide +kernel)|exact .inr (by decide +kernel)) (by rw[PB]; kernel_rfl)
theorem o5:Slot "set_iterator" "__iter__" "set_iterator.__iter__":=.of (owner:="set_iterator") (n:="__iter__") (by rw[Pf,NB]; kernel_rfl) (by decide +kernel) (by decide +kernel) (by decide +kernel) (by first|exact .inl (by decide +kernel)|exact .inr (by decide +kernel)) (by rw[PB]; kernel_rfl)
theorem uf:entryFor table "set_iterator.__next__" = ba Le.«set_iterator.__next__»:=entryFor_of_tree (by kernel_rfl)
theorem qY:entryFor table "set.__iter__" = ba Le.«frozenset.__iter__»:=PC (id':="frozenset.__iter__") (by kernel_rfl) rfl (by decide +kernel) (by kernel_rfl)
theorem vY (a:HM):argsOk "set_iterator.__next__" #[[a],[]]:=by unfold argsOk; kernel_rfl
section
variable{α:Type}{prog:IM}{w:IU}{A:IQ}{E:HM->HQ->Prop}{s:HQ}
theorem ug {src:Source}{n:HW}{Q:HW->HQ->Prop}(hn:n≠0)(h:∀i dr,i < n->Q i { s with drawn:=dr }):wpAny (model prog w) A (choose src n) Q E s:=λ_ _ _=>#[hn,h _ _ (Nh _ (Nat.pos_of_ne_zero hn))]
theorem g9:∀ {l:HK α} {i:HW} (h:i < l.length),(l[i]::l.eraseIdx i).Perm l
 | x::l,0,_=>.refl _
 | x::l,i+1,h=>(Rg _ _ _).trans ((g9 (l:=l) (i:=i) (by simpa using h)).cons x)
theorem ke:∀(n:HW) (xs:HK α) {s:HQ} {Q:HK α->HQ->Prop},xs.length=n->(∀ys dr,ys.Perm xs->Q ys { s with drawn:=dr })->wpAny (model prog w) A (drawOrder n xs) Q E s
 | 0,xs,s,Q,hl,h=>by
  obtain rfl:=Kv.mp hl;exact HR (h [] s.drawn .nil)
 | n+1,[],s,Q,hl,h=>by cases hl
 | n+1,x::xs,s,Q,hl,h=>by
  unfold drawOrder;refine HL (ug (by simp) λi dr hi=>?_)
  rw[Ic hi];dsimp only;refine HL (ke n _ (by rw[Lk hi,hl]; rfl) λys dr' hp=>HR (h _ dr' ?_))
  exact(hp.cons _).trans (g9 hi)
theorem sf {next:HW->HW}:∀(f k:HW) (left:HK α) (out:ID α),f=left.length->(pickOrder.go next f k left out).toList.Perm (out.toList++left)
 | 0,k,left,out,h=>by
  obtain rfl:=Kv.mp h.symm;simp[pickOrder.go]
 | f+1,k,left,out,h=>by
  unfold pickOrder.go;have hp:0 < left.length:=∅
  have hi:next k % left.length < left.length:=Nh _ hp;rw[Ic hi];dsimp only;refine(sf f (k+1) _ _ (by rw[Lk hi]; omega)).trans ?_
  rw[MP,Kt];exact(g9 hi).append_left _
theorem fR {next:HW->HW}{xs:ID α}:(pickOrder next xs).toList.Perm xs.toList:=by
 have:=sf (next:=next) xs.size 0 xs.toList #[] (by simp)
 simpa [pickOrder]using this
noncomputable def SIt (I:HX)(f r:HM)(i n ep:HW)(h:Jc):Prop:=h.get? I=ba { cls:=.type "set_iterator",data:=.fields [f,.int i 0,r,.int n 0,.int ep 0].toArray }
theorem SIt.type {I:HX}{f r:HM}{i n ep:HW}(x:SIt I f r i n ep s.heap):s.TypeIs (.ref I) "set_iterator":=#[_,x,rfl]
theorem o7 {I:HX}{Q:HU HM->HQ->Prop}{f r:HM}{i n ep:HW}(x:SIt I f r i n ep s.heap)(h:wpAny (model prog w) A.in1 (Le.«set_iterator.__next__» #[[.ref I],[]]) (λfin s'=>∃v,fin=.done (.ret v)/\Q (ba v) s') (λe s'=>wpAny (model prog w) A (do if <- isInstance e (.type "StopIteration")then pure K3 else throw e) Q E s') s):wpAny (model prog w) A (pyNext (.ref I)) Q E s:=by
 unfold pyNext;refine HL (L7 (Jq (name:=Kl "__next__") x.type fD (Jr fD x.type uf ?_ (vY _))));exact J2 h (λ_ _ #[v,e,q]=>#[v,e,HR q]) λ_ _ q=>q
noncomputable def EC (prog:IM)(w:IU)(A:IQ)(Q:HU HM->HQ->Prop)(E:HM->HQ->Prop)(e:HM)(s':HQ):Prop:=wpAny (model prog w) A (do if <- isInstance e (.type "StopIteration")then pure K3 else throw e) Q E s'
theorem o8 {Q:HU HM->HQ->Prop}{Q2:QY->HQ->Prop}(hh:A.handled=K3)(h:∀h',(∀b o,s.heap.get? b=ba o->h'.get? b=ba o)->Q K3 { s with heap:=h' }):wpAny (model prog w) A.in1 (newExc (.type "StopIteration") [] >>= λx=>raiseNew x) Q2 (EC prog w A Q E) s:=by
 refine HL ?_;simp only[newExc,newTuple];refine HL (IV ?_ (by size_fits))
 refine HL (m:=firstArgMember _ _) (LN (a:=Ja) (by first|rfl|(simp only[firstArgMember]; rfl)) ?_)
 refine IV ?_ (by size_fits)
 simp only[raiseNew];refine HL (N9 ?_);rw[show A.in1.handled=K3 from hh]
 refine HL (HR (O8 ?_));refine HL (Lu (T:="StopIteration") (b:=true) #[_,Ij _ rfl,rfl] NL ?_);exact HR (h _ λb o e=>HP _ (HP _ e))
section
variable{I a:HX}{f r:HM}{i n ep sl:HW}{o:JR}{es:ID (Ik×HM)}{t:Jx}{Q:HU HM->HQ->Prop}
theorem fS {Q:Rc->HQ->Prop}{vs:ID HM}{k:HW}{v:HM}(x:s.heap.get? I=ba { cls:=.type "set_iterator",data:=.fields vs })(hk:k < vs.size)(h:∀h',h'.get? I=ba { cls:=.type "set_iterator",data:=.fields (vs.setIfInBounds k v) }->JZ I s.heap h'->Q () { s with heap:=h' }):wpAny (model prog w) A (setField (.ref I) k v) Q E s:=Oh x hk h
theorem fT (x:SIt I (.int sl 0) (.ref a) i n ep s.heap)(ho:s.heap.get? a=ba o)(hd:o.data=.set es ep t)(hf:t.fits es.size=true)(hn:es.size=n)(hh:A.handled=K3){rs:HU (HM×HW)}
  (hx:∀Q':HU (HM×HW)->HQ->Prop,Q' rs s->wpAny (model prog w) A.in1 (setNext a sl i ep) Q' (EC prog w A Q E) s)
  (h1:∀v sl',rs=ba (v,sl')->∀h',SIt I (.int sl' 0) (.ref a) (i+1) n ep h'->(∀b o,b≠I->s.heap.get? b=ba o->h'.get? b=ba o)->Q (ba v) { s with heap:=h' })
  (h2:rs=K3->∀h',(∀b o,b≠I->s.heap.get? b=ba o->h'.get? b=ba o)->Q K3 { s with heap:=h' }):wpAny (model prog w) A (pyNext (.ref I)) Q E s:=by
 refine o7 x ?_;refine HL (HR ?_);show wpAny _ _ (fieldsOf (.ref I) >>= _) _ _ s;refine HL (Mz x rfl ?_);refine HL (Ml ho hd hf ?_);rw[IK (by simp[hn])]
 refine HL (hx _ ?_);cases rs with
 | some p=>
  obtain⟨v,sl'⟩:=p;dsimp only;refine HL (fS x (by simp) λh' x' sb'=>?_)
  refine HL (fS x' (by simp) λh2 x2 sb2=>?_)
  refine HR #[v,rfl,h1 v sl' rfl h2 ?_ λb o hb e=>?_]
  ·simpa [SIt,rawInt]using x2
  ·rw[sb2.2 b hb,sb'.2 b hb]; exact e
 | none=>
  dsimp only;refine HL (fS x (by simp) λh' x' sb'=>?_)
  refine o8 hh λh'' k=>h2 rfl h'' λb o hb e=>k b o (by rw[sb'.2 b hb]; exact e)
theorem mn {tp:HX}{ps:HK HW}(x:SIt I (.ref tp) (.ref a) i n ep s.heap)(ho:s.heap.get? a=ba o)(hd:o.data=.set es ep t)(hf:t.fits es.size=true)(hn:es.size=n)(hh:A.handled=K3)
  (ht:s.heap.get? tp=ba { cls:=.type "tuple",data:=.seq (ps.map λk=>rawInt (k:HW)).toArray 0 })
  (h1:∀p e,ps[i]?=ba p->es[p]?=ba e->∀h',SIt I (.ref tp) (.ref a) (i+1) n ep h'->(∀b o,b≠I->s.heap.get? b=ba o->h'.get? b=ba o)->Q (ba e.2) { s with heap:=h' })
  (hp:∀p,ps[i]?=ba p->∃e,es[p]?=ba e)
  (h2:ps[i]?=K3->∀h',(∀b o,b≠I->s.heap.get? b=ba o->h'.get? b=ba o)->Q K3 { s with heap:=h' }):wpAny (model prog w) A (pyNext (.ref I)) Q E s:=by
 refine o7 x ?_;refine HL (HR ?_);show wpAny _ _ (fieldsOf (.ref I) >>= _) _ _ s;refine HL (Mz x rfl ?_);refine HL (Ml ho hd hf ?_);rw[IK (by simp[hn])]
 refine HL (Ko ht rfl ?_);dsimp only;have hg:(ps.map λk=>rawInt (k:HW)).toArray[(i:Ik).toNat]?=(ps[i]?).map λk=>rawInt (k:HW):=by simp
 rw[hg];cases q:ps[i]? with
 | some p=>
  obtain⟨e,he⟩:=hp p q;show wpAny _ _ (setNextDrawn a (p:Ik).toNat (ep:Ik).toNat >>= _) _ _ s;unfold setNextDrawn;refine HL (HL (JE ho hd hf ?_));dsimp only;rw[IK (by simp)]
  simp only[Iu,he];refine HR ?_;refine HL (fS x (by simp) λh' x' sb'=>?_)
  refine HR #[e.2,rfl,h1 p e q he h' ?_ λb o hb z=>?_]
  ·simpa [SIt,rawInt]using x'
  ·rw[sb'.2 b hb]; exact z
 | none=>
  dsimp only[Option.map_none];refine HL (fS x (by simp) λh' x' sb'=>?_)
  refine HL (fS x' (by simp) λh3 x3 sb3=>?_)
  refine o8 hh λh'' k=>h2 q h'' λb o hb e=>k b o (by rw[sb3.2 b hb,sb'.2 b hb]; exact e)
theorem mo {E:HM->HQ->Prop}{Q:HU (HM×HW)->HQ->Prop}(ho:s.heap.get? a=ba o)(hd:o.data=.set es ep t)(hf:t.fits es.size=true)(hb:eF w=true)(h:Q ((((pickOrder (w.params.setOrder a ep) es).toList.map (·.2))[i]?).map λv=>(v,sl)) s):wpAny (model prog w) A (setNext a sl i ep) Q E s:=by
 unfold setNext;refine HL (JE ho hd hf ?_);dsimp only;have ask1:∀ {Q:IF->HQ->Prop},Q true s->wpAny (model prog w) A setsByText Q E s:=λ{Q} hq=>by
  unfold setsByText;refine HL (KZ (HR ?_));show Q (eF w) s;rw[hb]; exact hq
 refine HL (ask1 ?_);rw[Ix rfl,IK (by simp)]
 refine HL ?_;unfold setWalk;refine HL (JE ho hd hf ?_);dsimp only;refine HL (ask1 ?_);rw[Ix rfl];refine HL (KZ (HR (HR ?_)));have e:(((pickOrder (w.params.setOrder a ep) es)[i]?).map λe=>(e.2,sl))=((((pickOrder (w.params.setOrder a ep) es).toList.map (·.2))[i]?).map λv=>(v,sl)):=by
  rw[HY,JB,PD]; rfl
 show Q (((pickOrder (w.params.setOrder a ep) es)[i]?).map λe=>(e.2,sl)) s
 rw[e]; exact h
theorem o9 {E:HM->HQ->Prop}{Q:HU (HM×HW)->HQ->Prop}(ho:s.heap.get? a=ba o)(hd:o.data=.set es ep t)(hf:t.fits es.size=true)(hb:eF w=false)(hl:t.led=true)(h1:es.size<=1)(hi:i=0/\sl=0\/i=es.size/\sl=(t.place.getD 0 0)+1)
  (h:Q (((es.toList.map (·.2))[i]?).map λv=>(v,t.place.getD 0 0+1)) s):wpAny (model prog w) A (setNext a sl i ep) Q E s:=by
 unfold setNext;refine HL (JE ho hd hf ?_);dsimp only;have ask1:∀ {Q:IF->HQ->Prop},Q false s->wpAny (model prog w) A setsByText Q E s:=λ{Q} hq=>by
  unfold setsByText;refine HL (KZ (HR ?_));show Q (eF w) s;rw[hb]; exact hq
 refine HL (ask1 ?_);rw[IK IA];refine La (λhc=>absurd hc (by show ¬ ((!t.plain&&decide (es.size > 1))=true); simp; omega)) (λ_=>?_)
 refine HL ?_;show wpAny _ _ (if (!t.led && !es.isEmpty)=true then unsupported "set:maker-not-led" else pure ()) _ _ s
 rw[IK (by simp[hl])]
 refine HR (HR ?_);obtain⟨es⟩:=es;obtain⟨mk,pl,dm,fg,ld,mv,pn⟩:=t;obtain⟨pl⟩:=pl;simp only[P0,HV,beq_iff_eq]at hf
 match es,pl,hf.1,h1 with
 | [],[],_,_=>
  have:i=0:=by rcases hi with z|z <;> simpa using z.1
  subst this;exact h
 | [e],[j],_,_=>
  rcases hi with⟨rfl,rfl⟩|⟨rfl,rfl⟩
  ·exact h
  ·have e1:KY [j].toArray (j+1)=1:=by
    show OH [j].toArray (j+1) 1 0 1=1;simp[OH]
   have e2:(({ mask:=mk,place:=[j].toArray,dummies:=dm,finger:=fg,led:=ld,moves:=mv,plain:=pn }:Jx).place.getD 0 0)=j:=rfl;show Q (match ([e].toArray:ID (Ik×HM))[KY [j].toArray (j+1)]?,([j].toArray:ID HW)[KY [j].toArray (j+1)]? with|some (_,x),ba j=>ba (x,j+1)|_,_=>K3) s
   rw[e1];exact h
 | e::e'::es,_,_,z=>simp at z
 | [],_::_,z,_=>simp at z
 | [_],[],z,_=>simp at z
 | [_],_::_::_,z,_=>simp at z
theorem kg {E:HM->HQ->Prop}{Q:HU (HM×HW)->HQ->Prop}(ho:s.heap.get? a=ba o)(hd:o.data=.set es ep t)(hf:t.fits es.size=true)(hb:eF w=false)(hl:t.led=true)(hp:t.plain=true)(hw:KY t.place sl=i)
  (h:Q (((es.toList.map (·.2))[i]?).map λv=>(v,t.place.getD i 0+1)) s):wpAny (model prog w) A (setNext a sl i ep) Q E s:=by
 unfold setNext;refine HL (JE ho hd hf ?_);dsimp only;have ask1:∀ {Q:IF->HQ->Prop},Q false s->wpAny (model prog w) A setsByText Q E s:=λ{Q} hq=>by
  unfold setsByText;refine HL (KZ (HR ?_));show Q (eF w) s;rw[hb]; exact hq
 refine HL (ask1 ?_);rw[IK IA];refine La (λhc=>absurd hc (by show ¬ ((!t.plain&&decide (es.size > 1))=true); simp[hp])) (λ_=>?_)
 refine HL ?_;show wpAny _ _ (if (!t.led && !es.isEmpty)=true then unsupported "set:maker-not-led" else pure ()) _ _ s
 rw[IK (by simp[hl])]
 refine HR (HR ?_);rw[hw];have hz:t.place.size=es.size:=by
  simp only[P0,HV,beq_iff_eq]at hf;exact hf.1
 rw[HY,JB]at h
 by_cases hi:i < es.size
 ·have e1:es[i]?=ba es[i]:=by simp[hi]
  have e2:t.place[i]?=ba (t.place.getD i 0):=by simp[LI,hz,hi]
  rw[e1]at h ⊢;rw[e2];exact h
 ·have e1:es[i]?=K3:=by simp; omega
  rw[e1]at h ⊢;exact h
end
end
theorem uh:entryFor table "set_iterator.__iter__" = ba Le.«dict_keyiterator.__iter__»:=PC (id':="dict_keyiterator.__iter__") (by kernel_rfl) rfl (by decide +kernel) (by kernel_rfl)
theorem vZ (a:HM):argsOk "set_iterator.__iter__" #[[a],[]]:=by unfold argsOk; kernel_rfl
section
variable{prog:IM}{w:IU}{A:IQ}{E:HM->HQ->Prop}{s:HQ}{I a tp:HX}{f r:HM}{i n ep sl:HW}{o:JR}{es:ID (Ik×HM)}{t:Jx}
theorem hG {Q:HM->HQ->Prop}(x:SIt I f r i n ep s.heap)(h:Q (.ref I) s):wpAny (model prog w) A (pyIter (.ref I)) Q E s:=by
 refine MQ x.type o5 (Jr o5 x.type uh ?_ (vZ _));show wpAny _ _ (ret (.ref I)) _ _ s;exact HR #[_,rfl,"set_iterator",_,x.type,fD.lookup,h]
theorem pb {b x y:HX}(h:b∉[x]):b≠x:=λz=>h (by simp[z])
theorem qZ (hh:A.handled=K3)(hne:a≠I)(hd:o.data=.set es ep t)(hf:t.fits es.size=true)(hb:eF w=true) :
  O9 prog w A I [I,a] [I] es.size (λi v=>((pickOrder (w.params.setOrder a ep) es).toList.map (·.2))[i]?=ba v) (λi h=>SIt I (.int 0 0) (.ref a) i es.size ep h/\h.get? a=ba o) where
 sub:=λb hb=>by simp at hb; simp[hb]
 frame:=λ_ _ _ st hk=>#[hk I (by simp) _ st.1,hk a (by simp) _ st.2]
 item:=λi s Q E hi st hQ=>by
  have hl:((pickOrder (w.params.setOrder a ep) es).toList.map (·.2)).length=es.size:=by rw[HN,fR.length_eq,Il]
  refine fT (sl:=0) st.1 st.2 hd hf rfl hh (λQ' hq=>mo st.2 hd hf hb hq) (λv sl' e h' x' k=>?_) λe h' k=>?_
  ·obtain⟨v',q,e⟩:=HS.mp e;cases e;exact hQ v h' s.toks q #[x',k a _ hne st.2] λb o hb e=>k b o (pb (y:=b) hb) e
  ·rw[LS,Jw]at e;omega
 done:=λs Q E st hQ=>by
  have hl:((pickOrder (w.params.setOrder a ep) es).toList.map (·.2)).length=es.size:=by rw[HN,fR.length_eq,Il]
  refine fT (sl:=0) st.1 st.2 hd hf rfl hh (λQ' hq=>mo st.2 hd hf hb hq) (λv sl' e h' x' k=>?_) λe h' k=>hQ h' s.toks λb o hb e=>k b o (pb (y:=b) hb) e
  obtain⟨v',q,e⟩:=HS.mp e;have:=(HZ.mp q).1;omega
 self:=λ_ _ _ _ st hQ=>hG st.1 hQ
theorem uj (hh:A.handled=K3)(hne:a≠I)(hd:o.data=.set es ep t)(hf:t.fits es.size=true)(hb:eF w=false)(hl:t.led=true)(h1:es.size<=1) :
  O9 prog w A I [I,a] [I] es.size (λi v=>(es.toList.map (·.2))[i]?=ba v) (λi h=>SIt I (.int ((if i=0 then 0 else t.place.getD 0 0+1:HW):Ik) 0) (.ref a) i es.size ep h/\h.get? a=ba o) where
 sub:=λb hb=>by simp at hb; simp[hb]
 frame:=λ_ _ _ st hk=>#[hk I (by simp) _ st.1,hk a (by simp) _ st.2]
 item:=λi s Q E hi st hQ=>by
  have i0:i=0:=∅
  subst i0;refine fT st.1 st.2 hd hf rfl hh (λQ' hq=>o9 st.2 hd hf hb hl h1 (.inl #[rfl,rfl]) hq) (λv sl' e h' x' k=>?_) λe h' k=>?_
  ·obtain⟨v',q,e⟩:=HS.mp e;cases e;exact hQ v h' s.toks q #[x',k a _ hne st.2] λb o hb e=>k b o (pb (y:=b) hb) e
  ·rw[LS,Jw,HN,Il]at e;omega
 done:=λs Q E st hQ=>by
  refine fT st.1 st.2 hd hf rfl hh (λQ' hq=>o9 st.2 hd hf hb hl h1 ?_ hq) (λv sl' e h' x' k=>?_) λe h' k=>hQ h' s.toks λb o hb e=>k b o (pb (y:=b) hb) e
  ·by_cases h0:es.size=0
   ·exact .inl #[h0,by rw[Ix h0]]
   ·exact .inr #[rfl,by rw[IK h0]]
  ·obtain⟨v',q,e⟩:=HS.mp e;have:=(HZ.mp q).1;rw[HN,Il]at this;omega
 self:=λ_ _ _ _ st hQ=>hG st.1 hQ
theorem pc (hh:A.handled=K3)(hne:a≠I)(hd:o.data=.set es ep t)(hf:t.fits es.size=true)(hb:eF w=false)(hl:t.led=true)(hp:t.plain=true)(hw:eO t es.size=true) :
  O9 prog w A I [I,a] [I] es.size (λi v=>(es.toList.map (·.2))[i]?=ba v) (λi h=>SIt I (.int ((if i=0 then 0 else t.place.getD (i - 1) 0+1:HW):Ik) 0) (.ref a) i es.size ep h/\h.get? a=ba o):=by
 have go:∀i,i<=es.size->KY t.place (if i=0 then 0 else t.place.getD (i - 1) 0+1)=i:=λi hi=>by
  simp only[eO,HV,Iw,IC,Ji]at hw
  by_cases h0:i=0
  ·rw[Ix h0,h0]; exact hw.1
  ·rw[IK h0,hw.2 (i - 1) ∅]; omega
 exact {
  sub:=λb hb=>by simp at hb; simp[hb]
  frame:=λ_ _ _ st hk=>#[hk I (by simp) _ st.1,hk a (by simp) _ st.2]
  item:=λi s Q E hi st hQ=>by
   refine fT st.1 st.2 hd hf rfl hh (λQ' hq=>kg st.2 hd hf hb hl hp (go i ∅) hq) (λv sl' e h' x' k=>?_) λe h' k=>?_
   ·obtain⟨v',q,e⟩:=HS.mp e;cases e;exact hQ v h' s.toks q #[by rw[IK (O0 i)]; exact x',k a _ hne st.2] λb o hb e=>k b o (pb (y:=b) hb) e
   ·rw[LS,Jw,HN,Il]at e;omega
  done:=λs Q E st hQ=>by
   refine fT st.1 st.2 hd hf rfl hh (λQ' hq=>kg st.2 hd hf hb hl hp (go _ (Ih _)) hq) (λv sl' e h' x' k=>?_) λe h' k=>hQ h' s.toks λb o hb e=>k b o (pb (y:=b) hb) e
   obtain⟨v',q,e⟩:=HS.mp e;have:=(HZ.mp q).1;rw[HN,Il]at this;omega
  self:=λ_ _ _ _ st hQ=>hG st.1 hQ }
theorem pd {ps:HK HW}(hh:A.handled=K3)(hne:a≠I)(hnt:tp≠I)(hd:o.data=.set es ep t)(hf:t.fits es.size=true)(hp:ps.Perm (IN es.size)) :
  O9 prog w A I [I,a,tp] [I] es.size (λi v=>(ps.map λp=>(es.getD p (0,.none)).2)[i]?=ba v) (λi h=>SIt I (.ref tp) (.ref a) i es.size ep h/\h.get? a=ba o/\h.get? tp=ba { cls:=.type "tuple",data:=.seq (ps.map λk=>rawInt (k:HW)).toArray 0 }) where
 sub:=λb hb=>by simp at hb; simp[hb]
 frame:=λ_ _ _ st hk=>#[hk I (by simp) _ st.1,hk a (by simp) _ st.2.1,hk tp (by simp) _ st.2.2]
 item:=λi s Q E hi st hQ=>by
  have lt:∀ {p},ps[i]?=ba p->p < es.size:=λq=>Ji.mp (hp.mem_iff.mp (Ip q))
  refine mn st.1 st.2.1 hd hf rfl hh st.2.2 (λp e q qe h' x' k=>?_) (λp q=>#[es[p]'(lt q),by simp[lt q]]) λe h' k=>?_
  ·refine hQ e.2 h' s.toks ?_ #[x',k a _ hne st.2.1,k tp _ hnt st.2.2] λb o hb e=>k b o (pb (y:=b) hb) e
   rw[HY,q];simp[LI,lt q];rw[Kg (lt q)]at qe;cases qe; rfl
  ·rw[Jw,hp.length_eq,Jb]at e;omega
 done:=λs Q E st hQ=>by
  refine mn st.1 st.2.1 hd hf rfl hh st.2.2 (λp e q qe h' x' k=>?_) (λp q=>?_) λe h' k=>hQ h' s.toks λb o hb e=>k b o (pb (y:=b) hb) e
  ·have:=(HZ.mp q).1;rw[hp.length_eq,Jb]at this;omega
  ·have:=(HZ.mp q).1;rw[hp.length_eq,Jb]at this;omega
 self:=λ_ _ _ _ st hQ=>hG st.1 hQ
end
section
variable{prog:IM}{w:IU}{A:IQ}{E:HM->HQ->Prop}{s:HQ}{a:HX}{o:JR}{xs:HK Iv}{es:ID (Ik×HM)}{ep:HW}{t:Jx}
structure SetWalk (prog:IM)(w:IU)(A:IQ)(s:HQ)(a:HX)(es:ID (Ik×HM))(I:HX)(h':Jc):Prop where
 ex:∃(fp:HK HX) (St:HW->Jc->Prop) (us:HK HM) (n:HW),us.Perm (es.toList.map (·.2))/\us.length=n/\O9 prog w A I fp [I] n (λi v=>us[i]?=ba v) St/\St 0 h'/\∀b∈fp,b=a\/s.heap.objs.size<=b/\b < h'.objs.size
 new:s.heap.objs.size<=I
 keep:∀b u,s.heap.get? b=ba u->h'.get? b=ba u
theorem v8 {Q:HM->HQ->Prop}(hh:A.handled=K3)(ho:s.heap.get? a=ba o)(hex:o.ExactSet)(hd:o.data=.set es ep t)(hz:es.size<=sizeLine)(fit:t.fits es.size=true)(led:t.led = !eF w)(pl:t.plain=true->es.size=0\/eO t es.size=true)(h:∀I h' dr,SetWalk prog w A s a es I h'->Q (.ref I) { s with heap:=h',drawn:=dr }):wpAny (model prog w) A (pyIter (.ref a)) Q E s:=by
 have hT:s.TypeIs (.ref a) "set":=#[o,ho,hex.1];have ha:a < s.heap.objs.size:=Io ho;refine MQ hT F.slot_set_iter (Jr F.slot_set_iter hT qY ?_ (F.args_set_iter_1 _));unfold Le.«frozenset.__iter__»;refine HL (HL (HR ?_));show wpAny _ _ (pure a) _ _ s;refine HR ?_;unfold P1 setDrawn;refine HL (HL (Ml ho hd fit (HR ?_)));refine HL (HL (JE ho hd fit ?_));dsimp only;unfold setsByText;refine HL (HL (KZ (HR (HR ?_))));have oI:∀(f:HM) (h0:Jc),(h0.push { cls:=.type "set_iterator",data:=.fields [f,rawInt 0,.ref a,rawInt es.size,rawInt ep].toArray }).get? h0.objs.size=ba { cls:=.type "set_iterator",data:=.fields [f,rawInt 0,.ref a,rawInt es.size,rawInt ep].toArray }:=λf h0=>Ij _ rfl
 refine La (λhc=>?_) (λhc=>?_)
 ·refine HL (ke es.size _ Jb λps dr hp=>?_)
  refine HL (NM ?_ (by rw[HN,hp.length_eq,Jb]; exact hz))
  have o1:=HP (seqObj "tuple" (ps.map λk=>rawInt (k:HW)).toArray 0) ho
  refine HL (OI o1 hd fit ?_);refine HL (IV (HR #[_,rfl,"set_iterator",_,#[_,oI _ _,rfl],fD.lookup,?_]));have z1:(s.heap.push (seqObj "tuple" (ps.map λk=>rawInt (k:HW)).toArray 0)).objs.size=s.heap.objs.size+1:=K1 ..
  have W:=pd (prog:=prog) (w:=w) (A:=A) (a:=a) (I:=(s.heap.push (seqObj "tuple" (ps.map λk=>rawInt (k:HW)).toArray 0)).objs.size) (tp:=s.heap.objs.size) (ps:=ps) hh (by rw[z1]; exact Iy (KO ha)) (by rw[z1]; exact Iy (J6 _)) hd fit hp
  have eL:(ps.map λp=>(es.getD p (0,Ja)).2).length=es.size:=by rw[HN,hp.length_eq,Jb]
  refine h _ _ dr #[#[_,_,ps.map λp=>(es.getD p (0,Ja)).2,_,?_,eL,W,#[oI _ _,HP _ o1,HP _ (Ij _ rfl)],λb hb=>?_],by rw[z1]; exact KN _,λb u e=>HP _ (HP _ e)]
  ·refine(hp.map _).trans ?_;have e:((IN es.size).map λp=>(es.getD p (0,Ja)).2)=es.toList.map λe=>e.2:=by
    apply K2
    ·simp
    ·intro k h1 h2;simp only[HN,Jb]at h1;simp[LI,h1]
   rw[e]
  ·rw[K1,z1];simp only[IE,Js,KP]at hb;rcases hb with rfl|rfl|rfl
   ·exact .inr #[by rw[z1]; exact KN _,by rw[z1]; exact J6 _]
   ·exact .inl rfl
   ·exact .inr #[Ih _,KO (J6 _)]
 ·refine HL (HR (HL (OI ho hd fit ?_)));refine HL (IV (HR #[_,rfl,"set_iterator",_,#[_,oI _ _,rfl],fD.lookup,?_]));have near:∀b∈[s.heap.objs.size,a],b=a\/s.heap.objs.size<=b/\b < (s.heap.push { cls:=.type "set_iterator",data:=.fields [rawInt 0,rawInt 0,.ref a,rawInt es.size,rawInt ep].toArray }).objs.size:=λb hb=>by
   rw[K1];simp only[IE,Js,KP]at hb;rcases hb with rfl|rfl
   ·exact .inr #[Ih _,J6 _]
   ·exact .inl rfl
  cases hb:eF w with
  | true=>
   have W:=qZ (prog:=prog) (A:=A) (I:=s.heap.objs.size) hh (Iy ha) hd fit hb;have eL:((pickOrder (w.params.setOrder a ep) es).toList.map (·.2)).length=es.size:=by rw[HN,fR.length_eq,Il]
   refine h _ _ s.drawn #[#[[s.heap.objs.size,a],_,(pickOrder (w.params.setOrder a ep) es).toList.map (·.2),_,fR.map _,eL,W,#[oI _ _,HP _ ho],near],Ih _,λb u e=>HP _ e]
  | false=>
   have hl:t.led=true:=by rw[led,hb]; rfl
   have eL:(es.toList.map (·.2)).length=es.size:=by rw[HN,Il]
   by_cases hpw:t.plain=true/\eO t es.size=true
   ·have W:=pc (prog:=prog) (A:=A) (I:=s.heap.objs.size) hh (Iy ha) hd fit hb hl hpw.1 hpw.2;refine h _ _ s.drawn #[#[[s.heap.objs.size,a],_,es.toList.map (·.2),_,.refl _,eL,W,#[oI _ _,HP _ ho],near],Ih _,λb u e=>HP _ e]
   have h1:es.size<=1:=by
    cases hp:t.plain with
    | true=>
     rcases pl hp with z|z
     ·rw[z]; exact JW _
     ·exact absurd #[hp,z] hpw
    | false=>
     refine OZ λz=>hc ?_
     show((!eF w)&&((!t.plain)&&decide (es.size > 1)))=true;rw[hb,hp]
     simpa using z
   have W:=uj (prog:=prog) (A:=A) (I:=s.heap.objs.size) hh (Iy ha) hd fit hb hl h1;refine h _ _ s.drawn #[#[[s.heap.objs.size,a],_,es.toList.map (·.2),_,.refl _,eL,W,#[oI _ _,HP _ ho],near],Ih _,λb u e=>HP _ e]
theorem wa {Q:IF->HQ->Prop}(hT:s.TypeIs (.ref a) "set")(h:Q false s):wpAny (model prog w) A (Mp (.ref a)) Q E s:=by
 unfold Mp;refine HL (Nu hT F.slot_set_len.lookup ?_);generalize hid:("set.__len__" : JJ)=k0
 wp_delta
 rw[show splitId k0=ba ("set","__len__")from by subst hid; decide +kernel]
 subst hid;refine HL (Lu (T:="set") (b:=true) hT Og ?_);refine La (λz=>absurd z #v[]) (λ_=>La (λ_=>?_) (λz=>absurd (by decide +kernel) z))
 exact HL (K7 hT (HR h))
theorem pe {Q:HK HM->HQ->Prop}(hh:A.handled=K3)(ho:s.heap.get? a=ba o)(hex:o.ExactSet)(hd:o.data=.set es ep t)(hz:es.size<=sizeLine)(fit:t.fits es.size=true)(led:t.led = !eF w)(pl:t.plain=true->es.size=0\/eO t es.size=true)
  (hQ:∀h' tk dr us,(∀b u,s.heap.get? b=ba u->h'.get? b=ba u)->s.heap.objs.size<=h'.objs.size->us.Perm (es.toList.map (·.2))->Q us { s with heap:=h',toks:=tk,drawn:=dr }):wpAny (model prog w) A (collect (.ref a)) Q E s:=by
 have ha:a < s.heap.objs.size:=Io ho;unfold collect;refine HL (LU (Ju F.entry_proto_collect ?_));rw[Jk F.plain_proto_collect _];show wpAny _ A.in1 (newList [] >>= λl=>again (.builtin "list.__iadd__" #[[l,.ref a],[]])) _ _ s
 refine HL (IV ?_);have oL:(s.heap.push { cls:=.type "list",data:=.seq ([]:HK HM).toArray }).get? s.heap.objs.size=ba { cls:=.type "list",data:=.seq #[] 0 }:=Ij _ rfl;have o1:=HP { cls:=.type "list",data:=.seq ([]:HK HM).toArray } ho;have z1:(s.heap.push { cls:=.type "list",data:=.seq ([]:HK HM).toArray }).objs.size=s.heap.objs.size+1:=K1 ..;refine HR #[Kc F.plain_list_iadd _,Ju F.entry_list_iadd ?_];rw[Jk F.plain_list_iadd _];show wpAny _ A.in1 (JO (.ref s.heap.objs.size) (.ref a) (.ref s.heap.objs.size)) _ _ _;unfold JO;refine HL (K7 (T:="set") #[o,o1,hex.1] ?_);have n1:MY (.ref s.heap.objs.size) (.ref a)=false:=by
  have:s.heap.objs.size≠a:=Kj ha;simp[MY,this]
 have n2:(JS "set" == JS "list")=false:=by decide
 have n3:(JS "set" == JS "tuple")=false:=by decide
 simp only[n1,n2,n3,N8,IB,JA];refine HL (v8 (A:=A.in1) (by simp[hh]) o1 hex hd hz fit led pl λI h' dr W=>?_)
 obtain⟨⟨fp,St,us,n,hP,hn,W,st,hfp⟩,hI,kp⟩:=W;rw[z1]at hI;have oa:=kp a o o1;refine HL (Jm (wa #[o,oa,hex.1] ?_));have oL1:=kp _ _ oL;have hD:s.heap.objs.size∉fp:=λz=>by
  rcases hfp _ z with e|⟨e,_⟩
  ·exact Kj ha e
  ·rw[z1]at e; exact Nat.not_succ_le_self _ e
 refine La (λ_=>?_) (λz=>absurd (by decide +kernel) z)
 refine HL (Nc (HL ?_));show wpAny _ _ (updateSeq s.heap.objs.size (·.push .none) >>= λ_=>updateSeq s.heap.objs.size (·.pop)) _ _ _
 refine HL (LG oL1 rfl ?_);have oL2:=JN (JK (·.push Ja)) oL1 rfl
 refine LG (hz:=by seq_fits) oL2 rfl ?_
 have oL3:=JN (JK (·.pop)) oL2 rfl
 have hnl:n<=sizeLine:=by rw[<- hn,hP.length_eq,HN,Il]; exact hz
 refine HR #[Kc PySem.F.plain_extend_loop _,codeAny_extend_loopS W.toS hnl s.heap.objs.size hD (.ref s.heap.objs.size) n 0 _ #[] _ rfl (JW _) (W.frame 0 _ _ st λb hb u e=>?_) oL3 (ItemsOf.nil _) λs' acc c' mv oS hacc=>?_]
 ·have hb':b≠s.heap.objs.size:=λz=>hD (z ▸ hb)
  exact(IX _ _ (Ne.symm hb')).trans ((IX _ _ (Ne.symm hb')).trans e)
 ·rw[P2 mv];show wpAny (model prog w) A (do
    let o <- load s.heap.objs.size
    match o.data with
    | .seq xs _=>pure xs.toList
    | _=>unsupported "internal:collect") Q E _
  refine HL (Nd oS (HR ?_));have eU:acc.toList=us:=by
   apply MR;intro i
   by_cases hi:i < n
   ·have h1:i < acc.size:=by rw[hacc.1]; exact hi
    have:=hacc.2 i acc[i] (by simp[h1])
    rw[this,JB]; simp[h1]
   ·rw[Lc (by rw[Il,hacc.1]; omega),Lc ∅]
  rw[eU];refine hQ _ _ dr us (λb u e=>?_) (Lp (Io oS)) hP
  have hb:=Io e;have hb':b≠s.heap.objs.size:=Iy hb;refine mv.heap b u (λz=>?_) ((IX _ _ (Ne.symm hb')).trans ((IX _ _ (Ne.symm hb')).trans (kp b u (HP _ e))))
  simp only[IE,Js,KP]at z;rcases z with z|z
  ·exact hb' z
  ·rw[z]at hb; exact JM _ (IG (KO hb) hI)
end
noncomputable def uk (S:aa)(i:HW):HU (Ik×Ik):=match S[i]? with
 | some (.rng lo hi)=>ba (lo,hi)
 | _=>K3
noncomputable def kh (xs:HK W)(S:aa):HU (W×aa):=match xs with
 | [.int j]=>if -(2 ^ 62)<=j/\j < 2 ^ 62 then ba (.ref S.length,S++[.rng 0 j])else K3
 | _=>K3
noncomputable def zM (lo:Ik)(n:HW):HK W:=(IN n).map λ(k:HW)=>.int (lo+(k:Ik))
noncomputable def jm (xs:HK W)(S:aa):HU (W×aa):=match xs with
 | [.ref i]=>match uk S i with
  | some (lo,hi)=>if -(2 ^ 62)<=lo/\lo < 2 ^ 62/\-(2 ^ 62)<=hi/\hi < 2 ^ 62/\(hi - lo).toNat<=sizeLine then ba (.ref S.length,S++[.lst (zM lo (hi - lo).toNat)])else K3
  | none=>g7 [.ref i] S
 | xs=>g7 xs S
section
variable{X:Cx}{pins:HK (HX×JR)}{σ:L2.St}{H:Hp}{s:HQ}{A:HK HX}{S:aa}
theorem Inv.drawn (I:Inv X pins σ H s)(d:Ra):Inv X pins σ H { s with drawn:=d }:=#[I.ok,I.os,I.bare,I.base,I.loc,I.cell,I.free,I.freeC,I.pin,I.hok,I.len]
theorem hW {h':Jc}{tk:HW}{dr:Ra}{D:HX}{n:O}{u:HO}(I:Inv X pins σ H s)(so:StoreOk X.w X.K A H S)(hk:∀b o,s.heap.get? b=ba o->h'.get? b=ba o)(hD:s.heap.objs.size<=D)(new:ObjOk X.prog X.w (bP H D u) h' D u)
  (r:H D=K3->ObjRel X.w X.K (A++[D]) (bP H D u) D n):dB X pins σ A H (S++[n]) (.ref S.length) (.ref D) { s with heap:=h',toks:=tk,drawn:=dr }:=by
 have hn:H D=K3:=I.hok.fresh hD;refine#[.ref D,_,A++[D],Mi.Inv.drawn (I.laid (a:=D) (o:=u) (t':=tk) hk hD new) dr,rfl,cJ hn,so.pushO hn (r hn),.ref ?_];rw[<- so.len]; simp
theorem nE:∀ {vs:HK V} {us:HK HM},vs.length=us.length->(∀(i:HW) v u,vs[i]?=ba v->us[i]?=ba u->L2.RelV v u)->Vals vs us
 | [],[],_,_=>.nil
 | v::vs,u::us,hl,h=>.cons (h 0 v u rfl rfl) (nE (by simpa using hl) λi v u a b=>h (i+1) v u (by simpa using a) (by simpa using b))
 | [],_::_,hl,_=>by cases hl
 | _::_,[],hl,_=>by cases hl
theorem nF {K:Ig}{lo:Ik}:∀(l:HK HW),RelL K A H (l.map λ(k:HW)=>W.int (lo+(k:Ik))) (l.map λ(k:HW)=>V.int (lo+(k:Ik)))
 | []=>.nil
 | _::l=>.cons .int (nF l)
theorem jQ {xs:HK W}{vs:HK V}{us:HK HM}{i:HW}(rl:RelL X.K A H [.ref i] vs)(rv:Vals vs us):∃a,A[i]?=ba a/\us=[.ref a]:=by
 cases rl with
 | cons r t=>
  cases t;cases r with
  | @ref _ a ea=>
   cases rv with
   | cons ru rv=>
    cases rv;obtain rfl:_=IR a:=ru;exact#[a,ea,rfl]
theorem pf:LCall X (.type "range") kh:=by
 intro pins s σ H A S xs vs us w S' I so rl rv e;unfold kh at e;split at e
 ·rename_i j;split at e
  ·rename_i hb;cases e;cases rl with
   | cons r t=>
    cases t;cases r;cases rv with
    | cons ru rv=>
     cases rv;obtain⟨tk,rfl⟩:=ru;exact Qe (hW (dr:=s.drawn) (u:=.rng 0 j) I so (λb o e=>HP _ e) (Ih _) #[_,_,_,Ij _ rfl] λ_=>bf)
  ·cases e
 ·cases e
theorem pg (hh:X.A.handled=K3):LCall X (.type "list") jm:=by
 intro pins s σ H A S xs vs us w S' I so rl rv e;unfold jm at e;split at e
 ·rename_i i;split at e
  ·rename_i lo hi hr;split at e
   ·rename_i hb;cases e;obtain⟨a,ea,rfl⟩:=jQ (xs:=[]) rl rv;obtain⟨b1,b2,b3,b4,b5⟩:=hb;have hH:H a=ba (.rng lo hi):=by
     unfold uk at hr;split at hr
     ·rename_i hx; cases hr; exact so.obj i _ a hx ea
     ·cases hr
    obtain⟨t,u,v,ho⟩:=I.hok a _ hH;have hn:J4 lo hi 1=((hi - lo).toNat:HW):=by rw[N6]; split <;> omega
    refine call_list_range hh ho (Qa b1 b2 b3 b4) hn b5 λh' tk acc c hk hD hacc=>?_
    have hv:Vals ((IN (hi - lo).toNat).map λ(k:HW)=>V.int (lo+(k:Ik))) acc.toList:=by
     refine nE (by rw[HN,Jb,Il,hacc.1]) λi v u e1 e2=>?_
     rw[HY,HS]at e1;obtain⟨k,e1,rfl⟩:=e1;obtain⟨hk,rfl⟩:=HZ.mp e1;obtain⟨t,rfl⟩:=hacc.2 i u (by rw[<- JB]; exact e2)
     exact#[t,by simp]
    refine hW (dr:=s.drawn) (u:=.lst ((IN (hi - lo).toNat).map λ(k:HW)=>V.int (lo+(k:Ik)))) I so hk (Ih _) #[by simpa using b5,acc.toList,c,hv,by simpa using hD] λhn=>#[_,bf,?_]
    exact nF _
   ·cases e
  ·exact gI pins s σ H A S _ vs us w S' I so rl rv e
 ·exact gI pins s σ H A S _ vs us w S' I so rl rv e
end
mutual
inductive IsT (h:Jc):T->HM->Prop
 | int {i:Ik} {t:Rl}:IsT h (.int i) (.int i t)
 | str {x:Iv} {t:Rl}:IsT h (.str x) (.str x t)
 | tup {ks:HK T} {a:HX} {o:JR} {items:ID HM} {n:HW}:h.get? a=ba o->o.cls=.type "tuple"->o.data=.seq items n->IsTs h ks items.toList->IsT h (.tup ks) (.ref a)
inductive IsTs (h:Jc):HK T->HK HM->Prop
 | nil:IsTs h [] []
 | cons {k:T} {v:HM} {ks:HK T} {vs:HK HM}:IsT h k v->IsTs h ks vs->IsTs h (k::ks) (v::vs)
end
mutual
theorem IsT.inj {h:Jc}:∀ {x y:T} {v:HM},IsT h x v->IsT h y v->x=y
 | _,_,_,.int,h2=>by cases h2; rfl
 | _,_,_,.str,h2=>by cases h2; rfl
 | _,_,_,.tup a1 _ d1 t1,h2=>by
  cases h2 with
  | tup a2 _ d2 t2=>
   rw[a1]at a2; cases a2
   rw[d1]at d2; cases d2
   rw[IsTs.inj t1 t2]
theorem IsTs.inj {h:Jc}:∀ {x y:HK T} {v:HK HM},IsTs h x v->IsTs h y v->x=y
 | _,_,_,.nil,h2=>by cases h2; rfl
 | _,_,_,.cons a b,h2=>by
  cases h2 with
  | cons c d=>rw[IsT.inj a c,IsTs.inj b d]
end
mutual
theorem IsT.keeps {h h':Jc}{d:HX}{o:JR}{es:ID Ku}{ep:HW}(ho:h.get? d=ba o)(hd:o.data=.dict es ep)(hs:JZ d h h'):∀ {x:T} {v:HM},IsT h x v->IsT h' x v
 | _,_,.int=>.int
 | _,_,.str=>.str
 | _,_,.tup (a:=a) a1 c1 d1 t1=>by
  have hne:a≠d:=by
   rintro rfl;rw[a1]at ho; cases ho
   rw[d1]at hd; cases hd
  exact .tup ((hs.2 a hne).trans a1) c1 d1 (IsTs.keeps ho hd hs t1)
theorem IsTs.keeps {h h':Jc}{d:HX}{o:JR}{es:ID Ku}{ep:HW}(ho:h.get? d=ba o)(hd:o.data=.dict es ep)(hs:JZ d h h'):∀ {x:HK T} {v:HK HM},IsTs h x v->IsTs h' x v
 | _,_,.nil=>.nil
 | _,_,.cons a b=>.cons (IsT.keeps ho hd hs a) (IsTs.keeps ho hd hs b)
end
theorem IsTs.length {h:Jc}:∀ {x:HK T} {v:HK HM},IsTs h x v->x.length=v.length
 | _,_,.nil=>rfl
 | _,_,.cons _ b=>by simp[IsTs.length b]
theorem IsTs.get {h:Jc}:∀ {x:HK T} {v:HK HM},IsTs h x v->∀(j:HW) (h1:j < x.length) (h2:j < v.length),IsT h x[j] v[j]
 | _,_,.cons a _,0,_,_=>a
 | _,_,.cons _ b,j+1,h1,h2=>IsTs.get b j (by simpa using h1) (by simpa using h2)
theorem cm:∀ {ks:HK T} (j:HW) (h:j < ks.length),(ks[j]).depth<=T.depths ks
 | k::ks,0,_=>by simp only[T.depths,List.getElem_cons_zero]; omega
 | k::ks,j+1,h=>by
  have:=cm (ks:=ks) j (by simpa using h)
  simp only[T.depths,List.getElem_cons_succ]; omega
section
variable{prog:IM}{w:IU}{E:HM->HQ->Prop}
mutual
theorem ph:∀(k:T) (v:HM) (A:IQ) (s:HQ) (Q:Ik->HQ->Prop),IsT s.heap k v->A.units+k.depth < cLine->Q (ee w k) { s with toks:=s.toks+k.draws }->wpAny (model prog w) A (pyHash v) Q E s
 | .int i,_,A,s,Q,x,_,h=>by cases x; exact OR h
 | .str y,_,A,s,Q,x,_,h=>by cases x; exact OS h
 | .tup ks,_,A,s,Q,x,hu,h=>by
  cases x with
  | @tup _ a o items n hg hc hd hw=>
   simp only[T.depth]at hu;refine PySem.W.pyHash_slot (T:="tuple") #[_,hg,hc] F.slot_tuple_hash F.entry_tuple_hash (F.args_tuple_hash_1 _) (beq_builtin_none _) (.inr ∅) ?_
   show wpAny _ _ (Lj (.ref a) >>= _) _ _ s;refine HL (wpAny_tupleItemsOf hg hd ?_);refine HL ?_;rw[<- LJ];refine ki ks items.toList A.in1 s #[] _ hw (by rw[be]; omega) λb hb=>?_
   show wpAny _ _ (retInt (Lw b.toList)) _ _ _;rw[hb];refine HL (Pa (HR #[_,_,rfl,?_]))
   simpa [T.draws,P3,ee]using h
theorem ki:∀(ks:HK T) (vs:HK HM) (A:IQ) (s:HQ) (b:ID Ik) (Q:ID Ik->HQ->Prop),IsTs s.heap ks vs->A.units+T.depths ks < cLine->
  (∀b',b'.toList=b.toList++gG w ks->Q b' { s with toks:=s.toks+T.drawss ks })->
  wpAny (model prog w) A (forIn vs b λx r=>do let h <- pyHash x; pure Oi; pure (J1 (r.push h))) Q E s
 | [],_,A,s,b,Q,x,_,h=>by cases x; exact HR (h b (by simp[gG]))
 | k::ks,_,A,s,b,Q,x,hu,h=>by
  cases x with
  | cons x1 x2=>
   simp only[T.depths]at hu;rw[Nv];refine HL (HL (ph k _ A s _ x1 ∅ ?_))
   refine HL (HR (HR ?_));refine ki ks _ A _ _ Q x2 ∅ λb' hb=>?_
   have:=h b' (by simp[hb,gG])
   simpa [T.drawss,P3]using this
end
open SeqAt in
theorem wb:∀(d:HW) (x y:T) (u v:HM) (B:IQ) (s:HQ),x.depth<=d->IsT s.heap x u->IsT s.heap y v->B.units+d < cLine->B.units+y.depth < cLine->EqAt B s u v (decide (x=y))
 | d,.int i,y,_,_,B,s,_,h1,h2,hu,hv=>by
  cases h1;cases h2 with
  | int=>
   rename_i j t2;have:decide (T.int i=T.int j)=(i==j):=by by_cases e:i=j <;> simp[e]
   rw[this]; exact .int_int _ _ _ _
  | str=>rw[IP (by simp)]; exact .int_str _ _ _ _
  | tup a c dd t=>rw[IP (by simp)]; exact .int_tuple _ _ #[_,a,c,_,dd] (by simp only[T.depth]at hv; omega)
 | d,.str z,y,_,_,B,s,_,h1,h2,hu,hv=>by
  cases h1;cases h2 with
  | int=>rw[IP (by simp)]; exact .str_int _ _ _ _
  | str=>
   rename_i z2 t2;have:decide (T.str z=T.str z2)=(z==z2):=by by_cases e:z=z2 <;> simp[e]
   rw[this]; exact .str_str _ _ _ _
  | tup a c dd t=>rw[IP (by simp)]; exact .str_tuple _ _ #[_,a,c,_,dd] (by simp only[T.depth]at hv; omega)
 | 0,.tup ks,y,_,_,B,s,hd,h1,h2,hu,hv=>by simp[T.depth]at hd
 | d+1,.tup ks,y,_,_,B,s,hd,h1,h2,hu,hv=>by
  have h1':=h1;cases h1 with
  | @tup _ a o items n a1 c1 d1 t1=>
   have hT:s.heap.IsTuple a items:=#[_,a1,c1,_,d1];simp only[T.depth]at hd;cases h2 with
   | int=>rw[IP (by simp)]; exact .tuple_int _ _ hT ∅
   | str=>rw[IP (by simp)]; exact .tuple_str _ _ hT ∅
   | @tup ks2 b o2 items2 n2 a2 c2 d2 t2=>
    have hT2:s.heap.IsTuple b items2:=#[_,a2,c2,_,d2]
    by_cases hab:a=b
    ·subst hab;have:T.tup ks=T.tup ks2:=h1'.inj (.tup a2 c2 d2 t2);rw[JY this];exact EqAt.same _
    ·refine EqAt.of_refs hab ?_;simp only[T.depth]at hv;have l1:items.size=ks.length:=by rw[<- Il,t1.length]
     have l2:items2.size=ks2.length:=by rw[<- Il,t2.length]
     let e:HW->IF:=λj=>if h:j < ks.length/\j < ks2.length then decide (ks[j]'h.1=ks2[j]'h.2)else true
     have he:∀j (h1:j < items.size) (h2:j < items2.size),EqAt B.in1 s items[j] items2[j] (e j):=λj j1 j2=>by
      have g1:=t1.get j (l1 ▸ j1) (by simpa using j1)
      have g2:=t2.get j (l2 ▸ j2) (by simpa using j2)
      have q1:=cm (ks:=ks) j (l1 ▸ j1);have q2:=cm (ks:=ks2) j (l2 ▸ j2);have:=wb d _ _ _ _ B.in1 s ∅ g1 g2 (by rw[be]; omega) (by rw[be]; omega)
      show EqAt B.in1 s items[j] items2[j] (if h:j < ks.length/\j < ks2.length then decide (ks[j]'h.1=ks2[j]'h.2)else true)
      rw[QS #[l1 ▸ j1,l2 ▸ j2]]
      simpa using this
     have:=RcAt.tuples hT hT2 ∅ he
     have hk:((IN (min items.size items2.size)).all e&&items.size==items2.size)=decide (T.tup ks=T.tup ks2):=by
      rw[l1,l2]
      by_cases hl:ks.length=ks2.length
      ·by_cases hq:ks=ks2
       ·subst hq;simp only[Qh,Jj,LC,Pb,IC,Ji];intro j hj;show(if h:j < ks.length/\j < ks.length then decide (ks[j]'h.1=ks[j]'h.2)else true)=true
        rw[QS #[hj,hj]]; simp
       ·rw[IP (by simpa using hq)]
        have:∃j,∃h:j < ks.length,ks[j]≠ks2[j]'(hl ▸ h):=by
         apply MJ;intro hn;exact hq (K2 hl λj h1 h2=>MJ λz=>hn #[j,h1,z])
        obtain⟨j,hj,hne⟩:=this;rw[NC];left;rw[List.all_eq_false];refine#[j,by rw[Ji,<- hl,Qh]; exact hj,?_]
        show ¬ (if h:j < ks.length/\j < ks2.length then decide (ks[j]'h.1=ks2[j]'h.2)else true)=true
        rw[QS #[hj,hl ▸ hj]]
        simpa using hne
      ·rw[IP (by simp; intro z; exact hl (by rw[z])),NC]
       right
       simpa using hl
     rw[hk]at this;exact this
theorem mq {n:HW}{v:HM}(h:∀a,v≠.ref a):eqIsQuiet n v=pure true:=by
 cases v with
 | ref a=>exact absurd rfl (h a)
 | _=>first|rfl|simp[eqIsQuiet]|(unfold eqIsQuiet; rfl)
theorem jR:∀(d:HW) (k:T) (v:HM) (A:IQ) (s:HQ) (Q:IF->HQ->Prop),k.depth<=d->IsT s.heap k v->Q true s->wpAny (model prog w) A (eqIsQuiet d v) Q E s
 | d,.int i,_,A,s,Q,_,x,h=>by cases x; rw[mq (λa=>by simp)]; exact HR h
 | d,.str i,_,A,s,Q,_,x,h=>by cases x; rw[mq (λa=>by simp)]; exact HR h
 | 0,.tup ks,_,A,s,Q,hd,x,h=>by simp[T.depth]at hd
 | d+1,.tup ks,_,A,s,Q,hd,x,h=>by
  cases x with
  | @tup _ a o items n ho hc hdt hi=>
   simp only[T.depth]at hd;have hT:s.TypeIs (.ref a) "tuple":=#[_,ho,hc];unfold eqIsQuiet;refine HL (Nu hT F.slot_tuple_eq.lookup ?_);show wpAny _ _ (isInstance (.ref a) (.type "tuple") >>= _) _ _ s;refine HL (Lu hT isSubtype_tuple_tuple ?_);simp only[KS,IB,JA];refine HL (Ko ho hdt ?_);refine HL ?_;show wpAny _ _ (forIn items _ _) _ _ s;rw[<- LJ];refine Ls _ (λbK r s'=>r.1=K3/\s'=s/\∃kk,IsTs s.heap kk bK/\T.depths kk<=d) _ ?_ ?_ _ _ #[rfl,rfl,ks,hi,∅]
   ·rintro v bK r s' ⟨hr,rfl,kk,hall,hdk⟩;cases hall with
    | cons q1 q2=>
     simp only[T.depths]at hdk;refine HL (jR d _ v _ _ _ ∅ q1 ?_)
     simp only[KS,IB,JA];exact HR #[rfl,rfl,_,q2,∅]
   ·rintro⟨r1,r2⟩ s' ⟨hr,rfl,_⟩;simp only at hr;subst hr;exact HR h
end
noncomputable def bv (prog:IM)(w:IU):HeapKind prog w T where
 is:=λh k a=>IsT h k (.ref a)/\k.depth<=aF
 hash:=ee w
 draws:=T.draws
 room:=λA=>A.units+aF < cLine
 inj:=λhx hy=>hx.1.inj hy.1
 keeps:=λx ho hd hs=>#[x.1.keeps ho hd hs,x.2]
 pyHash:=λhu hk h=>ph _ _ _ _ _ hk.1 (by have:=hk.2; omega) h
 eqBool:=λhu hx hy h=>wb aF _ _ _ _ _ _ hx.2 hx.1 hy.1 hu (by have:=hy.2; omega) _ _ _ _ h
 quiet:=λhk h=>jR 8 _ _ _ _ _ (by have:=hk.2; unfold aF at this; omega) hk.1 h
section
variable{prog:IM}{w:IU}{E:HM->HQ->Prop}
theorem mr {n:HW}{v:HM}(h:∀a,v≠.ref a):ofAClassStatement n v=pure false:=by
 cases v with
 | ref a=>exact absurd rfl (h a)
 | _=>first|rfl|simp[ofAClassStatement]|(unfold ofAClassStatement; rfl)
theorem nG:∀(d:HW) (k:T) (v:HM) (A:IQ) (s:HQ) (Q:IF->HQ->Prop),k.depth<=d->IsT s.heap k v->Q false s->wpAny (model prog w) A (ofAClassStatement d v) Q E s
 | d,.int i,_,A,s,Q,_,x,h=>by cases x; rw[mr (λa=>by simp)]; exact HR h
 | d,.str i,_,A,s,Q,_,x,h=>by cases x; rw[mr (λa=>by simp)]; exact HR h
 | 0,.tup ks,_,A,s,Q,hd,x,h=>by simp[T.depth]at hd
 | d+1,.tup ks,_,A,s,Q,hd,x,h=>by
  cases x with
  | @tup _ a o items n ho hc hdt hi=>
   simp only[T.depth]at hd;have hT:s.TypeIs (.ref a) "tuple":=#[_,ho,hc];unfold ofAClassStatement;refine HL (K7 hT ?_);dsimp only;rw[Ix (show("tuple" == "tuple")=true by decide)]
   refine HL (HR ?_);simp only[KS,IB,JA];refine HL (Ko ho hdt ?_);refine HL ?_;show wpAny _ _ (forIn items _ _) _ _ s;rw[<- LJ];refine Ls _ (λbK r s'=>r.1=K3/\s'=s/\∃kk,IsTs s.heap kk bK/\T.depths kk<=d) _ ?_ ?_ _ _ #[rfl,rfl,ks,hi,∅]
   ·rintro v bK r s' ⟨hr,rfl,kk,hall,hdk⟩;cases hall with
    | cons q1 q2=>
     simp only[T.depths]at hdk;refine HL (nG d _ v _ _ _ ∅ q1 ?_)
     simp only[IB,JA];exact HR #[rfl,rfl,_,q2,∅]
   ·rintro⟨r1,r2⟩ s' ⟨hr,rfl,_⟩;simp only at hr;subst hr;exact HR h
theorem wc {A:IQ}{s:HQ}{Q:IF->HQ->Prop}{x:T}{b:HX}{ys:HK HM}(hx:IsT s.heap x (.ref b))(hdx:x.depth<=aF)(hy:∀v∈ys,∃y c,v=.ref c/\IsT s.heap y (.ref c)/\y.depth<=aF)(h:Q false s):wpAny (model prog w) A (searchCouldBeSeen (.ref b) ys) Q E s:=by
 unfold searchCouldBeSeen;refine HL ?_;refine Ls _ (λbK r s'=>r.1=K3/\s'=s/\∀v∈bK,∃y c,v=.ref c/\IsT s.heap y (.ref c)/\y.depth<=aF) _ ?_ ?_ _ _ #[rfl,rfl,hy]
 ·rintro v bK r s' ⟨hr,rfl,hall⟩;obtain⟨y,c,rfl,q,hdy⟩:=hall v (.head _);have hrest:∀v∈bK,∃y c,v=.ref c/\IsT s'.heap y (.ref c)/\y.depth<=aF:=λv hv=>hall v (.tail _ hv)
  have k6:aF<=8:=by unfold aF; decide
  dsimp only;split
  ·exact HR #[rfl,rfl,hrest]
  ·refine HL (jR 8 _ _ _ _ _ ∅ hx ?_)
   simp only[KS,IB,JA];refine HL (jR 8 _ _ _ _ _ ∅ q ?_)
   simp only[KS,IB,JA];refine HL (nG 8 _ _ _ _ _ ∅ hx ?_)
   simp only[IB,JA];refine HL (nG 8 _ _ _ _ _ ∅ q ?_)
   simp only[IB,JA];exact HR #[rfl,rfl,hrest]
 ·rintro⟨r1,r2⟩ s' ⟨hr,rfl,_⟩;simp only at hr;subst hr;exact HR h
end
inductive Sf where|there|free (slot:HW)
noncomputable def dE (es:ID (Ik×T))(t:Jx)(x:T)(h:Ik):HW->HU MA->HU Sf
 | 0,_=>K3
 | f+1,stand=>match t.probe (λi=>(es[i]?.map (·.1)).getD 0) h (stand.getD (t.probeStart h))with
  | none=>K3
  | some (.empty j K3)=>ba (.free j)
  | some (.empty _ (ba _))=>K3
  | some (.candidate j i next)=>match es[i]? with
   | none=>K3
   | some (_,y)=>if y=x then ba .there else if t.slot j=.live i then dE es t x h f (ba next)else K3
structure SE (h:Jc)(es0:ID (Ik×T))(es:ID (Ik×HM)):Prop where
 size:es0.size=es.size
 ent:∀(i:HW) (hh:Ik) (y:T),es0[i]?=ba (hh,y)->∃b:HX,es[i]?=ba (hh,IR b)/\IsT h y (.ref b)/\y.depth<=aF
theorem SE.hash {h:Jc}{es0:ID (Ik×T)}{es:ID (Ik×HM)}(R:SE h es0 es):(λ(i:HW)=>(es0[i]?.map (λp=>p.1)).getD 0)=λ(i:HW)=>(es[i]?.map (λp=>p.1)).getD 0:=by
 funext i
 cases e:es0[i]? with
 | none=>
  have:es[i]?=K3:=by rw[Array.getElem?_eq_none_iff]at e ⊢; rw[<- R.size]; exact e
  rw[this]; rfl
 | some p=>
  obtain⟨b,e2,_⟩:=R.ent i p.1 p.2 e;rw[e2]; rfl
theorem SE.vals {h:Jc}{es0:ID (Ik×T)}{es:ID (Ik×HM)}(R:SE h es0 es):∀e∈es.toList,∃y c,e.2=.ref c/\IsT h y (.ref c)/\y.depth<=aF:=λe he=>by
 obtain⟨i,hi,rfl⟩:=J7.mp he;rw[Il]at hi;have hi0:i < es0.size:=by rw[R.size]; exact hi
 obtain⟨b,e2,q⟩:=R.ent i es0[i].1 es0[i].2 (Kg hi0);rw[Kg hi]at e2;refine#[_,b,?_,q];rw[Ma,Jt e2]
section
variable{prog:IM}{w:IU}{E:HM->HQ->Prop}{A:IQ}{s:HQ}
theorem we {a b:HX}{o:JR}{es0:ID (Ik×T)}{es:ID (Ik×HM)}{ep:HW}{t:Jx}{x:T}{h:Ik}{Q:SetFound->HQ->Prop}(ho:s.heap.get? a=ba o)(hd:o.data=.set es ep t)(hf:t.fits es.size=true)(hg:t.gaveWay=false)(R:SE s.heap es0 es)
    (hx:IsT s.heap x (.ref b)) (hdx:x.depth<=aF) (hu:(bv prog w).room A):∀(f F:HW) (stand:HU MA) (r:Sf),dE es0 t x h f stand=ba r->f<=F->(r=.there->Q (.there K3) s)->(∀j,r=.free j->Q (.free j false) s)->
    wpAny (model prog w) A (setSearchFrom a (.ref b) h true F stand) Q E s:=by
  intro f
  induction f with
  | zero=>intro F stand r e; cases e
  | succ f ih=>
    intro F stand r e hF h1 h2;obtain⟨F,rfl⟩ : ∃F',F=F'+1:=#[F - 1,∅]
    unfold setSearchFrom;refine HL (JE ho hd hf ?_);dsimp only;rw[hg];simp only[IB,JA];unfold dE at e;rw[R.hash]at e;split
    · rename_i met hm
      have hm:t.probe (λi=>(es[i]?.map (·.1)).getD 0) h (stand.getD (t.probeStart h))=ba met:=hm
      rw[hm]at e;cases met with
      | empty j dm=>
        cases dm with
        | none=>cases e; exact HR (h2 j rfl)
        | some d=>cases e
      | candidate j i next=>
        dsimp only at e ⊢;cases ei:es0[i]? with
        | none=>rw[ei]at e; cases e
        | some p=>
          obtain⟨hh,y⟩:=p;rw[ei]at e;dsimp only at e;obtain⟨c,ec,qy,hdy⟩:=R.ent i hh y ei;rw[ec];dsimp only;have sm:t.sameMemory t.moves t.mask=ba true:=by unfold QH; rw[Ix (Jj _)]
          have hv:∀v∈List.map (λx=>x.snd) (Array.filter (λx=>x.fst==h) es).toList,∃y c,v=IR c/\IsT s.heap y (.ref c)/\y.depth<=aF:=λv hv=>by
            obtain⟨p,hp,rfl⟩:=II.mp hv;rw[Array.toList_filter]at hp;exact R.vals p (Mc.mp hp).1
          cases hl:t.led
          · simp only[NN,Kb]
            refine HL (wc hx hdx hv ?_);simp only[IB,JA];refine HL (Jm ((bv prog w).eqBool hu #[qy,hdy] #[hx,hdx] ?_));refine HL (JE ho hd hf ?_)
            by_cases hyx:y=x
            · rw[Ix hyx]at e
              cases e;simp only[hyx,Pb,LC,Kb];exact HR (h1 rfl)
            · rw[IK hyx]at e
              split at e
              · rename_i hsl
                simp only[hyx,Qi,My,IB,JA,sm,Kb,hsl,ec];refine HL (ND ?_);refine HL (HR ?_);simp only[Kb];exact ih F (ba next) r e ∅ h1 h2
              · cases e
          · simp only[KS,IB,JA]
            refine HL (Jm ((bv prog w).eqBool hu #[qy,hdy] #[hx,hdx] ?_));refine HL (JE ho hd hf ?_)
            by_cases hyx:y=x
            · rw[Ix hyx]at e
              cases e;simp only[hyx,Pb,LC,Kb];exact HR (h1 rfl)
            · rw[IK hyx]at e
              split at e
              · rename_i hsl
                simp only[hyx,Qi,My,IB,JA,sm,Kb,hsl,ec];refine HL (ND ?_);refine HL (HR ?_);simp only[Kb];exact ih F (ba next) r e ∅ h1 h2
              · cases e
    · rename_i hm
      have hm:t.probe (λi=>(es[i]?.map (·.1)).getD 0) h (stand.getD (t.probeStart h))=K3:=by
        first|exact hm|(cases hp:t.probe (λi=>(es[i]?.map (·.1)).getD 0) h (stand.getD (t.probeStart h))with
          | none=>rfl
          | some m=>exact absurd hp (hm m))
      rw[hm]at e;cases e
end
mutual
noncomputable def eP:T->IF
 | .int _=>true
 | .str _=>false
 | .tup xs=>cW xs
noncomputable def cW:HK T->IF
 | []=>true
 | x::xs=>eP x&&cW xs
end
section
variable{prog:IM}{w:IU}{E:HM->HQ->Prop}
theorem sg:∀(d:HW) (k:T) (v:HM) (A:IQ) (s:HQ) (Q:IF->HQ->Prop),eP k=true->k.depth<=d->IsT s.heap k v->Q true s->wpAny (model prog w) A (hashByValue d v) Q E s
 | d,.int i,_,A,s,Q,_,_,x,h=>by
  cases x;have:∀t,hashByValue d (.int i t)=pure true:=λt=>by cases d <;> rfl
  rw[this]; exact HR h
 | d,.str i,_,A,s,Q,hn,_,x,h=>by cases hn
 | 0,.tup ks,_,A,s,Q,_,hd,x,h=>by simp[T.depth]at hd
 | d+1,.tup ks,_,A,s,Q,hn,hd,x,h=>by
  cases x with
  | @tup _ a o items n ho hc hdt hi=>
   simp only[T.depth]at hd;have hn:cW ks=true:=hn;have hT:s.TypeIs (.ref a) "tuple":=#[_,ho,hc];unfold hashByValue;refine HL (Nu hT F.slot_tuple_hash.lookup ?_);refine HL (Ko ho hdt ?_);refine HL ?_;show wpAny _ _ (forIn items _ _) _ _ s;rw[<- LJ];refine Ls _ (λbK r s'=>r.1=K3/\s'=s/\∃kk,IsTs s.heap kk bK/\T.depths kk<=d/\cW kk=true) _ ?_ ?_ _ _ #[rfl,rfl,ks,hi,∅,hn]
   ·rintro v bK r s' ⟨hr,rfl,kk,hall,hdk,hnk⟩;cases hall with
    | cons q1 q2=>
     simp only[T.depths]at hdk;simp only[cW,HV]at hnk;refine HL (sg d _ v _ _ _ hnk.1 ∅ q1 ?_)
     simp only[KS,IB,JA];exact HR #[rfl,rfl,_,q2,∅,hnk.2]
   ·rintro⟨r1,r2⟩ s' ⟨hr,rfl,_⟩;simp only at hr;subst hr;exact HR h
end
noncomputable abbrev Ze:=Ik×T×HX
noncomputable def zT (z:Ze):Ik×T:=(z.1,z.2.1)
noncomputable def zV (z:Ze):Ik×HM:=(z.1,.ref z.2.2)
noncomputable def ZOk (h:Jc)(zs:ID Ze):Prop:=∀z∈zs.toList,IsT h z.2.1 (.ref z.2.2)/\z.2.1.depth<=aF
theorem ZOk.se {h:Jc}{zs:ID Ze}(k:ZOk h zs):SE h (zs.map zT) (zs.map zV):=#[by simp,λi hh y e=>by
 rw[MB,HS]at e;obtain⟨z,hz,e⟩:=e;cases e;exact#[z.2.2,by rw[MB,hz]; rfl,k z (by rw[Ll]; exact L0 hz)]]
theorem hX {α β:Type}{f:α->β}{xs:ID α}{p:HW}{x:α}:IS (xs.map f) p (f x)=(IS xs p x).map f:=by
 unfold IS;simp[Array.map_extract]
noncomputable def di (t:Jx)(n:HW):IF:=t.fits n && !t.gaveWay&&decide (n<=1000)
noncomputable def bG (hf:T->Ik)(st:ID (Ik×T)×Jx)(x:T):HU (ID (Ik×T)×Jx):=
 match dE st.1 st.2 x (hf x) 100 K3 with
 | none=>K3
 | some .there=>ba st
 | some (.free slot)=>
  if di (st.2.put slot).1 (IS st.1 (st.2.put slot).2 (hf x,x)).size then
   if (st.2.put slot).1.tooFull then
    if MC (LV (st.1.size+1))<=sizeLine then
     match (st.2.put slot).1.relaid ((IS st.1 (st.2.put slot).2 (hf x,x)).map (·.1)) (LV (st.1.size+1))with
     | none=>K3
     | some (t2,order)=>
      if (order.filterMap ((IS st.1 (st.2.put slot).2 (hf x,x))[·]?)).size=(IS st.1 (st.2.put slot).2 (hf x,x)).size/\di t2 (order.filterMap ((IS st.1 (st.2.put slot).2 (hf x,x))[·]?)).size=true then ba (order.filterMap ((IS st.1 (st.2.put slot).2 (hf x,x))[·]?),t2)else K3
    else K3
   else ba (IS st.1 (st.2.put slot).2 (hf x,x),(st.2.put slot).1)
  else K3
theorem filterMap_map {α β:Type}{f:α->β}{xs:ID α}{order:ID HW}:order.filterMap ((xs.map f)[·]?)=(order.filterMap (xs[·]?)).map f:=by
 rw[Array.map_filterMap];congr 1
 funext i
 exact MB ..
theorem q8 {b:HX}{es:ID (Ik×HM)}:byScan (.ref b) es=false:=rfl
theorem kj {t:Jx}{n:HW}(h:di t n=true):t.fits n=true/\t.gaveWay=false/\n<=1000:=by
 unfold di at h;simp only[HV,MS,Iw]at h;exact#[h.1.1,h.1.2,h.2]
section
variable{prog:IM}{w:IU}{E:HM->HQ->Prop}{A:IQ}{s:HQ}
theorem q9 {a:HX}{o:JR}{es es1:ID (Ik×HM)}{ep:HW}{t t1:Jx}{Q:Rc->HQ->Prop}(ho:s.heap.get? a=ba o)(hd:o.data=.set es ep t)(hz:es1.size<=1000)
  (h:∀h',JZ a s.heap h'->h'.get? a=ba { o with data:=.set es1 (ep+1) t1 }->Q () { s with heap:=h' }):wpAny (model prog w) A (storeSet a es1 t1) Q E s:=by
 refine wpAny_storeSet_of ho hd (h _ (KW ..) ?_) (Jh hz (by rw[Jf]; decide))
 have:=JN (Obj.putSet es1 t1) ho (by rw[putSet_of es1 t1 hd]; rfl)
 rw[putSet_of es1 t1 hd]at this;exact this
theorem ED {a b:HX}{o:JR}{zs:ID Ze}{ep:HW}{t:Jx}{x:T}{hf:T->Ik}{es1:ID (Ik×T)}{t1:Jx}{Q:IF->HQ->Prop}(ho:s.heap.get? a=ba o)(hd:o.data=.set (zs.map zV) ep t)(hft:di t zs.size=true)(hz:ZOk s.heap zs)
  (hx:IsT s.heap x (.ref b)) (hdx:x.depth<=aF) (hnx:eP x=true) (hu:(bv prog w).room A) (e:bG hf (zs.map zT,t) x=ba (es1,t1))
  (k:∀(bb:IF) (h':Jc) (zs':ID Ze) (ep':HW),zs'.map zT=es1->di t1 zs'.size=true->JZ a s.heap h'->h'.get? a=ba { o with data:=.set (zs'.map zV) ep' t1 }->(∀z∈zs'.toList,z∈zs.toList\/z=(hf x,x,b))->Q bb { s with heap:=h' }) :
  wpAny (model prog w) A (setAddHashed a (.ref b) (hf x)) Q E s:=by
 obtain⟨f1,f2,f3⟩:=kj hft;have f1':t.fits (zs.map zV).size=true:=by rw[JI]; exact f1
 unfold setAddHashed setAddHashedIn;refine Jm (HL (JE ho hd f1' ?_));dsimp only;rw[q8];simp only[IB,JA];unfold bG at e;cases hs:dE (zs.map zT) t x (hf x) 100 K3 with
 | none=>rw[hs]at e; cases e
 | some r=>
  rw[hs]at e;dsimp only at e;refine HL ?_;unfold setSearch;refine we ho hd f1' f2 hz.se hx hdx hu 100 100000 K3 r hs #v[] (λhr=>?_) λslot hr=>?_
  ·subst hr;cases e;exact HR (k false s.heap zs ep rfl hft (OJ ..) (by rw[<- hd]; exact ho) λz h=>.inl h)
  ·subst hr;dsimp only at e ⊢;refine HL (JE ho hd f1' ?_);dsimp only;split at e
   ·rename_i hok1;have eI:IS (zs.map zT) (t.put slot).2 (hf x,x)=(IS zs (t.put slot).2 (hf x,x,b)).map zT:=hX (f:=zT) (x:=(hf x,x,b));have eV:IS (zs.map zV) (t.put slot).2 (hf x,.ref b)=(IS zs (t.put slot).2 (hf x,x,b)).map zV:=hX (f:=zV) (x:=(hf x,x,b));have hmem:∀z∈(IS zs (t.put slot).2 (hf x,x,b)).toList,z∈zs.toList\/z=(hf x,x,b):=λz h=>by
     unfold IS at h;simp only[Mm,MP,IY,Ir]at h;rcases h with(h|h)|h
     ·rw[Lm]at h;exact .inl (by rw[MK]at h; exact Ln (J8 h))
     ·exact .inr h
     ·rw[Lm]at h;exact .inl (by rw[MK]at h; exact Ln (J8 h))
    rw[eI]at e hok1;rw[JI]at hok1;obtain⟨g1,g2,g3⟩:=kj hok1;rw[eV];have hfst:∀z1:ID Ze,K4 (λx=>x.fst) (K4 zV z1)=K4 (λx=>x.fst) (K4 zT z1):=λz1=>by
     rw[P4,P4]; rfl
    simp only[JI]at e ⊢;generalize(t.put slot).1=tt at e hok1 g1 g2 ⊢;generalize IS zs (t.put slot).2 (hf x,x,b)=z1 at e hok1 g1 g3 hmem ⊢;clear eI eV;have k8:x.depth<=8:=Jh hdx (by unfold aF; decide)
    have g1v:tt.fits (K4 zV z1).size=true:=by rw[JI]; exact g1
    have tail:∀h1:Jc,JZ a s.heap h1->h1.get? a=ba { o with data:=.set (K4 zV z1) (ep+1) tt }->wpAny (model prog w) A (if (!false&&tt.tooFull)=true then do setRelay a (LV (zs.size+1)); pure true else pure true) Q E { s with heap:=h1 }:=by
     intro h1 sb1 q1;cases htf:tt.tooFull with
     | false=>
      rw[htf]at e;simp only[IB,JA]at e;cases e;simp only[NN,My,IB,JA];exact HR (k true h1 z1 (ep+1) rfl hok1 sb1 q1 hmem)
     | true=>
      rw[htf]at e;simp only[Kb]at e;simp only[NN,LC,Kb];split at e
      ·rename_i hle;cases hrel:tt.relaid (K4 (λx=>x.fst) (K4 zT z1)) (LV (zs.size+1))with
       | none=>rw[hrel]at e; cases e
       | some p=>
        obtain⟨t2,order⟩:=p;rw[hrel]at e;dsimp only at e;rw[filterMap_map,JI]at e;split at e
        ·rename_i hc;cases e;obtain⟨c1,c2⟩:=hc;obtain⟨d1,d2,d3⟩:=kj c2;unfold setRelay;refine HL (HL (JE q1 rfl g1v ?_));dsimp only;rw[IK (Oj.mpr hle)];rw[hfst,hrel];refine HL (LN (a:=(K4 zV (Pg (λx=>z1[x]?) order),t1)) ?_ ?_)
         ·show(if ((Pg (λx=>(K4 zV z1)[x]?) order).size != (K4 zV z1).size)=true then _ else _)=_
          rw[filterMap_map,JI,JI,c1];rw[IK (by simp)]
         ·dsimp only;refine q9 (s:={ s with heap:=h1 }) q1 rfl (by rw[JI]; exact d3) λh2 sb2 q2=>HR (k true h2 _ (ep+1+1) rfl c2 (sb1.trans sb2) q2 λz hz=>hmem z ?_)
          obtain⟨i,hi,e⟩:=Array.mem_filterMap.mp (Ll.mp hz);exact Ll.mpr (L0 e)
        ·cases e
      ·cases e
    cases hp:tt.plain with
    | false=>
     simp only[IB,JA];refine HL (HR ?_);simp only[Kb];exact HL (q9 ho hd (by rw[JI]; exact g3) λh1 sb1 q1=>tail h1 sb1 q1)
    | true=>
     simp only[Kb];refine HL (sg 8 _ _ _ _ _ hnx k8 hx ?_);simp only[Kb];exact HL (q9 ho hd (by rw[JI]; exact g3) λh1 sb1 q1=>tail h1 sb1 q1)
   ·cases e
end
noncomputable def fU (h h':Jc):Prop:=∀c o,h.get? c=ba o->o.cls=.type "tuple"->h'.get? c=ba o
mutual
theorem IsT.stay {h h':Jc}(k:fU h h'):∀ {x:T} {v:HM},IsT h x v->IsT h' x v
 | _,_,.int=>.int
 | _,_,.str=>.str
 | _,_,.tup a b c d=>.tup (k _ _ a b) b c (IsTs.stay k d)
theorem IsTs.stay {h h':Jc}(k:fU h h'):∀ {x:HK T} {v:HK HM},IsTs h x v->IsTs h' x v
 | _,_,.nil=>.nil
 | _,_,.cons a b=>.cons (IsT.stay k a) (IsTs.stay k b)
end
theorem ZOk.stay {h h':Jc}{zs:ID Ze}(k:fU h h')(z:ZOk h zs):ZOk h' zs:=λy hy=>#[(z y hy).1.stay k,(z y hy).2]
section
variable{prog:IM}{w:IU}{A:IQ}{E:HM->HQ->Prop}{s:HQ}{R:OV->HQ->Prop}{I:HX}{fp wr:HK HX}{G:ID NJ->ID NJ->Prop}{n:HW}{P:HW->HM->Prop}{St:HW->HQ->Prop}
noncomputable def km (w:IU)(zs:ID Ze)(ep:HW)(t:Jx):JR:={ cq w with data:=.set (zs.map zV) ep t }
theorem ul (W:WalksS prog w A.in1 I fp wr G n P St){D:HX}(hD:D∉fp)(hwr:∀i s b o,St i s->b∈wr->s.heap.get? b=ba o->o.cls≠.type "tuple"){ks:HK T}{res:ID (Ik×T)×Jx}{Y:T->HX->Prop}(hl:ks.length=n)(hk:∀x∈ks,eP x=true/\x.depth<=aF)(hP:∀i v,P i v->∃x b,ks[i]?=ba x/\v=.ref b/\Y x b)(hu:(bv prog w).room A.in1) :
  ∀(k i:HW) (s:HQ) (zs:ID Ze) (ep:HW) (t:Jx),n - i=k->i<=n->St i s->s.heap.get? D=ba (km w zs ep t)->di t zs.size=true->ZOk s.heap zs->(∀z∈zs.toList,Y z.2.1 z.2.2)->(∀j v x,P j v->ks[j]?=ba x->IsT s.heap x v)->(ks.drop i).foldlM (bG (ee w)) (zs.map zT,t)=ba res->
   (∀s' zs' ep',Moved (D::wr) G s s'->s'.heap.get? D=ba (km w zs' ep' res.2)->zs'.map zT=res.1->di res.2 zs'.size=true->ZOk s'.heap zs'->(∀z∈zs'.toList,Y z.2.1 z.2.2)->R (.ok (.ret .none)) s')->codeAny (model prog w) A (.builtin "set.update.loop" #[[.ref D,.ref I],[]]) R s:=by
 have hw:D∉wr:=λz=>hD (W.sub _ z)
 have up:∀b∈wr,b∈D::wr:=λb z=>JD _ z
 intro k
 induction k with
 | zero=>
  intro i s zs ep t hk' hi st ho hok hz hy hT hsim hR;obtain rfl:i=n:=∅
  refine Ju F.entry_set_update_loop ?_;rw[Jk F.plain_set_update_loop _];show wpAny _ A.in1 (pyNext (.ref I) >>= _) _ _ s;refine HL (W.done s _ _ st λs' mv=>?_)
  rw[LW ∅]at hsim
  cases hsim;have ts:fU s.heap s'.heap:=λc o q hc=>mv.heap c o (λz=>hwr _ _ _ _ st z q hc) q
  exact HR (hR s' zs ep (mv.mono up) (mv.heap D _ hw ho) rfl hok (hz.stay ts) hy)
 | succ k ih=>
  intro i s zs ep t hk' hi st ho hok hz hy hT hsim hR;have hlt:i < n:=∅
  refine Ju F.entry_set_update_loop ?_;rw[Jk F.plain_set_update_loop _];show wpAny _ A.in1 (pyNext (.ref I) >>= _) _ _ s;refine HL (W.item i s _ _ hlt st λv s1 pv st1 mv=>?_)
  obtain⟨x,b,hx,rfl,yx⟩:=hP i v pv;have ts1:fU s.heap s1.heap:=λc o q hc=>mv.heap c o (λz=>hwr _ _ _ _ st z q hc) q
  obtain⟨hn,hdp⟩:=hk x (Ip hx);have isx:IsT s1.heap x (.ref b):=(hT i _ x pv hx).stay ts1;have o1:s1.heap.get? D=ba (km w zs ep t):=mv.heap D _ hw ho;have hd1:ks.drop i=x::ks.drop (i+1):=by
   obtain⟨h1,h2⟩:=HZ.mp hx;rw[List.drop_eq_getElem_cons h1,h2]
  rw[hd1,K5]at hsim;cases hs:bG (ee w) (zs.map zT,t) x with
  | none=>rw[hs]at hsim; cases hsim
  | some bq=>
   obtain⟨es1,t1⟩:=bq;rw[hs]at hsim;have hsim:(ks.drop (i+1)).foldlM (bG (ee w)) (es1,t1)=ba res:=hsim;show wpAny _ A.in1 (holding [IR b] (setAdd D (.ref b)) >>= _) _ _ s1;refine HL (Jm ?_);unfold setAdd;refine Jm (HL ((bv prog w).pyHash hu #[isx,hdp] ?_));refine ED (s:={ s1 with toks:=s1.toks+x.draws }) (hf:=ee w) o1 rfl hok (hz.stay ts1) isx hdp hn hu hs λbb h' zs' ep' e1 hok' sb ho' hmem=>?_
   have ts2:fU s1.heap h':=λc o q hc=>by
    refine sb.extBut c o (λz=>?_) q
    subst z;rw[o1]at q;cases q;exact absurd hc (by show ¬ (JS "set" = JS "tuple"); simp)
   have hz':ZOk h' zs':=λz hzm=>by
    rcases hmem z hzm with h|rfl
    ·exact((hz.stay ts1).stay ts2) z h
    ·exact#[isx.stay ts2,hdp]
   refine HR #[Kc F.plain_set_update_loop _,ih (i+1) { s1 with heap:=h',toks:=s1.toks+x.draws } zs' ep' t1 ∅ hlt (W.frame _ s1 _ _ st1 (M5 _ _) λc hc u q=>?_) ho' hok' hz' (λz hzm=>by
    rcases hmem z hzm with h|rfl
    ·exact hy z h
    ·exact yx) (λj v y pj hy=>((hT j v y pj hy).stay ts1).stay ts2) (by rw[e1]; exact hsim) λs2 zs2 ep2 mv2 ho2 e2 hok2 hz2 hy2=>?_]
   ·rw[sb.2 c λz=>hD (z ▸ hc)]; exact q
   ·refine hR s2 zs2 ep2 (Moved.trans W.gtrans ((mv.mono up).then_heap (M5 _ _) λc u hc q=>?_) mv2) ho2 e2 hok2 hz2 hy2
    rw[sb.2 c λz=>hc (z ▸ JG)]
    exact q
end
section
variable{prog:IM}{w:IU}{A:IQ}{E:HM->HQ->Prop}{s:HQ}
theorem wf (l:IF):di (.fresh 0 0 l) (#[]:ID Ze).size=true:=by cases l <;> decide
set_option maxHeartbeats 4000000 in
theorem um {l:HX}{its:ID HM}{ks:HK T}{res:ID (Ik×T)×Jx}{Q:HM->HQ->Prop}(hh:A.handled=K3)(hl:s.heap.IsList l its)(hi:IsTs s.heap ks its.toList)(hk:∀x∈ks,eP x=true/\x.depth<=aF)(hrf:∀(i:HW) (v:HM),its[i]?=ba v->∃b,v=.ref b)(hu:(bv prog w).room A.in1.in1.in1)(hsim:ks.foldlM (bG (ee w)) (#[],.fresh 0 0 (!eF w))=ba res)
  (h:∀(h':Jc) (tk:HW) (zs:ID Ze) (ep:HW),h'.get? s.heap.objs.size=ba (km w zs ep res.2)->zs.map zT=res.1->di res.2 zs.size=true->ZOk h' zs->(∀z∈zs.toList,∃i:HW,ks[i]?=ba z.2.1/\its[i]?=ba (IR z.2.2))->(∀b u,s.heap.get? b=ba u->h'.get? b=ba u)->Q (.ref s.heap.objs.size) { s with heap:=h',toks:=tk }):wpAny (model prog w) A (call (.type "set") [.ref l]) Q E s:=by
 obtain⟨c,tl,hmro⟩:=F.called_set.mro;have hmade:=F.called_set.made;have hsub:=F.called_set.sub;have hn1:=F.called_set.notType;have hn2:=F.called_set.canCreate;have hct:=F.typeCall_set_1 (.ref l);refine wpAny_call (Nt ?_);show wpAny _ _ (callAny (.type "set") _) _ _ _;refine HR #[Ol _ (by decide +kernel),Ju F.entry_type_call ?_]
 rw[Around.under_plain (weight_type_call_type "set" [.ref l] []) rfl]
 repeat (any_goals (first|assumption|wp_step))
 refine LP (vX (w:=w) (.ref l) (E:=E) (Q₁:=λobj s1=>obj=.ref s.heap.objs.size/\s1={ s with heap:=s.heap.push (cq w) }) #[rfl,rfl]) λr s1 hr=>?_
 match r,hr with
 | .ok (.ret obj),hr=>
  obtain⟨rfl,rfl⟩:=hr;have oS:(s.heap.push (cq w)).get? s.heap.objs.size=ba (cq w):=Ij _ rfl;have tS:Shared.TypeIs { s with heap:=s.heap.push (cq w) } (.ref s.heap.objs.size) "set":=#[_,oS,rfl]
  have hli:=F.called_set.init.lookup;have hbi:=F.called_set.init.bind (.ref s.heap.objs.size)
  repeat (any_goals (first|assumption|wp_step))
  refine LP (codeAny_call_builtin (R:=wants (λr s2=>r=.none/\∃h' tk zs ep,s2={ s with heap:=h',toks:=tk }/\h'.get? s.heap.objs.size=ba (km w zs ep res.2)/\zs.map zT=res.1/\di res.2 zs.size=true/\ZOk h' zs/\(∀z∈zs.toList,∃i:HW,ks[i]?=ba z.2.1/\its[i]?=ba (IR z.2.2))/\∀b u,s.heap.get? b=ba u->h'.get? b=ba u) E) F.called_set.init.plain F.entry_set_init (check_set_init_1 tS ?_)) λr2 s2 hr2=>?_
  ·obtain⟨⟨oc,od,ot,osl⟩,hol,hcl,nl,hdl⟩:=id hl;simp only at hcl hdl;subst hcl hdl;have hol1:=HP (cq w) hol;have l1:(s.heap.push (cq w)).IsList l its:=#[_,hol1,rfl,nl,rfl];have e1:=F.sub_list_set;have e2:=F.sub_list_frozenset;have e3:(JS "list" == JS "dict")=false:=by decide
   unfold Le.«set.__init__» noKeywords Ph;generalize hPI:pyIter=PI
   wp_walk
   subst hPI;refine LX l1 (HL (LU ?_));have ls:l < s.heap.objs.size:=Io hol;have sz:(s.heap.push (cq w)).objs.size=s.heap.objs.size+1:=K1 ..;have ne:l≠(s.heap.push (cq w)).objs.size:=by rw[sz]; exact Iy (KO ls)
   have oS':(s.heap.push (cq w)).get? s.heap.objs.size=ba (km w #[] 0 (.fresh 0 0 (!eF w))):=by
    rw[oS]; unfold km cq; simp
   have len:ks.length=its.size:=by rw[hi.length,Il]
   refine ul ((PF (A:=A.in1.in1.in1) (by simp[hh]) _ l ne its).toS) (D:=s.heap.objs.size) (ks:=ks) (res:=res) (Y:=λx b=>∃i:HW,ks[i]?=ba x/\its[i]?=ba (IR b)) (by rw[sz]; simp only[IE,Js,KP,QM]; exact#[Iy (J6 _),Kj ls]) (λi s b o st hb q=>?_) len hk (λi v q=>?_) hu _ 0 _ #[] 0 (.fresh 0 0 (!eF w)) rfl (JW _)
    #[#[_,Ij _ rfl,rfl,rfl],l1.push _] (HP _ oS') (wf _) (λz hz=>by simp at hz) (λz hz=>by simp at hz) (λj v x q hx=>?_) (by rw[PH,show K4 zT #[]=#[] by simp]; exact hsim) λs3 zs3 ep3 mv ho3 e3 hok3 hz3 hy3=>?_
   ·obtain⟨⟨o',e,hc,_⟩,_⟩:=st;rw[Ir.mp hb]at q;rw[q]at e;cases e;rw[hc];simp
   ·obtain⟨b,rfl⟩:=hrf i v q;have hi':i < ks.length:=by rw[len]; exact(JQ.mp q).1
    exact#[ks[i],b,Ic hi',rfl,i,Ic hi',q]
   ·have hj:=(HZ.mp hx);have q':=(JQ.mp q);obtain⟨h1,rfl⟩:=hj;obtain⟨h2,rfl⟩:=q';have:=hi.get j h1 (by rw[Il]; exact h2)
    rw[Ma]at this;exact this.stay λc o q hc=>HP _ (HP _ q)
   ·rw[P2 mv];refine HR (HR #[rfl,s3.heap,s3.toks,zs3,ep3,rfl,ho3,e3,hok3,hz3,hy3,λb u q=>?_])
    have hb:=Io q;exact mv.heap b u (by rw[sz]; simp only[IE,Js,KP,QM]; exact#[Iy hb,Iy (KO hb)]) (HP _ (HP _ q))
  ·match r2,hr2 with
   | .ok (.ret r),hr2=>
    obtain⟨rfl,h',tk,zs,ep,rfl,g1,g2,g3,g4,g5,g6⟩:=hr2
    repeat (any_goals (first|assumption|wp_step))
    exact h h' tk zs ep g1 g2 g3 g4 g5 g6
   | .ok .next,hr2=>exact hr2.elim
   | .ok .brk,hr2=>exact hr2.elim
   | .ok .cont,hr2=>exact hr2.elim
   | .error e,hr2=>exact hr2
 | .ok .next,hr=>exact hr.elim
 | .ok .brk,hr=>exact hr.elim
 | .ok .cont,hr=>exact hr.elim
 | .error e,hr=>exact hr
end
noncomputable def jn (S:aa)(i:HW):HU (HK (T×W)):=match S[i]? with
 | some (.dic kvs)=>ba kvs
 | some (.frd kvs)=>ba kvs
 | _=>K3
noncomputable def nH (S:aa)(i:HW):HU (HK (T×W)):=match S[i]? with
 | some (.dic kvs)=>ba kvs
 | _=>K3
noncomputable def cx (kvs:HK (T×W))(k:T):HU W:=(kvs.find? λp=>decide (p.1=k)).map (·.2)
noncomputable def eA (kvs:HK (T×W))(k:T)(v:W):HK (T×W):=
 if (kvs.any λp=>decide (p.1=k))=true then kvs.map (λp=>if p.1=k then(p.1,v)else p)else kvs++[(k,v)]
noncomputable def gf (w:W):HU T:=match W.t w with
 | some k=>if k.isTup=true/\k.depth<=aF then ba k else K3
 | none=>K3
theorem dM {w:W}{k:T}(h:gf w=ba k):k.w=w/\k.isTup=true/\k.depth<=aF:=by
 unfold gf at h;split at h
 ·rename_i k' hk;split at h
  ·rename_i hc;cases h;exact#[W.t_w hk,hc.1,hc.2]
  ·cases h
 ·cases h
theorem dj (kvs:HK (T×W))(k:T)(v:W):(eA kvs k v).length<=kvs.length+1:=by
 unfold eA;split
 ·rw[HN]; omega
 ·rw[Im,JC,Ke]; omega
section
variable{X:Cx}{pins:HK (HX×JR)}{σ:L2.St}{H:Hp}{s:HQ}{A:HK HX}{S:aa}
mutual
theorem nI (I:Inv X pins σ H s):∀(k:T) {v:V} {u:HM},Rel X.K A H k.w v->RelV v u->IsT s.heap k u
 | .int i,_,_,r,q=>by
  cases r;obtain⟨t,rfl⟩ : ∃t,_=M3 _ t:=q;exact .int
 | .str x,_,_,r,q=>by
  cases r;obtain⟨t,rfl⟩ : ∃t,_=L3 _ t:=q;exact .str
 | .tup ks,_,_,r,q=>by
  simp only[T.w]at r;cases r with
  | tup sq rl=>
   obtain⟨its,rv,⟨o,h1,h2,n,h3⟩,hz⟩:=I.tuple sq;obtain rfl:_=IR _:=q;exact .tup h1 h2 h3 (eQ I ks rl (by simpa using rv))
theorem eQ (I:Inv X pins σ H s):∀(ks:HK T) {vs:HK V} {us:HK HM},RelL X.K A H (T.ws ks) vs->Vals vs us->IsTs s.heap ks us
 | [],_,_,r,q=>by
  simp only[T.ws]at r;cases r; cases q; exact .nil
 | k::ks,_,_,r,q=>by
  simp only[T.ws]at r;cases r with
  | cons r1 r2=>
   cases q with
   | cons q1 q2=>exact .cons (nI I k r1 q1) (eQ I ks r2 q2)
end
theorem iT (I:Inv X pins σ H s){k:T}{b:HX}(r:Rel X.K A H k.w (.ref b))(hd:k.depth<=aF):(bv X.prog X.w).is s.heap k b:=#[nI I k r rfl,hd]
theorem hZ {w:W}{k:T}{v:V}{u:HM}(hk:gf w=ba k)(r:Rel X.K A H w v)(q:RelV v u):∃b,v=.ref b/\u=.ref b/\Rel X.K A H k.w (.ref b):=by
 obtain⟨h1,h2,h3⟩:=dM hk;subst h1;cases k with
 | tup ks=>
  simp only[T.w]at r;cases r with
  | tup a b=>exact#[_,rfl,q,by simp only[T.w]; exact .tup a b]
 | _=>cases h2
theorem KRel.is {kvs:HK (T×W)}{xs:HK (T×HX×HM)}(I:Inv X pins σ H s)(r:KRel X.K A H kvs xs):∀x∈xs,(bv X.prog X.w).is s.heap x.1 x.2.1:=by
 unfold KRel at r
 induction r with
 | nil=>intro x hx; exact nomatch hx
 | @cons p q ps qs h t ih=>
  intro x hx;rcases IE.mp hx with e|hx
  ·subst e;obtain⟨h1,h2,h3,h4,_⟩:=h;rw[h1]at h3 h4;exact iT I h4 h3
  ·exact ih x hx
theorem KRel.length {kvs:HK (T×W)}{xs:HK (T×HX×HM)}(r:KRel X.K A H kvs xs):kvs.length=xs.length:=MW r
theorem KRel.val {kvs:HK (T×W)}{xs:HK (T×HX×HM)}(r:KRel X.K A H kvs xs)(k:T) :
  (∀w,cx kvs k=ba w->∃p v,atKey xs k=ba p/\Rel X.K A H w v/\RelV v p.2)/\(cx kvs k=K3->atKey xs k=K3):=by
 unfold KRel at r
 induction r with
 | nil=>exact#[λw h=>(nomatch h),λ_=>rfl]
 | @cons p q ps qs h t ih=>
  obtain⟨h1,_,_,_,v,h5,h6⟩:=h
  by_cases e:p.1=k
  ·have e':q.1=k:=h1.symm.trans e;have a1:cx (p::ps) k=ba p.2:=by simp[cx,Lb,e]
   have a2:atKey (q::qs) k=ba q.2:=by simp[atKey,Lb,e']
   rw[a1,a2];exact#[λw hw=>(by cases hw; exact#[_,v,rfl,h5,h6]),λh=>nomatch h]
  ·have e':¬ q.1=k:=λz=>e (h1.trans z)
   have a1:cx (p::ps) k=cx ps k:=by simp[cx,Lb,e]
   have a2:atKey (q::qs) k=atKey qs k:=by simp[atKey,Lb,e']
   rw[a1,a2];exact ih
theorem KRel.repl {kvs:HK (T×W)}{xs:HK (T×HX×HM)}(r:KRel X.K A H kvs xs)(k:T){w:W}{v:V}{u:HM}(rw':Rel X.K A H w v)(rv:RelV v u) :
  KRel X.K A H (kvs.map λp=>if p.1=k then(p.1,w)else p) (xs.map (putAt k u)):=by
 unfold KRel at r ⊢
 induction r with
 | nil=>exact .nil
 | @cons p q ps qs h t ih=>
  rw[JH,JH];refine .cons ?_ ih;obtain⟨h1,h2,h3,h4,h5⟩:=h;unfold putAt
  by_cases e:p.1=k
  ·rw[Ix e,Ix (h1.symm.trans e)]; exact#[h1,h2,h3,h4,v,rw',rv]
  ·rw[IK e,IK (λz=>e (h1.trans z))]; exact#[h1,h2,h3,h4,h5]
theorem pi (k:T):∀kvs:HK (T×W),(kvs.any λp=>decide (p.1=k))=(cx kvs k).isSome
 | []=>rfl
 | p::r=>by
  rw[Ky]
  by_cases e:p.1=k
  ·have a1:cx (p::r) k=ba p.2:=by simp[cx,Lb,e]
   rw[a1,JY e]; rfl
  ·have a1:cx (p::r) k=cx r k:=by simp[cx,Lb,e]
   rw[a1,IP e,MZ]; exact pi k r
theorem KRel.put {kvs:HK (T×W)}{xs:HK (T×HX×HM)}(r:KRel X.K A H kvs xs){k:T}{b:HX}{w:W}{v:V}{u:HM}(h1:k.isTup=true)(h2:k.depth<=aF)(h3:Rel X.K A H k.w (.ref b))(rw':Rel X.K A H w v)(rv:RelV v u) :
  KRel X.K A H (eA kvs k w) (storedH xs k b u):=by
 have e:(kvs.any λp=>decide (p.1=k))=(atKey xs k).isSome:=by
  rw[pi];cases q:cx kvs k with
  | none=>rw[(r.val k).2 q]; rfl
  | some x=>obtain⟨p,_,h,_⟩:=(r.val k).1 x q; rw[h]; rfl
 unfold eA storedH;rw[e]
 by_cases q:(atKey xs k).isSome=true
 ·rw[Ix q,Ix q]; exact r.repl k rw' rv
 ·rw[IK q,IK q]; exact Paired.snoc r #[rfl,h1,h2,h3,v,rw',rv]
theorem DicAt.of {h:Jc}{a:HX}{xs:HK (T×HX×HM)}(hz:xs.length<=sizeLine)(hs:(a==sysModules)=false)(d:h.DictOfH (bv X.prog X.w) a xs):DicAt X.w a xs h:=
 let ⟨o,es,ep,h1,h2,h3,h4,_,h6⟩:=d; #[hz,hs,h6,o,es,ep,h1,h2,h3,h4]
theorem DicAt.stay {wd:IU}{h h':Jc}{a:HX}{xs:HK (T×HX×HM)}(d:DicAt wd a xs h)(k:∀o,h.get? a=ba o->h'.get? a=ba o):DicAt wd a xs h':=
 let ⟨h0,hs,hn,o,es,ep,h1,h2⟩:=d; #[h0,hs,hn,o,es,ep,k _ h1,h2]
theorem DicAt.ok {P:IM}{h:Jc}{wd:IU}{a:HX}{xs:HK (T×HX×HM)}(d:DicAt wd a xs h):ObjOk P wd H h a (dP wd a xs):=
 #[d,let ⟨_,_,_,o,_,_,h1,_⟩:=d; #[o,h1],λ_ _ p k=>p.stay k]
theorem cr {a:HX}{xs:HK (T×HX×HM)}(I:Inv X pins σ H s)(e:Rd H a (dP X.w a xs)):DicAt X.w a xs s.heap:=(show ObjOk X.prog X.w H s.heap a (dP X.w a xs)from e.ok I.hok).1
theorem DicAt.dict {kvs:HK (T×W)}{a:HX}{xs:HK (T×HX×HM)}(d:DicAt X.w a xs s.heap)(I:Inv X pins σ H s)(r:KRel X.K A H kvs xs):s.heap.DictOfH (bv X.prog X.w) a xs:=
 let ⟨_,_,hn,o,es,ep,h1,h2,h3,h4⟩:=d; #[o,es,ep,h1,h2,h3,h4,r.is I,hn]
theorem fE {i:HW}{kvs:HK (T×W)}{a:HX}(so:StoreOk X.w X.K A H S)(e:jn S i=ba kvs)(ea:A[i]?=ba a):∃xs,Rd H a (dP X.w a xs)/\KRel X.K A H kvs xs:=by
 unfold jn at e;split at e
 ·rename_i k h;cases e;obtain⟨xs,q,r⟩:=so.obj i _ a h ea;exact#[xs,.inl q,r]
 ·rename_i k h;cases e;obtain⟨o,xs,q,r⟩:=so.obj i _ a h ea;exact#[xs,.inr #[o,q],r]
 ·cases e
theorem ib {i:HW}{kvs:HK (T×W)}(e:nH S i=ba kvs):S[i]?=ba (.dic kvs):=by
 unfold nH at e;split at e
 ·rename_i h; cases e; exact h
 ·cases e
theorem sh {i:HW}{kvs:HK (T×W)}{a:HX}(so:StoreOk X.w X.K A H S)(e:nH S i=ba kvs)(ea:A[i]?=ba a):∃xs,H a=ba (dP X.w a xs)/\KRel X.K A H kvs xs:=
 so.obj i _ a (ib e) ea
theorem po {B:IQ}(hu:B.units+10 < cLine):(bv X.prog X.w).room B.in1:=by
 show B.in1.units+aF < cLine;rw[be]; unfold aF; omega
noncomputable def qJ (x y:W)(S:aa):HU (W×aa):=match x,y with
 | .ref r,.tup ks=>match jn S r,gf (.tup ks)with
  | some kvs,ba k=>(cx kvs k).map λw=>(w,S)
  | _,_=>K3
 | x,y=>vd x y S
theorem GJ (hu:X.A.units+10 < cLine):LIx X qJ:=by
 intro value slice pins s σ H A S x y a b u v w S' I so rx ru ry rv e hs
 by_cases hxy:∃r ks,x=.ref r/\y=.tup ks
 ·obtain⟨r,ks,rfl,rfl⟩:=hxy;simp only[qJ]at e;split at e
  ·rename_i kvs k hk1 hk2;rw[HS]at e;obtain⟨w',e1,e2⟩:=e;cases e2;cases rx with
   | ref ea=>
    obtain⟨xs,rd,kr⟩:=fE so hk1 ea;have d:=cr I rd;have dd:=d.dict I kr;obtain⟨bk,rfl,rfl,rk⟩:=hZ hk2 ry rv;obtain⟨p,vv,h1,h2,h3⟩:=(kr.val k).1 _ e1;obtain rfl:u=IR _:=ru;refine LR (x:=p.2) dd.typeIs slot_dict_getitem.lookup
     (wpAny_getItem_heap (Q:=λr s'=>r=p.2/\dB X pins σ A H S w r s') (po hu) (iT I rk (dM hk2).2.2) dd h1 #[rfl,vv,H,A,I.tok _,h3,.refl,so,h2]) hs
  ·cases e
 ·have:qJ x y S=vd x y S:=by
   cases x <;> cases y <;> first|rfl|exact absurd #[_,_,rfl,rfl] hxy
  rw[this]at e;exact HD hu value slice pins s σ H A S x y a b u v w S' I so rx ru ry rv e hs
noncomputable def ic (o i v:W)(S:aa):HU aa:=match o,i with
 | .ref r,.tup ks=>match nH S r,gf (.tup ks)with
  | some kvs,ba k=>if kvs.length < sizeLine then ba (S.set r (.dic (eA kvs k v)))else K3
  | _,_=>K3
 | o,i=>ub o i v S
theorem EE (hu:X.A.units+10 < cLine):LSet X ic:=by
 intro pins s σ H A S o i x ao ai ax uo ui ux S' I so ro ruo ri rui rx rux e
 by_cases hxy:∃r ks,o=.ref r/\i=.tup ks
 ·obtain⟨r,ks,rfl,rfl⟩:=hxy;simp only[ic]at e;split at e
  ·rename_i kvs k hk1 hk2;split at e
   ·rename_i hl;cases e;cases ro with
    | ref ea=>
     obtain⟨xs,hH,kr⟩:=sh so hk1 ea;have d:=cr I (.inl hH);have dd:=d.dict I kr;obtain⟨bk,rfl,rfl,rk⟩:=hZ hk2 ri rui;obtain⟨q1,q2,q3⟩:=dM hk2;obtain rfl:uo=IR _:=ruo;have hz:xs.length<=sizeLine:=by rw[<- kr.length]; omega
     refine wpAny_setItem_heap (hsz:=hz) (po hu) (iT I rk q3) dd λh' dd' hs=>?_
     have kr':=kr.put q2 q3 rk rx rux;have hz':(storedH xs k bk ux).length<=sizeLine:=by
      rw[<- kr'.length];have:=dj kvs k x;omega
     have dn:DicAt X.w _ (storedH xs k bk ux) h':=.of hz' d.2.1 dd';obtain⟨so',ex⟩:=so.writeO (ib hk1) rfl ea (u:=dP X.w _ (storedH xs k bk ux)) (n:=.dic (eA kvs k x)) #[_,bf,kr'.mono (c9 (.ext hH))];exact#[_,A,ny I (by rw[hH]; exact L5) hs (let ⟨q,_,_,hq,_⟩:=dd'; #[q,hq]) dn.ok,ex,so']
   ·cases e
  ·cases e
 ·have:ic o i x S=ub o i x S:=by
   cases o <;> cases i <;> first|rfl|exact absurd #[_,_,rfl,rfl] hxy
  rw[this]at e;exact lset hu pins s σ H A S o i x ao ai ax uo ui ux S' I so ro ruo ri rui rx rux e
noncomputable def si (x:W)(xs:HK W)(S:aa):HU (W×aa):=match x,xs with
 | .ref r,[y,z]=>match jn S r,gf y with
  | some kvs,ba k=>ba ((cx kvs k).getD z,S)
  | _,_=>K3
 | _,_=>K3
theorem rc (hu:X.A.units+10 < cLine):LMeth X "dict.get" si:=by
 intro pins s σ H A S x a u xs vs us w S' I so rx ru rl rv e;cases rx with
 | ref ea=>
  cases rl with
  | nil=>cases e
  | cons r1 t1=>
   cases t1 with
   | nil=>cases e
   | cons r2 t2=>
    cases t2 with
    | cons _ _=>cases e
    | nil=>
     simp only[si]at e;split at e
     ·rename_i kvs k hk1 hk2;cases e;obtain⟨xs,rd,kr⟩:=fE so hk1 ea;have d:=cr I rd;have dd:=d.dict I kr;cases rv with
      | cons v1 rv2=>
       cases rv2 with
       | cons v2 rv3=>
        cases rv3;obtain⟨bk,rfl,rfl,rk⟩:=hZ hk2 r1 v1;obtain rfl:u=IR _:=ru;refine call_meetsIn NE dd.typeIs PySem.F.entry_dict_get (PySem.F.args_dict_get_3 _ _ _) (meetsH_dict_get_default (bv X.prog X.w) _ bk d.2.1 _) #[po hu,k,xs,iT I rk (dM hk2).2.2,dd,?_];cases q:cx kvs k with
        | none=>
         rw[(kr.val k).2 q];exact#[_,H,A,I.tok _,v2,.refl,so,r2]
        | some w'=>
         obtain⟨p,vv,h1,h2,h3⟩:=(kr.val k).1 _ q;rw[h1];exact#[vv,H,A,I.tok _,h3,.refl,so,h2]
     ·cases e
 | _=>cases e
noncomputable def FX (x:W)(i:HW)(S:aa):HU IF:=match W.t x,gZ S i with
 | some k,ba ys=>match W.ts ys with
  | some ks=>if k.depth<=aF/\T.depths ks<=aF then ba (decide (k∈ks))else K3
  | none=>K3
 | _,_=>K3
theorem sj {h:Jc}:∀ {ks:HK T} {vs:HK HM},IsTs h ks vs->∀v∈vs,∃k∈ks,IsT h k v
 | _,_,.cons a b,v,hv=>by
  rcases IE.mp hv with rfl|hv
  ·exact#[_,.head _,a]
  ·obtain⟨k,hk,q⟩:=sj b v hv;exact#[k,.tail _ hk,q]
noncomputable def CC (h:Jc)(k:T)(v:HM):IF:=@decide (IsT h k v) (Qc _)
theorem wg {h:Jc}{k k':T}{v:HM}(x:IsT h k' v):CC h k v=decide (k'=k):=by
 unfold CC
 by_cases e:k'=k
 ·subst e; simp[x]
 ·have:¬ IsT h k v:=λy=>e (x.inj y)
  simp[e,this]
theorem sn {h:Jc}{k:T}:∀ {ks:HK T} {vs:HK HM},IsTs h ks vs->vs.any (CC h k)=decide (k∈ks)
 | _,_,.nil=>by simp
 | _,_,.cons (k:=k') a b=>by
  rw[Ky,wg a,sn b]
  by_cases e:k'=k
  ·simp[e]
  ·have:¬ k=k':=λz=>e z.symm
   simp[e,this]
theorem pq:∀ {ks:HK T} {k:T},k∈ks->k.depth<=T.depths ks
 | x::ks,k,h=>by
  simp only[T.depths];rcases IE.mp h with rfl|h
  ·omega
  ·have:=pq h; omega
theorem wj {x:W}{i:HW}{a b:V}{u v:HM}{c:IF}(hu:X.A.units+10 < cLine)(I:Inv X pins σ H s)(so:StoreOk X.w X.K A H S)(rx:Rel X.K A H x a)(ru:RelV a u)(ry:Rel X.K A H (.ref i) b)(rv:RelV b v)(e:FX x i S=ba c) :
  ∃l its k ks,v=.ref l/\s.heap.IsList l its/\(∀y,y∈its->Mw X.A.in1 s y u (CC s.heap k y))/\its.any (CC s.heap k)=c/\c=decide (k∈(ks:HK T)):=by
 unfold FX at e;split at e
 ·rename_i k ys h1 h2;split at e
  ·rename_i ks h3;split at e
   ·rename_i h4;cases e;cases ry with
    | ref ea=>
     obtain⟨vs,g1,g2⟩:=ci so h2 ea;obtain⟨its,rv',p,_⟩:=I.list g1;obtain rfl:v=IR _:=rv;have hT:IsTs s.heap ks its:=eQ I ks ((W.ts_w h3).symm ▸ g2) rv';have hk:IsT s.heap k u:=nI I k ((W.t_w h1).symm ▸ rx) ru;refine#[_,its.toArray,k,ks,rfl,p.isList,λy hy=>?_,by rw[List.any_toArray]; exact sn hT,rfl]
     obtain⟨k',hk',q⟩:=sj hT y (by simpa using hy)
     rw[wg q];have:=pq hk';have kl:aF=6:=rfl;exact wb aF k' k _ _ _ _ ∅ q hk (by rw[be]; omega) (by rw[be]; omega)
   ·cases e
  ·cases e
 ·cases e
noncomputable def eR (o:COp)(x y:W)(S:aa):HU (W×aa):=match o,y with
 | .isin,.ref i=>match jn S i with
  | some kvs=>(gf x).map λk=>(.bl (cx kvs k).isSome,S)
  | none=>match x with
   | .tup xs=>(FX (.tup xs) i S).map λb=>(.bl (b),S)
   | x=>j6 .isin x (.ref i) S
 | .notin,.ref i=>match jn S i with
  | some kvs=>(gf x).map λk=>(.bl (!(cx kvs k).isSome),S)
  | none=>match x with
   | .tup xs=>(FX (.tup xs) i S).map λb=>(.bl (!b),S)
   | x=>j6 .notin x (.ref i) S
 | o,y=>j6 o x y S
theorem pr (hu:X.A.units+gH < cLine)(o:COp):LOp X (compareOp o.py) (eR o):=by
 intro pins s σ H A S x y a b u v w S' I so rx ru ry rv e;have get:∀ {i:HW} {kvs:HK (T×W)} {k:T},y=.ref i->jn S i=ba kvs->gf x=ba k->∃d c xs,v=.ref d/\u=.ref c/\(d==sysModules)=false/\(bv X.prog X.w).is s.heap k c/\s.heap.DictOfH (bv X.prog X.w) d xs/\(cx kvs k).isSome=(atKey xs k).isSome:=by
  intro i kvs k hy hk1 hk2;subst hy;cases ry with
  | ref ea=>
   obtain⟨xs,rd,kr⟩:=fE so hk1 ea;have d:=cr I rd;obtain⟨bk,rfl,rfl,rk⟩:=hZ hk2 rx ru;obtain rfl:v=IR _:=rv;refine#[_,bk,xs,rfl,rfl,d.2.1,iT I rk (dM hk2).2.2,d.dict I kr,?_];cases q:cx kvs k with
   | none=>rw[(kr.val k).2 q]; rfl
   | some w'=>obtain⟨p,_,h1,_⟩:=(kr.val k).1 _ q; rw[h1]; rfl
 have old:j6 o x y S=ba (w,S')->wpAny (model X.prog X.w) X.A (compareOp o.py u v) (dB X pins σ A H S' w) X.xe s:=λh=>zJ hu o pins s σ H A S x y a b u v w S' I so rx ru ry rv h
 have hu':X.A.units+10 < cLine:=by have:gH=20:=rfl; omega
 unfold eR at e;split at e
 ·split at e
  ·rename_i kvs hk1;rw[HS]at e;obtain⟨k,hk2,e2⟩:=e;cases e2;obtain⟨d,c,xs,rfl,rfl,q1,q2,q3,q4⟩:=get rfl hk1 hk2;rw[q4];exact wpAny_in_heap (po hu') q2 q1 q3 #[.bl _,H,A,I.tok _,rfl,.refl,so,.bl]
  ·split at e
   ·rw[HS]at e;obtain⟨c,hc,e⟩:=e;cases e;obtain⟨l,its,k,ks,rfl,p1,p2,p3,_⟩:=wj hu' I so rx ru ry rv hc;refine Pe (CC s.heap k) p1 p2 ?_;rw[p3];exact#[.bl _,H,A,I,rfl,.refl,so,.bl]
   ·exact old e
 ·split at e
  ·rename_i kvs hk1;rw[HS]at e;obtain⟨k,hk2,e2⟩:=e;cases e2;obtain⟨d,c,xs,rfl,rfl,q1,q2,q3,q4⟩:=get rfl hk1 hk2;rw[q4];exact wpAny_notIn_heap (po hu') q2 q1 q3 #[.bl _,H,A,I.tok _,rfl,.refl,so,.bl]
  ·split at e
   ·rw[HS]at e;obtain⟨c,hc,e⟩:=e;cases e;obtain⟨l,its,k,ks,rfl,p1,p2,p3,_⟩:=wj hu' I so rx ru ry rv hc;refine Of (CC s.heap k) p1 p2 ?_;rw[p3];exact#[.bl _,H,A,I,rfl,.refl,so,.bl]
   ·exact old e
 ·exact old e
end
noncomputable def RawD (d:HX)(es:ID Ku)(ep:HW)(h:Jc):Prop:=∃o,h.get? d=ba o/\o.ExactDict/\o.data=.dict es ep
theorem RawD.at {d:HX}{es:ID Ku}{ep:HW}{h h':Jc}(x:RawD d es ep h)(e:∀o,h.get? d=ba o->h'.get? d=ba o):RawD d es ep h':=let ⟨o,ho,r⟩:=x; #[o,e _ ho,r]
theorem RawD.lt {d:HX}{es:ID Ku}{ep:HW}{h:Jc}(x:RawD d es ep h):d < h.objs.size:=let ⟨_,ho,_⟩:=x; Io ho
theorem RawD.type {d:HX}{es:ID Ku}{ep:HW}{s:HQ}(x:RawD d es ep s.heap):s.TypeIs (.ref d) "dict":=let ⟨o,ho,hc,_⟩:=x; #[o,ho,hc.1]
section
variable{prog:IM}{w:IU}{A:IQ}{E:HM->HQ->Prop}{s:HQ}{it d:HX}{i ep:HW}{es:ID Ku}
theorem pz {Q:HM->HQ->Prop}(hd:(d==sysModules)=false)(hm:RawD d es ep s.heap)
  (hQ:Q (.ref s.heap.objs.size) { s with heap:=s.heap.push { cls:=.type "dict_keyiterator",data:=.fields [.ref d,.int 0 0,.int es.size 0,.int ep 0].toArray } }):wpAny (model prog w) A (pyIter (.ref d)) Q E s:=by
 have hT:=hm.type;obtain⟨o,ho,hc,hdat⟩:=id hm;refine MQ hT F.slot_dict_iter (Jr F.slot_dict_iter hT F.entry_dict_iter ?_ (F.args_dict_iter_1 _));unfold Le.«dict.__iter__» PP;refine HL (HL (wpAny_notOrdered_dict hT ?_));show wpAny _ _ (pure (IR d)) _ _ s;refine HR ?_;show wpAny _ _ (NF d >>= _) _ _ s;unfold NF;rw[IK (by rw[hd]; exact IA)]
 refine HL (HR (HL (LY ho hdat (HL (Nw ho hdat ?_)))));refine HL (IV (HR #[_,rfl,"dict_keyiterator",_,#[_,Ij _ rfl,rfl],F.slot_dict_keyiterator_next.lookup,?_]))
 simpa [rawInt]using hQ
theorem pA {Q:HU HM->HQ->Prop}(hit:s.heap.IsKeyIter it d i es.size ep)(hm:RawD d es ep s.heap)(hi:i < es.size)
  (hQ:∀h',h'.IsKeyIter it d (i+1) es.size ep->JZ it s.heap h'->Q (ba es[i].key) { s with heap:=h' }):wpAny (model prog w) A (pyNext (.ref it)) Q E s:=by
 obtain⟨o,ho,hc,hd⟩:=id hit;obtain⟨od,hod,hcd,hdd⟩:=id hm;unfold pyNext;refine HL (L7 (Jq (name:=Kl "__next__") hit.typeIs F.slot_dict_keyiterator_next
  (Jr F.slot_dict_keyiterator_next hit.typeIs F.entry_dict_keyiterator_next ?_ (F.args_dict_keyiterator_next_1 _))))
 refine HL (HR (HL (HL ?_)))
 first|refine HL (Kq hit.typeIs (HR ?_))|refine HL (KT hit.typeIs (HR ?_))
 refine HL (Mz ho hd ?_);have hown:Mg "dict_keyiterator" = false:=by decide
 simp only[hown,IB,JA];show wpAny _ _ (if (IR d==Ja)=true then _ else _) _ _ s
 rw[IK (show ¬ ((IR d==Ja)=true)from IA)]
 refine HL (HR (HL (LY hod hdd ?_)));rw[IK (by simp)]
 refine HL (HR (HL (Nw hod hdd ?_)));rw[IK (by simp)]
 refine HR ?_;simp only[show ¬ ((i:Ik) < 0)from by omega,JA,Iu,Kg hi]
 refine HL ?_
 first|refine HL (Kq hit.typeIs (HR ?_))|refine HL (KT hit.typeIs (HR ?_))
 refine HL (NG hit.typeIs ?_);show wpAny _ _ (setField (.ref it) 1 (rawInt ((i:Ik)+1)) >>= _) _ _ s;refine HL (MD ho hd (by simp) ?_)
 have hit':(s.heap.update it (P5 (·.setIfInBounds 1 (rawInt ((i:Ik)+1))))).IsKeyIter it d (i+1) es.size ep:=
  #[_,JN _ ho (NH (LK hd _)),(OL ..).trans hc,by rw[LK hd]; simp[rawInt]]
 refine HL (Jm ?_);refine HL (NG (s:={ s with heap:=s.heap.update it (P5 (·.setIfInBounds 1 (rawInt ((i:Ik)+1)))) }) hit'.typeIs ?_)
 show wpAny _ _ (pure es[i].key) _ _ _;exact HR (HR #[_,rfl,HR (hQ _ hit' (KW ..))])
theorem sr {Q:HU HM->HQ->Prop}(hh:A.handled=K3)(hit:s.heap.IsKeyIter it d i es.size ep)(hm:RawD d es ep s.heap)(hge:es.size<=i)
  (hQ:∀h',NO it s.heap h'->Q K3 { s with heap:=h' }):wpAny (model prog w) A (pyNext (.ref it)) Q E s:=by
 obtain⟨o,ho,hc,hd⟩:=id hit;obtain⟨od,hod,hcd,hdd⟩:=id hm;unfold pyNext;refine HL (L7 (Jq (name:=Kl "__next__") hit.typeIs F.slot_dict_keyiterator_next
  (Jr F.slot_dict_keyiterator_next hit.typeIs F.entry_dict_keyiterator_next ?_ (F.args_dict_keyiterator_next_1 _))))
 refine HL (HR (HL (HL ?_)))
 first|refine HL (Kq hit.typeIs (HR ?_))|refine HL (KT hit.typeIs (HR ?_))
 refine HL (Mz ho hd ?_);have hown:Mg "dict_keyiterator" = false:=by decide
 simp only[hown,IB,JA];show wpAny _ _ (if (IR d==Ja)=true then _ else _) _ _ s
 rw[IK (show ¬ ((IR d==Ja)=true)from IA)]
 refine HL (HR (HL (LY hod hdd ?_)));rw[IK (by simp)]
 refine HL (HR (HL (Nw hod hdd ?_)));rw[IK (by simp)]
 refine HR ?_;simp only[show ¬ ((i:Ik) < 0)from by omega,JA,Iu,Array.getElem?_eq_none hge]
 refine HL ?_
 first|refine HL (Kq hit.typeIs (HR ?_))|refine HL (KT hit.typeIs (HR ?_))
 show wpAny _ _ (setField (.ref it) 0 .none >>= _) _ _ s;refine HL (MD ho hd (by simp) ?_)
 show wpAny _ _ (newExc (.type "StopIteration") [] >>= _) _ _ _;refine HL ?_;simp only[newExc,newTuple];refine HL (IV ?_ (by size_fits))
 refine HL (m:=firstArgMember _ _) (LN (a:=Ja) (by first|rfl|(simp only[firstArgMember]; rfl)) ?_)
 refine IV ?_ (by size_fits)
 simp only[raiseNew];refine HL (N9 ?_);rw[show A.in1.handled=K3 from hh]
 refine HL (HR (O8 ?_));refine HL (Lu (T:="StopIteration") (b:=true) #[_,Ij _ rfl,rfl] NL ?_);exact HR (hQ _ (((KW ..).extBut.push _).push _))
theorem uq (hh:A.handled=K3)(I d:HX)(hne:d≠I)(es:ID Ku)(ep:HW) :
  O9 prog w A I [I,d] [I] es.size (λi v=>∃e,es[i]?=ba e/\e.key=v) (λi h=>h.IsKeyIter I d i es.size ep/\RawD d es ep h) where
 sub:=λb hb=>by simp at hb; simp[hb]
 frame:=λ_ _ _ st hk=>#[st.1.at λo e=>hk I (by simp) o e,st.2.at λo e=>hk d (by simp) o e]
 item:=λi s Q E hi st hQ=>
  pA st.1 st.2 hi λh' hit' hs'=>hQ _ h' s.toks #[es[i],by simp[hi],rfl] #[hit',st.2.at λo e=>(hs'.2 d hne).trans e] λb o hb e=>hs'.extBut b o (λh=>hb (by simp[h])) e
 done:=λs Q E st hQ=>sr hh st.1 st.2 (Ih _) λh' he'=>hQ h' s.toks λb o hb e=>he' b o (λh=>hb (by simp[h])) e
 self:=λ_ _ _ _ st hQ=>NP st.1 hQ
theorem su (lo:(d==sysModules)=false):NQ prog w "dict" d d es.size (λi v=>∃e,es[i]?=ba e/\e.key=v) (RawD d es ep) where
 type:=λ_ hm=>hm.type
 there:=λ_ hm=>#[hm.lt,hm.lt]
 keep:=λ_ _ hm hk=>hm.at λo e=>hk d (.inl rfl) o e
 notList:=by decide
 notTuple:=by decide
 hint:=λ_ _ _ _ hm hq=>PySem.W.kdl_hint_dict hm.type hq
 iter:=λ_ _ hh hm=>#[_,_,(λ_ _ hq=>pz lo hm hq),uq hh _ d (Iy hm.lt) es ep,#[#[_,Ij _ rfl,rfl,rfl],hm.at λo e=>HP _ e]]
theorem wl {T:JJ}{r d S:HX}{n:HW}{P:HW->HM->Prop}{OK:Jc->Prop}{R:OV->HQ->Prop}(K:NQ prog w T r d n P OK)(hh:A.handled=K3)(hok:OK s.heap)(hn:n<=sizeLine)(hSr:S≠r)(hSd:S≠d)
  (hS:s.heap.get? S=ba { cls:=.type "list",data:=.seq #[] 0 })
  (hR:∀h' tk acc' c',(∀b o,b≠S->s.heap.get? b=ba o->h'.get? b=ba o)->h'.get? S=ba { cls:=.type "list",dict:=K3,data:=.seq acc' c',slots:=#[] }->Ni P acc' n->R (.ok (.ret (.ref S))) { s with heap:=h',toks:=tk }) :
  codeAny (model prog w) A (.builtin "list.__iadd__" #[[.ref S,.ref r],[]]) R s:=by
 refine Ju F.entry_list_iadd ?_;rw[Jk F.plain_list_iadd _];show wpAny _ A.in1 (JO (.ref S) (.ref r) (.ref S)) _ _ _;exact PySem.W.kdl_extend K hh hok S hSr hSd _ 0 hS hR hn
theorem pB {T:JJ}{r d:HX}{n:HW}{P:HW->HM->Prop}{OK:Jc->Prop}{Q:HK HM->HQ->Prop}(K:NQ prog w T r d n P OK)(hh:A.handled=K3)(hok:OK s.heap)(hn:n<=sizeLine)
  (hQ:∀h' tk acc,(∀b o,s.heap.get? b=ba o->h'.get? b=ba o)->s.heap.objs.size<=h'.objs.size->Ni P acc n->Q acc.toList { s with heap:=h',toks:=tk }):wpAny (model prog w) A (collect (.ref r)) Q E s:=by
 unfold collect;refine HL (LU (Ju F.entry_proto_collect ?_));rw[Jk F.plain_proto_collect _];show wpAny _ A.in1 (newList [] >>= λl=>again (.builtin "list.__iadd__" #[[l,.ref r],[]])) _ _ s
 refine HL (IV ?_);have hlt:=K.there _ hok;refine HR #[Kc F.plain_list_iadd _,wl (s:={ s with heap:=s.heap.push { cls:=.type "list",data:=.seq ([]:HK HM).toArray } }) K hh (K.keep _ _ hok λb _ o e=>HP _ e) hn (Kj hlt.1) (Kj hlt.2) (Ij _ rfl) λh' tk acc' c' hk hS' hacc=>?_]
 show wpAny (model prog w) A (do
   let o <- load s.heap.objs.size
   match o.data with
   | .seq xs _=>pure xs.toList
   | _=>unsupported "internal:collect") Q E { s with heap:=h',toks:=tk }
 refine HL (Nd hS' ?_);exact HR (hQ h' tk acc' (λb o e=>hk b o (Iy (Io e)) (HP _ e)) (Lp (Io hS')) hacc)
end
mutual
noncomputable def lw:T->T->HU IF
 | .int a,.int b=>ba (decide (a < b))
 | .str a,.str b=>ba (decide (a.cps.toList < b.cps.toList))
 | .tup xs,.tup ys=>ft xs ys
 | _,_=>K3
noncomputable def ft:HK T->HK T->HU IF
 | [],[]=>ba false
 | [],_::_=>ba true
 | _::_,[]=>ba false
 | x::xs,y::ys=>if x=y then ft xs ys else lw x y
end
mutual
theorem IsT.kept {h h':Jc}(hk:∀b o,o.cls=.type "tuple"->h.get? b=ba o->h'.get? b=ba o):∀ {x:T} {v:HM},IsT h x v->IsT h' x v
 | _,_,.int=>.int
 | _,_,.str=>.str
 | _,_,.tup a1 c1 d1 t1=>.tup (hk _ _ c1 a1) c1 d1 (IsTs.kept hk t1)
theorem IsTs.kept {h h':Jc}(hk:∀b o,o.cls=.type "tuple"->h.get? b=ba o->h'.get? b=ba o):∀ {x:HK T} {v:HK HM},IsTs h x v->IsTs h' x v
 | _,_,.nil=>.nil
 | _,_,.cons a b=>.cons (IsT.kept hk a) (IsTs.kept hk b)
end
theorem EF {B:IQ}{s:HQ}{d:HW}(hu:B.units+d < cLine)(hl:∀(x y:T) (u v:HM) (k:IF),x.depth<=d->y.depth<=d->IsT s.heap x u->IsT s.heap y v->lw x y=ba k->LtAt B s u v k) :
  ∀(xs ys:HK T) (us vs:HK HM) (k:IF),T.depths xs<=d->T.depths ys<=d->IsTs s.heap xs us->IsTs s.heap ys vs->ft xs ys=ba k->LexR B s us vs k
 | [],[],_,_,k,_,_,h1,h2,e=>by cases h1; cases h2; cases e; exact .nn
 | [],y::ys,_,_,k,_,_,h1,h2,e=>by cases h1; cases h2; cases e; exact .nc
 | x::xs,[],_,_,k,_,_,h1,h2,e=>by cases h1; cases h2; cases e; exact .cn
 | x::xs,y::ys,_,_,k,d1,d2,h1,h2,e=>by
  simp only[T.depths]at d1 d2;cases h1 with
  | cons p1 q1=>
   cases h2 with
   | cons p2 q2=>
    have he:=wb d x y _ _ B s ∅ p1 p2 hu ∅
    simp only[ft]at e
    by_cases hxy:x=y
    ·rw[Ix hxy]at e;rw[JY hxy]at he;exact .eq he (EF hu hl xs ys _ _ k ∅ ∅ q1 q2 e)
    ·rw[IK hxy]at e;rw[IP hxy]at he;exact .ne he (hl x y _ _ k ∅ ∅ p1 p2 e)
theorem EG:∀(d:HW) (x y:T) (u v:HM) (B:IQ) (s:HQ) (k:IF),x.depth<=d->y.depth<=d->IsT s.heap x u->IsT s.heap y v->B.units+d < cLine->lw x y=ba k->LtAt B s u v k:=by
 intro d
 induction d with
 | zero=>
  intro x y u v B s k d1 d2 h1 h2 hu e;cases h1 with
  | int=>cases h2 with
   | int=>cases e; exact λprog w E Q h=>(N1 h:wpAny (model prog w) B (compareOp .Lt _ _) Q E s)
   | _=>cases e
  | str=>cases h2 with
   | str=>cases e; exact λprog w E Q h=>(lt_str h:wpAny (model prog w) B (compareOp .Lt _ _) Q E s)
   | _=>cases e
  | tup _ _ _ _=>simp[T.depth]at d1
 | succ d ih=>
  intro x y u v B s k d1 d2 h1 h2 hu e;cases h1 with
  | int=>cases h2 with
   | int=>cases e; exact λprog w E Q h=>(N1 h:wpAny (model prog w) B (compareOp .Lt _ _) Q E s)
   | _=>cases e
  | str=>cases h2 with
   | str=>cases e; exact λprog w E Q h=>(lt_str h:wpAny (model prog w) B (compareOp .Lt _ _) Q E s)
   | _=>cases e
  | tup a1 c1 e1 t1=>cases h2 with
   | tup a2 c2 e2 t2=>
    simp only[T.depth]at d1 d2;have hu1:B.in1.units+d < cLine:=by rw[be]; omega
    exact LtAt.tuples #[_,a1,c1,_,e1] #[_,a2,c2,_,e2] ∅ (EF hu1 (λx y u v k q1 q2 q3 q4 q5=>ih x y u v B.in1 s k q1 q2 q3 q4 hu1 q5) _ _ _ _ k ∅ ∅ t1 t2 e)
   | _=>cases e
section
variable{prog:IM}{w:IU}{A:IQ}{R:OV->HQ->Prop}{I S:HX}{fp wr:HK HX}{n:HW}{P:HW->HM->Prop}{St:HW->Jc->Prop}{Ok:Jc->Prop}{bt:HW->HW->IF}
noncomputable def wm (prog:IM)(w:IU)(A:IQ)(P:HW->HM->Prop)(Ok:Jc->Prop)(bt:HW->HW->IF):Prop:=
 ∀i j vi vj (s:HQ) (Q:HM->HQ->Prop) (E:HM->HQ->Prop),Ok s.heap->P i vi->P j vj->Q (.bool (bt i j)) s->wpAny (model prog w) A (richCompare .Lt vi vj) Q E s
theorem wn (W:O9 prog w A.in1 I fp wr n P St)(hcmp:wm prog w A.in1 P Ok bt)(hSf:S∉fp)(hok:∀h h',Ok h->(∀b o,b∉wr->b≠S->h.get? b=ba o->h'.get? b=ba o)->Ok h') :
  ∀(k j:HW) (s:HQ) (vb:HM) (c:HW),n - (j+1)=k->j < n->St (j+1) s.heap->P (argBest bt j) vb->Ok s.heap->s.heap.get? S=ba { cls:=.type "list",dict:=K3,data:=.seq [vb,vb].toArray c,slots:=#[] }->
  (∀v h' tk,P (argBest bt (n - 1)) v->(∀b o,b∉wr->b≠S->s.heap.get? b=ba o->h'.get? b=ba o)->R (.ok (.ret v)) { s with heap:=h',toks:=tk })->
  codeAny (model prog w) A (.builtin "min.loop" #[[.ref I,.none,.ref S],[]]) R s:=by
 have hSw:S∉wr:=λh=>hSf (W.sub _ h)
 have hname:(toString "min" ++ toString ".loop" : JJ) = "min.loop":=by decide
 intro k
 induction k with
 | zero=>
  intro j s vb c hk hj hst hPb hO hS hR;have hin:j+1=n:=∅
  refine Ju F.entry_min_loop ?_;rw[Jk F.plain_min_loop _];show wpAny _ A.in1 (seqItems? (.ref S) >>= _) _ _ s;refine HL (Ko hS rfl ?_);show wpAny _ A.in1 (tryCatch (pyNext (.ref I)) _ >>= _) _ _ s;refine HL (ME (W.done s _ _ (hin ▸ hst) λh' tk hk'=>?_))
  have hS':=hk' S _ hSw hS;show wpAny _ A.in1 (updateSeq S (λ_=>#[]) >>= _) _ _ _
  refine HL (LG hS' rfl (HL (Mb (HR ?_))));have e:j=n - 1:=∅
  exact hR vb _ tk (e ▸ hPb) λb o hbw hbS e=>(IX _ _ (Ne.symm hbS)).trans (hk' b o hbw e)
 | succ k ih=>
  intro j s vb c hk hj hst hPb hO hS hR;have hlt:j+1 < n:=∅
  refine Ju F.entry_min_loop ?_;rw[Jk F.plain_min_loop _];show wpAny _ A.in1 (seqItems? (.ref S) >>= _) _ _ s;refine HL (Ko hS rfl ?_);show wpAny _ A.in1 (tryCatch (pyNext (.ref I)) _ >>= _) _ _ s;refine HL (ME (W.item (j+1) s _ _ hlt hst λv h' tk hP hst' hk'=>?_))
  have hS':=hk' S _ hSw hS;have hO':Ok h':=hok _ _ hO λb o hb _ e=>hk' b o hb e
  show wpAny _ A.in1 (tryCatch (holding [v,v] (richCompare .Lt v vb >>= _)) _ >>= _) _ _ _;refine HL (ME (Jm (HL (hcmp (j+1) (argBest bt j) v vb _ _ _ hO' hP hPb ?_))));refine HL (Jm (Ks ?_));refine HL (Mb (HR ?_));cases hb:bt (j+1) (argBest bt j)with
  | true=>
   simp only[Kb];refine HL (LG hS' rfl (HL (Mb ?_)));rw[hname];refine HR #[Kc F.plain_min_loop _,ih (j+1) _ v _ ∅ hlt (W.frame _ _ _ hst' λb hbf o e=>?_) (by simp only[argBest,hb,Kb]; exact hP) (hok _ _ hO' λb o _ hbS e=>(IX _ _ (Ne.symm hbS)).trans e) (JN _ hS' rfl)
    λv' h'' tk'' hP' hk''=>?_]
   ·exact(IX _ _ (λh:S=b=>hSf (by rw[h]; exact hbf))).trans e
   ·exact hR v' h'' tk'' hP' λb o hbw hbS e=>hk'' b o hbw hbS ((IX _ _ (Ne.symm hbS)).trans (hk' b o hbw e))
  | false=>
   simp only[IB,JA];refine HL (Mb ?_);rw[hname];refine HR #[Kc F.plain_min_loop _,ih (j+1) _ vb c ∅ hlt hst' (by simp only[argBest,hb,IB,JA]; exact hPb) hO' hS' λv' h'' tk'' hP' hk''=>?_]
   exact hR v' h'' tk'' hP' λb o hbw hbS e=>hk'' b o hbw hbS (hk' b o hbw e)
theorem ur (W:O9 prog w A.in1 I fp wr n P St)(hcmp:wm prog w A.in1 P Ok bt)(hSf:S∉fp)(hok:∀h h',Ok h->(∀b o,b∉wr->b≠S->h.get? b=ba o->h'.get? b=ba o)->Ok h')(hn:0 < n){s:HQ}{c:HW}(hst:St 0 s.heap)(hO:Ok s.heap)
  (hS:s.heap.get? S=ba { cls:=.type "list",dict:=K3,data:=.seq #[] c,slots:=#[] })
  (hR:∀v h' tk,P (argBest bt (n - 1)) v->(∀b o,b∉wr->b≠S->s.heap.get? b=ba o->h'.get? b=ba o)->R (.ok (.ret v)) { s with heap:=h',toks:=tk }) :
  codeAny (model prog w) A (.builtin "min.loop" #[[.ref I,.none,.ref S],[]]) R s:=by
 have hSw:S∉wr:=λh=>hSf (W.sub _ h)
 have hname:(toString "min" ++ toString ".loop" : JJ) = "min.loop":=by decide
 refine Ju F.entry_min_loop ?_;rw[Jk F.plain_min_loop _];show wpAny _ A.in1 (seqItems? (.ref S) >>= _) _ _ s;refine HL (Ko hS rfl ?_);show wpAny _ A.in1 (tryCatch (pyNext (.ref I)) _ >>= _) _ _ s;refine HL (ME (W.item 0 s _ _ hn hst λv h' tk hP hst' hk'=>?_))
 have hS':=hk' S _ hSw hS;show wpAny _ A.in1 (updateSeq S (λ_=>[v,v].toArray) >>= _) _ _ _
 refine HL (LG hS' rfl ?_);rw[hname];have hO':Ok h':=hok _ _ hO λb o hb _ e=>hk' b o hb e
 refine HR #[Kc F.plain_min_loop _,wn W hcmp hSf hok _ 0 _ v _ rfl hn (W.frame _ _ _ hst' λb hbf o e=>?_) hP (hok _ _ hO' λb o _ hbS e=>(IX _ _ (Ne.symm hbS)).trans e) (JN _ hS' rfl) λv' h'' tk'' hP' hk''=>?_]
 ·exact(IX _ _ (λh:S=b=>hSf (by rw[h]; exact hbf))).trans e
 ·exact hR v' h'' tk'' hP' λb o hbw hbS e=>hk'' b o hbw hbS ((IX _ _ (Ne.symm hbS)).trans (hk' b o hbw e))
end
section
variable{prog:IM}{w:IU}{A:IQ}{E:HM->HQ->Prop}{s:HQ}
theorem wo {l:HX}{items:ID HM}{bt:HW->HW->IF}{Q:HM->HQ->Prop}(hh:A.handled=K3)(hl:s.heap.IsList l items)(hn:0 < items.size)
  (hcmp:wm prog w A.in1 (λi v=>items[i]?=ba v) (λh=>∀b o,s.heap.get? b=ba o->h.get? b=ba o) bt)
  (hQ:∀v h' tk,items[argBest bt (items.size - 1)]?=ba v->(∀b o,s.heap.get? b=ba o->h'.get? b=ba o)->Q v { s with heap:=h',toks:=tk }) :
  wpAny (model prog w) A (call (.builtin "min") [.ref l]) Q E s:=by
 have hname:(toString "min" ++ toString ".loop" : JJ) = "min.loop":=by decide
 refine call_function_tree F.kind_min F.plain_min F.entry_min (F.args_min1 _) ?_;show wpAny _ A.in1 (Mq "min" ["key","default"] 0 #[[],[]] >>= _) _ _ s;refine HL (LN (show Mq "min" ["key","default"] 0 #[[],[]]=pure [K3,K3]from rfl) ?_)
 refine HL (HR ?_);refine HL (LX hl ?_);refine HL (IV ?_);rw[hname];have hlt:l < s.heap.objs.size:=let ⟨_,ho,_⟩:=hl; Io ho
 have hne:l≠s.heap.objs.size:=Iy hlt;have W:=PF (prog:=prog) (w:=w) (A:=A.in1) hh s.heap.objs.size l hne items;have hsz:∀o:JR,(s.heap.push o).objs.size=s.heap.objs.size+1:=λo=>by simp[Heap.push]
 refine HR #[Kc F.plain_min_loop _,ur (A:=A) (Ok:=λh=>∀b o,s.heap.get? b=ba o->h.get? b=ba o) W hcmp (λhm=>?_) (λh h' ho hk b o e=>?_) hn #[?_,?_] (λb o e=>HP _ (HP _ e)) (Ij _ rfl) λv h' tk hv hk=>?_]
 ·rcases IE.mp hm with e|hm
  ·exact absurd (show(s.heap.push _).objs.size=s.heap.objs.size from e) (by rw[hsz]; exact Nat.succ_ne_self _)
  ·have e:(s.heap.push _).objs.size=l:=Ir.mp hm;rw[hsz]at e;exact absurd hlt (by rw[<- e]; exact Oj.mpr (KN _))
 ·have hb:=Io e;refine hk b o (λz=>?_) (λz=>?_) (ho b o e)
  ·rw[Ir.mp z]at hb; exact JM _ hb
  ·have z':b=(s.heap.push _).objs.size:=z;rw[hsz]at z';rw[z']at hb;exact absurd hb (Oj.mpr (KN _))
 ·exact#[_,HP _ (Ij _ rfl),rfl,rfl]
 ·obtain⟨o,ho,hc⟩:=hl;exact#[o,HP _ (HP _ ho),hc]
 ·refine hQ v h' tk hv λb o e=>hk b o (λz=>?_) (λz=>?_) (HP _ (HP _ e))
  ·have hb:=Io e;rw[Ir.mp z]at hb; exact JM _ hb
  ·have hb:=Io e;have z':b=(s.heap.push _).objs.size:=z;rw[hsz]at z';rw[z']at hb;exact absurd hb (Oj.mpr (KN _))
end
open PySem.W (KasT kas_sort kas_ask kas_cmp kas_item kas_asc kas_desc kas_tail3 kas_descPart kas_count kas_place kas_bin kas_rev)
noncomputable def bR {α:Type}(lt:HW->HW->IF):KasT α->α
 | .ret a=>a
 | .ask i j k=>bR lt (k (lt i j))
noncomputable def OkK {α:Type}(n:HW)(P:α->Prop):KasT α->Prop
 | .ret a=>P a
 | .ask i j k=>i < n/\j < n/\∀b,OkK n P (k b)
theorem pE {α:Type}{n:HW}{P:α->Prop}{lt:HW->HW->IF}:∀(t:KasT α),OkK n P t->P (bR lt t)
 | .ret _,h=>h
 | .ask i j k,h=>pE (k (lt i j)) (h.2.2 _)
theorem nJ {α:Type}{n:HW}{P:α->Prop}{lt:HW->HW->IF}{t:KasT α}(h:OkK n P t):P (bR lt t):=pE t h
theorem OkK.bind {α β:Type}{n:HW}{P:α->Prop}{P':β->Prop}{f:α->KasT β}:∀ {t:KasT α},OkK n P t->(∀a,P a->OkK n P' (f a))->OkK n P' (t.bind f)
 | .ret a,h,hf=>hf a h
 | .ask _ _ _,h,hf=>#[h.1,h.2.1,λb=>OkK.bind (h.2.2 b) hf]
theorem mw {α:Type}{n:HW}{P:α->Prop}{lt:HW->HW->IF}{cmp:HW->HW->(IF->HQ->Prop)->HQ->Prop}{Q:α->HQ->Prop}{s:HQ}(hc:∀i j,i < n->j < n->∀C:IF->HQ->Prop,C (lt i j) s->cmp i j C s) :
  ∀ {t:KasT α},OkK n P t->Q (bR lt t) s->t.kasWp cmp Q s
 | .ret _,_,h=>h
 | .ask i j k,h,hq=>hc i j h.1 h.2.1 _ (mw hc (h.2.2 _) hq)
noncomputable def Pm (n:HW)(p:ID HW):Prop:=p.toList.Perm (IN n)
theorem Pm.size {n:HW}{p:ID HW}(h:Pm n p):p.size=n:=by rw[<- Il,h.length_eq,Jb]
theorem Pm.lt {n:HW}{p:ID HW}(h:Pm n p)(hn:0 < n)(i:HW):p.getD i 0 < n:=by
 by_cases hi:i < p.size
 ·have e:p.getD i 0=p[i]:=by simp[LI,hi]
  rw[e];have:p[i]∈p.toList:=by simp
  exact Ji.mp (h.mem_iff.mp this)
 ·have e:p.getD i 0=0:=by simp[LI,hi]
  rw[e]; exact hn
theorem Pm.rev {n:HW}{p:ID HW}(h:Pm n p)(i j:HW):Pm n (kas_rev p i j):=(MF.mp (mirror_perm p i j _)).trans h
theorem Pm.bub {n:HW}{p:ID HW}(h:Pm n p)(i j:HW):Pm n (bubble p i j):=(MF.mp (bubble_perm p i j)).trans h
section
variable{n:HW}(hn:0 < n)
include hn
theorem re {p:ID HW}(h:Pm n p):∀(f m:HW),OkK n (λ_=>OT) (kas_asc p f m)
 | 0,_=>trivial
 | f+1,m=>#[h.lt hn _,h.lt hn _,λb=>by
  show OkK n _ (if b=true then _ else _)
  split
  ·trivial
  ·exact re h f (m+1)]
theorem jS:∀(f:HW) (p:ID HW) (m q:HW),Pm n p->OkK n (λr=>Pm n r.1) (kas_desc f p m q)
 | 0,p,m,q,h=>h
 | f+1,p,m,q,h=>#[h.lt hn _,h.lt hn _,λb=>by
  show OkK n _ (if b=true then _ else _)
  split
  ·split
   ·exact jS f _ _ _ (h.rev _ _)
   ·exact jS f _ _ _ h
  ·refine#[h.lt hn _,h.lt hn _,λc=>?_]
   show OkK n _ (if c=true then _ else _)
   split
   ·exact h
   ·exact jS f _ _ _ h]
theorem sv {p:ID HW}(h:Pm n p)(m k:HW):OkK n (λr=>Pm n r.2) (kas_tail3 m k p):=by
 unfold kas_tail3;exact OkK.bind (re hn (h.rev 0 m) _ _) λa _=>h.rev 0 m
theorem jo {p:ID HW}(h:Pm n p)(m k:HW):OkK n (λr=>Pm n r.2) (kas_descPart m k p):=by
 unfold kas_descPart;refine OkK.bind (jS hn _ _ _ _ h) λr hr=>?_
 split
 ·exact sv hn (hr.rev _ _) _ _
 ·exact sv hn hr _ _
theorem wp {p:ID HW}(h:Pm n p)(k:HW):OkK n (λr=>Pm n r.2) (kas_count k p):=by
 unfold kas_count;refine OkK.bind (re hn h _ _) λm _=>?_
 split
 ·exact h
 ·split
  ·refine#[h.lt hn _,h.lt hn _,λc=>?_]
   show OkK n _ (if c=true then _ else _)
   split
   ·exact h
   ·exact jo hn (h.rev _ _) _ _
  ·exact jo hn h _ _
theorem kn {p:ID HW}(h:Pm n p)(k:HW):∀(f l r:HW),OkK n (λ_=>OT) (kas_place p k f l r)
 | 0,_,_=>trivial
 | f+1,l,r=>by
  unfold kas_place;split
  ·trivial
  ·refine#[h.lt hn _,h.lt hn _,λc=>?_]
   show OkK n _ (if c=true then _ else _)
   split
   ·exact kn h k f _ _
   ·exact kn h k f _ _
theorem wq:∀(f:HW) (p:ID HW) (k:HW),Pm n p->OkK n (Pm n) (kas_bin f p k)
 | 0,p,k,h=>h
 | f+1,p,k,h=>by
  unfold kas_bin;exact OkK.bind (kn hn h k _ _ _) λl _=>wq f _ _ (h.bub _ _)
theorem jT:OkK n (Pm n) (kas_sort n):=by
 unfold kas_sort;refine OkK.bind (wp hn (by unfold Pm; simp) _) λr hr=>?_
 split
 ·exact wq hn _ _ _ hr
 ·exact hr
end
section
variable{prog:IM}{w:IU}{A:IQ}{E:HM->HQ->Prop}{s:HQ}{vs:HK HM}
noncomputable def dk (lt:HW->HW->IF){β:Type}(d:β)(vs:HK β):HK β:=if vs.length < 2 then vs else(bR lt (kas_sort vs.length)).toList.map λi=>vs.getD i d
theorem pG {lt:HW->HW->IF}{β:Type}{d:β}{vs:HK β}:(dk lt d vs).length=vs.length:=by
 unfold dk;split
 ·rfl
 ·rw[HN,Il,(nJ (lt:=lt) (jT (n:=vs.length) ∅)).size]
theorem mx {a:HX}{n:HW}{lt:HW->HW->IF}{κ:M6}{P:QY->HQ->Prop}(ho:s.heap.get? a=ba (seqObj "list" vs.toArray n))(h64:vs.length < 64)
  (hkind:2<=vs.length->∀h',(∀b o,b≠a->s.heap.get? b=ba o->h'.get? b=ba o)->∀Q:M6->HQ->Prop,Q κ { s with heap:=h' }->wpAny (model prog w) A (keyKind' vs.toArray) Q (λ_ _=>JF) { s with heap:=h' })
  (hlt:2<=vs.length->∀h',(∀b o,b≠a->s.heap.get? b=ba o->h'.get? b=ba o)->∀i j,i < vs.length->j < vs.length->∀Q:IF->HQ->Prop,Q (lt i j) { s with heap:=h' }->
   wpAny (model prog w) A (keyLt' κ (vs.getD i Ja) (vs.getD j Ja)) Q (λ_ _=>JF) { s with heap:=h' })
  (h:∀h' c,(∀b o,b≠a->s.heap.get? b=ba o->h'.get? b=ba o)->h'.get? a=ba (seqObj "list" (dk lt Ja vs).toArray c)->P (.done (.ret .none)) { s with heap:=h' }) :
  wpAny (model prog w) A (Le.«list.sort» #[[.ref a],[]]) P E s:=by
 have ha:a < s.heap.objs.size:=Io ho;obtain⟨e1,ho1⟩ : ∃e1,(s.heap.update a (JK λ_=>(#[]:ID HM))).get? a=ba (seqObj "list" #[] e1):=#[_,Nx ho λ_=>#[]]
 have keep:∀b o,b≠a->s.heap.get? b=ba o->(((s.heap.update a (JK λ_=>(#[]:ID HM))).push (seqObj "tuple" vs.toArray 0)).push (seqObj "list" #[] 0)).get? b=ba o:=λb o hb e=>
  HP _ (HP _ ((LA _ _ _ _ hb).trans e))
 have ho3:(((s.heap.update a (JK λ_=>(#[]:ID HM))).push (seqObj "tuple" vs.toArray 0)).push (seqObj "list" #[] 0)).get? a=ba (seqObj "list" #[] e1):=HP _ (HP _ ho1)
 have fin:∀(out:HK HM),out.length=vs.length->out=dk lt Ja vs->P (.done (.ret .none)) { s with heap:=(((s.heap.update a (JK λ_=>(#[]:ID HM))).push (seqObj "tuple" vs.toArray 0)).push (seqObj "list" #[] 0)).update a (JK λ_=>out.toArray) }:=λout hl e=>by
  obtain⟨c2,hc2⟩ : ∃c2,((((s.heap.update a (JK λ_=>(#[]:ID HM))).push (seqObj "tuple" vs.toArray 0)).push (seqObj "list" #[] 0)).update a (JK λ_=>out.toArray)).get? a=ba (seqObj "list" out.toArray c2):=#[_,Nx ho3 λ_=>out.toArray]
  exact h _ c2 (λb o hb q=>(LA _ _ _ _ hb).trans (keep b o hb q)) (e ▸ hc2)
 rw[list_sort_plain];refine HL (OM ho rfl ?_);refine HL (M0 ho rfl ?_ (by rw[Ii,Jf]; omega) (JW _))
 refine HL (Pc ho1 rfl ?_);refine HL (NM ?_ (by show vs.length<=_; rw[Jf]; omega))
 refine HL (M1 ?_ (JW _));refine Jm ?_;show wpAny (model prog w) A _ P E { s with heap:=((s.heap.update a (JK λ_=>(#[]:ID HM))).push (seqObj "tuple" vs.toArray 0)).push (seqObj "list" #[] 0) }
 dsimp only
 by_cases h2:vs.length < 2
 ·rw[Ix (by rw[Ii]; exact h2),Ix (by rw[Ii]; exact h2)]
  refine HL (HR (HL ?_));rw[StateT.run_pure];refine HR ?_;dsimp only;refine HL (Pc ho3 rfl ?_);have hs:((arrOf (SortSt.mk' general' (vs.toArray.zip vs.toArray) #[] 7 K3)).map (·.2))=vs.toArray:=by
   show(vs.toArray.zip vs.toArray).map (·.2)=vs.toArray
   apply Array.toList_inj.mp;rw[M7,Array.toList_zip];exact List.map_snd_zip (Ih _)
  rw[hs];refine HL (M0 ho3 rfl ?_ (JW _) (by rw[Ii,Jf]; omega))
  simp only[ON,IB,JA];exact HR (fin vs rfl (by unfold dk; rw[Ix h2]))
 ·have hn2:¬ vs.toArray.size < 2:=by rw[Ii]; exact h2
  have h2':2<=vs.length:=∅
  rw[IK hn2,IK hn2];refine HL (J2 (hkind h2' _ keep (λ(k:M6) (s':HQ)=>k=κ/\s'={ s with heap:=((s.heap.update a (JK λ_=>(#[]:ID HM))).push (seqObj "tuple" vs.toArray 0)).push (seqObj "list" #[] 0) }) #[rfl,rfl]) ?_ λ_ _ x=>x.elim)
  rintro _ _ ⟨rfl,rfl⟩;refine HL (J2 (PySem.W.kat_run (Q:=λst' s'=>∃p:ID HW,p.size=vs.length/\arrOf st'=p.map (kas_item (vs.toArray.zip vs.toArray))/\failedOf st'=K3/\p=bR lt (kas_sort vs.length)/\s'={ s with heap:=((s.heap.update a (JK λ_=>(#[]:ID HM))).push (seqObj "tuple" vs.toArray 0)).push (seqObj "list" #[] 0) })
   (G:=λp s'=>p=bR lt (kas_sort vs.length)/\s'={ s with heap:=((s.heap.update a (JK λ_=>(#[]:ID HM))).push (seqObj "tuple" vs.toArray 0)).push (seqObj "list" #[] 0) }) rfl h2' h64 (λp' st' s' a1 a2 a3 a4=>#[p',a1,a2,a3,a4])
   (mw (lt:=lt) (λi j hi hj C hC=>hlt h2' _ keep i j hi hj C hC) (jT (n:=vs.length) ∅) #[rfl,rfl])) ?_ λ_ _ e=>e)
  rintro⟨⟨⟩,st'⟩ s' ⟨p,hp,har,hf,ep,rfl⟩;dsimp only;have hout:=PySem.W.kat_snds rfl har;have hsz:(p.toList.map λi=>vs.getD i Ja).length=vs.length:=by rw[HN,Il,hp]
  rw[hout];refine HL (Pc ho3 rfl ?_);refine HL (M0 ho3 rfl ?_ (JW _) (by rw[Ii,hsz,Jf]; omega))
  rw[hf];simp only[ON,IB,JA];exact HR (fin _ hsz (by unfold dk; rw[IK h2,ep]))
theorem ut {x:HM}{lt:HW->HW->IF}{κ:M6}{Q:HM->HQ->Prop}(h64:vs.length < 64)
  (hcol:∀Q':HK HM->HQ->Prop,(∀h' tk,(∀b o,s.heap.get? b=ba o->h'.get? b=ba o)->s.heap.objs.size<=h'.objs.size->Q' vs { s with heap:=h',toks:=tk })->wpAny (model prog w) A.in1 (collect x) Q' E s)
  (hkind:2<=vs.length->∀h' tk,(∀b o,s.heap.get? b=ba o->h'.get? b=ba o)->∀Q:M6->HQ->Prop,Q κ { s with heap:=h',toks:=tk }->wpAny (model prog w) A.in1.in1 (keyKind' vs.toArray) Q (λ_ _=>JF) { s with heap:=h',toks:=tk })
  (hlt:2<=vs.length->∀h' tk,(∀b o,s.heap.get? b=ba o->h'.get? b=ba o)->∀i j,i < vs.length->j < vs.length->∀Q:IF->HQ->Prop,Q (lt i j) { s with heap:=h',toks:=tk }->
   wpAny (model prog w) A.in1.in1 (keyLt' κ (vs.getD i Ja) (vs.getD j Ja)) Q (λ_ _=>JF) { s with heap:=h',toks:=tk })
  (h:∀D h' tk c,(∀b o,s.heap.get? b=ba o->h'.get? b=ba o)->s.heap.objs.size<=D->h'.get? D=ba (seqObj "list" (dk lt Ja vs).toArray c)->Q (.ref D) { s with heap:=h',toks:=tk }) :
  wpAny (model prog w) A (call (.builtin "sorted") [x]) Q E s:=by
 refine Lx Qx Qj Qk (Ql _) ?_;unfold Le.«sorted»;refine HL (m:=checkCount "sorted" 1 1 _) (HR ?_);refine HL (hcol _ λh1 tk1 hk1 hle=>?_)
 refine HL (M1 ?_ (by rw[Jf]; omega))
 have hoL:(h1.push (seqObj "list" vs.toArray 0)).get? h1.objs.size=ba (seqObj "list" vs.toArray 0):=Ij _ rfl;have kp:∀b o,s.heap.get? b=ba o->(h1.push (seqObj "list" vs.toArray 0)).get? b=ba o:=λb o e=>HP _ (hk1 b o e)
 have hne:∀b o,s.heap.get? b=ba o->b≠h1.objs.size:=λb o e=>Iy (IG (Io e) hle)
 show wpAny _ _ _ _ _ { s with heap:=h1.push (seqObj "list" vs.toArray 0),toks:=tk1 }
 refine HL (Jm (Jr PJ #[_,hoL,rfl] Pi ?_ (PK _)));refine mx (s:={ s with heap:=h1.push (seqObj "list" vs.toArray 0),toks:=tk1 }) (lt:=lt) (κ:=κ) hoL h64 (λh2 h' hk Q hq=>hkind h2 h' tk1 (λb o e=>hk b o (hne b o e) (kp b o e)) Q hq)
  (λh2 h' hk i j hi hj Q hq=>hlt h2 h' tk1 (λb o e=>hk b o (hne b o e) (kp b o e)) i j hi hj Q hq) λh' c hk hD=>?_
 exact#[_,rfl,HR #[_,rfl,h _ h' tk1 c (λb o e=>hk b o (hne b o e) (kp b o e)) hle hD]]
end
end Mi
namespace Mi
open PySem PySem.Spec PyProof.Rows L2
noncomputable def fj:T->JJ
 | .int _=>"int"|.str _=>"str"|.tup _=>"tuple"
noncomputable def bH:T->HU T
 | .tup (x::_)=>ba x
 | _=>K3
noncomputable def rf (ks:HK T):HU HW:=
 if ks.all (λk=>fj k == "int")then ba 0
 else if ks.all (λk=>fj k == "str")then ba 1
 else if ks.all (λk=>(bH k).any λf=>fj f == "int")then ba 2
 else if ks.all (λk=>(bH k).any λf=>fj f == "str")then ba 3
 else if ks.all (λk=>(bH k).any λf=>fj f == "tuple")then ba 4
 else K3
noncomputable def sw:HW->M6
 | 0=>oneType'|1=>oneType'|2=>tuples' true|3=>tuples' true|_=>tuples' false
noncomputable def gz (ks:HK T):IF:=ks.all λx=>ks.all λy=>(lw x y).isSome
noncomputable def pH (ks:HK T)(i j:HW):IF:=(lw (ks.getD i (.int 0)) (ks.getD j (.int 0))).getD false
theorem dQ {ks:HK T}(h:gz ks=true){i j:HW}(hi:i < ks.length)(hj:j < ks.length):lw (ks[i]) (ks[j])=ba (pH ks i j):=by
 unfold gz at h;rw[IC]at h;have h1:=h ks[i] (Jg hi);rw[IC]at h1;have h2:=h1 ks[j] (Jg hj);unfold pH;rw[show ks.getD i (.int 0)=ks[i] by simp[hi],show ks.getD j (.int 0)=ks[j] by simp[hj]]
 obtain⟨b,hb⟩:=Jn.mp h2;rw[hb]; rfl
noncomputable def Hr (c:HW)(x y:T):Prop:=match c with|0=>fj x = "int"/\fj y = "int"|1=>fj x = "str"/\fj y = "str"|2=>∃f g,bH x=ba f/\bH y=ba g/\fj f = "int"/\fj g = "int"|3=>∃f g,bH x=ba f/\bH y=ba g/\fj f = "str"/\fj g = "str"|_=>∃f g,bH x=ba f/\bH y=ba g
section
variable{prog:IM}{w:IU}{A:IQ}{E:HM->HQ->Prop}{s:HQ}
theorem sx {h:Jc}{k:T}{v:HM}(x:IsT h k v):P6 (model prog w) h (typeOf v) (.type (fj k)):=by
 cases x with
 | int=>exact .now
 | str=>exact .now
 | tup a c d t=>exact c ▸ ((QZ a).andThen .now:P6 (model prog w) h (typeOf (.ref _)) _)
theorem IsTs.mem {h:Jc}:∀ {ks:HK T} {vs:HK HM},IsTs h ks vs->∀v∈vs,∃k∈ks,IsT h k v
 | _,_,.cons a b,v,hv=>by
  rcases IE.mp hv with rfl|hv
  ·exact#[_,.head _,a]
  ·obtain⟨k,hk,q⟩:=IsTs.mem b v hv;exact#[k,.tail _ hk,q]
theorem my {h:Jc}{p:T->IF}:∀ {ks:HK T} {vs:HK HM},IsTs h ks vs->ks.all (λk=>(bH k).any p)=true->∃fs,PySem.W.KatTups h vs fs/\fs.length=vs.length/\∀v∈fs,∃k,p k=true/\IsT h k v
 | _,_,.nil,_=>#[[],.nil,rfl,λv hv=>nomatch hv]
 | k::ks,_,.cons a b,hp=>by
  rw[Jo,HV]at hp;obtain⟨fs,h1,h2,h3⟩:=my b hp.2;cases a with
  | int=>simp[bH]at hp
  | str=>simp[bH]at hp
  | @tup kk ad o items n a1 c1 d1 t1=>
   cases kk with
   | nil=>simp[bH]at hp
   | cons x xs=>
    have hx:p x=true:=by simpa [bH]using hp.1
    generalize hit:items.toList=its at t1;cases t1 with
    | @cons _ u _ us q1 q2=>
     refine#[u::fs,.cons a1 c1 d1 (by rw[<- JB,hit]; rfl) h1,by simp[h2],λv hv=>?_]
     rcases IE.mp hv with rfl|hv
     ·exact#[x,hx,q1]
     ·exact h3 v hv
theorem wt {ks:HK T}{vs:HK HM}{c:HW}{Q:M6->HQ->Prop}(h:IsTs s.heap ks vs)(h2:2<=vs.length)(hc:rf ks=ba c)(hq:Q (sw c) s):wpAny (model prog w) A (keyKind' vs.toArray) Q E s:=by
 have one:∀ty:JJ,(JS ty != JS "tuple")=true->ks.all (λk=>fj k==ty)=true->Q oneType' s->wpAny (model prog w) A (keyKind' vs.toArray) Q E s:=λty hty hall hq=>
  PySem.W.kas_kind (T:=.type ty) h2 (λv hv=>by
   obtain⟨k,hk,x⟩:=h.mem v hv;have:=eq_of_beq (IC.mp hall k hk);exact this ▸ sx x) hty (by simp) hq
 have tup:∀ty:JJ,ks.all (λk=>(bH k).any λf=>fj f==ty)=true->Q (tuples' (JS ty != JS "tuple")) s->wpAny (model prog w) A (keyKind' vs.toArray) Q E s:=λty hall hq=>by
  obtain⟨fs,h1,h3,h4⟩:=my h hall;exact PySem.W.kat_kind (T:=.type ty) h1 ∅ (λv hv=>by
   obtain⟨k,hk,x⟩:=h4 v hv;have:=eq_of_beq hk;exact this ▸ sx x) (by simp) hq
 unfold rf at hc;split at hc
 ·cases hc; exact one "int" #v[] (by assumption) hq
 ·split at hc
  ·cases hc; exact one "str" #v[] (by assumption) hq
  ·split at hc
   ·cases hc; exact tup "int" (by assumption) hq
   ·split at hc
    ·cases hc; exact tup "str" (by assumption) hq
    ·split at hc
     ·cases hc; exact tup "tuple" (by assumption) hq
     ·cases hc
theorem pI {b:IF}{Q:IF->HQ->Prop}{d:HW}(hu:A.units+d < cLine):∀(xs ys:HK T) (us vs:HK HM) (i:HW) (k:IF),T.depths xs<=d->T.depths ys<=d->IsTs s.heap xs us->IsTs s.heap ys vs->ft xs ys=ba k->
  (b=true->i=0->∀x y,xs.head?=ba x->ys.head?=ba y->(fj x = "int"/\fj y = "int")\/(fj x = "str"/\fj y = "str"))->Q k s->PySem.W.KatLex prog w A b (decide (us.length < vs.length)) Q (us.zip vs) i s
 | [],[],_,_,i,k,_,_,h1,h2,e,hb,hq=>by cases h1; cases h2; cases e; exact Ny (by simpa using hq)
 | [],y::ys,_,_,i,k,_,_,h1,h2,e,hb,hq=>by cases h1; cases h2; cases e; exact Ny (by simpa using hq)
 | x::xs,[],_,_,i,k,_,_,h1,h2,e,hb,hq=>by cases h1; cases h2; cases e; exact Ny (by simpa using hq)
 | x::xs,y::ys,_,_,i,k,d1,d2,h1,h2,e,hb,hq=>by
  simp only[T.depths]at d1 d2;cases h1 with
  | @cons _ u _ us p1 q1=>
   cases h2 with
   | @cons _ v _ vs p2 q2=>
    have he:=wb d x y _ _ A s ∅ p1 p2 hu ∅
    rw[K8];refine PySem.W.kat_cons (he prog w _ _ ?_);simp only[ft]at e;have hlen:decide ((u::us).length < (v::vs).length)=decide (us.length < vs.length):=by simp
    rw[hlen]
    by_cases hxy:x=y
    ·rw[Ix hxy]at e;rw[JY hxy];exact PySem.W.kat_yes (pI hu xs ys us vs (i+1) k ∅ ∅ q1 q2 e (λ_ z=>absurd z (O0 _)) hq)
    ·rw[IK hxy]at e;rw[IP hxy];refine PySem.W.kat_no ?_
     by_cases hb0:b=true/\i=0
     ·obtain⟨rfl,rfl⟩:=hb0;rcases hb rfl rfl x y rfl rfl with⟨hx,hy⟩|⟨hx,hy⟩
      ·cases p1 with
       | int=>cases p2 with
        | int=>cases e; exact oneLt_int hq
        | _=>exact absurd hy (by simp[fj])
       | _=>exact absurd hx (by simp[fj])
      ·cases p1 with
       | str=>cases p2 with
        | str=>cases e; exact oneLt_str hq
        | _=>exact absurd hy (by simp[fj])
       | _=>exact absurd hx (by simp[fj])
     ·have hf:(b&&i==0)=false:=by
       cases b with
       | false=>rfl
       | true=>
        have:i≠0:=λz=>hb0 #[rfl,z]
        simpa using this
      rw[hf];exact PySem.W.kat_one _ _ ((EG d x y _ _ A s k ∅ ∅ p1 p2 hu e) prog w _ _ hq)
theorem sy {c d:HW}{x y:T}{u v:HM}{k:IF}{Q:IF->HQ->Prop}(hu:A.units+d < cLine)(d1:x.depth<=d)(d2:y.depth<=d)(h1:IsT s.heap x u)(h2:IsT s.heap y v)(e:lw x y=ba k)
  (hc:Hr c x y)
  (hq:Q k s):wpAny (model prog w) A (keyLt' (sw c) u v) Q E s:=by
 have tup:∀b:IF,(∃f g,bH x=ba f/\bH y=ba g/\(b=true->(fj f = "int"/\fj g = "int")\/(fj f = "str"/\fj g = "str")))->wpAny (model prog w) A (keyLt' (tuples' b) u v) Q E s:=by
  rintro b ⟨f,g,hf,hg,hb⟩;cases h1 with
  | int=>cases hf
  | str=>cases hf
  | @tup xs a o items n a1 c1 e1 t1=>
   cases h2 with
   | int=>cases hg
   | str=>cases hg
   | @tup ys a' o' items' n' a2 c2 e2 t2=>
    simp only[T.depth]at d1 d2;refine PySem.W.kat_lt a1 e1 a2 e2 ?_;have:=pI (prog:=prog) (w:=w) (b:=b) (Q:=Q) hu xs ys items.toList items'.toList 0 k ∅ ∅ t1 t2 e (λhb' _ p q hp hq'=>by
     cases xs with
     | nil=>cases hp
     | cons x0 xs=>cases ys with
      | nil=>cases hq'
      | cons y0 ys=>cases hp; cases hq'; cases hf; cases hg; exact hb hb') hq
    simpa using this
 match c,hc with
 | 0,#[hx,hy]=>
  cases h1 with
  | int=>cases h2 with
   | int=>cases e; exact PySem.W.kat_lt_int hq
   | _=>exact absurd hy (by simp[fj])
  | _=>exact absurd hx (by simp[fj])
 | 1,#[hx,hy]=>
  cases h1 with
  | str=>cases h2 with
   | str=>cases e; exact PySem.W.kas_lt_str hq
   | _=>exact absurd hy (by simp[fj])
  | _=>exact absurd hx (by simp[fj])
 | 2,#[f,g,h1',h2',h3,h4]=>exact tup true #[f,g,h1',h2',λ_=>.inl #[h3,h4]]
 | 3,#[f,g,h1',h2',h3,h4]=>exact tup true #[f,g,h1',h2',λ_=>.inr #[h3,h4]]
 | n+4,#[f,g,h1',h2']=>exact tup false #[f,g,h1',h2',λz=>nomatch z]
end
theorem sA {ks:HK T}{c:HW}(h:rf ks=ba c){x y:T}(hx:x∈ks)(hy:y∈ks) :
  Hr c x y:=by
 have one:∀ {ty:JJ},ks.all (λk=>fj k==ty)=true->fj x=ty/\fj y=ty:=λha=>#[eq_of_beq (IC.mp ha x hx),eq_of_beq (IC.mp ha y hy)]
 have fst:∀ {ty:JJ},ks.all (λk=>(bH k).any λf=>fj f==ty)=true->∃f g,bH x=ba f/\bH y=ba g/\fj f=ty/\fj g=ty:=λ{ty} ha=>by
  have h1:=IC.mp ha x hx;have h2:=IC.mp ha y hy;cases e1:bH x with
  | none=>rw[e1]at h1; cases h1
  | some f=>
   cases e2:bH y with
   | none=>rw[e2]at h2; cases h2
   | some g=>
    rw[e1]at h1; rw[e2]at h2
    exact#[f,g,rfl,rfl,eq_of_beq (by simpa using h1),eq_of_beq (by simpa using h2)]
 unfold rf at h;split at h
 ·cases h; exact one (by assumption)
 ·split at h
  ·cases h; exact one (by assumption)
  ·split at h
   ·cases h; exact fst (by assumption)
   ·split at h
    ·cases h; exact fst (by assumption)
    ·split at h
     ·cases h;obtain⟨f,g,h1,h2,_⟩:=fst (by assumption)
      exact#[f,g,h1,h2]
     ·cases h
noncomputable def dR (S:aa):W->HU (HK W)
 | .tup xs=>ba xs
 | .ref i=>match gZ S i with
  | some xs=>ba xs
  | none=>(jn S i).map λkvs=>kvs.map λp=>p.1.w
 | _=>K3
noncomputable def cu:HW:=8
noncomputable def gJ (ks:HK T):IF:=decide (ks.length < 64)&&decide (T.depths ks<=cu)&&(decide (ks.length < 2)||((rf ks).isSome&&gz ks))
noncomputable def eS (xs:HK W)(S:aa):HU (W×aa):=match xs with
 | [x]=>match dR S x with
  | some ws=>match W.ts ws with
   | some ks=>if gJ ks then ba (.ref S.length,S++[.lst (dk (pH ks) .non ws)])else K3
   | none=>K3
  | none=>K3
 | _=>K3
noncomputable def mz (xs:HK W)(S:aa):HU (W×aa):=match xs with
 | [.ref i]=>match jn S i with
  | some kvs=>ba (.ref S.length,S++[.lst (kvs.map λp=>p.1.w)])
  | none=>g7 [.ref i] S
 | xs=>g7 xs S
noncomputable def rg (xs:HK W)(S:aa):HU (W×aa):=match xs with
 | [.ref i]=>match jn S i with
  | some kvs=>ba (.int kvs.length,S)
  | none=>qW [.ref i] S
 | xs=>qW xs S
noncomputable def rh (ks:HK T):HW:=argBest (pH ks) (ks.length - 1)
noncomputable def zN (xs:HK W)(S:aa):HU (W×aa):=match xs with
 | [.ref i]=>match gZ S i with
  | some ws=>match W.ts ws with
   | some ks=>if T.depths ks<=cu/\gz ks=true then(ws[rh ks]?).map λw=>(w,S)else K3
   | none=>K3
  | none=>K3
 | _=>K3
noncomputable def gK:HK W->HU (HK IF)
 | []=>ba []
 | .bl b::ws=>(gK ws).map (b :: ·)
 | _::_=>K3
noncomputable def CD (xs:HK W)(S:aa):HU (W×aa):=match xs with
 | [.ref i]=>match gZ S i with
  | some ws=>(gK ws).map λbs=>(.bl (bs.all id),S)
  | none=>K3
 | _=>K3
section
variable{X:Cx}{pins:HK (HX×JR)}{σ:L2.St}{H:Hp}{s:HQ}{A:HK HX}{S:aa}
theorem RelL.pick {K:Ig}{ws:HK W}{vs:HK V}(r:RelL K A H ws vs)(d:W)(d':V):∀(is:HK HW),(∀i∈is,i < ws.length)->RelL K A H (is.map λi=>ws.getD i d) (is.map λi=>vs.getD i d')
 | [],_=>.nil
 | i::is,h=>by
  have hi:=h i (.head _);obtain⟨v,h1,h2⟩:=r.get (Ic hi);refine .cons ?_ (RelL.pick r d d' is λj hj=>h j (.tail _ hj))
  have e1:ws.getD i d=ws[i]:=by simp[hi]
  have e2:vs.getD i d'=v:=by simp[h1]
  show Rel K A H (ws.getD i d) (vs.getD i d');rw[e1,e2]; exact h2
theorem Vals.pick {vs:HK V}{us:HK HM}(r:Vals vs us)(d:V)(d':HM):∀(is:HK HW),(∀i∈is,i < vs.length)->Vals (is.map λi=>vs.getD i d) (is.map λi=>us.getD i d')
 | [],_=>.nil
 | i::is,h=>by
  have hi:=h i (.head _);obtain⟨v,h1,h2⟩:=L2.Vals.get r (Ic hi);refine .cons ?_ (Vals.pick r d d' is λj hj=>h j (.tail _ hj))
  have e1:vs.getD i d=vs[i]:=by simp[hi]
  have e2:us.getD i d'=v:=by simp[h1]
  show L2.RelV (vs.getD i d) (us.getD i d');rw[e1,e2]; exact h2
theorem jU {n:HW}{lt:HW->HW->IF}(hn:0 < n):∀i∈(bR lt (K6 n)).toList,i < n:=λi hi=>Ji.mp ((nJ (lt:=lt) (jT hn)).mem_iff.mp hi)
theorem wu {K:Ig}{lt:HW->HW->IF}{ws:HK W}{vs:HK V}(r:RelL K A H ws vs):RelL K A H (dk lt .non ws) (dk lt .non vs):=by
 unfold dk;rw[r.length];split
 ·exact r
 ·exact r.pick _ _ _ λi hi=>by rw[r.length]; exact jU ∅ i hi
theorem uu {lt:HW->HW->IF}{vs:HK V}{us:HK HM}(r:Vals vs us):Vals (dk lt .non vs) (dk lt .none us):=by
 unfold dk;rw[L2.Vals.length r];split
 ·exact r
 ·exact Vals.pick r _ _ _ λi hi=>by rw[L2.Vals.length r]; exact jU ∅ i hi
theorem pJ {prog:IM}{w:IU}{B:IQ}{E:HM->HQ->Prop}{l:HX}{vs:HK HM}{Q:HK HM->HQ->Prop}(hl:Ov s.heap l vs.toArray)(hsz:vs.length<=sizeLine)
  (h:∀h' tk,(∀b o,s.heap.get? b=ba o->h'.get? b=ba o)->s.heap.objs.size<=h'.objs.size->Q vs { s with heap:=h',toks:=tk }):wpAny (model prog w) B (collect (.ref l)) Q E s:=by
 obtain⟨o,ho,hc,n,hd⟩:=id hl;unfold collect;refine HL (LU (Ju entry_proto_collect' ?_));show wpAny _ _ (do again (.builtin "list.__iadd__" #[[<- newList [],.ref l],[]])) _ _ s
 refine HL (M1 (HR #[Ol _ (by decide +kernel),Ju entry_list_iadd' ?_]))
 show wpAny _ _ (JO (.ref s.heap.objs.size) (.ref l) (.ref s.heap.objs.size)) _ _ { s with heap:=s.heap.push (seqObj "list" #[] 0) }
 unfold JO;have ho':(s.heap.push (seqObj "list" #[] 0)).get? l=ba o:=HP _ ho;refine HL (K7 (T:="tuple") #[o,ho',hc] ?_);have ht:(JS "tuple" == JS "tuple")=true:=by rfl
 rw[Ix (by rw[ht]; simp)]
 refine HL (OM ho' hd ?_);refine HL (OM (xs:=#[]) (n:=0) (Ij _ rfl) rfl ?_);rw[IK (by simp)]
 refine HL (M0 (xs:=#[]) (n:=0) (Ij _ rfl) rfl ?_ (JW _) (by show(#[]++vs.toArray).size<=sizeLine+1; simp only[Array.size_append,Ii,Ke]; omega))
 refine HR ?_;show wpAny (model prog w) B (do
   let o <- load s.heap.objs.size
   match o.data with
   | .seq xs _=>pure xs.toList
   | _=>unsupported "internal:collect") Q E { s with heap:=(s.heap.push (seqObj "list" #[] 0)).update s.heap.objs.size (JK (· ++ vs.toArray)) }
 refine HL (Nd (Nx (Ij _ rfl) _) ?_);show wpAny _ _ (pure ((#[]:ID HM)++vs.toArray).toList) Q E _;rw[show((#[]:ID HM)++vs.toArray).toList=vs by simp]
 refine HR (h _ s.toks (λb o' e=>(LA _ _ _ _ (Iy (Io e))).trans (HP _ e)) ?_)
 rw[O1,size_push'];exact KN _
theorem DicAt.raw {wd:IU}{a:HX}{xs:HK (T×HX×HM)}{h:Jc}(d:DicAt wd a xs h):∃es ep,RawD a es ep h/\es.toList=xs.map (vN wd):=
 let ⟨_,_,_,o,es,ep,h1,h2,h3,h4⟩:=d; #[es,ep,#[o,h1,h2,h3],h4]
theorem KRel.keysL {kvs:HK (T×W)}{xs:HK (T×HX×HM)}(r:KRel X.K A H kvs xs):RelL X.K A H (kvs.map λp=>p.1.w) (xs.map λq=>V.ref q.2.1):=by
 unfold KRel at r
 induction r with
 | nil=>exact .nil
 | cons h t ih=>exact .cons h.2.2.2.1 ih
theorem mB (xs:HK (T×HX×HM)):Vals (xs.map λq=>V.ref q.2.1) (xs.map λq=>IR q.2.1):=by
 induction xs with
 | nil=>exact .nil
 | cons x xs ih=>exact .cons rfl ih
theorem ko {wd:IU}{es:ID Ku}{xs:HK (T×HX×HM)}(he:es.toList=xs.map (vN wd)){acc:ID HM}(ha:Ni (λi v=>∃e,es[i]?=ba e/\e.key=v) acc es.size):acc.toList=xs.map λq=>IR q.2.1:=by
 have hl:es.size=xs.length:=by rw[<- Il,he,HN]
 apply K2
 ·rw[Il,ha.1,HN,hl]
 ·intro i h1 h2;rw[Il]at h1;obtain⟨e,q1,q2⟩:=ha.2 i acc[i] (by simp[h1])
  rw[<- JB,he,HY]at q1;rw[HN]at h2;rw[Ic h2]at q1;simp only[IZ,IT]at q1;subst q1;rw[O2,Ma];exact q2.symm
theorem uw {x:W}{a:V}{u:HM}{ws:HK W}(hh:X.A.handled=K3)(I:Inv X pins σ H s)(so:StoreOk X.w X.K A H S)(rx:Rel X.K A H x a)(ru:RelV a u)(e:dR S x=ba ws):∃vs us,RelL X.K A H ws vs/\Vals vs us/\us.length<=sizeLine/\
  ∀(B:IQ) (hB:B.handled=K3) (E:HM->HQ->Prop) (Q':HK HM->HQ->Prop),(∀h' tk,(∀b o,s.heap.get? b=ba o->h'.get? b=ba o)->s.heap.objs.size<=h'.objs.size->Q' us { s with heap:=h',toks:=tk })->wpAny (model X.prog X.w) B (collect u) Q' E s:=by
 cases rx with
 | tup h1 r1=>
  cases e;obtain⟨its,rv,ht,hz⟩:=I.tuple h1;obtain rfl:u=IR _:=ru;exact#[_,its,r1,rv,by rw[<- L2.Vals.length rv]; exact hz,λB hB E Q' h=>pJ ht (by rw[<- L2.Vals.length rv]; exact hz) h]
 | ref ea=>
  simp only[dR]at e;split at e
  ·rename_i xs hx;cases e;obtain⟨vs,h1,r1⟩:=ci so hx ea;obtain⟨its,rv,p,hz⟩:=I.list h1;obtain rfl:u=IR _:=ru;refine#[_,its,r1,rv,by rw[<- L2.Vals.length rv]; exact hz,λB hB E Q' h=>collect_list p.isList (h _ s.toks (λb o' e=>(LA _ _ _ _ (Iy (Io e))).trans (HP _ e)) ?_) (by rw[<- L2.Vals.length rv]; exact hz)]
   rw[O1,size_push'];exact KN _
  ·rw[HS]at e;obtain⟨kvs,hk,rfl⟩:=e;obtain⟨xs,rd,kr⟩:=fE so hk ea;have d:=cr I rd;obtain⟨es,ep,raw,he⟩:=d.raw;obtain rfl:u=IR _:=ru;have hl:es.size=xs.length:=by rw[<- Il,he,HN]
   refine#[_,_,kr.keysL,mB xs,by rw[HN]; exact d.1,λB hB E Q' h=>pB (su d.2.1) hB raw (by rw[hl]; exact d.1) λh' tk acc hk' hle ha=>?_]
   rw[ko he ha];exact h h' tk hk' hle
 | _=>cases e
theorem mC {h':Jc}{tk c:HW}{D:HX}{ws:HK W}{vs:HK V}{us:HK HM}(I:Inv X pins σ H s)(so:StoreOk X.w X.K A H S)(r:RelL X.K A H ws vs)(rv:Vals vs us)(hz:us.length<=sizeLine)(hk:∀b o,s.heap.get? b=ba o->h'.get? b=ba o)(hD:s.heap.objs.size<=D)
  (ho:h'.get? D=ba { cls:=.type "list",data:=.seq us.toArray c }):dB X pins σ A H (S++[.lst ws]) (.ref S.length) (.ref D) { s with heap:=h',toks:=tk }:=by
 have hn:H D=K3:=I.hok.fresh hD;refine#[.ref D,_,A++[D],I.laid (a:=D) (o:=.lst vs) (t':=tk) hk hD #[by rw[L2.Vals.length rv]; exact hz,us,c,rv,ho],rfl,cJ hn,so.push hn r,.ref ?_]
 rw[<- so.len]; simp
theorem nK (hh:X.A.handled=K3)(hu:X.A.units+12 < cLine):LCall X (.builtin "sorted") eS:=by
 intro pins s σ H A S xs vs us w S' I so rl rv e;cases rl with
 | nil=>cases e
 | cons r t=>
  cases t with
  | cons _ _=>cases e
  | nil=>
   cases rv with
   | cons ru rv2=>
    cases rv2;simp only[eS]at e;split at e
    ·rename_i ws hw;split at e
     ·rename_i ks hk;split at e
      ·rename_i hok;cases e;obtain⟨vs',us',r1,rv1,hz,hcol⟩:=uw hh I so r ru hw;simp only[gJ,HV,Iw]at hok;obtain⟨⟨h64,hd⟩,hok⟩:=hok;have hws:T.ws ks=ws:=W.ts_w hk;have hT:IsTs s.heap ks us':=eQ I ks (hws ▸ r1) rv1;have hl:us'.length=ks.length:=hT.length.symm;have sk:2<=us'.length->(rf ks).isSome=true/\gz ks=true:=λh2=>by
        rcases J0 _ _ ▸ hok with h|h
        ·simp only[Iw]at h; omega
        ·simpa using h
       refine ut (vs:=us') (lt:=pH ks) (κ:=sw ((rf ks).getD 0)) ∅ (λQ' hQ'=>hcol X.A.in1 hh _ Q' hQ') (λh2 h' tk hk' Q hq=>?_) (λh2 h' tk hk' i j hi hj Q hq=>?_) λD h' tk c hk' hD ho=>?_
       ·obtain⟨q1,q2⟩:=sk h2;obtain⟨c,hc⟩:=Jn.mp q1;rw[hc]at hq;exact wt (s:={ s with heap:=h',toks:=tk }) (hT.kept λb o _ e=>hk' b o e) h2 hc hq
       ·obtain⟨q1,q2⟩:=sk h2;obtain⟨c,hc⟩:=Jn.mp q1;rw[hc];have hi':i < ks.length:=∅
        have hj':j < ks.length:=∅
        have g:=(hT.kept (h':=h') λb o _ e=>hk' b o e)
        have e1:us'.getD i Ja=us'[i]:=by simp[hi]
        have e2:us'.getD j Ja=us'[j]:=by simp[hj]
        rw[e1,e2];have b1:=cm (ks:=ks) i hi';have b2:=cm (ks:=ks) j hj';exact sy (s:={ s with heap:=h',toks:=tk }) (d:=cu) (c:=c) (by rw[be,be]; unfold cu; omega) ∅ ∅ (g.get i hi' hi) (g.get j hj' hj) (dQ q2 hi' hj') (sA hc (Jg hi') (Jg hj')) hq
       ·exact mC I so (wu r1) (uu rv1) (by rw[pG]; exact hz) hk' hD ho
      ·cases e
     ·cases e
    ·cases e
theorem pK (hh:X.A.handled=K3):LCall X (.type "list") mz:=by
 intro pins s σ H A S xs vs us w S' I so rl rv e
 by_cases hd:∃i kvs,xs=[.ref i]/\jn S i=ba kvs
 ·obtain⟨i,kvs,rfl,hk⟩:=hd;simp only[mz,hk]at e;cases e;cases rl with
  | cons r t=>
   cases t;cases rv with
   | cons ru rv2=>
    cases rv2;cases r with
    | ref ea=>
     obtain⟨xs,rd,kr⟩:=fE so hk ea;have d:=cr I rd;obtain⟨es,ep,raw,he⟩:=d.raw;obtain rfl:_=IR _:=ru;have hl:es.size=xs.length:=by rw[<- Il,he,HN]
     refine PySem.W.kdl_call (su d.2.1) hh raw (by rw[hl]; exact d.1) λh' tk acc' c' hk' hD ha=>?_
     have ea':=ko he ha;refine mC (us:=acc'.toList) I so kr.keysL (ea' ▸ mB xs) (by rw[ea',HN]; exact d.1) hk' (Ih _) (c:=c') ?_
     simpa using hD
 ·have:mz xs S=g7 xs S:=by
   unfold mz;split
   ·rename_i i;split
    ·rename_i kvs hk;exact absurd #[i,kvs,rfl,hk] hd
    ·rfl
   ·rfl
  rw[this]at e;exact gI pins s σ H A S xs vs us w S' I so rl rv e
end
open PySem.W (KasT kas_sort kas_asc kas_desc kas_tail3 kas_descPart kas_count kas_place kas_bin kas_rev)
theorem dN {α β:Type}{lt:HW->HW->IF}{f:α->KasT β}:∀t:KasT α,bR lt (t.bind f)=bR lt (f (bR lt t))
 | .ret _=>rfl
 | .ask i j k=>dN (k (lt i j))
structure Lin (n:HW)(lt:HW->HW->IF):Prop where
 tr:∀i j k,i < n->j < n->k < n->lt i j=true->lt j k=true->lt i k=true
 as:∀i j,i < n->j < n->lt i j=true->lt j i=false
 to:∀i j,i < n->j < n->i≠j->lt j i=false->lt i j=true
noncomputable def gt (p:ID HW)(i:HW):HW:=p.getD i 0
theorem iU {p:ID HW}{i:HW}:gt p i=(p[i]?).getD 0:=by unfold gt; simp[Array.getD_eq_getD_getElem?]
theorem Pm.inj {n:HW}{p:ID HW}(h:Pm n p){i j:HW}(hi:i < n)(hj:j < n)(hne:i≠j):gt p i≠gt p j:=by
 have nd:p.toList.Nodup:=h.nodup_iff.mpr M8;have hi':i < p.toList.length:=by rw[Il,h.size]; exact hi
 have hj':j < p.toList.length:=by rw[Il,h.size]; exact hj
 intro e;have e1:gt p i=p.toList[i]:=by unfold gt; simp[LI,h.size,hi]
 have e2:gt p j=p.toList[j]:=by unfold gt; simp[LI,h.size,hj]
 rw[e1,e2]at e;have pw:=Ly.mp nd;rcases Om hne with h|h
 ·exact pw i j hi' hj' h e
 ·exact pw j i hj' hi' h e.symm
noncomputable def Up (lt:HW->HW->IF)(p:ID HW)(m:HW):Prop:=∀i j,i < j->j < m->lt (gt p i) (gt p j)=true
section
variable{n:HW}{lt:HW->HW->IF}(L:Lin n lt)
include L
theorem Up.more {p:ID HW}{a:HW}(hp:Pm n p)(ha:1<=a)(han:a < n)(h:Up lt p a)(hl:lt (gt p (a - 1)) (gt p a)=true):Up lt p (a+1):=by
 have hn:0 < n:=∅
 intro i j hij hj
 by_cases e:j=a
 ·subst e
  by_cases e2:i=j - 1
  ·subst e2; exact hl
  ·exact L.tr _ _ _ (hp.lt hn _) (hp.lt hn _) (hp.lt hn _) (h i (j - 1) ∅ ∅) hl
 ·exact h i j hij ∅
theorem rj {p:ID HW}(hp:Pm n p):∀(f a:HW),1<=a->a+f=n->Up lt p a->Up lt p (bR lt (kas_asc p f a))/\a<=bR lt (kas_asc p f a)/\bR lt (kas_asc p f a)<=n/\(bR lt (kas_asc p f a) < n->lt (gt p (bR lt (kas_asc p f a))) (gt p (bR lt (kas_asc p f a) - 1))=true)
 | 0,a,h1,h2,h=>#[h,Ih _,by show a<=n; omega,λz=>by have:a < n:=z; omega]
 | f+1,a,h1,h2,h=>by
  have hn:0 < n:=∅
  have e:bR lt (kas_asc p (f+1) a)=bR lt (if lt (gt p a) (gt p (a - 1))=true then .ret a else kas_asc p f (a+1)):=rfl
  rw[e];cases c:lt (gt p a) (gt p (a - 1))with
  | true=>exact#[h,Ih _,by show a<=n; omega,λ_=>c]
  | false=>
   have l:lt (gt p (a - 1)) (gt p a)=true:=L.to _ _ (hp.lt hn (a - 1)) (hp.lt hn a) (hp.inj ∅ ∅ ∅) c
   obtain⟨q1,q2,q3,q4⟩:=rj hp f (a+1) ∅ ∅ (Up.more L hp h1 ∅ h l)
   exact#[q1,by show a<=bR lt (kas_asc p f (a+1)); omega,q3,q4]
noncomputable def Dn (lt:HW->HW->IF)(p:ID HW)(m:HW):Prop:=∀i j,i < j->j < m->lt (gt p j) (gt p i)=true
theorem sB {p:ID HW}(hp:Pm n p):∀(f a:HW),1<=a->a+f=n->Dn lt p a->∃m,bR lt (kas_desc f p a 0)=(p,m,0)/\a<=m/\m<=n/\Dn lt p m
 | 0,a,h1,h2,h=>#[a,rfl,Ih _,∅,h]
 | f+1,a,h1,h2,h=>by
  have hn:0 < n:=∅
  have e:bR lt (kas_desc (f+1) p a 0)=bR lt (if lt (gt p a) (gt p (a - 1))=true then(if 0 > 0 then kas_desc f (kas_rev p (a - (0+1)) a) (a+1) 0 else kas_desc f p (a+1) 0)else .ask (gt p (a - 1)) (gt p a) λd=>if d=true then .ret (p,a,0)else kas_desc f p (a+1) (0+1)):=rfl
  rw[e];cases c:lt (gt p a) (gt p (a - 1))with
  | true=>
   obtain⟨m,q1,q2,q3,q4⟩:=sB hp f (a+1) ∅ ∅ λi j hij hj=>by
    by_cases e:j=a
    ·subst e
     by_cases e2:i=j - 1
     ·subst e2; exact c
     ·exact L.tr _ _ _ (hp.lt hn _) (hp.lt hn _) (hp.lt hn _) c (h i (j - 1) ∅ ∅)
    ·exact h i j hij ∅
   exact#[m,q1,∅,q3,q4]
  | false=>
   have l:lt (gt p (a - 1)) (gt p a)=true:=L.to _ _ (hp.lt hn (a - 1)) (hp.lt hn a) (hp.inj ∅ ∅ ∅) c
   refine#[a,?_,Ih _,∅,h]
   show bR lt (if lt (gt p (a - 1)) (gt p a)=true then .ret (p,a,0)else kas_desc f p (a+1) (0+1))=_
   rw[l]; rfl
omit L in
theorem CF {p:ID HW}{m:HW}(hp:Pm n p)(hm:m<=n)(h:Dn lt p m):Up lt (kas_rev p 0 m) m:=by
 intro i j hij hj;have g:∀k,k < m->gt (kas_rev p 0 m) k=gt p (m - 1 - k):=λk hk=>by
  rw[iU,iU];show((mirror p 0 m ((m - 0) / 2))[k]?).getD 0=_;rw[getElem?_mirror_all (by rw[hp.size]; exact hm),Ix #[JW _,hk],Nat.zero_add]
 rw[g i ∅,g j hj]
 exact h _ _ ∅ ∅
theorem ww {p:ID HW}(hp:Pm n p)(hn:1<=n):∃m p',bR lt (kas_count n p)=(m,p')/\Pm n p'/\1<=m/\m<=n/\Up lt p' m:=by
 unfold kas_count;rw[dN];obtain⟨q1,q2,q3,q4⟩:=rj L hp (n - 1) 1 (Ih _) ∅ λi j hij hj=>∅
 generalize bR lt (kas_asc p (n - 1) 1)=m at q1 q2 q3 q4
 by_cases hm:m=n
 ·subst hm;rw[Ix (Jj _)];exact#[m,p,rfl,hp,q2,Ih _,q1]
 ·rw[IK (by simp[hm])]
  by_cases h1:m > 1
  ·rw[Ix h1];have l:=q1 0 (m - 1) ∅ ∅
   refine#[m,p,?_,hp,q2,q3,q1];show bR lt (if lt (gt p 0) (gt p (m - 1))=true then .ret (m,p)else kas_descPart m n (kas_rev p 0 m))=_
   rw[l]; rfl
  ·rw[IK h1];obtain rfl:m=1:=∅
   unfold kas_descPart;rw[dN];have l:=q4 ∅
   obtain⟨m,e,r1,r2,r3⟩:=sB L hp (n - (1+1)) (1+1) ∅ ∅ λi j hij hj=>by
    obtain rfl:j=1:=∅
    obtain rfl:i=0:=∅
    exact l
   rw[e];dsimp only;rw[IK ∅]
   unfold kas_tail3;rw[dN];have hp':Pm n (kas_rev p 0 m):=hp.rev 0 m;obtain⟨z1,z2,z3,z4⟩:=rj L hp' (n - m) m ∅ ∅ (CF hp r2 r3)
   exact#[_,_,rfl,hp',∅,z3,z1]
theorem kq {p:ID HW}{k:HW}(hp:Pm n p)(hk:k < n)(hu:Up lt p k):∀(f l r:HW),l<=r->r<=k->r - l<=f->(∀i,i < l->lt (gt p i) (gt p k)=true)->(∀i,r<=i->i < k->lt (gt p k) (gt p i)=true)->
  ∃m,bR lt (kas_place p k f l r)=m/\m<=k/\(∀i,i < m->lt (gt p i) (gt p k)=true)/\(∀i,m<=i->i < k->lt (gt p k) (gt p i)=true)
 | 0,l,r,h1,h2,h3,ha,hb=>#[l,rfl,∅,ha,λi hi=>hb i ∅]
 | f+1,l,r,h1,h2,h3,ha,hb=>by
  have hn:0 < n:=∅
  unfold kas_place
  by_cases hge:l>=r
  ·rw[Ix hge];exact#[l,rfl,∅,ha,λi hi=>hb i ∅]
  ·rw[IK hge];show ∃m,bR lt (if lt (gt p k) (gt p ((l+r) / 2))=true then kas_place p k f l ((l+r) / 2)else kas_place p k f ((l+r) / 2+1) r)=m/\_
   cases c:lt (gt p k) (gt p ((l+r) / 2))with
   | true=>
    rw[Ix rfl];refine kq hp hk hu f l ((l+r) / 2) ∅ ∅ ∅ ha λi hi hik=>?_
    by_cases e:i=(l+r) / 2
    ·rw[e]; exact c
    ·exact L.tr _ _ _ (hp.lt hn _) (hp.lt hn _) (hp.lt hn _) c (hu _ _ ∅ hik)
   | false=>
    rw[IK IA];have l':=L.to _ _ (hp.lt hn ((l+r) / 2)) (hp.lt hn k) (hp.inj ∅ ∅ ∅) c
    refine kq hp hk hu f ((l+r) / 2+1) r ∅ h2 ∅ (λi hi=>?_) hb
    by_cases e:i=(l+r) / 2
    ·rw[e]; exact l'
    ·exact L.tr _ _ _ (hp.lt hn _) (hp.lt hn _) (hp.lt hn _) (hu i ((l+r) / 2) ∅ ∅) l'
theorem wx:∀(f:HW) (p:ID HW) (k:HW),Pm n p->k+f=n->Up lt p k->Pm n (bR lt (kas_bin f p k))/\Up lt (bR lt (kas_bin f p k)) n
 | 0,p,k,hp,h,hu=>by
  have:k=n:=∅
  exact#[hp,this ▸ hu]
 | f+1,p,k,hp,h,hu=>by
  unfold kas_bin;rw[dN];obtain⟨m,e,h1,ha,hb⟩:=kq L hp ∅ hu k 0 k (JW _) (Ih _) ∅ (λi hi=>∅) λi h1 h2=>∅
  rw[e];refine wx f _ (k+1) (hp.bub _ _) ∅ λi j hij hj=>?_
  have g:∀i,gt (bubble p k (k - m)) i=if i=m then gt p k else if m < i/\i<=k then gt p (i - 1)else gt p i:=λi=>by
   rw[iU,iU,iU,iU,getElem?_bubble (by rw[hp.size]; omega) _ ∅,show k - (k - m)=m by omega]
   split
   ·rfl
   ·split <;> rfl
  rw[g,g]
  repeat' split
  all_goals first
   | (exfalso; omega)
   | exact ha _ ∅
   | exact hb _ ∅ ∅
   | exact hu _ _ ∅ ∅
theorem zO (hn:1<=n):Pm n (bR lt (kas_sort n))/\Up lt (bR lt (kas_sort n)) n:=by
 unfold kas_sort;rw[dN];obtain⟨m,p',e,h1,h2,h3,h4⟩:=ww L (p:=(IN n).toArray) (by unfold Pm; simp) hn
 rw[e];dsimp only
 by_cases hm:m < n
 ·rw[Ix hm];have:max m 1=m:=∅
  rw[this];exact wx L _ _ _ h1 ∅ h4
 ·rw[IK hm];have:m=n:=∅
  exact#[h1,this ▸ h4]
end
end Mi
namespace Mi
open PySem PySem.Spec PyProof.Rows L2
mutual
theorem nL:∀x y:T,eP x=true->lw x y=ba true->lw y x=ba false
 | .int a,.int b,_,h=>by
  simp only[lw,IT,Iw]at h;simp only[lw,IT,M9];omega
 | .str _,_,h,_=>by cases h
 | .tup xs,.tup ys,hn,h=>sC xs ys hn h
 | .int _,.str _,_,h|.int _,.tup _,_,h|.tup _,.int _,_,h|.tup _,.str _,_,h=>by cases h
theorem sC:∀xs ys:HK T,cW xs=true->ft xs ys=ba true->ft ys xs=ba false
 | [],[],_,h=>by cases h
 | [],_::_,_,_=>rfl
 | _::_,[],_,h=>by cases h
 | x::xs,y::ys,hn,h=>by
  simp only[cW,HV]at hn;simp only[ft]at h ⊢
  by_cases e:x=y
  ·rw[Ix e]at h;rw[Ix e.symm];exact sC xs ys hn.2 h
  ·rw[IK e]at h;rw[IK (Ne.symm e)];exact nL x y hn.1 h
end
mutual
theorem wy:∀x y:T,eP x=true->x≠y->lw y x=ba false->lw x y=ba true
 | .int a,.int b,_,hne,h=>by
  simp only[lw,IT,M9]at h;simp only[lw,IT,Iw];have:a≠b:=λe=>hne (e ▸ rfl)
  omega
 | .str _,_,h,_,_=>by cases h
 | .tup xs,.tup ys,hn,hne,h=>sD xs ys hn (λe=>hne (e ▸ rfl)) h
 | .int _,.str _,_,_,h|.int _,.tup _,_,_,h|.tup _,.int _,_,_,h|.tup _,.str _,_,_,h=>by cases h
theorem sD:∀xs ys:HK T,cW xs=true->xs≠ys->ft ys xs=ba false->ft xs ys=ba true
 | [],[],_,h,_=>absurd rfl h
 | [],_::_,_,_,_=>rfl
 | _::_,[],_,_,h=>by cases h
 | x::xs,y::ys,hn,hne,h=>by
  simp only[cW,HV]at hn;simp only[ft]at h ⊢
  by_cases e:x=y
  ·rw[Ix e.symm]at h;rw[Ix e];exact sD xs ys hn.2 (λz=>hne (by rw[e,z])) h
  ·rw[IK (Ne.symm e)]at h;rw[IK e];exact wy x y hn.1 e h
end
mutual
theorem wz:∀x y z:T,eP x=true->eP y=true->lw x y=ba true->lw y z=ba true->lw x z=ba true
 | .int a,.int b,.int c,_,_,h,h'=>by
  simp only[lw,IT,Iw]at h h' ⊢;omega
 | .tup xs,.tup ys,.tup zs,hn,hn',h,h'=>sE xs ys zs hn hn' h h'
 | .str _,_,_,h,_,_,_=>by cases h
 | .int _,.str _,_,_,_,h,_|.int _,.tup _,_,_,_,h,_|.tup _,.int _,_,_,_,h,_|.tup _,.str _,_,_,_,h,_=>by cases h
 | .int _,.int _,.str _,_,_,_,h|.int _,.int _,.tup _,_,_,_,h|.tup _,.tup _,.int _,_,_,_,h|.tup _,.tup _,.str _,_,_,_,h=>by cases h
theorem sE:∀xs ys zs:HK T,cW xs=true->cW ys=true->ft xs ys=ba true->ft ys zs=ba true->ft xs zs=ba true
 | [],[],_,_,_,h,_=>by cases h
 | _::_,[],_,_,_,h,_=>by cases h
 | _,_::_,[],_,_,_,h=>by cases h
 | [],_::_,_::_,_,_,_,_=>rfl
 | x::xs,y::ys,z::zs,hn,hn',h,h'=>by
  simp only[cW,HV]at hn hn';simp only[ft]at h h' ⊢
  by_cases e:x=y
  ·subst e;rw[Ix rfl]at h
   by_cases e':x=z
   ·rw[Ix e']at h' ⊢;exact sE xs ys zs hn.2 hn'.2 h h'
   ·rw[IK e']at h' ⊢;exact h'
  ·rw[IK e]at h
   by_cases e':y=z
   ·subst e';rw[IK e];exact h
   ·rw[IK e']at h';have t:=wz x y z hn.1 hn'.1 h h';have e2:x≠z:=λe2=>by
     subst e2;have:=nL x x hn.1 t;rw[t]at this; cases this
    rw[IK e2];exact t
end
noncomputable def FY (ks:HK T):Prop:=ks.Pairwise λx y=>lw x y=ba true
noncomputable def ef (ks:HK T):HK T:=dk (pH ks) (.int 0) ks
structure Nice (ks:HK T):Prop where
 num:∀x∈ks,eP x=true
 lt:gz ks=true
 nd:ks.Nodup
theorem Nice.lin {ks:HK T}(h:Nice ks):Lin ks.length (pH ks):=by
 have nm:∀i (hi:i < ks.length),eP ks[i]=true:=λi hi=>h.num _ (Jg hi)
 refine#[λi j k hi hj hk a b=>?_,λi j hi hj a=>?_,λi j hi hj hne a=>?_]
 ·have e1:=dQ h.lt hi hj;have e2:=dQ h.lt hj hk;have e3:=dQ h.lt hi hk;rw[a]at e1; rw[b]at e2
  rw[wz _ _ _ (nm i hi) (nm j hj) e1 e2]at e3;exact(Jt e3).symm
 ·have e1:=dQ h.lt hi hj;have e2:=dQ h.lt hj hi;rw[a]at e1;rw[nL _ _ (nm i hi) e1]at e2;exact(Jt e2).symm
 ·have e1:=dQ h.lt hj hi;have e2:=dQ h.lt hi hj;rw[a]at e1;have hne':ks[i]≠ks[j]:=λe=>by
   have pw:=Ly.mp h.nd;rcases Om hne with q|q
   ·exact pw i j hi hj q e
   ·exact pw j i hj hi q e.symm
  rw[wy _ _ (nm i hi) hne' e1]at e2;exact(Jt e2).symm
theorem eG {α:Type}{lt:HW->HW->IF}{d:α}{xs:HK α}:(dk lt d xs).Perm xs:=by
 unfold dk;split
 ·exact .refl _
 ·have p:Pm xs.length (bR lt (K6 xs.length)):=nJ (jT ∅)
  refine(Ri _ p).trans ?_;have:(IN xs.length).map (λi=>xs.getD i d)=xs:=by
   apply K2
   ·simp
   ·intro k h1 h2; simp[h2]
  rw[this]
theorem ie {ks:HK T}(h:Nice ks):FY (ef ks):=by
 unfold ef dk FY;split
 ·rename_i hl
  match ks,hl with
  | [],_=>exact .nil
  | [x],_=>simp
  | _::_::_,hl=>simp only[JC]at hl; omega
 ·rename_i hl;obtain⟨p,u⟩:=zO h.lin ∅
  rw[Ly];intro i j hi hj hij;rw[HN,Il,p.size]at hi hj;have hn:0 < ks.length:=∅
  have l:=u i j hij hj;have e1:=dQ h.lt (p.lt hn i) (p.lt hn j);have g:∀k (hk:k < ks.length),(bR (pH ks) (K6 ks.length)).getD k 0=(bR (pH ks) (K6 ks.length)).toList[k]'(by rw[Il,p.size]; exact hk):=λk hk=>by simp[LI,p.size,hk]
  have l':pH ks ((bR (pH ks) (K6 ks.length)).getD i 0) ((bR (pH ks) (K6 ks.length)).getD j 0)=true:=l;rw[l']at e1;have gd:∀k (hk:k < ks.length),ks.getD k (.int 0)=ks[k]:=λk hk=>by simp[hk]
  simp only[O2];rw[<- g i hi,<- g j hj,gd _ (p.lt hn i),gd _ (p.lt hn j)];exact e1
theorem kw:∀ {a b:HK T},(∀x∈a,eP x=true)->a.Perm b->FY a->FY b->a=b
 | [],b,_,p,_,_=>(Q1 p)
 | x::a,[],_,p,_,_=>absurd p.length_eq (by simp)
 | x::a,y::b,hn,p,h,h'=>by
  have e:x=y:=by
   rcases IE.mp (p.mem_iff.mp (JG))with e|e
   ·exact e
   ·rcases IE.mp (p.mem_iff.mpr (JG))with e'|e'
    ·exact e'.symm
    ·have l1:=ML h e';have l2:=ML h' e;have:=nL _ _ (hn x (.head _)) l1;rw[l2]at this; cases this
  subst e;rw[kw (λz hz=>hn z (.tail _ hz)) ((List.perm_cons x).mp p) (On.mp h).2 (On.mp h').2]
theorem Nice.of_sub {ks us:HK T}(h:Nice ks)(hs:∀x∈us,x∈ks)(hd:us.Nodup):Nice us:=by
 refine#[λx hx=>h.num x (hs x hx),?_,hd]
 have:=h.lt;unfold gz at this ⊢;rw[IC]at this ⊢;intro x hx;have h2:=this x (hs x hx);rw[IC]at h2 ⊢;exact λy hy=>h2 y (hs y hy)
theorem uy {us ks:HK T}(h:Nice ks)(p:us.Perm ks):ef us=ef ks:=by
 have hu:Nice us:=h.of_sub (λx hx=>p.mem_iff.mp hx) (p.nodup_iff.mpr h.nd)
 have pu:(ef us).Perm us:=eG;have pk:(ef ks).Perm ks:=eG;exact kw (λx hx=>hu.num x (pu.mem_iff.mp hx)) (pu.trans (p.trans pk.symm)) (ie hu) (ie h)
theorem wD {us ks:HK T}(h:Nice ks)(p:us.Sublist (ef ks)):ef us=us:=by
 have pk:(ef ks).Perm ks:=eG;have hu:Nice us:=h.of_sub (λx hx=>pk.mem_iff.mp (p.subset hx)) (p.nodup (pk.nodup_iff.mpr h.nd))
 have pu:(ef us).Perm us:=eG;exact kw (λx hx=>hu.num x (pu.mem_iff.mp hx)) pu (ie hu) ((ie h).sublist p)
mutual
noncomputable def mD:T->Ik
 | .int i=>hashInt i
 | .str _=>0
 | .tup xs=>reduceHash (Lw (nM xs))
noncomputable def nM:HK T->HK Ik
 | []=>[]
 | x::xs=>mD x::nM xs
end
mutual
theorem pL {w:IU}:∀x:T,eP x=true->ee w x=mD x
 | .int _,_=>rfl
 | .str _,h=>by cases h
 | .tup xs,h=>by simp only[ee,mD]; rw[mE xs h]
theorem mE {w:IU}:∀xs:HK T,cW xs=true->gG w xs=nM xs
 | [],_=>rfl
 | x::xs,h=>by
  simp only[cW,HV]at h;simp only[gG,nM];rw[pL x h.1,mE xs h.2]
end
theorem pM {w:IU}:∀(ks:HK T) (st:ID (Ik×T)×Jx),(∀x∈ks,eP x=true)->ks.foldlM (bG (ee w)) st=ks.foldlM (bG mD) st
 | [],_,_=>rfl
 | x::ks,st,h=>by
  rw[K5,K5];have e:bG (ee w) st x=bG mD st x:=by unfold bG; rw[pL x (h x (.head _))]
  rw[e];congr 1
  funext st'
  exact pM ks st' λy hy=>h y (.tail _ hy)
noncomputable def pN (l:IF)(ks:HK T):HU (ID (Ik×T)×Jx):=ks.foldlM (bG mD) (#[],.fresh 0 0 l)
noncomputable def jp (ks:HK T):HU (HK T):=match pN true ks with
 | some r=>if eO r.2 r.1.size then ba (r.1.toList.map (·.2))else K3
 | none=>K3
noncomputable def fu (b:IF)(t:Jx):Jx:={ t with led:=b }
theorem rm {b:IF}{t:Jx}{ha:HW->Ik}{h:Ik}:∀(f:HW) (p:MA),MT (fu b t) ha h f p=MT t ha h f p
 | 0,_=>rfl
 | f+1,p=>by
  unfold MT;rw[show(fu b t).slot p.j=t.slot p.j from rfl]
  cases t.slot p.j with
  | empty=>rfl
  | dummy=>exact rm f _
  | live i=>
   dsimp only;split
   ·rfl
   ·exact rm f _
theorem jq {b:IF}{es:ID (Ik×T)}{t:Jx}{x:T}{h:Ik}:∀(f:HW) (st:HU MA),dE es (fu b t) x h f st=dE es t x h f st
 | 0,_=>rfl
 | f+1,st=>by
  unfold dE;have e:∀p,(fu b t).probe (λi=>(es[i]?.map (·.1)).getD 0) h p=t.probe (λi=>(es[i]?.map (·.1)).getD 0) h p:=λp=>rm _ _
  rw[show(fu b t).probeStart h=t.probeStart h from rfl,e]
  split
  ·rfl
  ·rfl
  ·rfl
  ·rename_i j i next _;cases es[i]? with
   | none=>rfl
   | some q=>
    dsimp only;split
    ·rfl
    ·rw[show(fu b t).slot j=t.slot j from rfl]
     split
     ·exact jq f _
     ·rfl
theorem rn {b:IF}{t:Jx}{hs:ID Ik}{n:HW}:(fu b t).relaid hs n=(t.relaid hs n).map λr=>(fu b r.1,r.2):=by
 unfold Q7 Rj;show(do let owner <- OO (MC n - 1) hs; _)=_
 cases OO (MC n - 1) hs <;> rfl
theorem rq {b:IF}{hf:T->Ik}{es:ID (Ik×T)}{t:Jx}{x:T}:bG hf (es,fu b t) x=(bG hf (es,t) x).map λr=>(r.1,fu b r.2):=by
 unfold bG;dsimp only;rw[jq];cases dE es t x (hf x) 100 K3 with
 | none=>rfl
 | some f=>
  cases f with
  | there=>rfl
  | free slot=>
   dsimp only;rw[show(fu b t).put slot=(fu b (t.put slot).1,(t.put slot).2)from rfl]
   dsimp only;rw[show ∀n,di (fu b (t.put slot).1) n=di (t.put slot).1 n from λ_=>rfl,show(fu b (t.put slot).1).tooFull=(t.put slot).1.tooFull from rfl,rn]
   split
   ·split
    ·split
     ·cases(t.put slot).1.relaid ((IS es (t.put slot).2 (hf x,x)).map (·.1)) (LV (es.size+1))with
      | none=>rfl
      | some q=>
       obtain⟨t2,order⟩:=q;dsimp only[IZ];rw[show ∀n,di (fu b t2) n=di t2 n from λ_=>rfl]
       split <;> rfl
     ·rfl
    ·rfl
   ·rfl
theorem pO {b:IF}{hf:T->Ik}:∀(ks:HK T) (es:ID (Ik×T)) (t:Jx),ks.foldlM (bG hf) (es,fu b t)=(ks.foldlM (bG hf) (es,t)).map λr=>(r.1,fu b r.2)
 | [],_,_=>rfl
 | x::ks,es,t=>by
  rw[K5,K5,rq];cases bG hf (es,t) x with
  | none=>rfl
  | some r=>exact pO ks r.1 r.2
theorem uz {ks us:HK T}(h:jp ks=ba us)(l:IF):∃r,pN l ks=ba r/\r.1.toList.map (·.2)=us/\r.2.led=l/\(r.2.plain=true->eO r.2 r.1.size=true):=by
 unfold jp at h;have e:pN l ks=(pN true ks).map λr=>(r.1,fu l r.2):=pO (b:=l) ks #[] (.fresh 0 0 true)
 cases hr:pN true ks with
 | none=>rw[hr]at h; cases h
 | some r=>
  rw[hr]at h e;dsimp only at h;split at h
  ·rename_i hok;cases h;exact#[_,e,rfl,rfl,λ_=>hok]
  ·cases h
theorem nN {α:Type}{xs:ID α}{p:HW}{x y:α}(h:y∈(IS xs p x).toList):y∈xs.toList\/y=x:=by
 unfold IS at h;rw[Mm,MP,IY,IY]at h;rcases h with(h|h)|h
 ·rw[Lm]at h;refine .inl ?_;simp only[Qm]at h;exact Ln (J8 h)
 ·exact .inr (Ir.mp h)
 ·rw[Lm]at h;refine .inl ?_;simp only[Qm]at h;exact Ln (J8 h)
theorem rz {hf:T->Ik}{es:ID (Ik×T)}{t:Jx}{x:T}{r:ID (Ik×T)×Jx}(h:bG hf (es,t) x=ba r):∀y∈r.1.toList,y∈es.toList\/y.2=x:=by
 intro y hy;unfold bG at h;dsimp only at h;split at h
 ·cases h
 ·cases h; exact .inl hy
 ·rename_i slot _;have ins:∀y∈(IS es (t.put slot).2 (hf x,x)).toList,y∈es.toList\/y.2=x:=λy hy=>(nN hy).imp id λe=>by rw[e]
  split at h
  ·split at h
   ·split at h
    ·split at h
     ·cases h
     ·rename_i t2 order _;split at h
      ·cases h;refine ins y ?_;simp only[Array.toList_filterMap,Mt]at hy;obtain⟨i,_,hi⟩:=hy;rw[Ll];exact L0 hi
      ·cases h
    ·cases h
   ·cases h; exact ins y hy
  ·cases h
theorem pP {hf:T->Ik}:∀(ks:HK T) (es:ID (Ik×T)) (t:Jx) (r:ID (Ik×T)×Jx),ks.foldlM (bG hf) (es,t)=ba r->∀y∈r.1.toList,y∈es.toList\/y.2∈ks
 | [],_,_,_,h,y,hy=>by cases h; exact .inl hy
 | x::ks,es,t,r,h,y,hy=>by
  rw[K5]at h;cases hs:bG hf (es,t) x with
  | none=>rw[hs]at h; cases h
  | some q=>
   rw[hs]at h;rcases pP ks q.1 q.2 r h y hy with h1|h1
   ·rcases rz hs y h1 with h2|h2
    ·exact .inl h2
    ·exact .inr (h2 ▸ JG)
   ·exact .inr (.tail _ h1)
theorem wF {ks us:HK T}(h:jp ks=ba us):∀k∈us,k∈ks:=by
 unfold jp at h;split at h
 ·rename_i r hr;split at h
  ·cases h;intro k hk;obtain⟨y,hy,rfl⟩:=II.mp hk;rcases pP ks _ _ r hr y hy with h1|h1
   ·simp at h1
   ·exact h1
  ·cases h
 ·cases h
noncomputable def wH (k:T):IF:=eP k&&k.isTup&&decide (k.depth<=aF)
noncomputable def kz (xs:HK W)(S:aa):HU (W×aa):=match xs with
 | [.ref i]=>match gZ S i with
  | some ws=>match W.ts ws with
   | some ks=>if ks.all wH then(jp ks).map λus=>(.ref S.length,S++[.stt us])else K3
   | none=>K3
  | none=>K3
 | _=>K3
noncomputable def DN (S:aa)(i:HW):HU (HK T):=match S[i]? with
 | some (.stt us)=>ba us
 | _=>K3
noncomputable def kA (us:HK T):IF:=us.all eP&&gz us&&decide us.Nodup&&gJ us
noncomputable def cL (xs:HK W)(S:aa):HU (W×aa):=match xs with
 | [.ref i]=>match DN S i with
  | some us=>if kA us then ba (.ref S.length,S++[.lst (T.ws (ef us))])else K3
  | none=>K3
 | _=>K3
noncomputable def iV (xs:HK W)(S:aa):HU (W×aa):=match xs with
 | [.ref i]=>match uk S i with
  | some (lo,hi)=>if -(2 ^ 62)<=lo/\lo < 2 ^ 62/\-(2 ^ 62)<=hi/\hi < 2 ^ 62/\(hi - lo).toNat<=sizeLine then ba (.tup (zM lo (hi - lo).toNat),S)else K3
  | none=>j8 [.ref i] S
 | xs=>j8 xs S
theorem wI:∀ks:HK T,T.ws ks=ks.map T.w
 | []=>rfl
 | x::xs=>by simp only[T.ws,JH,wI xs]
theorem uA {h:Jc}{us vs:HK HM}(p:us.Perm vs):∀ {ks:HK T},IsTs h ks vs->∃js,IsTs h js us/\js.Perm ks:=by
 induction p with
 | nil=>intro ks i; exact#[ks,i,.refl _]
 | cons x p ih=>
  intro ks i;cases i with
  | cons a b=>obtain⟨js,h1,h2⟩:=ih b; exact#[_,.cons a h1,h2.cons _]
 | swap x y l=>
  intro ks i;cases i with
  | cons a b=>cases b with
   | cons b c=>exact#[_,.cons b (.cons a c),.swap _ _ _]
 | trans p q ih1 ih2=>
  intro ks i;obtain⟨js,h1,h2⟩:=ih2 i;obtain⟨is,h3,h4⟩:=ih1 h1;exact#[is,h3,h4.trans h2]
theorem wJ {p:T->IF}{js ks:HK T}(h:js.Perm ks):js.all p=ks.all p:=by
 rw[Bool.eq_iff_iff,IC,IC];exact#[λq x hx=>q x (h.mem_iff.mpr hx),λq x hx=>q x (h.mem_iff.mp hx)]
theorem wK {js ks:HK T}(h:js.Perm ks):rf js=rf ks:=by unfold rf; simp only[wJ h]
theorem ig:∀ {ks:HK T} {d:HW},(∀x∈ks,x.depth<=d)->T.depths ks<=d
 | [],_,_=>JW _
 | x::ks,d,h=>by
  have h1:=h x (.head _);have h2:=ig λy hy=>h y (.tail _ hy)
  simp only[T.depths]; omega
theorem mF {h:Jc}{js:HK T}{us:HK HM}(r:IsTs h js us):∀is:HK HW,(∀i∈is,i < js.length)->IsTs h (is.map λi=>js.getD i (.int 0)) (is.map λi=>us.getD i .none)
 | [],_=>.nil
 | i::is,hl=>by
  have hi:=hl i (.head _);have hi':i < us.length:=by rw[<- r.length]; exact hi
  have e1:js.getD i (.int 0)=js[i]:=by simp[hi]
  have e2:us.getD i .none=us[i]:=by simp[hi']
  have:=r.get i hi hi';refine .cons ?_ (mF r is λj hj=>hl j (.tail _ hj))
  show IsT h (js.getD i (.int 0)) (us.getD i .none);rw[e1,e2]; exact this
theorem uB {h:Jc}{lt:HW->HW->IF}{js:HK T}{us:HK HM}(r:IsTs h js us):IsTs h (dk lt (.int 0) js) (dk lt Ja us):=by
 unfold dk;rw[<- r.length];split
 ·exact r
 ·exact mF r _ λi hi=>jU ∅ i hi
section
variable{prog:IM}{w:IU}{A:IQ}{E:HM->HQ->Prop}{s:HQ}
theorem lC {Q:HK HM->HQ->Prop}{r:HX}{a b c:Ik}{t u v:Rl}{n:HW}(hh:A.handled=K3)(hr:QT s.heap r a b c t u v)(hsmall:Mn a b c=true)
  (hn:J4 a b c=n) (hlen:n<=2 ^ 24)
  (hQ:∀h' tk (acc:ID HM),(∀b o,s.heap.get? b=ba o->h'.get? b=ba o)->s.heap.objs.size<=h'.objs.size->Ni (λi v=>∃t,v=.int (a+i*c) t) acc n->Q acc.toList { s with heap:=h',toks:=tk }):wpAny (model prog w) A (collect (.ref r)) Q E s:=by
 unfold collect;refine HL (LU (Ju F.entry_proto_collect ?_));rw[Jk F.plain_proto_collect _];show wpAny _ A.in1 (newList [] >>= λl=>again (.builtin "list.__iadd__" #[[l,.ref r],[]])) _ _ s
 refine HL (IV ?_);refine HR #[Kc F.plain_list_iadd _,Ju F.entry_list_iadd ?_];rw[Jk F.plain_list_iadd _];show wpAny _ A.in1 (JO (.ref s.heap.objs.size) (.ref r) (.ref s.heap.objs.size)) _ _ _;have hS:(s.heap.push { cls:=.type "list",data:=.seq ([]:HK HM).toArray }).get? s.heap.objs.size=ba { cls:=.type "list",data:=.seq #[] 0 }:=Ij _ rfl;have fin':∀s',(∃h' tk acc c',s'={ s with heap:=h',toks:=tk }/\(∀b o,s.heap.get? b=ba o->h'.get? b=ba o)/\h'.get? s.heap.objs.size=ba { cls:=.type "list",dict:=K3,data:=.seq acc c',slots:=#[] }/\Ni (λi v=>∃t,v=.int (a+i*c) t) acc n)->wpAny (model prog w) A (do
   let o <- load s.heap.objs.size
   match o.data with
   | .seq xs _=>pure xs.toList
   | _=>unsupported "internal:collect") Q E s':=by
  rintro s' ⟨h',tk,acc,c',rfl,hk,hS',hacc⟩;exact HL (Nd hS' (HR (hQ h' tk acc hk (Lp (Io hS')) hacc)))
 refine J2 (wpAny_extend_range (A:=A) (s:={ s with heap:=s.heap.push { cls:=.type "list",data:=.seq ([]:HK HM).toArray } }) (R:=λr s'=>r=.ok (.ret (.ref s.heap.objs.size))/\∃h' tk acc c',s'={ s with heap:=h',toks:=tk }/\(∀b o,s.heap.get? b=ba o->h'.get? b=ba o)/\h'.get? s.heap.objs.size=ba { cls:=.type "list",dict:=K3,data:=.seq acc c',slots:=#[] }/\Ni (λi v=>∃t,v=.int (a+i*c) t) acc n) hh (HP _ hr) hsmall hn hlen _ _ 0 hS λh' tk acc' c' hk hS' hacc=>#[rfl,h',tk,acc',c',rfl,λb o e=>hk b o (Iy (Io e)) (HP _ e),hS',hacc]) (λfin s' h=>?_) (λe s' h=>?_)
 ·cases fin with
  | done f=>
   obtain⟨e,h⟩:=h;cases e;exact fin' s' h
  | again c'=>exact#[h.1,LP h.2 λr s'' hr=>by obtain⟨rfl,hr⟩:=hr; exact fin' s'' hr]
 ·exact absurd h.1 (by simp)
theorem iW {Q₁:HM->HQ->Prop}{r:HX}{a b c:Ik}{t u v:Rl}{n:HW}(hh:A.handled=K3)(hr:QT s.heap r a b c t u v)(hsmall:Mn a b c=true)
  (hn:J4 a b c=n) (hlen:n<=2 ^ 24)
  (h:∀(h':Jc) (tk:HW) (acc:ID HM),(∀b o,s.heap.get? b=ba o->h'.get? b=ba o)->s.heap.objs.size<=h'.objs.size->Ni (λi v=>∃t,v=.int (a+i*c) t) acc n->Q₁ (.ref h'.objs.size) { s with heap:=h'.push { cls:=.type "tuple",data:=.seq acc },toks:=tk }) :
  codeAny (model prog w) A (.call (.builtin "tuple.__new__") #[[.type "tuple",.ref r],[]]) (wants Q₁ E) s:=by
 refine Nt ?_;show wpAny _ A.in1 (do checkBuiltinCall "tuple.__new__" #[[.type "tuple",.ref r],[]]; again (.builtin "tuple.__new__" #[[.type "tuple",.ref r],[]])) _ _ s
 refine HL (LN (F.newCall_tuple_1 _) (HR #[Kc F.plain_tuple_new _,Ju F.entry_tuple_new ?_]));rw[Jk F.plain_tuple_new _];have hsub:=PySem.sub_tuple_self;have hinit:=PySem.init_tuple_lookup;have hmh:=PySem.madeHere_tuple;have hTI:s.TypeIs (.ref r) "range":=#[_,hr,rfl];have hh1:A.in1.handled=K3:=by simp[hh]
 wp_walk using K7 hTI,lC (A:=A.in1) hh1 hr hsmall hn hlen
 intro h' tk acc hk hle hacc;show wpAny _ _ (JX acc.toList.toArray >>= λv=>ret v) _ _ _
 unfold JX;refine HL (IV ?_ (by show acc.toList.toArray.size<=sizeLine; simp only[Array.toArray_toList]; rw[hacc.1,Jf]; omega))
 refine HR ?_;have e:acc.toList.toArray=acc:=by simp
 rw[e];exact h h' tk acc hk hle hacc
theorem iX {Q:HM->HQ->Prop}{r:HX}{a b c:Ik}{t u v:Rl}{n:HW}(hh:A.handled=K3)(hr:QT s.heap r a b c t u v)(hsmall:Mn a b c=true)
  (hn:J4 a b c=n) (hlen:n<=2 ^ 24)
  (hQ:∀(h':Jc) (tk:HW) (acc:ID HM),(∀b o,s.heap.get? b=ba o->h'.get? b=ba o)->s.heap.objs.size<=h'.objs.size->Ni (λi v=>∃t,v=.int (a+i*c) t) acc n->Q (.ref h'.objs.size) { s with heap:=h'.push { cls:=.type "tuple",data:=.seq acc },toks:=tk }) :
  wpAny (model prog w) A (call (.type "tuple") [.ref r]) Q E s:=by
 refine callType_codes (Q₁:=λobj s₁=>s₁.TypeIs obj "tuple"/\Q obj s₁) F.called_tuple (F.typeCall_tuple_1 _) F.entry_object_init
  (iW (by simp[hh]) hr hsmall hn hlen λh' tk acc hk hle hacc=>#[#[_,Ij _ rfl,rfl],hQ h' tk acc hk hle hacc]) λobj s₁ h₁=>?_
 exact#[h₁.1,F.args_object_init_2 obj _,object_init_meets F.called_tuple.init.lookup F.called_tuple.made #v[] prog w A.in1 _ s₁ #[h₁.1,rfl,h₁.2]]
theorem pQ {a:HX}{o:JR}{es:ID (Ik×HM)}{ep:HW}{t:Jx}{ks:HK T}{Q:HM->HQ->Prop}(hh:A.handled=K3)(hu:A.units+12 < cLine)(ho:s.heap.get? a=ba o)(hex:o.ExactSet)(hd:o.data=.set es ep t)(hz:es.size<=sizeLine)(fit:t.fits es.size=true)(led:t.led = !eF w)(pl:t.plain=true->es.size=0\/eO t es.size=true)
  (hT:IsTs s.heap ks (es.toList.map (·.2))) (hok:kA ks=true)
  (h:∀D h' tk dr c us,(∀b u,s.heap.get? b=ba u->h'.get? b=ba u)->s.heap.objs.size<=D->h'.get? D=ba (seqObj "list" us.toArray c)->IsTs s.heap (ef ks) us->us.Perm (es.toList.map (·.2))->Q (.ref D) { s with heap:=h',toks:=tk,drawn:=dr }) :
  wpAny (model prog w) A (call (.builtin "sorted") [.ref a]) Q E s:=by
 simp only[kA,HV,Iw]at hok;obtain⟨⟨⟨hnum,halt⟩,hnd⟩,hok⟩:=hok;have hN:Nice ks:=#[λx hx=>IC.mp hnum x hx,halt,hnd]
 refine Lx Qx Qj Qk (Ql _) ?_;unfold Le.«sorted»;refine HL (m:=checkCount "sorted" 1 1 _) (HR ?_);refine HL (pe (A:=A.in1) (by simp[hh]) ho hex hd hz fit led pl λh1 tk dr us kp hle hP=>?_)
 obtain⟨js,hjs,hperm⟩:=uA hP hT;simp only[gJ,HV,Iw]at hok;obtain⟨⟨h64,hdp⟩,hok⟩:=hok;have hl:us.length=ks.length:=by rw[hjs.length.symm,hperm.length_eq]
 have hJ:Nice js:=hN.of_sub (λx hx=>hperm.mem_iff.mp hx) (hperm.nodup_iff.mpr hN.nd)
 have hsk:2<=us.length->(rf js).isSome=true:=λh2=>by
  have h3:(rf ks).isSome=true:=by
   rcases J0 _ _ ▸ hok with h|h
   ·simp only[Iw]at h; omega
   ·simp only[HV]at h; exact h.1
  rw[wK hperm]; exact h3
 have hdj:T.depths js<=cu:=ig λx hx=>by
  obtain⟨i,hi,rfl⟩:=J7.mp (hperm.mem_iff.mp hx);exact Jh (cm i hi) hdp
 refine HL (M1 ?_ (by rw[Jf]; omega))
 have hoL:(h1.push (seqObj "list" us.toArray 0)).get? h1.objs.size=ba (seqObj "list" us.toArray 0):=Ij _ rfl;have kp2:∀b o,s.heap.get? b=ba o->(h1.push (seqObj "list" us.toArray 0)).get? b=ba o:=λb o e=>HP _ (kp b o e)
 have hne:∀b o,s.heap.get? b=ba o->b≠h1.objs.size:=λb o e=>Iy (IG (Io e) hle)
 show wpAny _ _ _ _ _ { s with heap:=h1.push (seqObj "list" us.toArray 0),toks:=tk,drawn:=dr }
 refine HL (Jm (Jr PJ #[_,hoL,rfl] Pi ?_ (PK _)));refine mx (s:={ s with heap:=h1.push (seqObj "list" us.toArray 0),toks:=tk,drawn:=dr }) (lt:=pH js) (κ:=sw ((rf js).getD 0)) hoL ∅ (λh2 h' hk Q hq=>?_) (λh2 h' hk i j hi hj Q hq=>?_) λh' c hk hD=>?_
 ·obtain⟨c,hc⟩:=Jn.mp (hsk h2);rw[hc]at hq;exact wt (s:={ s with heap:=h',toks:=tk,drawn:=dr }) (hjs.kept λb o _ e=>hk b o (hne b o e) (kp2 b o e)) h2 hc hq
 ·obtain⟨c,hc⟩:=Jn.mp (hsk h2);rw[hc];have hjl:=hjs.length;have hi':i < js.length:=∅
  have hj':j < js.length:=∅
  have g:=(hjs.kept (h':=h') λb o _ e=>hk b o (hne b o e) (kp2 b o e))
  have e1:us.getD i Ja=us[i]:=by simp[hi]
  have e2:us.getD j Ja=us[j]:=by simp[hj]
  rw[e1,e2];have b1:=cm (ks:=js) i hi';have b2:=cm (ks:=js) j hj';exact sy (s:={ s with heap:=h',toks:=tk,drawn:=dr }) (d:=cu) (c:=c) (by rw[be,be]; unfold cu; omega) ∅ ∅ (g.get i hi' hi) (g.get j hj' hj) (dQ hJ.lt hi' hj') (sA hc (Jg hi') (Jg hj')) hq
 ·refine#[_,rfl,HR #[_,rfl,h _ h' tk dr c (dk (pH js) Ja us) (λb o e=>hk b o (hne b o e) (kp2 b o e)) hle hD ?_ (eG.trans hP)]]
  rw[<- uy hN hperm];exact uB hjs
end
section
variable{X:Cx}{pins:HK (HX×JR)}{σ:L2.St}{H:Hp}{s:HQ}{A:HK HX}{S:aa}
theorem mG:∀as:HK HX,Vals (as.map V.ref) (as.map IR)
 | []=>.nil
 | _::as=>.cons rfl (mG as)
theorem wL:∀ {ks:HK T} {as:HK HX},RelL X.K A H (T.ws ks) (as.map V.ref)->∀b∈as,∃k∈ks,Rel X.K A H k.w (.ref b)
 | [],[],_,_,h=>nomatch h
 | [],_::_,r,_,_=>nomatch r
 | _::_,[],r,_,_=>nomatch r
 | k::ks,a::as,r,b,h=>by
  cases r with
  | cons r1 r2=>
   rcases IE.mp h with rfl|h
   ·exact#[k,.head _,r1]
   ·obtain⟨k',h1,h2⟩:=wL r2 b h;exact#[k',.tail _ h1,h2]
theorem wM (I:Inv X pins σ H s):∀ {js:HK T} {us:HK HM},IsTs s.heap js us->(∀u∈us,∃k b,u=IR b/\Rel X.K A H (T.w k) (.ref b))->∃vs,RelL X.K A H (T.ws js) vs/\Vals vs us
 | _,_,.nil,_=>#[[],.nil,.nil]
 | _,_,.cons a b,h=>by
  obtain⟨k,c,rfl,r⟩:=h _ (.head _);obtain⟨vs,h1,h2⟩:=wM I b λu hu=>h u (.tail _ hu)
  have:IsT s.heap k (.ref c):=nI I k r rfl;obtain rfl:=a.inj this;exact#[.ref c::vs,.cons r h1,.cons rfl h2]
theorem pR (hh:X.A.handled=K3)(hu:X.A.units+12 < cLine):LCall X (.builtin "sorted") cL:=by
 intro pins s σ H A S xs vs us w S' I so rl rv e;unfold cL at e;split at e
 ·rename_i i;obtain⟨a,ea,rfl⟩:=jQ (xs:=[]) rl rv;split at e
  ·rename_i ks hs;split at e
   ·rename_i hb;cases e;unfold DN at hs;split at hs
    ·rename_i us hx;cases hs;obtain⟨o,φ,as,q,⟨hex,es,ep,t,hd,hz,fit,led,pl,he⟩,r⟩:=so.obj i _ a hx ea;have ho:s.heap.get? a=ba o:=(show ObjOk X.prog X.w H s.heap a (.frz o (.ext φ))from I.hok a _ q).1
     have hT:IsTs s.heap ks (es.toList.map (·.2)):=by rw[he]; exact eQ I ks r (mG as)
     refine pQ hh hu ho hex hd hz fit led pl hT hb λD h' tk dr c us hk hD oD hU hP=>?_
     obtain⟨vs,h1,h2⟩:=wM I hU λu hu=>by
      have:=hP.mem_iff.mp hu;rw[he]at this;obtain⟨b,hb,rfl⟩:=II.mp this;obtain⟨k,_,rk⟩:=wL r b hb;exact#[k,b,rfl,rk]
     have hl:us.length<=sizeLine:=by rw[hP.length_eq,HN,Il]; exact hz
     exact hW (u:=.lst vs) I so hk hD #[by rw[L2.Vals.length h2]; exact hl,us,c,h2,oD] λhn=>#[_,bf,h1.mono (cJ hn)]
    ·cases hs
   ·cases e
  ·cases e
 ·cases e
theorem rA (hh:X.A.handled=K3)(hu:X.A.units+12 < cLine):LCall X (.type "set") kz:=by
 intro pins s σ H A S xs vs us w S' I so rl rv e;unfold kz at e;split at e
 ·rename_i i;obtain⟨a,ea,rfl⟩:=jQ (xs:=[]) rl rv;split at e
  ·rename_i ws hw;split at e
   ·rename_i ks hs;split at e
    ·rename_i hb;rw[HS]at e;obtain⟨us,hp,e⟩:=e;cases e;have hkk:∀x∈ks,eP x=true/\x.isTup=true/\x.depth<=aF:=λx hx=>by
      have:=IC.mp hb x hx;simp only[wH,HV,Iw]at this;exact#[this.1.1,this.1.2,this.2]
     obtain⟨vs',h1,r1⟩:=ci so hw ea;obtain⟨its,rv',p,hzz⟩:=I.list h1;have hws:T.ws ks=ws:=W.ts_w hs;rw[<- hws]at r1;have hT:IsTs s.heap ks its:=eQ I ks r1 rv';obtain⟨res,hplay,hkeys,hled,hpl⟩:=uz hp (!eF X.w);have itm:∀(j:HW) (u:HM),its[j]?=ba u->∃k b,ks[j]?=ba k/\u=IR b/\Rel X.K A H (T.w k) (.ref b):=λj u hj=>by
      have hjl:=(HZ.mp hj).1;have hjk:j < ks.length:=by rw[hT.length]; exact hjl
      have hkw:(T.ws ks)[j]?=ba (T.w ks[j]):=by rw[wI,HY,Ic hjk]; rfl
      obtain⟨v,hv,rkv⟩:=r1.get hkw;obtain⟨u',hu',ruv⟩:=L2.Vals.get rv' hv;rw[hj]at hu';cases hu';have ht:=(hkk _ (Jg hjk)).2.1;generalize hk0:ks[j]=k0 at rkv ht;cases k0 with
      | int _=>cases ht
      | str _=>cases ht
      | tup ys=>
       cases rkv with
       | tup q1 q2=>
        obtain rfl:u=IR _:=ruv;exact#[.tup ys,_,by rw[<- hk0]; exact Ic hjk,rfl,.tup q1 q2]
     refine um (ks:=ks) (res:=res) hh p.isList (by simpa using hT) (λx hx=>#[(hkk x hx).1,(hkk x hx).2.2]) (λj v hj=>?_) (by show _+aF < cLine; rw[be,be,be]; unfold aF; omega) (by rw[pM ks _ λx hx=>(hkk x hx).1]; exact hplay) λh' tk zs ep ho ez hok hz hy hk=>?_
     ·obtain⟨k,b,_,hb,_⟩:=itm j v (by simpa using hj)
      exact#[b,hb]
     ·have ezt:zs.toList.map (λz=>z.2.1)=us:=by
       rw[<- hkeys,<- ez,M7,Km]; rfl
      have hsz:res.1.size=zs.size:=by rw[<- ez,JI]
      refine hW (dr:=s.drawn) (u:=.frz (km X.w zs ep res.2) (.ext λh=>h.get? s.heap.objs.size=ba (km X.w zs ep res.2))) I so hk (Ih _) #[ho,ho,#[_,ho],λh1 h2 q k=>k _ q] λhn=>#[_,_,zs.toList.map λz=>z.2.2,bf,#[#[rfl,rfl,rfl],zs.map zV,ep,res.2,rfl,?_,?_,hled,?_,?_],?_]
      ·rw[JI,Jf];simp only[di,HV,Iw]at hok;have:=hok.2; omega
      ·rw[JI];simp only[di,HV,Iw]at hok;exact hok.1.1
      ·rw[JI,<- hsz]; exact λz=>.inr (hpl z)
      ·rw[M7,Km,Km]; rfl
      ·rw[<- ezt];have all:∀z∈zs.toList,Rel X.K (A++[s.heap.objs.size]) (bP H s.heap.objs.size (.frz (km X.w zs ep res.2) (.ext λh=>h.get? s.heap.objs.size=ba (km X.w zs ep res.2)))) (T.w z.2.1) (.ref z.2.2):=λz hz'=>by
        obtain⟨j,g1,g2⟩:=hy z hz';obtain⟨k,b,g3,g4,g5⟩:=itm j _ (by simpa using g2)
        rw[g1]at g3;cases g3; cases g4
        exact g5.mono (cJ hn)
       clear hy ezt;generalize zs.toList=l at all
       induction l with
       | nil=>exact .nil
       | cons z l ih=>exact .cons (all z (.head _)) (ih λy hy=>all y (.tail _ hy))
    ·cases e
   ·cases e
  ·cases e
 ·cases e
theorem nO (hh:X.A.handled=K3):LCall X (.type "tuple") iV:=by
 intro pins s σ H A S xs vs us w S' I so rl rv e;unfold iV at e;split at e
 ·rename_i i;split at e
  ·rename_i lo hi hr;split at e
   ·rename_i hb;cases e;obtain⟨a,ea,rfl⟩:=jQ (xs:=[]) rl rv;obtain⟨b1,b2,b3,b4,b5⟩:=hb;have hH:H a=ba (.rng lo hi):=by
     unfold uk at hr;split at hr
     ·rename_i hx; cases hr; exact so.obj i _ a hx ea
     ·cases hr
    obtain⟨t,u,v,ho⟩:=I.hok a _ hH;have hn:J4 lo hi 1=((hi - lo).toNat:HW):=by rw[N6]; split <;> omega
    refine iX hh ho (Qa b1 b2 b3 b4) hn b5 λh' tk acc hk hle hacc=>?_
    have hv:Vals ((IN (hi - lo).toNat).map λ(k:HW)=>V.int (lo+(k:Ik))) acc.toList:=by
     refine nE (by rw[HN,Jb,Il,hacc.1]) λi v u e1 e2=>?_
     rw[HY,HS]at e1;obtain⟨k,e1,rfl⟩:=e1;obtain⟨hk,rfl⟩:=HZ.mp e1;obtain⟨t,rfl⟩:=hacc.2 i u (by rw[<- JB]; exact e2)
     exact#[t,by simp]
    have hnn:H h'.objs.size=K3:=I.hok.fresh hle;refine#[.ref h'.objs.size,_,A,I.laid (a:=h'.objs.size) (o:=.tup ((IN (hi - lo).toNat).map λ(k:HW)=>V.int (lo+(k:Ik)))) (t':=tk) (λb o e=>HP _ (hk b o e)) hle #[by simpa using b5,acc.toList,hv,?_],rfl,c9 (.inl hnn),so.lay hnn,.tup (.inl (.inl bf)) (nF _)]
    exact#[_,Ij _ rfl,rfl,0,by simp]
   ·cases e
  ·exact jk pins s σ H A S _ vs us w S' I so rl rv e
 ·exact jk pins s σ H A S _ vs us w S' I so rl rv e
end
section
variable{X:Cx}{pins:HK (HX×JR)}{σ:L2.St}{H:Hp}{s:HQ}{A:HK HX}{S:aa}
theorem uC (hh:X.A.handled=K3)(hu:X.A.units+12 < cLine):LCall X (.builtin "min") zN:=by
 intro pins s σ H A S xs vs us w S' I so rl rv e;cases rl with
 | nil=>cases e
 | cons r t=>
  cases t with
  | cons _ _=>cases r <;> cases e
  | nil=>
   cases rv with
   | cons ru rv2=>
    cases rv2;cases r with
    | ref ea=>
     simp only[zN]at e;split at e
     ·rename_i ws hw;split at e
      ·rename_i ks hk;split at e
       ·rename_i hc;rw[HS]at e;obtain⟨w',e1,e2⟩:=e;cases e2;obtain⟨vs',h1,r1⟩:=ci so hw ea;obtain⟨its,rv1,p,hz⟩:=I.list h1;obtain rfl:_=IR _:=ru;have hws:T.ws ks=ws:=W.ts_w hk;have hT:IsTs s.heap ks its:=eQ I ks (hws ▸ r1) rv1;have hl:its.length=ks.length:=hT.length.symm;have hlw:ws.length=ks.length:=by rw[r1.length,L2.Vals.length rv1,hl]
        have hn:0 < ks.length:=by
         have:=(HZ.mp e1).1;omega
        refine wo (items:=its.toArray) (bt:=pH ks) hh p.isList (by simpa [hl]using hn) (λi j vi vj s' Q E hk' hi hj hq=>?_) λv h' tk hv hk'=>?_
        ·have hi':i < ks.length:=by
          have:=(JQ.mp hi).1
          simpa [hl]using this
         have hj':j < ks.length:=by
          have:=(JQ.mp hj).1
          simpa [hl]using this
         have g:=hT.kept (h':=s'.heap) λb o _ e=>hk' b o e
         have e1:vi=its[i]'∅:=by
          have:=(JQ.mp hi).2
          simpa using this.symm
         have e2:vj=its[j]'∅:=by
          have:=(JQ.mp hj).2
          simpa using this.symm
         subst e1 e2;have b1:=cm (ks:=ks) i hi';have b2:=cm (ks:=ks) j hj';exact EG cu _ _ _ _ X.A.in1 s' _ ∅ ∅ (g.get i hi' ∅) (g.get j hj' ∅) (by rw[be]; unfold cu; omega) (dQ hc.2 hi' hj') X.prog X.w _ _ hq
        ·have hv':its[rh ks]?=ba v:=by
          have:its.toArray.size=ks.length:=by simpa using hl
          rw[this]at hv
          simpa [rh]using hv
         obtain⟨v',q1,q2⟩:=r1.get e1;obtain⟨u',q3,q4⟩:=L2.Vals.get rv1 q1;rw[hv']at q3;cases q3;exact#[v',H,A,I.kept hk',q4,.refl,so,q2]
       ·cases e
      ·cases e
     ·cases e
    | _=>cases e
theorem mH:∀ {ws:HK W} {bs:HK IF},gK ws=ba bs->ws=bs.map W.bl
 | [],bs,h=>by cases h; rfl
 | .bl b::ws,bs,h=>by
  simp only[gK,HS]at h;obtain⟨r,h1,h2⟩:=h;subst h2;rw[mH h1]; rfl
 | .non::_,_,h|.int _::_,_,h|.str _::_,_,h|.tup _::_,_,h|.ref _::_,_,h=>by cases h
theorem rB {bs:HK IF}{vs:HK V}{us:HK HM}(r:RelL X.K A H (bs.map W.bl) vs)(rv:Vals vs us):us=bs.map Lh:=by
 induction bs generalizing vs us with
 | nil=>cases r; cases rv; rfl
 | cons b bs ih=>
  cases r with
  | cons r1 r2=>
   cases rv with
   | cons v1 v2=>
    cases r1;obtain rfl:_=Lh b:=v1;rw[ih r2 v2]; rfl
theorem uD (bs:HK IF):(IN bs.length).all (λi=>bs.getD i false)=bs.all id:=by
 induction bs with
 | nil=>rfl
 | cons b bs ih=>simp[Ng,Qg,MU]at ih ⊢; rw[ih]
theorem CG {id:JJ}{fb:HK IF->IF}{g:HK W->aa->HU (W×aa)}(hg:∀xs S,g xs S=match xs with|[.ref i]=>(match gZ S i with|some ws=>(gK ws).map λbs=>(.bl (fb bs),S)|none=>K3)|_=>K3)
  (hcall:∀ {s:HQ} {x:HM} {Q:HM->HQ->Prop} {E:HM->HQ->Prop} {bs:HK IF},wpAny (model X.prog X.w) X.A.in1 (pyIter x) (λit s₂=>∃I fp wr P St,it=.ref I/\O9 X.prog X.w X.A.in1 I fp wr bs.length P St/\St 0 s₂.heap/\TruthOf X.prog X.w X.A.in1 P (λi=>bs.getD i false)/\
   ∀h' tk,(∀b o,b∉wr->s₂.heap.get? b=ba o->h'.get? b=ba o)->Q (.bool (fb bs)) { s₂ with heap:=h',toks:=tk }) E s->wpAny (model X.prog X.w) X.A (call (.builtin id) [x]) Q E s)
  (hh:X.A.handled=K3):LCall X (.builtin id) g:=by
 intro pins s σ H A S xs vs us w S' I so rl rv e;rw[hg]at e;cases rl with
 | nil=>cases e
 | cons r t=>
  cases t with
  | cons _ _=>cases r <;> cases e
  | nil=>
   cases rv with
   | cons ru rv2=>
    cases rv2;cases r with
    | @ref ri ad ea=>
     simp only at e;split at e
     ·rename_i ws hw;rw[HS]at e;obtain⟨bs,e1,e2⟩:=e;cases e2;obtain⟨vs',h1,r1⟩:=ci so hw ea;obtain⟨its,rv1,p,hz⟩:=I.list h1;obtain rfl:_=IR _:=ru;rw[mH e1]at r1;have hits:=rB r1 rv1;refine hcall (bs:=bs) ?_;refine LX p.isList ?_;have hlt:ad < s.heap.objs.size:=by obtain⟨_,ho,_⟩:=p.isList; exact Io ho
      have W:=PF (prog:=X.prog) (w:=X.w) (A:=X.A.in1) hh s.heap.objs.size ad (Iy hlt) its.toArray;have hsz:its.toArray.size=bs.length:=by rw[Ii,hits,HN]
      rw[hsz]at W;refine#[_,_,_,_,_,rfl,W,#[#[_,Ij _ rfl,rfl,rfl],?_],λi v s' Q E hi hq=>?_,λh' tk hk=>?_]
      ·obtain⟨o,ho,hc⟩:=p.isList;exact#[o,HP _ ho,hc]
      ·have hb:bs[i]?.map Lh=ba v:=by rw[<- HY,<- hits]; simpa using hi
       cases q:bs[i]? with
       | none=>rw[q]at hb; cases hb
       | some b=>
        rw[q]at hb;cases hb;have eb:bs.getD i false=b:=by simp[q]
        have hq:Q (bs.getD i false) s':=hq;rw[eb]at hq;exact Ks hq
      ·refine#[.bl (fb bs),H,A,I.kept (λb o e=>hk b o (λz=>?_) (HP _ e)),rfl,.refl,so,.bl]
       have hb:=Io e;rw[Ir.mp z]at hb;exact JM _ hb
     ·cases e
    | _=>cases e
theorem uE (hh:X.A.handled=K3):LCall X (.builtin "all") CD:=
 CG (fb:=λbs=>bs.all id) (λxs S=>rfl) (λ{s x Q E bs} h=>call_all_walk (J2 h (λit s₂ #[I,fp,wr,P,St',a,b,c,d,f]=>#[I,fp,wr,_,P,St',_,a,b,c,d,λh' tk hk=>by rw[uD]; exact f h' tk hk]) λ_ _ e=>e)) hh
end
noncomputable abbrev FA:=Fm->aa->HU (HK W×aa)
noncomputable abbrev FT:=Fm->aa->HU (IF×aa)
inductive Out where
 | nx (ρ:Fm)|rt (w:W)|bk (ρ:Fm)|ct (ρ:Fm)
noncomputable abbrev FS:=Fm->aa->HU (Out×aa)
section
variable (X:Cx)
noncomputable def tE (f:FE):TE:=λσ H Q=>∃A ρ S w S',EnvRel X.K A H ρ σ/\StoreOk X.w X.K A H S/\f ρ S=ba (w,S')/\∀v H',EndV X.w X.K A H S' w v H'->Q v H'
noncomputable def EndB (A:HK HX)(H:Hp)(S':aa)(k:IF):IF->Hp->Prop:=λb H'=>b=k/\∃A',Ext X.K A H A' H'/\StoreOk X.w X.K A' H' S'
noncomputable def tT (f:FT):TT:=λσ H Q=>∃A ρ S k S',EnvRel X.K A H ρ σ/\StoreOk X.w X.K A H S/\f ρ S=ba (k,S')/\∀b H',EndB X A H S' k b H'->Q b H'
noncomputable def CH (A:HK HX)(H:Hp)(S':aa)(ws:HK W):HK V->Hp->Prop:=λvs H'=>∃A',Ext X.K A H A' H'/\StoreOk X.w X.K A' H' S'/\RelL X.K A' H' ws vs
noncomputable def tA (f:FA):TA:=λσ H Q=>∃A ρ S ws S',EnvRel X.K A H ρ σ/\StoreOk X.w X.K A H S/\f ρ S=ba (ws,S')/\∀vs H',CH X A H S' ws vs H'->Q vs H'
noncomputable def EndS (A:HK HX)(H:Hp)(o:Out)(S':aa):Ends where
 nx:=λσ' H'=>∃ρ' A',o=.nx ρ'/\Ext X.K A H A' H'/\StoreOk X.w X.K A' H' S'/\EnvRel X.K A' H' ρ' σ'
 rt:=λv H'=>∃w A',o=.rt w/\Ext X.K A H A' H'/\StoreOk X.w X.K A' H' S'/\Rel X.K A' H' w v
 bk:=λσ' H'=>∃ρ' A',o=.bk ρ'/\Ext X.K A H A' H'/\StoreOk X.w X.K A' H' S'/\EnvRel X.K A' H' ρ' σ'
 ct:=λσ' H'=>∃ρ' A',o=.ct ρ'/\Ext X.K A H A' H'/\StoreOk X.w X.K A' H' S'/\EnvRel X.K A' H' ρ' σ'
structure Imp (E D:Ends):Prop where
 nx:∀σ H,E.nx σ H->D.nx σ H
 rt:∀v H,E.rt v H->D.rt v H
 bk:∀σ H,E.bk σ H->D.bk σ H
 ct:∀σ H,E.ct σ H->D.ct σ H
noncomputable def tS (f:FS):TS:=λD σ H=>∃A ρ S o S',EnvRel X.K A H ρ σ/\StoreOk X.w X.K A H S/\f ρ S=ba (o,S')/\Imp (EndS X A H o S') D
noncomputable abbrev GE (e:Iz)(f:FE):Prop:=PE X e (tE X f)
noncomputable abbrev GT (e:Iz)(f:FT):Prop:=PT X e (tT X f)
noncomputable abbrev GW (e:Iz)(f:FT):Prop:=PW X e (tT X f)
noncomputable abbrev GA (es:HK Iz)(f:FA):Prop:=PA X es (tA X f)
noncomputable abbrev GS (st:KQ)(f:FS):Prop:=PS X st (tS X f)
noncomputable abbrev GSs (sts:HK KQ)(f:FS):Prop:=PSs X sts (tS X f)
end
theorem Imp.trans {E D F:Ends}(a:Imp E D)(b:Imp D F):Imp E F:=#[λ_ _ h=>b.nx _ _ (a.nx _ _ h),λ_ _ h=>b.rt _ _ (a.rt _ _ h),λ_ _ h=>b.bk _ _ (a.bk _ _ h),λ_ _ h=>b.ct _ _ (a.ct _ _ h)]
section
variable{X:Cx}
theorem GE.of {e:Iz}{t:TE}{f:FE}(h:PE X e t)(hf:∀(σ:L2.St) (H:Hp) (A:HK HX) (ρ:Fm) (S:aa) (w:W) (S':aa),EnvRel X.K A H ρ σ->StoreOk X.w X.K A H S->f ρ S=ba (w,S')->∀Q:VK,(∀v H',EndV X.w X.K A H S' w v H'->Q v H')->t σ H Q):GE X e f:=
 λpins s σ H Q I #[A,ρ,S,w,S',er,so,e1,hq]=>h pins s σ H Q I (hf σ H A ρ S w S' er so e1 Q hq)
theorem GT.of {e:Iz}{t:TT}{f:FT}(h:PT X e t)(hf:∀(σ:L2.St) (H:Hp) (A:HK HX) (ρ:Fm) (S:aa) (k:IF) (S':aa),EnvRel X.K A H ρ σ->StoreOk X.w X.K A H S->f ρ S=ba (k,S')->∀Q:IF->Hp->Prop,(∀b H',EndB X A H S' k b H'->Q b H')->t σ H Q):GT X e f:=
 λpins s σ H Q I #[A,ρ,S,w,S',er,so,e1,hq]=>h pins s σ H Q I (hf σ H A ρ S w S' er so e1 Q hq)
theorem GW.of {e:Iz}{t:TT}{f:FT}(h:PW X e t)(hf:∀(σ:L2.St) (H:Hp) (A:HK HX) (ρ:Fm) (S:aa) (k:IF) (S':aa),EnvRel X.K A H ρ σ->StoreOk X.w X.K A H S->f ρ S=ba (k,S')->∀Q:IF->Hp->Prop,(∀b H',EndB X A H S' k b H'->Q b H')->t σ H Q):GW X e f:=
 λwh pins s σ H Q I #[A,ρ,S,w,S',er,so,e1,hq]=>h wh pins s σ H Q I (hf σ H A ρ S w S' er so e1 Q hq)
theorem GA.of {es:HK Iz}{t:TA}{f:FA}(h:PA X es t)(hf:∀(σ:L2.St) (H:Hp) (A:HK HX) (ρ:Fm) (S:aa) (ws:HK W) (S':aa),EnvRel X.K A H ρ σ->StoreOk X.w X.K A H S->f ρ S=ba (ws,S')->∀Q:HK V->Hp->Prop,(∀vs H',CH X A H S' ws vs H'->Q vs H')->t σ H Q):GA X es f:=
 λpos pins s σ H Q I #[A,ρ,S,w,S',er,so,e1,hq]=>h pos pins s σ H Q I (hf σ H A ρ S w S' er so e1 Q hq)
theorem GS.of {st:KQ}{t:TS}{f:FS}(h:PS X st t)(hf:∀(σ:L2.St) (H:Hp) (A:HK HX) (ρ:Fm) (S:aa) (o:Out) (S':aa),EnvRel X.K A H ρ σ->StoreOk X.w X.K A H S->f ρ S=ba (o,S')->∀D:Ends,Imp (EndS X A H o S') D->t D σ H):GS X st f:=
 λpins s σ H D I #[A,ρ,S,o,S',er,so,e1,hq]=>h pins s σ H D I (hf σ H A ρ S o S' er so e1 D hq)
theorem GSs.of {st:HK KQ}{t:TS}{f:FS}(h:PSs X st t)(hf:∀(σ:L2.St) (H:Hp) (A:HK HX) (ρ:Fm) (S:aa) (o:Out) (S':aa),EnvRel X.K A H ρ σ->StoreOk X.w X.K A H S->f ρ S=ba (o,S')->∀D:Ends,Imp (EndS X A H o S') D->t D σ H):GSs X st f:=
 λpins s σ H D I #[A,ρ,S,o,S',er,so,e1,hq]=>h pins s σ H D I (hf σ H A ρ S o S' er so e1 D hq)
theorem EndV.after {A A1:HK HX}{H H1:Hp}{S':aa}{w:W}{v:V}{H':Hp}(e:Ext X.K A H A1 H1)(h:EndV X.w X.K A1 H1 S' w v H'):EndV X.w X.K A H S' w v H':=by
 obtain⟨A',x,y,z⟩:=h;exact#[A',e.trans x,y,z]
theorem EndB.after {A A1:HK HX}{H H1:Hp}{S':aa}{k b:IF}{H':Hp}(e:Ext X.K A H A1 H1)(h:EndB X A1 H1 S' k b H'):EndB X A H S' k b H':=by
 obtain⟨h1,A',x,y⟩:=h;exact#[h1,A',e.trans x,y]
theorem EndS.after {A A1:HK HX}{H H1:Hp}{S':aa}{o:Out}(e:Ext X.K A H A1 H1):Imp (EndS X A1 H1 o S') (EndS X A H o S'):=
 #[λ_ _ #[ρ',A',a,b,c,d]=>#[ρ',A',a,e.trans b,c,d],λ_ _ #[ρ',A',a,b,c,d]=>#[ρ',A',a,e.trans b,c,d],λ_ _ #[ρ',A',a,b,c,d]=>#[ρ',A',a,e.trans b,c,d],λ_ _ #[ρ',A',a,b,c,d]=>#[ρ',A',a,e.trans b,c,d]]
noncomputable def fC (w:W):FE:=λ_ S=>ba (w,S)
noncomputable def fV (i:HW):FE:=λρ S=>match ρ[i]? with
 | some (ba w)=>ba (w,S)
 | _=>K3
theorem pS {e:Iz}{v:V}{w:W}(h:PE X e (tC v))(r:∀A H,Rel X.K A H w v):GE X e (fC w):=
 GE.of h λσ H A ρ S w' S' er so e Q hq=>by cases e; exact hq _ _ (.here so (r A H))
theorem GK {i:HW}{e:Iz}(h:PE X e (BW i)):GE X e (fV i):=GE.of h λσ H A ρ S w S' er so e Q hq=>by
 unfold fV at e;split at e
 ·rename_i w' hw;cases e;obtain⟨v,h1,h2⟩:=er.2 i _ hw;exact#[v,h1,hq _ _ (.here so h2)]
 ·cases e
noncomputable def zP (g:W->W->aa->HU (W×aa))(fa fb:FE):FE:=λρ S=>match fa ρ S with
 | some (x,S1)=>match fb ρ S1 with
  | some (y,S2)=>g x y S2
  | none=>K3
 | none=>K3
theorem FZ {fa fb:FE}{g:W->W->aa->HU (W×aa)}{ρ:Fm}{S:aa}{r:W×aa}(e:zP g fa fb ρ S=ba r):∃x S1 y S2,fa ρ S=ba (x,S1)/\fb ρ S1=ba (y,S2)/\g x y S2=ba r:=by
 unfold zP at e;split at e
 ·rename_i x S1 h1;split at e
  ·rename_i y S2 h2;exact#[x,S1,y,S2,h1,h2,e]
  ·cases e
 ·cases e
theorem ii {fa fb:FE}{ρ:Fm}{S S1 S2:aa}{x y:W}{σ:L2.St}{H:Hp}{A:HK HX}{R:V->V->Hp->Prop}(er:EnvRel X.K A H ρ σ)(so:StoreOk X.w X.K A H S)(h1:fa ρ S=ba (x,S1))(h2:fb ρ S1=ba (y,S2))
  (h:∀a b H2 A2,Ext X.K A H A2 H2->StoreOk X.w X.K A2 H2 S2->Rel X.K A2 H2 x a->Rel X.K A2 H2 y b->R a b H2):tE X fa σ H λa H1=>tE X fb σ H1 λb H2=>R a b H2:=by
 refine#[A,ρ,S,x,S1,er,so,h1,λa H1 #[A1,e1,o1,r1]=>?_]
 refine#[A1,ρ,S1,y,S2,er.mono e1,o1,h2,λb H2 #[A2,e2,o2,r2]=>?_]
 exact h a b H2 A2 (e1.trans e2) o2 (r1.mono e2) r2
theorem LOp.opr {f:HM->HM->Qo HM}{g:W->W->aa->HU (W×aa)}(h:LOp X f g):OpR X f (λa b H Q=>∃A S x y w S',StoreOk X.w X.K A H S/\Rel X.K A H x a/\Rel X.K A H y b/\g x y S=ba (w,S')/\∀v H',EndV X.w X.K A H S' w v H'->Q v H'):=by
 intro pins s σ H a b u v Q I ru rv ⟨A,S,x,y,w,S',so,rx,ry,e,hq⟩;exact bJ (h pins s σ H A S x y a b u v w S' I so rx ru ry rv e) λu' s' #[v',H',A',I',r',e1,o1,z1]=>#[v',H',I',r',hq v' H' #[A',e1,o1,z1]]
theorem Bv {a b:Iz}{op:Oz}{pos:KA}{fa fb:FE}{g:W->W->aa->HU (W×aa)}(ho:LOp X (binaryOp op) g)(ha:GE X a fa)(hb:GE X b fb):GE X (.BinOp a op b pos) (zP g fa fb):=
 GE.of (Eg ho.opr ha hb) λσ H A ρ S w S' er so e Q hq=>by
  obtain⟨x,S1,y,S2,h1,h2,h3⟩:=FZ e;exact ii er so h1 h2 λa b H2 A2 e2 o2 r1 r2=>#[A2,S2,x,y,w,S',o2,r1,r2,h3,λv H' z=>hq v H' (z.after e2)]
noncomputable def wQ (fa:FE):FE:=λρ S=>match fa ρ S with
 | some (.int i,S1)=>ba (.int (-i),S1)
 | _=>K3
theorem wR {a:Iz}{pos:KA}{fa:FE}(ha:GE X a fa):GE X (.UnaryOp .USub a pos) (wQ fa):=
 GE.of (Eh Cn ha) λσ H A ρ S w S' er so e Q hq=>by
  unfold wQ at e;split at e
  ·rename_i i S1 h1;cases e;refine#[A,ρ,S,_,_,er,so,h1,λv H1 #[A1,e1,o1,r1]=>?_]
   cases r1;exact#[_,rfl,hq _ _ #[A1,e1,o1,.int]]
  ·cases e
noncomputable def zQ (o:COp)(fa fb:FE):FE:=zP (eR o) fa fb
theorem CI {a b:Iz}{o:COp}{pos:KA}{fa fb:FE}(hu:X.A.units+gH < cLine)(ha:GE X a fa)(hb:GE X b fb)(hm:behindInMarks o.py b=false):GE X (.Compare a [o.py] [b] pos) (zQ o fa fb):=
 GE.of (zb (pr hu o).opr ha hb hm) λσ H A ρ S w S' er so e Q hq=>by
  obtain⟨x,S1,y,S2,h1,h2,h3⟩:=FZ e;exact ii er so h1 h2 λa b H2 A2 e2 o2 r1 r2=>#[A2,S2,x,y,w,S',o2,r1,r2,h3,λv H' z=>hq v H' (z.after e2)]
noncomputable def wW (f:FE):FT:=λρ S=>match f ρ S with
 | some (.bl k,S')=>ba (k,S')
 | _=>K3
theorem CJ {a b:Iz}{o:COp}{pos:KA}{fa fb:FE}(hu:X.A.units+gH < cLine)(ha:GE X a fa)(hb:GE X b fb)(hm:behindInMarks o.py b=false):GT X (.Compare a [o.py] [b] pos) (wW (zQ o fa fb)):=
 GT.of (zd (pr hu o).opr ha hb hm) λσ H A ρ S k S' er so e Q hq=>by
  unfold wW at e;split at e
  ·rename_i k' S'' h0;cases e;obtain⟨x,S1,y,S2,h1,h2,h3⟩:=FZ h0;refine ii er so h1 h2 λa b H2 A2 e2 o2 r1 r2=>#[A2,S2,x,y,_,_,o2,r1,r2,h3,λv H' #[A',z1,z2,z3]=>?_]
   cases z3;exact#[k,rfl,hq _ _ #[rfl,A',e2.trans z1,z2]]
  ·cases e
noncomputable def gg (f:FE):FT:=λρ S=>match f ρ S with
 | some (w,S')=>(gc S' w).map λk=>(k,S')
 | none=>K3
theorem cy {e:Iz}{f:FE}(h:GE X e f)(he:∀whole,isTrue e X.env whole=(do let v <- whole; standAt e.pos; holding [v] (truthy v))):GT X e (gg f):=by
 intro pins s σ H Q I ⟨A,ρ,S,k,S',er,so,e1,hq⟩;unfold gg at e1;split at e1
 ·rename_i w S1 h1;rw[HS]at e1;obtain⟨k',ek,e2⟩:=e1;cases e2;refine isTrue_plain (bJ (h pins s σ H (EndV X.w X.K A H _ w) I #[A,ρ,S,w,_,er,so,h1,λ_ _ z=>z]) λv s1 #[x,H1,I1,r1,A1,e1,o1,z1]=>?_) (he _)
  exact GH I1 o1 z1 r1 ek λs' I'=>#[H1,I',hq _ _ #[rfl,A1,e1,o1]]
 ·cases e1
noncomputable def wX (f g:FT):FT:=λρ S=>match f ρ S with
 | some (true,S1)=>g ρ S1
 | some (false,S1)=>ba (false,S1)
 | none=>K3
noncomputable def EH (f g:FT):FT:=λρ S=>match f ρ S with
 | some (true,S1)=>ba (true,S1)
 | some (false,S1)=>g ρ S1
 | none=>K3
noncomputable def zR (f:FT):FT:=λρ S=>match f ρ S with
 | some (k,S1)=>ba (!k,S1)
 | none=>K3
theorem wY {f g:FT}{σ:L2.St}{H:Hp}{A:HK HX}{ρ:Fm}{S:aa}{k:IF}{S':aa}(er:EnvRel X.K A H ρ σ)(so:StoreOk X.w X.K A H S)(e:wX f g ρ S=ba (k,S'))(Q:IF->Hp->Prop)(hq:∀b H',EndB X A H S' k b H'->Q b H') :
  DV (tT X f) (tT X g) σ H Q:=by
 unfold wX at e;split at e
 ·rename_i S1 h1;refine#[A,ρ,S,true,S1,er,so,h1,λb H1 #[z0,A1,z1,z2]=>?_]
  subst z0;rw[Ix rfl];exact#[A1,ρ,S1,k,S',er.mono z1,z2,e,λb H' q=>hq b H' (q.after z1)]
 ·rename_i S1 h1;cases e;refine#[A,ρ,S,false,_,er,so,h1,λb H1 #[z0,A1,z1,z2]=>?_]
  subst z0;rw[IK IA];exact hq _ _ #[rfl,A1,z1,z2]
 ·cases e
theorem zS {f g:FT}{σ:L2.St}{H:Hp}{A:HK HX}{ρ:Fm}{S:aa}{k:IF}{S':aa}(er:EnvRel X.K A H ρ σ)(so:StoreOk X.w X.K A H S)(e:EH f g ρ S=ba (k,S'))(Q:IF->Hp->Prop)(hq:∀b H',EndB X A H S' k b H'->Q b H') :
  Ho (tT X f) (tT X g) σ H Q:=by
 unfold EH at e;split at e
 ·rename_i S1 h1;cases e;refine#[A,ρ,S,true,_,er,so,h1,λb H1 #[z0,A1,z1,z2]=>?_]
  subst z0;rw[Ix rfl];exact hq _ _ #[rfl,A1,z1,z2]
 ·rename_i S1 h1;refine#[A,ρ,S,false,S1,er,so,h1,λb H1 #[z0,A1,z1,z2]=>?_]
  subst z0;rw[IK IA];exact#[A1,ρ,S1,k,S',er.mono z1,z2,e,λb H' q=>hq b H' (q.after z1)]
 ·cases e
theorem zU {a:Iz}{pos:KA}{f:FT}(h:GT X a f):GW X (.BoolOp .And [a] pos) f:=yV h
theorem CK {a:Iz}{pos:KA}{f:FT}(h:GT X a f):GW X (.BoolOp .Or [a] pos) f:=BX h
theorem CL {a b:Iz}{r:HK Iz}{pos:KA}{f g:FT}(h:GT X a f)(h2:GW X (.BoolOp .And (b::r) pos) g):GW X (.BoolOp .And (a::b::r) pos) (wX f g):=
 GW.of (BY h h2) λσ H A ρ S k S' er so e Q hq=>wY er so e Q hq
theorem EI {a b:Iz}{r:HK Iz}{pos:KA}{f g:FT}(h:GT X a f)(h2:GW X (.BoolOp .Or (b::r) pos) g):GW X (.BoolOp .Or (a::b::r) pos) (EH f g):=
 GW.of (DW h h2) λσ H A ρ S k S' er so e Q hq=>zS er so e Q hq
theorem CM {a:Iz}{pos:KA}{f:FT}(h:GT X a f):GT X (.UnaryOp .Not a pos) (zR f):=
 GT.of (BZ h) λσ H A ρ S k S' er so e Q hq=>by
  unfold zR at e;split at e
  ·rename_i k1 S1 h1;cases e;refine#[A,ρ,S,k1,_,er,so,h1,λb H1 #[z0,A1,z1,z2]=>?_]
   subst z0;exact hq _ _ #[rfl,A1,z1,z2]
  ·cases e
noncomputable def sF (f g:FE):FE:=λρ S=>match f ρ S with
 | some (.bl true,S1)=>g ρ S1
 | some (.bl false,S1)=>ba (.bl false,S1)
 | _=>K3
noncomputable def zW (f g:FE):FE:=λρ S=>match f ρ S with
 | some (.bl true,S1)=>ba (.bl true,S1)
 | some (.bl false,S1)=>g ρ S1
 | _=>K3
noncomputable def sG (f:FE):FE:=λρ S=>match f ρ S with
 | some (.bl k,S1)=>ba (.bl (!k),S1)
 | _=>K3
theorem CN {a:Iz}{op:QN}{pos:KA}{f:FE}(h:GE X a f):GE X (.BoolOp op [a] pos) f:=B0 h
theorem CO {a b:Iz}{r:HK Iz}{pos:KA}{f g:FE}(h:GE X a f)(h2:GE X (.BoolOp .And (b::r) pos) g):GE X (.BoolOp .And (a::b::r) pos) (sF f g):=
 GE.of (B1 h h2) λσ H A ρ S w S' er so e Q hq=>by
  unfold sF at e;split at e
  ·rename_i S1 h1;refine#[A,ρ,S,_,S1,er,so,h1,λv H1 #[A1,z1,z2,z3]=>?_]
   cases z3;refine#[true,rfl,?_];rw[Ix rfl];exact#[A1,ρ,S1,w,S',er.mono z1,z2,e,λb H' q=>hq b H' (q.after z1)]
  ·rename_i S1 h1;cases e;refine#[A,ρ,S,_,_,er,so,h1,λv H1 #[A1,z1,z2,z3]=>?_]
   cases z3;refine#[false,rfl,?_];rw[IK IA];exact hq _ _ #[A1,z1,z2,.bl]
  ·cases e
theorem EJ {a b:Iz}{r:HK Iz}{pos:KA}{f g:FE}(h:GE X a f)(h2:GE X (.BoolOp .Or (b::r) pos) g):GE X (.BoolOp .Or (a::b::r) pos) (zW f g):=
 GE.of (DZ h h2) λσ H A ρ S w S' er so e Q hq=>by
  unfold zW at e;split at e
  ·rename_i S1 h1;cases e;refine#[A,ρ,S,_,_,er,so,h1,λv H1 #[A1,z1,z2,z3]=>?_]
   cases z3;refine#[true,rfl,?_];rw[Ix rfl];exact hq _ _ #[A1,z1,z2,.bl]
  ·rename_i S1 h1;refine#[A,ρ,S,_,S1,er,so,h1,λv H1 #[A1,z1,z2,z3]=>?_]
   cases z3;refine#[false,rfl,?_];rw[IK IA];exact#[A1,ρ,S1,w,S',er.mono z1,z2,e,λb H' q=>hq b H' (q.after z1)]
  ·cases e
theorem CP {a:Iz}{pos:KA}{f:FE}(h:GE X a f):GE X (.UnaryOp .Not a pos) (sG f):=
 GE.of (B2 h) λσ H A ρ S w S' er so e Q hq=>by
  unfold sG at e;split at e
  ·rename_i k1 S1 h1;cases e;refine#[A,ρ,S,_,_,er,so,h1,λb H1 #[A1,z1,z2,z3]=>?_]
   cases z3;exact#[_,rfl,hq _ _ #[A1,z1,z2,.bl]]
  ·cases e
noncomputable def zX (c:FT)(f g:FE):FE:=λρ S=>match c ρ S with
 | some (true,S1)=>f ρ S1
 | some (false,S1)=>g ρ S1
 | none=>K3
theorem CQ {c a b:Iz}{pos:KA}{fc:FT}{f g:FE}(hc:GT X c fc)(ha:GE X a f)(hb:GE X b g):GE X (.IfExp c a b pos) (zX fc f g):=
 GE.of (vn hc ha hb) λσ H A ρ S w S' er so e Q hq=>by
  unfold zX at e;split at e
  ·rename_i S1 h1;refine#[A,ρ,S,_,S1,er,so,h1,λb H1 #[z0,A1,z1,z2]=>?_]
   subst z0;rw[Ix rfl];exact#[A1,ρ,S1,w,S',er.mono z1,z2,e,λb H' q=>hq b H' (q.after z1)]
  ·rename_i S1 h1;refine#[A,ρ,S,_,S1,er,so,h1,λb H1 #[z0,A1,z1,z2]=>?_]
   subst z0;rw[IK IA];exact#[A1,ρ,S1,w,S',er.mono z1,z2,e,λb H' q=>hq b H' (q.after z1)]
  ·cases e
noncomputable def jy:FA:=λ_ S=>ba ([],S)
noncomputable def eg (f:FE)(g:FA):FA:=λρ S=>match f ρ S with
 | some (w,S1)=>match g ρ S1 with
  | some (ws,S2)=>ba (w::ws,S2)
  | none=>K3
 | none=>K3
theorem CS:GA X [] jy:=GA.of vz λσ H A ρ S ws S' er so e Q hq=>by cases e; exact hq _ _ #[A,.refl,so,.nil]
theorem zY {e:Iz}{es:HK Iz}{f:FE}{g:FA}(h:GE X e f)(h2:GA X es g)(hs:starEach (e::es) X.env=(false,eval e X.env)::starEach es X.env):GA X (e::es) (eg f g):=
 GA.of (nj h h2 hs) λσ H A ρ S ws S' er so e Q hq=>by
  unfold eg at e;split at e
  ·rename_i w S1 h1;split at e
   ·rename_i ws2 S2 h2;cases e;refine#[A,ρ,S,w,S1,er,so,h1,λv H1 #[A1,z1,z2,z3]=>?_]
    refine#[A1,ρ,S1,ws2,_,er.mono z1,z2,h2,λvs H2 #[A2,y1,y2,y3]=>?_]
    exact hq _ _ #[A2,z1.trans y1,y2,.cons (z3.mono y1) y3]
   ·cases e
  ·cases e
noncomputable def w6 (f:FA):FE:=λρ S=>match f ρ S with
 | some (ws,S1)=>qU S1 ws
 | none=>K3
noncomputable def w8 (f:FA):FE:=λρ S=>match f ρ S with
 | some (ws,S1)=>lB S1 ws
 | none=>K3
theorem w9 {es:HK Iz}{k:HW}{pos:KA}{f:FA}(h:GA X es f):GE X (.Tuple es k pos) (w6 f):=
 GE.of (Cq h) λσ H A ρ S w S' er so e Q hq=>by
  unfold w6 at e;split at e
  ·rename_i ws S1 h1;obtain⟨hl,rfl,rfl⟩:=r0 e;refine#[A,ρ,S,ws,_,er,so,h1,λvs H1 #[A1,z1,z2,z3]=>#[by rw[<- z3.length]; exact hl,λp hp=>?_]]
   exact hq _ _ (EndV.after z1 (.tup z2 z3 hp))
  ·cases e
theorem xf {es:HK Iz}{pos:KA}{f:FA}(h:GA X es f):GE X (.List es pos) (w8 f):=
 GE.of (Cr h) λσ H A ρ S w S' er so e Q hq=>by
  unfold w8 at e;split at e
  ·rename_i ws S1 h1;obtain⟨hl,rfl,rfl⟩:=jO e;refine#[A,ρ,S,ws,_,er,so,h1,λvs H1 #[A1,z1,z2,z3]=>#[by rw[<- z3.length]; exact hl,λp hp=>?_]]
   exact hq _ _ (EndV.after z1 (.lst z2 z3 hp))
  ·cases e
noncomputable def jr (g:HK W->aa->HU (W×aa))(f:FA):FE:=λρ S=>match f ρ S with
 | some (ws,S1)=>g ws S1
 | none=>K3
theorem LCall.callr {v:HM}{g:HK W->aa->HU (W×aa)}(h:LCall X v g):CallR X v (λvs H Q=>∃A S ws w S',StoreOk X.w X.K A H S/\RelL X.K A H ws vs/\g ws S=ba (w,S')/\∀v H',EndV X.w X.K A H S' w v H'->Q v H'):=by
 intro pins s σ H vs us Q I rv ⟨A,S,ws,w,S',so,rl,e,hq⟩;exact bJ (h pins s σ H A S ws vs us w S' I so rl rv e) λu' s' #[v',H',A',I',r',e1,o1,z1]=>#[v',H',I',r',hq v' H' #[A',e1,o1,z1]]
theorem mI {g:HK W->aa->HU (W×aa)}{f:FA}{σ:L2.St}{H:Hp}{A:HK HX}{ρ:Fm}{S:aa}{w:W}{S':aa}(er:EnvRel X.K A H ρ σ)(so:StoreOk X.w X.K A H S)(e:jr g f ρ S=ba (w,S'))(Q:VK)(hq:∀v H',EndV X.w X.K A H S' w v H'->Q v H') :
  tA X f σ H λvs H1=>∃A S ws w S',StoreOk X.w X.K A H1 S/\RelL X.K A H1 ws vs/\g ws S=ba (w,S')/\∀v H',EndV X.w X.K A H1 S' w v H'->Q v H':=by
 unfold jr at e;split at e
 ·rename_i ws S1 h1;exact#[A,ρ,S,ws,S1,er,so,h1,λvs H1 #[A1,z1,z2,z3]=>#[A1,S1,ws,w,S',z2,z3,e,λv H' q=>hq v H' (q.after z1)]]
 ·cases e
theorem sH {id:JJ}{x:Iv}{e:Iz}{es:HK Iz}{p pos:KA}{f:FA}{g:HK W->aa->HU (W×aa)}(hc:LCall X (.builtin id) g)(hg:Gl X x)(hm:X.mg x=K3)(hv:bootBuiltins x=ba (.builtin id))(ha:GA X (e::es) f)
  (hn:x≠"__name__") (hdb:(x==("__debug__" : Iv))=false) (hs:starEach (e::es) X.env=(false,eval e X.env)::starEach es X.env) (hpl:(backTo pos (starEach es X.env)).any (·.1)=false):GE X (.Call (.Name x p) (e::es) [] pos) (jr g f):=
 GE.of (oU hc.callr hg hm hv ha hn hdb hs hpl) λσ H A ρ S w S' er so e Q hq=>mI er so e Q hq
theorem pT {id:JJ}{x:Iv}{e:Iz}{es:HK Iz}{p pos:KA}{f:FA}{g:HK W->aa->HU (W×aa)}(hc:LCall X (.type id) g)(hg:Gl X x)(hm:X.mg x=K3)(hv:bootBuiltins x=ba (.type id))(ha:GA X (e::es) f)
  (hn:x≠"__name__") (hdb:(x==("__debug__" : Iv))=false) (hs:starEach (e::es) X.env=(false,eval e X.env)::starEach es X.env) (hpl:(backTo pos (starEach es X.env)).any (·.1)=false):GE X (.Call (.Name x p) (e::es) [] pos) (jr g f):=
 GE.of (tV hc.callr hg hm hv ha hn hdb hs hpl) λσ H A ρ S w S' er so e Q hq=>mI er so e Q hq
end
noncomputable def tyOk (T:JJ)(S:aa):W->IF
 | .str _=>T == "str"
 | .ref i=>(T == "list" && (gZ S i).isSome)||(T == "dict" && (jn S i).isSome)
 | _=>false
noncomputable def DO (T:JJ)(g:W->HK W->aa->HU (W×aa))(fo:FE)(f:FA):FE:=λρ S=>match fo ρ S with
 | some (x,S1)=>if tyOk T S1 x then match f ρ S1 with
  | some (ws,S2)=>g x ws S2
  | none=>K3
  else K3
 | none=>K3
noncomputable def GL (fa fb:FE):FE:=zP qJ fa fb
noncomputable abbrev FO:=Fm->aa->HU (HU Ik×aa)
noncomputable def CT:FO:=λ_ S=>ba (K3,S)
noncomputable def sI (f:FE):FO:=λρ S=>match f ρ S with
 | some (.int i,S1)=>ba (ba i,S1)
 | _=>K3
noncomputable def EK (fa:FE)(fl fh:FO):FE:=λρ S=>match fa ρ S with
 | some (x,S1)=>match fl ρ S1 with
  | some (lo,S2)=>match fh ρ S2 with
   | some (hi,S3)=>ve x lo hi S3
   | none=>K3
  | none=>K3
 | none=>K3
section
variable{X:Cx}
theorem LMeth.mtr {id:JJ}{g:W->HK W->aa->HU (W×aa)}(h:LMeth X id g):MtR X id (λa vs H Q=>∃A S x ws w S',StoreOk X.w X.K A H S/\Rel X.K A H x a/\RelL X.K A H ws vs/\g x ws S=ba (w,S')/\∀v H',EndV X.w X.K A H S' w v H'->Q v H'):=by
 intro pins s σ H a vs u us Q I ru rv ⟨A,S,x,ws,w,S',so,rx,rl,e,hq⟩;exact bJ (h pins s σ H A S x a u ws vs us w S' I so rx ru rl rv e) λu' s' #[v',H',A',I',r',e1,o1,z1]=>#[v',H',I',r',hq v' H' #[A',e1,o1,z1]]
theorem tyOk.is {pins:HK (HX×JR)}{σ:L2.St}{s:HQ}{A:HK HX}{H:Hp}{S:aa}{T:JJ}{x:W}{a:V}{v:HM}(I:Inv X pins σ H s)(so:StoreOk X.w X.K A H S)(r:Rel X.K A H x a)(rv:RelV a v)(h:tyOk T S x=true) :
  s.TypeIs v T/\∀b,v=.ref b->∃ob,s.heap.get? b=ba ob/\ob.dict=K3:=by
 cases r with
 | str=>exact vI I rv (show GB X.K T (.str _) H from eq_of_beq h)
 | ref ea=>
  simp only[tyOk,J0,HV]at h;rcases h with⟨h1,h2⟩|⟨h1,h2⟩
  ·obtain⟨xs,hx⟩:=Jn.mp h2;obtain⟨vs,h3,_⟩:=ci so hx ea;exact vI I rv (show GB X.K T (.ref _) H from .inl #[eq_of_beq h1,vs,h3])
  ·obtain⟨kvs,hx⟩:=Jn.mp h2;obtain⟨xs,rd,_⟩:=fE so hx ea;obtain⟨_,_,_,o,es,ep,q1,q2,q3,q4⟩:=cr I rd;have e:=eq_of_beq h1;subst e;obtain rfl:v=IR _:=rv;exact#[#[o,q1,q2.1],λb e=>by cases e; exact#[o,q1,q2.2.1]]
 | _=>cases h
theorem pU {o e:Iz}{es:HK Iz}{name:Iv}{apos cpos:KA}{T id:JJ}{g:W->HK W->aa->HU (W×aa)}{fo:FE}{f:FA}(pa:PlainAttrs T)(slot:Slot T name id)(hty:typeOf (.builtin id)=pure (.type "method_descriptor"))(hm:LMeth X id g)
  (ho:GE X o fo) (ha:GA X (e::es) f) (hbase:attributeBase o name X.env (eval o X.env)=eval o X.env)
  (hfew:((backTo cpos (starEach (e::es) X.env)).all (λx=>!x.1)&&(backToKw cpos (keywordEach [] X.env)).all (λx=>x.1.isSome)
   && decide ((e::es).length+([]:HK Pl).length+(if ([]:HK Pl).isEmpty then 0 else 1) < 30))=true)
  (hline:(apos.endLine==cpos.line)=true) (hs:starEach (e::es) X.env=(false,eval e X.env)::starEach es X.env) (hplain:(backTo cpos (starEach es X.env)).any (·.1)=false) :
  GE X (.Call (.Attribute o name apos) (e::es) [] cpos) (DO T g fo f):=by
 intro pins s σ H Q I ⟨A,ρ,S,w,S',er,so,e,hq⟩;unfold DO at e;split at e
 ·rename_i x S1 h1;split at e
  ·rename_i ht;split at e
   ·rename_i ws S2 h2;refine wpAny_Call_method_late hbase hfew hline rfl (bJ (ho pins s σ H (EndV X.w X.K A H S1 x) I #[A,ρ,S,_,_,er,so,h1,λ_ _ z=>z]) λv s1 #[a,H1,I1,r1,A1,e1,o1,z1]=>?_)
    obtain⟨t1,t2⟩:=tyOk.is I1 o1 z1 r1 ht;refine#[T,id,pa,slot,hty,t1,t2,?_];have hA:=ha cpos pins s1 σ H1 (CH X A1 H1 S2 ws) I1 #[A1,ρ,S1,ws,S2,er.mono e1,o1,h2,λ_ _ z=>z]
    rw[hs]at hA ⊢;refine Calls.callWith_builtin (by show(false||(backTo cpos (starEach es X.env)).any (·.1))=false; rw[hplain] <;> rfl) (Calls.evalArgs_plain ?_)
    refine bJ hA λus s2 #[vs,H2,I2,r2,A2,e2,o2,z2]=>?_
    refine bJ (hm pins s2 σ H2 A2 S2 x a v ws vs us w S' I2 o2 (z1.mono e2) r1 z2 r2 e) λu' s' #[v',H',A',I',r',e3,o3,z3]=>?_
    exact#[v',H',I',r',hq v' H' #[A',(e1.trans e2).trans e3,o3,z3]]
   ·cases e
  ·cases e
 ·cases e
theorem LIx.ixr {g:W->W->aa->HU (W×aa)}(h:LIx X g):IxR X (λa b H Q=>∃A S x y w S',StoreOk X.w X.K A H S/\Rel X.K A H x a/\Rel X.K A H y b/\g x y S=ba (w,S')/\∀v H',EndV X.w X.K A H S' w v H'->Q v H'):=by
 intro value slice pins s σ H a b u v Q I ru rv ⟨A,S,x,y,w,S',so,rx,ry,e,hq⟩ hs;exact bJ (h value slice pins s σ H A S x y a b u v w S' I so rx ru ry rv e hs) λu' s' #[v',H',A',I',r',e1,o1,z1]=>#[v',H',I',r',hq v' H' #[A',e1,o1,z1]]
theorem EL {a b:Iz}{pos:KA}{fa fb:FE}(hu:X.A.units+10 < cLine)(ha:GE X a fa)(hb:GE X b fb)(hs:nr b):GE X (.Subscript a b pos) (GL fa fb):=
 GE.of (Ew (GJ hu).ixr ha hb hs) λσ H A ρ S w S' er so e Q hq=>by
  obtain⟨x,S1,y,S2,h1,h2,h3⟩:=FZ e;exact ii er so h1 h2 λa b H2 A2 e2 o2 r1 r2=>#[A2,S2,x,y,w,S',o2,r1,r2,h3,λv H' z=>hq v H' (z.after e2)]
noncomputable def tO (X:Cx)(f:FO):TO:=λσ H Q=>∃A ρ S k S',EnvRel X.K A H ρ σ/\StoreOk X.w X.K A H S/\f ρ S=ba (k,S')/\∀H' A',Ext X.K A H A' H'->StoreOk X.w X.K A' H' S'->Q k H'
noncomputable abbrev GO (X:Cx)(e:HU Iz)(f:FO):Prop:=PO X e (tO X f)
theorem zZ:GO X K3 CT:=λpins s σ H Q I #[A,ρ,S,k,S',er,so,e,hq]=>by
 cases e;exact zj pins s σ H Q I (hq H A .refl so)
theorem Aa {e:Iz}{f:FE}(h:GE X e f):GO X (ba e) (sI f):=λpins s σ H Q I #[A,ρ,S,k,S',er,so,e,hq]=>by
 unfold sI at e;split at e
 ·rename_i i S1 h1;cases e;refine zl h pins s σ H Q I #[A,ρ,S,_,_,er,so,h1,λv H1 #[A1,z1,z2,z3]=>?_]
  cases z3;exact#[i,rfl,hq H1 A1 z1 z2]
 ·cases e
theorem LSl.slr {g:W->HU Ik->HU Ik->aa->HU (W×aa)}(h:LSl X g):Ev X (λa lo hi H Q=>∃A S x w S',StoreOk X.w X.K A H S/\Rel X.K A H x a/\g x lo hi S=ba (w,S')/\∀v H',EndV X.w X.K A H S' w v H'->Q v H'):=by
 intro pins s σ H a v vl vu lo hi sl Q I rv hs pl pu ⟨A,S,x,w,S',so,rx,e,hq⟩;obtain⟨T,id,h1,h2,h3⟩:=h pins s σ H A S x a v vl vu lo hi sl w S' I so rx rv hs pl pu e;exact#[T,id,h1,h2,bJ h3 λu' s' #[v',H',A',I',r',e1,o1,z1]=>#[v',H',I',r',hq v' H' #[A',e1,o1,z1]]]
theorem EM {a:Iz}{lo hi:HU Iz}{p2 pos:KA}{fa:FE}{fl fh:FO}(ha:GE X a fa)(hl:GO X lo fl)(hh:GO X hi fh):GE X (.Subscript a (.Slice lo hi K3 p2) pos) (EK fa fl fh):=
 GE.of (vF HE.slr ha hl hh) λσ H A ρ S w S' er so e Q hq=>by
  unfold EK at e;split at e
  ·rename_i x S1 h1;split at e
   ·rename_i l S2 h2;split at e
    ·rename_i h S3 h3;refine#[A,ρ,S,x,S1,er,so,h1,λv H1 #[A1,z1,z2,z3]=>?_]
     refine#[A1,ρ,S1,l,S2,er.mono z1,z2,h2,λH2 A2 y1 y2=>?_]
     refine#[A2,ρ,S2,h,S3,er.mono (z1.trans y1),y2,h3,λH3 A3 x1 x2=>?_]
     exact#[A3,S3,x,w,S',x2,(z3.mono y1).mono x1,e,λv H' q=>hq v H' (q.after ((z1.trans y1).trans x1))]
    ·cases e
   ·cases e
  ·cases e
noncomputable abbrev FF:=HK W->aa->HU (W×aa)
noncomputable def xg (wd:IU)(K:Ig)(n:HW)(g:FF):Sp:=λvs H Q _=>∃A S ws w S',StoreOk wd K A H S/\RelL K A H ws vs/\ws.length=n/\g ws S=ba (w,S')/\∀v H',EndV wd K A H S' w v H'->Q v H'
noncomputable def pV (n:HW)(g:FF)(f:FA):FE:=λρ S=>match f ρ S with
 | some (ws,S1)=>if ws.length=n then g ws S1 else K3
 | none=>K3
theorem pW {n:HW}{g:FF}{f:FA}{σ:L2.St}{H:Hp}{A:HK HX}{ρ:Fm}{S:aa}{w:W}{S':aa}{E:XK}(er:EnvRel X.K A H ρ σ)(so:StoreOk X.w X.K A H S)(e:pV n g f ρ S=ba (w,S'))(Q:VK)(hq:∀v H',EndV X.w X.K A H S' w v H'->Q v H') :
  vB (xg X.w X.K n g) [] E (tA X f) σ H Q:=by
 unfold pV at e;split at e
 ·rename_i ws S1 h1;split at e
  ·rename_i hl;refine#[A,ρ,S,ws,S1,er,so,h1,λvs H1 #[A1,z1,z2,z3]=>?_]
   show xg X.w X.K n g (vs++[]) H1 Q E;rw[Kw];exact#[A1,S1,ws,w,S',z2,z3,hl,e,λv H' q=>hq v H' (q.after z1)]
  ·cases e
 ·cases e
theorem CU {k n:HW}{fa:HX}{fd:KC}{ps:HK Iv}{g:FF}{x:Iv}{e:Iz}{es:HK Iz}{p pos:KA}{f:FA}(F:FnOk X.prog X.w X.K X.mg X.base vc k fa fd ps (xg X.w X.K n g))(hr:Room k X.A)(hg:Gl X x)(hm:X.mg x=ba (.ref fa))(hk:JP X.K (.ref fa)=true)
  (hb:Binds X.K fd ps []) (ha:GA X (e::es) f) (hdb:(x==("__debug__" : Iv))=false) (he:starEach (e::es) X.env=(false,eval e X.env)::starEach es X.env) (hpl:(backTo pos (starEach es X.env)).any (·.1)=false) :
  GE X (.Call (.Name x p) (e::es) [] pos) (pV n g f):=
 GE.of (ze F hr hg hm hk hb .nil Bs ha hdb he hpl) λσ H A ρ S w S' er so e Q hq=>pW er so e Q hq
theorem Ab {k n:HW}{fa:HX}{fd:KC}{ps:HK Iv}{g:FF}{x:Iv}{p pos:KA}(F:FnOk X.prog X.w X.K X.mg X.base vc k fa fd ps (xg X.w X.K n g))(hr:Room k X.A)(hg:Gl X x)(hm:X.mg x=ba (.ref fa))(hk:JP X.K (.ref fa)=true)
  (hb:Binds X.K fd ps []) (hdb:(x==("__debug__" : Iv))=false):GE X (.Call (.Name x p) [] [] pos) (pV n g jy):=
 GE.of (vD F hr hg hm hk hb .nil Bs hdb) λσ H A ρ S w S' er so e Q hq=>by
  obtain⟨A1,S1,ws,w1,S1',a1,a2,a3,a4,a5⟩:=pW (f:=jy) (E:=E0) er so e Q hq |> λ#[A,ρ,S,ws,S',b1,b2,b3,b4]=>b4 [] H (by cases b3; exact#[A,.refl,b2,.nil])
  exact#[A1,S1,ws,w1,S1',a1,a2,a3,a4,a5]
theorem Ac:GSs X [] (λρ S=>ba (.nx ρ,S)):=GSs.of yW λσ H A ρ S o S' er so e D hd=>by cases e; exact hd.nx _ _ #[ρ,A,rfl,.refl,so,er]
noncomputable def Ad (f g:FS):FS:=λρ S=>match f ρ S with
 | some (.nx ρ',S1)=>g ρ' S1
 | some (.rt w,S1)=>ba (.rt w,S1)
 | some (.bk ρ',S1)=>ba (.bk ρ',S1)
 | some (.ct ρ',S1)=>ba (.ct ρ',S1)
 | none=>K3
theorem xh {st:KQ}{sts:HK KQ}{f g:FS}(h:GS X st f)(h2:GSs X sts g):GSs X (st::sts) (Ad f g):=GSs.of (vp h h2) λσ H A ρ S o S' er so e D hd=>by
 unfold Ad at e;split at e
 ·rename_i ρ1 S1 h1;refine#[A,ρ,S,_,_,er,so,h1,#[λσ' H' #[ρ',A',e1,e2,e3,e4]=>?_,λv H' #[w,A',e1,_]=>(by cases e1),λv H' #[w,A',e1,_]=>(by cases e1),λv H' #[w,A',e1,_]=>(by cases e1)]]
  cases e1;exact#[A',_,S1,o,S',e4,e3,e,(EndS.after e2).trans hd]
 ·rename_i w S1 h1;cases e;exact#[A,ρ,S,_,_,er,so,h1,#[λσ' H' #[w,A',e1,_]=>(by cases e1),hd.rt,hd.bk,hd.ct]]
 ·rename_i w S1 h1;cases e;exact#[A,ρ,S,_,_,er,so,h1,#[λσ' H' #[w,A',e1,_]=>(by cases e1),hd.rt,hd.bk,hd.ct]]
 ·rename_i w S1 h1;cases e;exact#[A,ρ,S,_,_,er,so,h1,#[λσ' H' #[w,A',e1,_]=>(by cases e1),hd.rt,hd.bk,hd.ct]]
 ·cases e
noncomputable def Ae (f:FE):FS:=λρ S=>match f ρ S with
 | some (_,S1)=>ba (.nx ρ,S1)
 | none=>K3
theorem EN {e:Iz}{pos:KA}{f:FE}(h:GE X e f)(hs:swapsWith e K3 pos.line X.env=pure false):GS X (.Expr e pos) (Ae f):=GS.of (yY h hs) λσ H A ρ S o S' er so e D hd=>by
 unfold Ae at e;split at e
 ·rename_i w S1 h1;cases e;exact#[A,ρ,S,w,_,er,so,h1,λv H1 #[A1,z1,z2,z3]=>hd.nx _ _ #[ρ,A1,rfl,z1,z2,er.mono z1]]
 ·cases e
noncomputable def xi:FS:=λρ S=>ba (.nx ρ,S)
theorem CV {x:Iv}{j:HW}{pos pos':KA}:GS X (.Expr (.Constant (.str x) j pos) pos') xi:=GS.of B4 λσ H A ρ S o S' er so e D hd=>by cases e; exact hd.nx _ _ #[ρ,A,rfl,.refl,so,er]
theorem Ag {pos:KA}:GS X (.Pass pos) xi:=GS.of yX λσ H A ρ S o S' er so e D hd=>by cases e; exact hd.nx _ _ #[ρ,A,rfl,.refl,so,er]
theorem xj {pos:KA}:GS X (.Break pos) (λρ S=>ba (.bk ρ,S)):=GS.of vt λσ H A ρ S o S' er so e D hd=>by cases e; exact hd.bk _ _ #[ρ,A,rfl,.refl,so,er]
theorem Ah {pos:KA}:GS X (.Continue pos) (λρ S=>ba (.ct ρ,S)):=GS.of oQ λσ H A ρ S o S' er so e D hd=>by cases e; exact hd.ct _ _ #[ρ,A,rfl,.refl,so,er]
noncomputable def Ai (f:FE):FS:=λρ S=>match f ρ S with
 | some (w,S1)=>ba (.rt w,S1)
 | none=>K3
theorem CW {e:Iz}{pos:KA}{f:FE}(h:GE X e f):GS X (.Return (ba e) pos) (Ai f):=GS.of (B5 h) λσ H A ρ S o S' er so e D hd=>by
 unfold Ai at e;split at e
 ·rename_i w S1 h1;cases e;exact#[A,ρ,S,w,_,er,so,h1,λv H1 #[A1,z1,z2,z3]=>hd.rt _ _ #[w,A1,rfl,z1,z2,z3]]
 ·cases e
theorem Aj {pos:KA}:GS X (.Return K3 pos) (λρ S=>ba (.rt .non,S)):=GS.of yZ λσ H A ρ S o S' er so e D hd=>by cases e; exact hd.rt _ _ #[_,A,rfl,.refl,so,.non]
noncomputable def Ak (c:FT)(f g:FS):FS:=λρ S=>match c ρ S with
 | some (true,S1)=>f ρ S1
 | some (false,S1)=>g ρ S1
 | none=>K3
theorem EO {c:Iz}{a b:HK KQ}{pos:KA}{fc:FT}{f g:FS}(hc:GT X c fc)(ha:GSs X a f)(hb:GSs X b g):GS X (.If c a b pos) (Ak fc f g):=GS.of (Ea hc ha hb) λσ H A ρ S o S' er so e D hd=>by
 unfold Ak at e;split at e
 ·rename_i S1 h1;refine#[A,ρ,S,_,S1,er,so,h1,λb H1 #[z0,A1,z1,z2]=>?_]
  subst z0;rw[Ix rfl];exact#[A1,ρ,S1,o,S',er.mono z1,z2,e,(EndS.after z1).trans hd]
 ·rename_i S1 h1;refine#[A,ρ,S,_,S1,er,so,h1,λb H1 #[z0,A1,z1,z2]=>?_]
  subst z0;rw[IK IA];exact#[A1,ρ,S1,o,S',er.mono z1,z2,e,(EndS.after z1).trans hd]
 ·cases e
noncomputable abbrev FG:=W->Fm->aa->HU (Fm×aa)
noncomputable def tG (X:Cx)(f:FG):TG:=λv σ H Q=>∃A ρ S w ρ' S',EnvRel X.K A H ρ σ/\StoreOk X.w X.K A H S/\Rel X.K A H w v/\f w ρ S=ba (ρ',S')/\∀σ' H' A',Ext X.K A H A' H'->StoreOk X.w X.K A' H' S'->EnvRel X.K A' H' ρ' σ'->Q σ' H'
noncomputable abbrev GG (X:Cx)(tg:Iz)(f:FG):Prop:=PG X tg (tG X f)
noncomputable def Al (i:HW):FG:=λw ρ S=>ba (ρ.set i (ba w),S)
theorem sJ {i:HW}{x:Iv}{pos:KA}(hN:X.N.Nodup)(hi:X.N[i]?=ba x)(hx:yT X.env.scope x)(hf:X.fn x=true\/X.env.scope.names.lookup x=ba .local):GG X (.Name x pos) (Al i):=by
 intro pins s σ H v u Q I r ⟨A,ρ,S,w,ρ',S',er,so,rw',e,hq⟩;cases e;exact rT hN hi hx hf pins s σ H v u Q I r (hq _ _ A .refl so (er.set rw' i))
noncomputable def dS:HK HW->HK W->Fm->HU Fm
 | [],[],ρ=>ba ρ
 | i::is,w::ws,ρ=>dS is ws (ρ.set i (ba w))
 | _,_,_=>K3
noncomputable def DP (is:HK HW):FG:=λw ρ S=>match w with
 | .tup ws=>(dS is ws ρ).map λρ'=>(ρ',S)
 | _=>K3
theorem uF:∀ {ts:HK Iz} {is:HK HW},(∀x∈ts,∃y p,x=.Name y p)->Na (λ(t:Iz) (i:HW)=>∃x p,t=NX x p/\X.N[i]?=ba x/\yT X.env.scope x/\(X.fn x=true\/X.env.scope.names.lookup x=ba .local)) ts is->X.N.Nodup->
  Eb X ts (λvs σ H Q=>∃A ρ ws ρ' S,EnvRel X.K A H ρ σ/\StoreOk X.w X.K A H S/\RelL X.K A H ws vs/\dS is ws ρ=ba ρ'/\∀σ',EnvRel X.K A H ρ' σ'->Q σ' H):=by
 intro ts
 induction ts with
 | nil=>
  intro is _ h hN;cases h;intro pins s σ H vs us Q I r ⟨A,ρ,ws,ρ',S,er,so,rl,e,hq⟩;cases rl with
  | nil=>cases e; exact y4 pins s σ H [] us Q I r #[rfl,hq _ er]
  | cons _ _=>cases e
 | cons t ts ih=>
  intro is hs h hN;cases h with
  | cons h1 h2=>
   obtain⟨x,p,rfl,hi,hl,hf⟩:=h1;have:=ih (λy hy=>hs y (JD _ hy)) h2 hN
   intro pins s σ H vs us Q I r ⟨A,ρ,ws,ρ',S,er,so,rl,e,hq⟩;cases rl with
   | nil=>cases e
   | cons r1 r2=>
    refine vw (rT hN hi hl hf) this rfl pins s σ H _ us Q I r #[_,_,rfl,?_];exact#[A,_,_,ρ',S,er.set r1 _,so,r2,e,hq]
theorem CY {ts:HK Iz}{is:HK HW}{k:HW}{pos:KA}(hc:X.calm=true)(hs:∀x∈ts,∃y p,x=.Name y p)(h:Na (λ(t:Iz) (i:HW)=>∃x p,t=NX x p/\X.N[i]?=ba x/\yT X.env.scope x/\(X.fn x=true\/X.env.scope.names.lookup x=ba .local)) ts is)(hN:X.N.Nodup)
  (hn:(assignEach ts X.env).length=ts.length) (hst:(assignEach ts X.env).findIdx? (·.1)=K3):GG X (.Tuple ts k pos) (DP is):=by
 intro pins s σ H v u Q I r ⟨A,ρ,S,w,ρ',S',er,so,rw',e,hq⟩;unfold DP at e;split at e
 ·rw[HS]at e;obtain⟨ρ1,e1,e2⟩:=e;cases e2;cases rw' with
  | tup h1 r1=>
   have hl:∀(is:HK HW) (ws:HK W) (ρ ρ':Fm),dS is ws ρ=ba ρ'->is.length=ws.length:=by
    intro is
    induction is with
    | nil=>intro ws ρ ρ' e; cases ws <;> first|rfl|cases e
    | cons i is ih=>intro ws ρ ρ' e; cases ws <;> first|cases e|(simp; exact ih _ _ _ e)
   exact B9 hc (uF hs h hN) hn hst pins s σ H _ u Q I r #[_,_,rfl,h1,by rw[<- r1.length,<- hl _ _ _ _ e1,<- MW h],A,ρ,_,_,_,er,so,r1,e1,λσ' z=>hq _ _ A .refl so z]
 ·cases e
noncomputable def Am (fo fi:FE):FG:=λw ρ S=>match fo ρ S with
 | some (o,S1)=>match fi ρ S1 with
  | some (i,S2)=>match ic o i w S2 with
   | some S3=>ba (ρ,S3)
   | none=>K3
  | none=>K3
 | none=>K3
theorem LSet.pset {g:W->W->W->aa->HU aa}(h:LSet X g):B8 X (λao ai av H Q=>∃A S o i w S',StoreOk X.w X.K A H S/\Rel X.K A H o ao/\Rel X.K A H i ai/\Rel X.K A H w av/\g o i w S=ba S'/\∀H' A',Ext X.K A H A' H'->StoreOk X.w X.K A' H' S'->Q H'):=by
 intro pins s σ H ao ai av uo ui uv Q I ro ri rv ⟨A,S,o,i,w,S',so,r1,r2,r3,e,hq⟩;exact bJ (h pins s σ H A S o i w ao ai av uo ui uv S' I so r1 ro r2 ri r3 rv e) λ_ s' #[H',A',I',e1,o1]=>#[H',I',hq H' A' e1 o1]
theorem CZ {o i:Iz}{pos:KA}{fo fi:FE}(hu:X.A.units+10 < cLine)(ho:GE X o fo)(hi:GE X i fi)(ha:∀v,assign (.Subscript o i pos) X.env v=(do
   let ov <- holding [v] (eval o X.env)
   let iv <- holding [v,ov] (eval i X.env)
   standAt pos
   holding [v,ov,iv] (setItem ov iv v)
   release [v,ov,iv] [])):GG X (.Subscript o i pos) (Am fo fi):=by
 intro pins s σ H v u Q I r ⟨A,ρ,S,w,ρ',S',er,so,rw',e,hq⟩;unfold Am at e;split at e
 ·rename_i o' S1 h1;split at e
  ·rename_i i' S2 h2;split at e
   ·rename_i S3 h3;cases e;refine Cb ho hi (EE hu).pset ha pins s σ H v u Q I r ?_;refine#[A,ρ,S,o',S1,er,so,h1,λa H1 #[A1,e1,o1,r1]=>?_]
    refine#[A1,ρ,S1,i',S2,er.mono e1,o1,h2,λb H2 #[A2,e2,o2,r2]=>?_]
    exact#[A2,S2,o',i',w,_,o2,r1.mono e2,r2,rw'.mono (e1.trans e2),h3,λH' A' z1 z2=>hq σ H' A' ((e1.trans e2).trans z1) z2 (er.mono ((e1.trans e2).trans z1))]
   ·cases e
  ·cases e
 ·cases e
noncomputable def kB (f:FE)(g:FG):FS:=λρ S=>match f ρ S with
 | some (w,S1)=>match g w ρ S1 with
  | some (ρ',S2)=>ba (.nx ρ',S2)
  | none=>K3
 | none=>K3
theorem rC {tg e:Iz}{pos:KA}{f:FE}{g:FG}(h:GE X e f)(hg:GG X tg g)(hs:swapsWithSole [tg] e pos.line X.env=pure false)(hw:swappedStores [tg] e X.env=pure K3)(h1:(assignEach [tg] X.env).map (·.2)=[assign tg X.env]) :
  GS X (.Assign [tg] e pos) (kB f g):=GS.of (Cc h hg hs hw h1) λσ H A ρ S o S' er so e D hd=>by
 unfold kB at e;split at e
 ·rename_i w S1 h1;split at e
  ·rename_i ρ1 S2 h2;cases e;refine#[A,ρ,S,w,S1,er,so,h1,λv H1 #[A1,z1,z2,z3]=>?_]
   exact#[A1,ρ,S1,w,ρ1,_,er.mono z1,z2,z3,h2,λσ' H' A' y1 y2 y3=>hd.nx _ _ #[ρ1,A',rfl,z1.trans y1,y2,y3]]
  ·cases e
 ·cases e
noncomputable def An (i j:HW)(f:FA):FS:=λρ S=>match f ρ S with
 | some ([x,y],S1)=>ba (.nx ((ρ.set i (ba x)).set j (ba y)),S1)
 | _=>K3
theorem C0 {i j:HW}{x y:Iv}{a b:Iz}{f:FA}{px py pt pos:KA}{kt k2:HW}{pt2:KA}(hc:X.calm=true)(hN:X.N.Nodup)(hi:X.N[i]?=ba x)(hj:X.N[j]?=ba y)(hij:i≠j)
  (hx:X.env.scope.names.lookup x=ba .local) (hy:X.env.scope.names.lookup y=ba .local) (ha:GA X [a,b] f)
  (hw:swappedStores [.Tuple [.Name x px,.Name y py] kt pt] (.Tuple [a,b] k2 pt2) X.env=pure (ba [x,y]))
  (hs:swapsWithSole [.Tuple [.Name x px,.Name y py] kt pt] (.Tuple [a,b] k2 pt2) pos.line X.env=pure false) :
  GS X (.Assign [.Tuple [.Name x px,.Name y py] kt pt] (.Tuple [a,b] k2 pt2) pos) (An i j f):=GS.of (Cd hc hN hi hj hij hx hy ha hw hs) λσ H A ρ S o S' er so e D hd=>by
 unfold An at e;split at e
 ·rename_i x y S1 h1;cases e;refine#[A,ρ,S,_,_,er,so,h1,λvs H1 #[A1,z1,z2,z3]=>?_]
  cases z3 with
  | cons r1 t=>
   cases t with
   | cons r2 t=>
    cases t;exact#[_,_,rfl,hd.nx _ _ #[_,A1,rfl,z1,z2,((er.mono z1).set r1 i).set r2 j]]
 ·cases e
noncomputable def nP (c:FT)(b:FS):HW->FS
 | 0,_,_=>K3
 | n+1,ρ,S=>match c ρ S with
  | some (true,S1)=>match b ρ S1 with
   | some (.nx ρ',S2)=>nP c b n ρ' S2
   | some (.ct ρ',S2)=>nP c b n ρ' S2
   | some (.bk ρ',S2)=>ba (.nx ρ',S2)
   | some (.rt w,S2)=>ba (.rt w,S2)
   | none=>K3
  | some (false,S1)=>ba (.nx ρ,S1)
  | none=>K3
theorem xk {c:Iz}{body:HK KQ}{pos:KA}{fc:FT}{fb:FS}(n:HW)(hp:NW (model X.prog X.w) X.A X.env X.xe)(hc:GT X c fc)(hb:GSs X body fb):GS X (.While c body [] pos) (nP fc fb n):=GS.of (vx hp hc hb) λσ H A ρ S o S' er so e D hd=>by
 refine#[λm σ1 H1=>∃A1 ρ1 S1,Ext X.K A H A1 H1/\EnvRel X.K A1 H1 ρ1 σ1/\StoreOk X.w X.K A1 H1 S1/\nP fc fb m ρ1 S1=ba (o,S'),#[n,A,ρ,S,.refl,er,so,e],?_]
 rintro m σ1 H1 ⟨A1,ρ1,S1,e1,er1,so1,w1⟩;cases m with
 | zero=>cases w1
 | succ m=>
  simp only[nP]at w1;split at w1
  ·rename_i S2 h1;refine#[A1,ρ1,S1,_,S2,er1,so1,h1,λb H2 #[z0,A2,z1,z2]=>?_]
   subst z0;rw[Ix rfl];refine#[λσ3 H3=>∃A3 ρ3 S3,Ext X.K A H A3 H3/\EnvRel X.K A3 H3 ρ3 σ3/\StoreOk X.w X.K A3 H3 S3/\nP fc fb m ρ3 S3=ba (o,S'),λσ' H' h=>#[m,J6 _,h],?_]
   split at w1
   ·rename_i ρ3 S3 h3;refine#[A2,ρ1,S2,_,S3,er1.mono z1,z2,h3,#[λσ' H' #[ρ',A',y0,y1,y2,y3]=>?_,λv H' #[w,A',y0,_]=>(by cases y0),λv H' #[w,A',y0,_]=>(by cases y0),λv H' #[w,A',y0,_]=>(by cases y0)]]
    cases y0;exact#[A',_,S3,(e1.trans z1).trans y1,y3,y2,w1]
   ·rename_i ρ3 S3 h3;refine#[A2,ρ1,S2,_,S3,er1.mono z1,z2,h3,#[λv H' #[w,A',y0,_]=>(by cases y0),λv H' #[w,A',y0,_]=>(by cases y0),λv H' #[w,A',y0,_]=>(by cases y0),λσ' H' #[ρ',A',y0,y1,y2,y3]=>?_]]
    cases y0;exact#[A',_,S3,(e1.trans z1).trans y1,y3,y2,w1]
   ·rename_i ρ3 S3 h3;cases w1;refine#[A2,ρ1,S2,_,_,er1.mono z1,z2,h3,#[λv H' #[w,A',y0,_]=>(by cases y0),λv H' #[w,A',y0,_]=>(by cases y0),λσ' H' #[ρ',A',y0,y1,y2,y3]=>?_,λv H' #[w,A',y0,_]=>(by cases y0)]]
    cases y0;exact hd.nx _ _ #[_,A',rfl,(e1.trans z1).trans y1,y2,y3]
   ·rename_i w3 S3 h3;cases w1;refine#[A2,ρ1,S2,_,_,er1.mono z1,z2,h3,#[λv H' #[w,A',y0,_]=>(by cases y0),λv H' #[w,A',y0,y1,y2,y3]=>?_,λv H' #[w,A',y0,_]=>(by cases y0),λv H' #[w,A',y0,_]=>(by cases y0)]]
    cases y0;exact hd.rt _ _ #[_,A',rfl,(e1.trans z1).trans y1,y2,y3]
   ·cases w1
  ·rename_i S2 h1;cases w1;refine#[A1,ρ1,S1,_,_,er1,so1,h1,λb H2 #[z0,A2,z1,z2]=>?_]
   subst z0;rw[IK IA];exact hd.nx _ _ #[_,A2,rfl,e1.trans z1,z2,er1.mono z1]
  ·cases w1
end
inductive MI where
 | its (ws:HK W)
 | live (r:HW)
noncomputable def MI.at (S:aa)(i:HW):MI->HU (HU W)
 | .its ws=>ba ws[i]?
 | .live r=>match gZ S r with
  | some xs=>ba xs[i]?
  | none=>K3
noncomputable def MI.len (S:aa):MI->HU HW
 | .its ws=>ba ws.length
 | .live r=>(gZ S r).map (·.length)
noncomputable abbrev FI:=Fm->aa->HU (MI×aa)
structure MIt (wd:IU)(K:Ig)(mi:MI)(J:It)(A0:HK HX)(H0:Hp):Prop where
 go:∀A H S i w,Ext K A0 H0 A H->StoreOk wd K A H S->mi.at S i=ba (ba w)->J.go i H/\∀x H',J.yld i H x H'->Ext K A H A H'/\StoreOk wd K A H' S/\Rel K A H' w x
 stop:∀A H S i,Ext K A0 H0 A H->StoreOk wd K A H S->mi.at S i=ba K3->J.stop i H
noncomputable def tI (X:Cx)(f:FI):TI:=λσ H R=>∃A ρ S mi S',EnvRel X.K A H ρ σ/\StoreOk X.w X.K A H S/\f ρ S=ba (mi,S')/\∀J H' A',Ext X.K A H A' H'->StoreOk X.w X.K A' H' S'->MIt X.w X.K mi J A' H'->R J H'
noncomputable abbrev GI (X:Cx)(tg iter:Iz)(f:FI):Prop:=PI X tg iter (tI X f)
noncomputable def Ao (f:FE):FI:=λρ S=>match f ρ S with
 | some (.tup ws,S1)=>ba (.its ws,S1)
 | some (.ref r,S1)=>match gZ S1 r with
  | some _=>ba (.live r,S1)
  | none=>K3
 | _=>K3
noncomputable def dw (lo:Ik)(n:HW):HK W:=(IN n).map λ(k:HW)=>.int (lo+(k:Ik))
noncomputable def uG (f:FA):FI:=λρ S=>match f ρ S with
 | some ([.int j],S1)=>if -(2 ^ 62)<=j/\j < 2 ^ 62 then ba (.its (dw 0 j.toNat),S1)else K3
 | _=>K3
noncomputable def iRng2 (f:FA):FI:=λρ S=>match f ρ S with
 | some ([.int i,.int j],S1)=>if -(2 ^ 62)<=i/\i < 2 ^ 62/\-(2 ^ 62)<=j/\j < 2 ^ 62 then ba (.its (dw i (j - i).toNat),S1)else K3
 | _=>K3
noncomputable def fF (mi:MI)(g:FG)(b:FS):HW->HW->FS
 | 0,i,ρ,S=>match mi.at S i with
  | some K3=>ba (.nx ρ,S)
  | _=>K3
 | n+1,i,ρ,S=>match mi.at S i with
  | some (ba w)=>match g w ρ S with
   | some (ρ1,S1)=>match b ρ1 S1 with
    | some (.nx ρ2,S2)=>fF mi g b n (i+1) ρ2 S2
    | some (.ct ρ2,S2)=>fF mi g b n (i+1) ρ2 S2
    | some (.bk ρ2,S2)=>ba (.nx ρ2,S2)
    | some (.rt w,S2)=>ba (.rt w,S2)
    | none=>K3
   | none=>K3
  | _=>K3
noncomputable def xl (fi:FI)(g:FG)(b:FS):FS:=λρ S=>match fi ρ S with
 | some (mi,S1)=>match mi.len S1 with
  | some n=>fF mi g b n 0 ρ S1
  | none=>K3
 | none=>K3
section
variable{X:Cx}
theorem Ap {A:HK HX}{H:Hp}{ws:HK W}{a:HX}{vs:HK V}(h:SqT X.K H a vs)(r:RelL X.K A H ws vs):MIt X.w X.K (.its ws) (Gi X.K a) A H:=by
 refine#[λA' H' S i w e so hi=>?_,λA' H' S i e so hi=>?_]
 ·simp only[MI.at,IT]at hi;obtain⟨v,h1,h2⟩:=(r.mono e).get hi;refine#[#[vs,v,e.tp _ _ h,h1],λx H2 #[z1,z2]=>?_]
  subst z1;have:=z2 vs (e.tp _ _ h);rw[h1]at this; cases this
  exact#[.refl,so,h2]
 ·simp only[MI.at,IT]at hi;refine#[vs,e.tp _ _ h,?_];rw[<- r.length];exact Jw.mp hi
theorem Aq {A:HK HX}{H:Hp}{r:HW}{a:HX}(ea:A[r]?=ba a):MIt X.w X.K (.live r) (Gh X.K a) A H:=by
 refine#[λA' H' S i w e so hi=>?_,λA' H' S i e so hi=>?_]
 ·simp only[MI.at]at hi;split at hi
  ·rename_i xs hx;simp only[IT]at hi;obtain⟨vs,h1,r1⟩:=ci so hx (e.ad _ _ ea);obtain⟨v,h2,h3⟩:=r1.get hi;refine#[#[vs,v,h1,h2],λx H2 #[z1,z2]=>?_]
   subst z1;have:=z2 vs h1;rw[h2]at this; cases this
   exact#[.refl,so,h3]
  ·cases hi
 ·simp only[MI.at]at hi;split at hi
  ·rename_i xs hx;simp only[IT]at hi;obtain⟨vs,h1,r1⟩:=ci so hx (e.ad _ _ ea);refine#[vs,h1,?_];rw[<- r1.length];exact Jw.mp hi
  ·cases hi
theorem dU {lo:Ik}{n i:HW}:(dw lo n)[i]?=if i < n then ba (.int (lo+i))else K3:=by
 unfold dw;rw[HY]
 by_cases h:i < n
 ·rw[Ix h,JU h]; rfl
 ·rw[IK h,Jw.mpr (by simp; omega)]; rfl
theorem sK {A:HK HX}{H:Hp}{lo:Ik}{n:HW}:MIt X.w X.K (.its (dw lo n)) (Ee lo n) A H:=by
 refine#[λA' H' S i w e so hi=>?_,λA' H' S i e so hi=>?_]
 ·simp only[MI.at,IT]at hi;rw[dU]at hi;split at hi
  ·cases hi;refine#[by assumption,λx H2 #[z1,z2]=>?_]
   subst z1 z2;exact#[.refl,so,.int]
  ·cases hi
 ·simp only[MI.at,IT]at hi;rw[dU]at hi;split at hi
  ·cases hi
  ·show n<=i;omega
theorem pX {tg:Iz}{pins:HK (HX×JR)}{σ:L2.St}{H1:Hp}{s1:HQ}{R:It->Hp->Prop}{a:HX}{xs:HK V}{v:HM}(I1:Inv X pins σ H1 s1)(r1:RelV (.ref a) v)(hq:SqL X.K H1 a xs)(q:R (Gh X.K a) H1) :
  wpAny (model X.prog X.w) X.A (pyIter v) (FR X pins σ tg R) X.xe s1:=by
 cases r1;obtain⟨its,rv,p,hz⟩:=I1.list hq;refine LX p.isList ?_;refine#[s1.heap.objs.size,[s1.heap.objs.size],_,_,H1,rfl,I1.kept (t':=s1.toks) λb o e=>HP _ e,tN a _,#[_,Ij _ rfl,rfl,rfl],λb hb=>?_,q]
 have e:b=s1.heap.objs.size:=by simpa using hb
 subst e;exact I1.fpOk (Ih _) (I1.hok.fresh (Ih _))
theorem rD {tg:Iz}{pins:HK (HX×JR)}{σ:L2.St}{H1:Hp}{s1:HQ}{R:It->Hp->Prop}{a:HX}{xs:HK V}{v:HM}(I1:Inv X pins σ H1 s1)(r1:RelV (.ref a) v)(hq:SqT X.K H1 a xs)(q:R (Gi X.K a) H1) :
  wpAny (model X.prog X.w) X.A (pyIter v) (FR X pins σ tg R) X.xe s1:=by
 cases r1;obtain⟨its,rv,p,hz⟩:=I1.tuple hq;refine Oo (show s1.heap.IsTuple a its.toArray from p) ?_
 refine#[s1.heap.objs.size,[s1.heap.objs.size],_,_,H1,rfl,I1.kept (t':=s1.toks) λb o e=>HP _ e,qL a _,#[_,Ij _ rfl,rfl,rfl],λb hb=>?_,q]
 have e:b=s1.heap.objs.size:=by simpa using hb
 subst e;exact I1.fpOk (Ih _) (I1.hok.fresh (Ih _))
theorem Ar {tg a:Iz}{f:FA}{p pos:KA}(hg:Gl X "range")(hm:X.mg "range" = K3)(ha:GA X [a] f)(hs:starEach [a] X.env=[(false,eval a X.env)]):GI X tg (.Call (.Name "range" p) [a] [] pos) (uG f):=by
 intro pins s σ H R I ⟨A,ρ,S,mi,S',er,so,e,hq⟩;unfold uG at e;split at e
 ·rename_i j S1 h1;split at e
  ·rename_i hj;cases e;refine tP hg hm ha hs pins s σ H R I #[A,ρ,S,_,_,er,so,h1,λvs H1 #[A1,z1,z2,z3]=>?_]
   cases z3 with
   | cons r1 t=>
    cases t;cases r1;exact#[j,rfl,hj.1,hj.2,hq _ _ A1 z1 z2 sK]
  ·cases e
 ·cases e
theorem As {tg a b:Iz}{f:FA}{p pos:KA}(hg:Gl X "range")(hm:X.mg "range" = K3)(ha:GA X [a,b] f)(hs:starEach [a,b] X.env=[(false,eval a X.env),(false,eval b X.env)])(hs2:starEach [b] X.env=[(false,eval b X.env)]):GI X tg (.Call (.Name "range" p) [a,b] [] pos) (iRng2 f):=by
 intro pins s σ H R I ⟨A,ρ,S,mi,S',er,so,e,hq⟩;unfold iRng2 at e;split at e
 ·rename_i i j S1 h1;split at e
  ·rename_i hj;cases e;refine tQ hg hm ha hs hs2 pins s σ H R I #[A,ρ,S,_,_,er,so,h1,λvs H1 #[A1,z1,z2,z3]=>?_]
   cases z3 with
   | cons r1 t=>
    cases t with
    | cons r2 t=>
     cases t;cases r1;cases r2;exact#[i,j,rfl,hj,hq _ _ A1 z1 z2 sK]
  ·cases e
 ·cases e
theorem C3 {tg l:Iz}{f:FE}(h:GE X l f):GI X tg l (Ao f):=by
 intro pins s σ H R I ⟨A,ρ,S,mi,S',er,so,e,hq⟩;unfold Ao at e;split at e
 ·rename_i ws S1 h1;cases e;refine bJ (h pins s σ H (EndV X.w X.K A H _ (.tup ws)) I #[A,ρ,S,_,_,er,so,h1,λ_ _ z=>z]) λv s1 #[x,H1,I1,r1,A1,e1,o1,z1]=>?_
  cases z1 with
  | tup hq1 rl=>
   refine rD I1 r1 hq1 (hq _ _ A1 e1 o1 (Ap hq1 rl))
 ·rename_i r S1 h1;split at e
  ·rename_i ys hy;cases e;refine bJ (h pins s σ H (EndV X.w X.K A H _ (.ref r)) I #[A,ρ,S,_,_,er,so,h1,λ_ _ z=>z]) λv s1 #[x,H1,I1,r1,A1,e1,o1,z1]=>?_
   cases z1 with
   | ref ea=>
    obtain⟨vs,hl,_⟩:=ci o1 hy ea;exact pX I1 r1 hl (hq _ _ A1 e1 o1 (Aq ea))
  ·cases e
 ·cases e
theorem C4 {tg iter:Iz}{body:HK KQ}{pos:KA}{fi:FI}{g:FG}{fb:FS}(hp:NW (model X.prog X.w) X.A X.env X.xe)(hc:X.calm=true)(hi:GI X tg iter fi)(hg:GG X tg g)(hb:GSs X body fb)
  (hs:∀x,foldedSetIterable iter X.env x=pure x):GS X (.For tg iter body [] pos) (xl fi g fb):=GS.of (Cf hp hc hi hg hb hs) λσ H A ρ S o S' er so e D hd=>by
 unfold xl at e;split at e
 ·rename_i mi S1 h1;split at e
  ·rename_i n hn;refine#[A,ρ,S,mi,S1,er,so,h1,λJ H1 A1 z1 z2 mit=>?_]
   refine#[λi m σ2 H2=>∃A2 ρ2 S2,Ext X.K A1 H1 A2 H2/\EnvRel X.K A2 H2 ρ2 σ2/\StoreOk X.w X.K A2 H2 S2/\fF mi g fb m i ρ2 S2=ba (o,S'),#[n,A1,ρ,S1,.refl,er.mono z1,z2,e],?_]
   rintro i m σ2 H2 ⟨A2,ρ2,S2,e2,er2,so2,w2⟩;cases m with
   | zero=>
    simp only[fF]at w2;split at w2
    ·rename_i hs;cases w2;exact .inl #[mit.stop A2 H2 _ i e2 so2 hs,hd.nx _ _ #[_,A2,rfl,z1.trans e2,so2,er2]]
    ·cases w2
   | succ m=>
    simp only[fF]at w2;split at w2
    ·rename_i w hw;obtain⟨go,yl⟩:=mit.go A2 H2 S2 i w e2 so2 hw;refine .inr #[go,λσ3 H3=>∃A3 ρ3 S3,Ext X.K A1 H1 A3 H3/\EnvRel X.K A3 H3 ρ3 σ3/\StoreOk X.w X.K A3 H3 S3/\fF mi g fb m (i+1) ρ3 S3=ba (o,S'),λσ' H' h=>#[m,J6 _,h],λx H3 hy=>?_]
     obtain⟨x1,x2,x3⟩:=yl x H3 hy;split at w2
     ·rename_i ρ3 S3 h3;refine#[A2,ρ2,S2,w,ρ3,S3,er2.mono x1,x2,x3,h3,λσ4 H4 A4 y1 y2 y3=>?_]
      have ex:Ext X.K A1 H1 A4 H4:=(e2.trans x1).trans y1;split at w2
      ·rename_i ρ5 S5 h5;refine#[A4,ρ3,S3,_,S5,y3,y2,h5,#[λσ' H' #[ρ',A',u0,u1,u2,u3]=>?_,λv H' #[w,A',y0,_]=>(by cases y0),λv H' #[w,A',y0,_]=>(by cases y0),λv H' #[w,A',y0,_]=>(by cases y0)]]
       cases u0;exact#[A',_,S5,ex.trans u1,u3,u2,w2]
      ·rename_i ρ5 S5 h5;refine#[A4,ρ3,S3,_,S5,y3,y2,h5,#[λv H' #[w,A',y0,_]=>(by cases y0),λv H' #[w,A',y0,_]=>(by cases y0),λv H' #[w,A',y0,_]=>(by cases y0),λσ' H' #[ρ',A',u0,u1,u2,u3]=>?_]]
       cases u0;exact#[A',_,S5,ex.trans u1,u3,u2,w2]
      ·rename_i ρ5 S5 h5;cases w2;refine#[A4,ρ3,S3,_,_,y3,y2,h5,#[λv H' #[w,A',y0,_]=>(by cases y0),λv H' #[w,A',y0,_]=>(by cases y0),λσ' H' #[ρ',A',u0,u1,u2,u3]=>?_,λv H' #[w,A',y0,_]=>(by cases y0)]]
       cases u0;exact hd.nx _ _ #[_,A',rfl,(z1.trans ex).trans u1,u2,u3]
      ·rename_i w5 S5 h5;cases w2;refine#[A4,ρ3,S3,_,_,y3,y2,h5,#[λv H' #[w,A',y0,_]=>(by cases y0),λv H' #[w,A',u0,u1,u2,u3]=>?_,λv H' #[w,A',y0,_]=>(by cases y0),λv H' #[w,A',y0,_]=>(by cases y0)]]
       cases u0;exact hd.rt _ _ #[_,A',rfl,(z1.trans ex).trans u1,u2,u3]
      ·cases w2
     ·cases w2
    ·cases w2
  ·cases e
 ·cases e
end
section
variable{prog:IM}{w:IU}{B:IQ}{E:HM->HQ->Prop}{s:HQ}
theorem At {d:HX}{es:ID Ku}{ep:HW}{Q:HM->HQ->Prop}(hd:(d==sysModules)=false)(hm:RawD d es ep s.heap)(hfit:(es.size:Ik) < 2 ^ 63)
  (h:Q (.int es.size (s.toks+1)) { s with toks:=s.toks+1+1 }):wpAny (model prog w) B (call (.builtin "len") [.ref d]) Q E s:=by
 have hT:=hm.type;obtain⟨o,ho,hc,hdat⟩:=id hm;refine Lx kind_len plain_len entry_len (args_len1 _) ?_;unfold Le.«len»;refine HL (m:=oneArg "len" _) (HR ?_);refine HL (m:=callSpecial? (.ref d) (Kl "__len__")) (Jq (name:=Kl "__len__") hT F.slot_dict_len (Jr F.slot_dict_len hT F.entry_dict_len ?_ (F.args_dict_len_1 _)));show wpAny _ _ (dictSize d >>= _) _ _ s;unfold dictSize;refine HL (HL (LY ho hdat (HR ?_)));show wpAny _ _ (PQ d >>= _) _ _ s;refine HL (wpAny_pendingCount_other hd ?_);refine wpAny_ret_mkInt ?_;rw[Nat.add_zero];show wpAny _ _ _ _ _ { s with toks:=s.toks+1 }
 refine HL (Jm (HR ?_));refine HL (Mb ?_);show wpAny _ _ (if ((es.size:HW):Ik) < 0 then _ else _) _ _ _
 rw[IK ∅]
 show wpAny _ _ (if ((es.size:HW):Ik)>=2 ^ 63 then _ else _) _ _ _
 rw[IK ∅]
 exact HL (Pa (HR #[_,rfl,h]))
end
section
variable{X:Cx}{pins:HK (HX×JR)}{σ:L2.St}{H:Hp}{s:HQ}{A:HK HX}{S:aa}
theorem rE:LCall X (.builtin "len") rg:=by
 intro pins s σ H A S xs vs us w S' I so rl rv e
 by_cases hd:∃i kvs,xs=[.ref i]/\jn S i=ba kvs
 ·obtain⟨i,kvs,rfl,hk⟩:=hd;simp only[rg,hk]at e;cases e;cases rl with
  | cons r t=>
   cases t;cases rv with
   | cons ru rv2=>
    cases rv2;cases r with
    | ref ea=>
     obtain⟨xs,rd,kr⟩:=fE so hk ea;have d:=cr I rd;obtain⟨es,ep,raw,he⟩:=d.raw;obtain rfl:_=IR _:=ru;have hl:es.size=xs.length:=by rw[<- Il,he,HN]
     have hz:=d.1;have hs:sizeLine=16777216:=Jf;refine At d.2.1 raw ∅ #[.int kvs.length,H,A,I.tok _,#[_,by rw[kr.length,hl]],.refl,so,.int]
 ·have:rg xs S=qW xs S:=by
   unfold rg;split
   ·rename_i i;split
    ·rename_i kvs hk;exact absurd #[i,kvs,rfl,hk] hd
    ·rfl
   ·rfl
  rw[this]at e;exact uc pins s σ H A S xs vs us w S' I so rl rv e
noncomputable def Hs (S:aa):W->HU JJ
 | .non=>ba "NoneType"|.bl _=>ba "bool"|.int _=>ba "int"|.str _=>ba "str"|.tup _=>ba "tuple"
 | .ref i=>match gZ S i with
  | some _=>ba "list"
  | none=>(jn S i).map λ_=>"dict"
noncomputable def sL:HK JJ:=["bool","int","str","tuple","list","dict"]
noncomputable def xm (S:aa)(x:W)(c:JJ):HU IF:=match Hs S x with
 | some t=>if sL.contains c then ba (t==c||(t == "bool" && c == "int"))else K3
 | none=>K3
theorem gL {K:Ig}{t c:JJ}(ht:t∈["NoneType","bool","int","str","tuple","list","dict"])(hc:c∈sL):PySem.W.kitOne K (.type t) (.type c)=ba (t==c||(t == "bool" && c == "int")):=by
 simp only[sL,IE,Js,KP]at ht hc;rcases ht with rfl|rfl|rfl|rfl|rfl|rfl|rfl <;> rcases hc with rfl|rfl|rfl|rfl|rfl|rfl <;> rfl
theorem xn:CallR X (.builtin "isinstance") (λvs H Q=>∃A S x v c b,vs=[v,.ty c]/\StoreOk X.w X.K A H S/\Rel X.K A H x v/\xm S x c=ba b/\Q (.bl b) H):=by
 intro pins s σ H vs us Q I rv ⟨A,S,x,v,c,b,e1,so,rx,e2,hq⟩;subst e1;cases rv with
 | cons r1 rv2=>cases rv2 with
  | cons r2 rv3=>
   cases rv3;obtain rfl:_=JS c:=r2;unfold xm at e2;split at e2
   ·rename_i t ht;split at e2
    ·rename_i hc;cases e2;have hc':c∈sL:=by simpa using hc
     have fin:∀tk,EP X pins σ Q (.bool (t==c||(t == "bool" && c == "int"))) { s with toks:=tk }:=λtk=>#[.bl _,H,I.tok _,rfl,hq]
     cases rx with
     | non=>cases ht; cases(show _=Ja from r1); exact KJ PySem.W.kitx_none I.kIn L5 (gL (by simp) hc') (λz=>nomatch z) fin
     | bl=>cases ht; cases(show _=Lh _ from r1); exact KJ PySem.W.kitx_bool I.kIn L5 (gL (by simp) hc') (λz=>nomatch z) fin
     | int=>cases ht; obtain⟨t',q⟩:=(show ∃t,_=M3 _ t from r1); cases q; exact KJ PySem.W.kitx_int I.kIn L5 (gL (by simp) hc') (λz=>nomatch z) fin
     | str=>cases ht; obtain⟨t',q⟩:=(show ∃t,_=L3 _ t from r1); cases q; exact KJ PySem.W.kitx_str I.kIn L5 (gL (by simp) hc') (λz=>nomatch z) fin
     | tup h1 r1'=>
      cases ht;obtain⟨its,rv,⟨o,q1,q2,_⟩,hz⟩:=I.tuple h1;cases(show _=IR _ from r1)
      exact KJ PySem.W.kitx_tuple I.kIn #[o,q1,q2] (gL (by simp) hc') (λz=>nomatch z) fin
     | ref ea=>
      cases(show _=IR _ from r1)
      simp only[Hs]at ht;split at ht
      ·rename_i ws hw;cases ht;obtain⟨vs,h1,_⟩:=ci so hw ea;obtain⟨its,rv,p,hz⟩:=I.list h1;obtain⟨o,q1,q2,_⟩:=p.isList;exact KJ PySem.W.kitx_list I.kIn #[o,q1,q2] (gL (by simp) hc') (λz=>nomatch z) fin
      ·rw[HS]at ht;obtain⟨kvs,hk,rfl⟩:=ht;obtain⟨xs,rd,kr⟩:=fE so hk ea;obtain⟨es,ep,⟨o,q1,q2,_⟩,he⟩:=(cr I rd).raw;exact KJ PySem.W.kitx_dict I.kIn #[o,q1,q2.1] (gL (by simp) hc') (λz=>nomatch z) fin
    ·cases e2
   ·cases e2
noncomputable def xo (c:JJ)(f:FE):FE:=λρ S=>match f ρ S with
 | some (x,S1)=>(xm S1 x c).map λb=>(.bl b,S1)
 | none=>K3
theorem C5 {cn:Iv}{c:JJ}{e:Iz}{p p2 pos:KA}{f:FE}(hg:Gl X "isinstance")(hm:X.mg "isinstance" = K3)(hg2:Gl X cn)(hm2:X.mg cn=K3)(hv2:bootBuiltins cn=ba (.type c))(hn2:cn≠"__name__")(hd2:(cn==("__debug__" : Iv))=false)
  (he:GE X e f) (hs:starEach [e,.Name cn p2] X.env=(false,eval e X.env)::starEach [.Name cn p2] X.env):GE X (.Call (.Name "isinstance" p) [e,.Name cn p2] [] pos) (xo c f):=
 GE.of (oU (xn) hg hm rfl (nj he (nj (yU (v:=.ty c) hg2 hm2 hv2 rfl hn2 hd2) vz) hs) #v[] #v[] hs rfl) λσ H A ρ S w S' er so e Q hq=>by
  unfold xo at e;split at e
  ·rename_i x1 S1 h1;rw[HS]at e;obtain⟨b,e1,e2⟩:=e;cases e2;exact#[A,ρ,S,x1,_,er,so,h1,λv H1 #[A1,z1,z2,z3]=>#[A1,_,x1,v,c,b,rfl,z2,z3,e1,hq _ _ #[A1,z1,z2,.bl]]]
  ·cases e
end
noncomputable def dy:HK (T×W)->HK W->HU (HK (T×W))
 | kvs,[]=>ba kvs
 | kvs,k::v::ws=>match gf k with
  | some t=>dy (eA kvs t v) ws
  | none=>K3
 | _,[_]=>K3
noncomputable def Bw:FE:=λ_ S=>ba (.ref S.length,S++[.dic []])
noncomputable def pY (f:FA):FE:=λρ S=>match f ρ (S++[.dic []])with
 | some (ws,S1)=>match S1[S.length]? with
  | some (.dic [])=>match dy [] ws with
   | some kvs=>ba (.ref S.length,S1.set S.length (.dic kvs))
   | none=>K3
  | _=>K3
 | none=>K3
section
variable (K:Ig) (A:HK HX) (H:Hp)
inductive RelP:HK W->HK (V×V)->Prop
 | nil:RelP [] []
 | cons {k v:W} {a b:V} {ws:HK W} {ps:HK (V×V)}:Rel K A H k a->Rel K A H v b->RelP ws ps->RelP (k::v::ws) ((a,b)::ps)
end
theorem RelP.mono {K:Ig}{A A':HK HX}{H H':Hp}(e:Ext K A H A' H'){ws:HK W}{ps:HK (V×V)}(h:RelP K A H ws ps):RelP K A' H' ws ps:=by
 induction h with
 | nil=>exact .nil
 | cons a b c ih=>exact .cons (a.mono e) (b.mono e) ih
section
variable{X:Cx}{pins:HK (HX×JR)}{σ:L2.St}{H:Hp}{s:HQ}{A:HK HX}{S:aa}
noncomputable def GM (X:Cx)(A:HK HX)(H:Hp)(S':aa)(ws:HK W):HK (V×V)->Hp->Prop:=λps H'=>∃A',Ext X.K A H A' H'/\StoreOk X.w X.K A' H' S'/\RelP X.K A' H' ws ps
noncomputable def EQ (X:Cx)(pos:KA)(keys:HK (HU Iz))(values:HK Iz)(f:FA):Prop:=
 ∀(pins:HK (HX×JR)) (s:HQ) (σ:L2.St) (H:Hp) (A:HK HX) (ρ:Fm) (S:aa) (ws:HK W) (S':aa),Inv X pins σ H s->EnvRel X.K A H ρ σ->StoreOk X.w X.K A H S->f ρ S=ba (ws,S')->
  wpAny (model X.prog X.w) X.A (evalPairs (pairTrees keys values X.env pos)) (λvs s'=>∃ps H',Inv X pins σ H' s'/\VV ps vs/\GM X A H S' ws ps H') X.xe s
theorem Au {pos:KA}:EQ X pos [] [] jy:=λpins s σ H A ρ S ws S' I er so e=>by
 cases e;exact pairTrees_nil_walk #[[],H,I,.nil,A,.refl,so,.nil]
theorem xp {pos:KA}{k v:Iz}{ks:HK (HU Iz)}{vs:HK Iz}{fk fv:FE}{f:FA}(hk:GE X k fk)(hv:GE X v fv)(hr:EQ X pos ks vs f):EQ X pos (ba k::ks) (v::vs) (eg fk (eg fv f)):=λpins s σ H A ρ S ws S' I er so e=>by
 unfold eg at e;split at e
 ·rename_i w1 S1 h1;split at e
  ·rename_i w2 S2 h2;cases e;split at h2
   ·rename_i w3 S3 h3;split at h2
    ·rename_i w4 S4 h4;cases h2;refine pairTrees_cons_walk (bJ (hk pins s σ H (EndV X.w X.K A H S1 w1) I #[A,ρ,S,_,_,er,so,h1,λ_ _ z=>z]) λu s1 #[x,H1,I1,r1,A1,e1,o1,z1]=>
      bJ (hv pins s1 σ H1 (EndV X.w X.K A1 H1 S3 w3) I1 #[A1,ρ,S1,_,_,er.mono e1,o1,h3,λ_ _ z=>z]) λu2 s2 #[x2,H2,I2,r2,A2,e2,o2,z2]=>
      bJ (hr pins s2 σ H2 A2 ρ S3 _ _ I2 (er.mono (e1.trans e2)) o2 h4) λvs' s3 #[ps,H3,I3,rel,A3,e3,o3,z3]=>?_)
     exact#[(x,x2)::ps,H3,I3,.cons #[r1,r2] rel,A3,e1.trans (e2.trans e3),o3,.cons (z1.mono (e2.trans e3)) (z2.mono e3) z3]
    ·cases h2
   ·cases h2
  ·cases e
 ·cases e
theorem mJ {r:HW}{d:HX}{E:HM->HQ->Prop}(hu:X.A.units+10 < cLine):∀(vs:HK (HM×HM)) (ps:HK (V×V)) (ws:HK W) (kvs kvs':HK (T×W)) (s:HQ) (H:Hp) (S:aa) (Q:PUnit->HQ->Prop),
  Inv X pins σ H s->StoreOk X.w X.K A H S->nH S r=ba kvs->A[r]?=ba d->RelP X.K A H ws ps->VV ps vs->dy kvs ws=ba kvs'->kvs.length+vs.length<=30->
  (∀s' H',Inv X pins σ H' s'->Ext X.K A H A H'->StoreOk X.w X.K A H' (S.set r (.dic kvs'))->Q Oi s')->
  wpAny (model X.prog X.w) X.A (forIn vs Oi λ(x:HM×HM) (_:PUnit)=>(do dictSet d x.1 x.2; pure (J1 Oi):Qo (ForInStep PUnit))) Q E s
 | [],_,_,kvs,kvs',s,H,S,Q,I,so,hr,ea,rp,vv,e,hl,hq=>by
  cases vv;cases rp;cases e;rw[PL];refine HR (hq s H I .refl ?_);have hS:=ib hr;have:S.set r (.dic kvs)=S:=by
   apply MR;intro j;rw[Kd];split
   ·rename_i e; subst e
    split
    ·exact hS.symm
    ·rename_i h; exact absurd (HZ.mp hS).1 h
   ·rfl
  rw[this]; exact so
 | (ku,vu)::vs,_,_,kvs,kvs',s,H,S,Q,I,so,hr,ea,rp,vv,e,hl,hq=>by
  cases vv with
  | cons hv vv2=>
   cases rp with
   | @cons wk wv va vb ws2 ps2 rk rv' rp2=>
    simp only[dy]at e;split at e
    ·rename_i t ht;rw[Nv];obtain⟨xs,hH,kr⟩:=sh so hr ea;have dd0:=cr I (.inl hH);have dd:=dd0.dict I kr;obtain⟨bk,e1,e2,rkk⟩:=hZ ht rk hv.1;have e2:ku=IR bk:=e2;subst e2;obtain⟨q1,q2,q3⟩:=dM ht;rw[JC]at hl;have hz:xs.length<=sizeLine:=dd0.1;refine HL (HL (wpAny_dictSet_heap (hsz:=hz) (show X.A.units+aF < cLine by unfold aF; omega) (iT I rkk q3) dd λh' dd' hs=>HR ?_))
     have kr':=kr.put q2 q3 rkk rv' hv.2;have hz':(storedH xs t bk vu).length<=sizeLine:=by
      rw[<- kr'.length];have h2:=dj kvs t wv;rw[Jf];omega
     have dn:DicAt X.w d (storedH xs t bk vu) h':=.of hz' dd0.2.1 dd';obtain⟨so',ex⟩:=so.writeO (ib hr) rfl ea (u:=dP X.w d (storedH xs t bk vu)) (n:=.dic (eA kvs t wv)) #[_,bf,kr'.mono (c9 (.ext hH))];have I':Inv X pins σ (bP H d (dP X.w d (storedH xs t bk vu))) { s with heap:=h',toks:=s.toks+(bv X.prog X.w).draws t }:=ny I (by rw[hH]; exact L5) hs (let ⟨q,_,_,hq,_⟩:=dd'; #[q,hq]) dn.ok
     have hl':(S.set r (.dic (eA kvs t wv)))[r]?=ba (.dic (eA kvs t wv)):=by
      rw[Kd,Ix rfl,Ix (HZ.mp (ib hr)).1]
     refine mJ hu vs _ _ (eA kvs t wv) kvs' _ _ _ Q I' so' (by unfold nH; rw[hl']) ea (rp2.mono ex) vv2 e (by have:=dj kvs t wv; omega) λs' H' I2 ex2 so2=>?_
     rw[List.set_set]at so2;exact hq s' H' I2 (ex.trans ex2) so2
    ·cases e
theorem Av {pos:KA}:GE X (.Dict [] [] pos) Bw:=λpins s σ H Q I #[A,ρ,S,w,S',er,so,e,hq]=>by
 cases e;have hn:=I.hok.fresh (Ih s.heap.objs.size);have dn:DicAt X.w s.heap.objs.size [] (s.heap.push { cls:=.type "dict",data:=.dict #[] }):=#[JW _,Mk.mpr (Ne.symm (Iy I.big)),NR,_,#[],0,Ij _ rfl,#[rfl,rfl,rfl],rfl,rfl];refine wpAny_Dict_empty #[.ref s.heap.objs.size,_,I.laid (a:=s.heap.objs.size) (o:=dP X.w s.heap.objs.size []) (t':=s.toks) (λ_ _ q=>HP _ q) (Ih _) dn.ok,rfl,hq _ _ #[A++[s.heap.objs.size],cJ hn,so.pushO hn #[[],bf,.nil],.ref ?_]]
 rw[<- so.len]; simp
theorem Aw {pos:KA}{keys:HK (HU Iz)}{values:HK Iz}{f:FA}(hu:X.A.units+10 < cLine)(h:EQ X pos keys values f)(hall:keys.all (·.isSome)=true)(hl:keys.length=values.length)(h0:keys≠[])(h15:keys.length<=15):GE X (.Dict keys values pos) (pY f):=by
 intro pins s σ H Q I ⟨A,ρ,S,w,S',er,so,e,hq⟩;unfold pY at e;split at e
 ·rename_i ws S1 h1;split at e
  ·rename_i hS1;split at e
   ·rename_i kvs hp;cases e;have hn:=I.hok.fresh (Ih s.heap.objs.size);have dn:DicAt X.w s.heap.objs.size [] (s.heap.push { cls:=.type "dict",data:=.dict #[] }):=#[JW _,Mk.mpr (Ne.symm (Iy I.big)),NR,_,#[],0,Ij _ rfl,#[rfl,rfl,rfl],rfl,rfl];have I1:=I.laid (a:=s.heap.objs.size) (o:=dP X.w s.heap.objs.size []) (h':=s.heap.push { cls:=.type "dict",data:=.dict #[] }) (t':=s.toks) (λ_ _ q=>HP _ q) (Ih _) dn.ok
    have ex0:Ext X.K A H (A++[s.heap.objs.size]) (bP H s.heap.objs.size (dP X.w s.heap.objs.size [])):=cJ hn;have so0:StoreOk X.w X.K (A++[s.heap.objs.size]) (bP H s.heap.objs.size (dP X.w s.heap.objs.size [])) (S++[.dic []]):=so.pushO hn #[[],bf,.nil];have hlen:=pairTrees_length keys values X.env pos hall hl;have hne:pairTrees keys values X.env pos≠[]:=λhe=>by
     rw[he]at hlen;exact h0 (Kv.mp hlen.symm)
    rw[arm_eval_Dict,zip_pairTrees keys values X.env pos hall hl,dictDisplay_pairs _ hne ∅]
    refine HL (L6 (HL ?_));unfold subDict;refine HL (Qw ?_);refine HL (Jm ?_);rw[Ix ∅]
    refine HL (J2 (wpAny_evalPairs_len (h pins _ σ _ _ ρ _ _ _ I1 (er.mono ex0) so0 h1)) (λvs s₁ h₁=>?_) λ_ _ e=>e)
    obtain⟨hvl,ps,H2,I2,vv,A2,ex2,so2,rp⟩:=h₁;refine Jm ?_;have ea:A2[S.length]?=ba s.heap.objs.size:=ex2.ad _ _ (by rw[<- so.len]; simp)
    refine HL (mJ hu vs ps ws [] kvs s₁ H2 S1 _ I2 so2 (by unfold nH; rw[hS1]) ea rp vv hp (by rw[Ke]; omega) λs' H' I3 ex3 so3=>?_)
    exact HR (HR (HR #[.ref s.heap.objs.size,H',I3,rfl,hq _ _ #[A2,ex0.trans (ex2.trans ex3),so3,.ref ea]]))
   ·cases e
  ·cases e
 ·cases e
end
noncomputable def Ht (wd:IU)(a:HX)(o:JR)(xs:HK (T×HX×HM)):It:=
 #[λi H=>H a=ba (.frz o (dP wd a xs))/\i < xs.length,λi H x H'=>H'=H/\∃q,xs[i]?=ba q/\x=.ref q.2.1,λi H=>H a=ba (.frz o (dP wd a xs))/\xs.length<=i]
theorem uH {P:IM}{w:IU}{K:Ig}{tg:Iz}(a it:HX){o:JR}{es:ID Ku}{ep:HW}{xs:HK (T×HX×HM)}(hx:o.ExactDict)(hd:o.data=.dict es ep)(he:es.toList=xs.map (vN w)) :
  Turn P w K tg (Ht w a o xs) [it] it (λi h=>h.IsKeyIter it a i es.size ep) where
 mem:=by simp
 obj:=λi h st b hb=>by
  have e:b=it:=by simpa using hb
  subst e;obtain⟨o,e,c,d⟩:=st;exact#[o,e,λv z=>by rw[d]at z; cases z]
 keep:=λi h h' st k=>st.at λo e=>k it (by simp) o e
 item:=by
  intro X hP hw hK hc i pins s σ H E I hf st hg;subst hP hw hK;obtain⟨hH,hi⟩:=hg;have ho:s.heap.get? a=ba o:=(show ObjOk X.prog X.w H s.heap a (.frz o (dP X.w a xs))from I.hok a _ hH).1
  have hl:es.size=xs.length:=by rw[<- Il,he,HN]
  have hi':i < es.size:=∅
  obtain⟨f0,f1,f2,f3,f4,f5⟩:=hf it (by simp)
  have hk:es[i].key=.ref (xs[i]).2.1:=by
   have:es.toList[i]?=ba (vN X.w xs[i]):=by rw[he,HY,Ic hi]; rfl
   rw[JB,Kg hi']at this;have:=Jt this;rw[this]; rfl
  refine pA st #[o,ho,hx,hd] hi' λh' st' sb=>?_
  have I1:Inv X pins σ H { s with heap:=h' }:=I.turned (t':=s.toks) (λb o hb e=>(sb.2 b hb).trans e) f0 f1 f3 f4 f5
  obtain⟨o',e,c,d⟩:=id st';exact#[_,rfl,rV (s:={ s with heap:=h' }) e c d #v[] #[.ref (xs[i]).2.1,H,I1,hk,#[rfl,xs[i],Ic hi,rfl],st',λb hb=>(hf b hb).1]]
 done:=by
  intro X hP hw hK hc i pins s σ H E I hf st hg;subst hP hw hK;obtain⟨hH,hi⟩:=hg;have ho:s.heap.get? a=ba o:=(show ObjOk X.prog X.w H s.heap a (.frz o (dP X.w a xs))from I.hok a _ hH).1
  have hl:es.size=xs.length:=by rw[<- Il,he,HN]
  obtain⟨f0,f1,f2,f3,f4,f5⟩:=hf it (by simp)
  exact sr (I.ok.hd hc) st #[o,ho,hx,hd] ∅ λh' eb=>#[rfl,I.turned (t':=s.toks) (λb o hb e=>eb b o hb e) f0 f1 f3 f4 f5]
 self:=λ_ _ _ _ _ st h=>NP st h
noncomputable def fm (f:FE):FI:=λρ S=>match f ρ S with
 | some (.tup ws,S1)=>ba (.its ws,S1)
 | some (.ref r,S1)=>match gZ S1 r with
  | some _=>ba (.live r,S1)
  | none=>match jn S1 r with
   | some kvs=>ba (.its (kvs.map λp=>p.1.w),S1.set r (.frd kvs))
   | none=>K3
 | _=>K3
section
variable{X:Cx}{pins:HK (HX×JR)}{σ:L2.St}{H:Hp}{s:HQ}{A:HK HX}{S:aa}
theorem xq {a:HX}{o:JR}{kvs:HK (T×W)}{xs:HK (T×HX×HM)}(hH:H a=ba (.frz o (dP X.w a xs)))(kr:KRel X.K A H kvs xs):MIt X.w X.K (.its (kvs.map λp=>p.1.w)) (Ht X.w a o xs) A H:=by
 refine#[λA' H' S i w e so hi=>?_,λA' H' S i e so hi=>?_]
 ·simp only[MI.at,IT]at hi;obtain⟨v,h1,h2⟩:=((kr.mono e).keysL).get hi;rw[HY,HS]at h1;obtain⟨q,q1,q2⟩:=h1;refine#[#[e.fz _ _ _ hH,(HZ.mp q1).1],λx H2 #[z1,q',z2,z3]=>?_]
  subst z1 z3;rw[q1]at z2; cases z2
  exact#[.refl,so,by rw[q2]; exact h2]
 ·simp only[MI.at,IT]at hi;refine#[e.fz _ _ _ hH,?_];have:=Jw.mp hi;rw[HN,kr.length]at this;exact this
theorem Ax {tg l:Iz}{f:FE}(h:GE X l f):GI X tg l (fm f):=by
 intro pins s σ H R I ⟨A,ρ,S,mi,S',er,so,e,hq⟩
 by_cases hd:∃r S1 kvs,f ρ S=ba (.ref r,S1)/\gZ S1 r=K3/\jn S1 r=ba kvs
 ·obtain⟨r,S1,kvs,h1,h2,h3⟩:=hd;simp only[fm,h1,h2,h3]at e;cases e;refine bJ (h pins s σ H (EndV X.w X.K A H S1 (.ref r)) I #[A,ρ,S,_,_,er,so,h1,λ_ _ z=>z]) λv s1 #[x,H1,I1,r1,A1,e1,o1,z1]=>?_
  cases z1 with
  | @ref _ a ea=>
   obtain rfl:v=IR a:=r1;have fz:∃o xs H2,Inv X pins σ H2 s1/\Ext X.K A1 H1 A1 H2/\StoreOk X.w X.K A1 H2 (S1.set r (.frd kvs))/\H2 a=ba (.frz o (dP X.w a xs))/\KRel X.K A1 H2 kvs xs:=by
    unfold jn at h3;split at h3
    ·rename_i k hk;cases h3;obtain⟨xs,hH,kr⟩:=o1.obj r _ a hk ea;have d:=cr I1 (.inl hH);obtain⟨_,_,_,o,es,ep,q1,q2,q3,q4⟩:=id d;obtain⟨so',ex⟩:=o1.writeO hk rfl ea (u:=.frz o (dP X.w a xs)) (n:=.frd kvs) #[o,xs,bf,kr.mono (c9 (.ext hH))];exact#[o,xs,_,ny (h':=s1.heap) (t':=s1.toks) (ob:=.frz o (dP X.w a xs)) I1 (by rw[hH]; exact L5) (OJ _ _) #[o,q1] #[q1,d.ok],ex,so',bf,kr.mono ex]
    ·rename_i k hk;cases h3;obtain⟨o,xs,hH,kr⟩:=o1.obj r _ a hk ea;have:S1.set r (.frd kvs)=S1:=by
      apply MR;intro j;rw[Kd];split
      ·rename_i e; subst e
       split
       ·exact hk.symm
       ·rename_i h; exact absurd (HZ.mp hk).1 h
      ·rfl
     rw[this];exact#[o,xs,H1,I1,.refl,o1,hH,kr]
    ·cases h3
   obtain⟨o,xs,H2,I2,ex,so2,hH,kr⟩:=fz;have d:=cr I2 (.inr #[o,hH]);have ho:s1.heap.get? a=ba o:=(show ObjOk X.prog X.w H2 s1.heap a (.frz o (dP X.w a xs))from I2.hok a _ hH).1
   obtain⟨_,hsm,_,o',es,ep,q1,q2,q3,q4⟩:=id d;rw[ho]at q1;cases q1;refine pz hsm #[o,ho,q2,q3] ?_;refine#[s1.heap.objs.size,[s1.heap.objs.size],_,_,H2,rfl,I2.kept (t':=s1.toks) λb o e=>HP _ e,uH a _ q2 q3 q4,#[_,Ij _ rfl,rfl,rfl],λb hb=>?_,hq _ _ A1 (e1.trans ex) so2 (xq hH kr)]
   have e:b=s1.heap.objs.size:=by simpa using hb
   subst e;exact I2.fpOk (Ih _) (I2.hok.fresh (Ih _))
 ·have:fm f ρ S=Ao f ρ S:=by
   unfold fm Ao;cases hf:f ρ S with
   | none=>rfl
   | some p=>
    obtain⟨w,S1⟩:=p;cases w with
    | ref r=>
     cases h2:gZ S1 r with
     | some _=>simp only[h2]
     | none=>
      cases h3:jn S1 r with
      | none=>simp only[h2,h3]
      | some kvs=>exact absurd #[r,S1,kvs,hf,h2,h3] hd
    | _=>rfl
  rw[this]at e;exact C3 h pins s σ H R I #[A,ρ,S,mi,S',er,so,e,hq]
end
noncomputable def bL (mi:MI)(g:FG)(c:FT)(f:FE):HW->HW->Fm->aa->HU (HK W×aa)
 | 0,i,_,S=>match mi.at S i with
  | some K3=>ba ([],S)
  | _=>K3
 | n+1,i,ρ,S=>match mi.at S i with
  | some (ba w)=>match g w ρ S with
   | some (ρ1,S1)=>match c ρ1 S1 with
    | some (true,S2)=>match f ρ1 S2 with
     | some (y,S3)=>match bL mi g c f n (i+1) ρ1 S3 with
      | some (ys,S4)=>ba (y::ys,S4)
      | none=>K3
     | none=>K3
    | some (false,S2)=>bL mi g c f n (i+1) ρ1 S2
    | none=>K3
   | none=>K3
  | _=>K3
noncomputable def eT (cap:HK (HU HW))(ρ:Fm):Fm:=cap.map λo=>match o with
 | some j=>(ρ[j]?).join
 | none=>K3
noncomputable def kC (fi:FI)(g:FG)(c:FT)(f:FE)(cap:HK (HU HW)):FE:=λρ S=>match fi ρ S with
 | some (mi,S1)=>match mi.len S1 with
  | some n=>match bL mi g c f n 0 (eT cap ρ) S1 with
   | some (ys,S2)=>lB S2 ys
   | none=>K3
  | none=>K3
 | none=>K3
noncomputable def Bx:FT:=λ_ S=>ba (true,S)
noncomputable def lx (X:Cx)(scope:Ld)(cl:HK (Iv×HX))(C:HX)(N:HK Iv)(s0:HQ)(H0:Hp)(ex:HK HX):Cx:=
 { X with env:=compEnvC scope cl C X.env,N:=N,s₀:=s0,H₀:=H0,outer:=X.stack,stack:=X.stack,ex:=ex,fn:=λ_=>false,pn:=[],xe:=λ_ _=>JF }
structure CompOk (X:Cx)(scope:Ld)(cl:HK (Iv×HX))(N:HK Iv)(cap:HK (HU HW)):Prop where
 clos:closureFor scope X.env=pure cl
 kind:scope.kind=.function
 names:∀y∈scope.names,y.2=.local->scope.names.lookup y.1=ba .local
 nocell:∀y∈scope.names,y.2≠.cell
 sub:∀x c,cl.lookup x=ba c->X.env.cells.lookup x=ba c
 has:∀x,((relabel scope X.env).names.lookup x=ba .cell\/(relabel scope X.env).names.lookup x=ba .free)->∃c,cl.lookup x=ba c
 len:cap.length=N.length
 cap:∀(i j:HW) (x:Iv),cap[i]?=ba (ba j)->N[i]?=ba x->X.N[j]?=ba x/\(X.env.kindOf x=ba .cell\/X.env.kindOf x=ba .free)/\((relabel scope X.env).names.lookup x=ba .cell\/(relabel scope X.env).names.lookup x=ba .free)
theorem gh {prog:IM}{w:IU}{A:IQ}{R:OV->HQ->Prop}{s:HQ}{elt target iter:Iz}{ifs:HK Iz}{scope:Ld}{pos:KA}{it acc:HM}{env:Ow}(I:HW->HQ->Prop)
    (turn:∀n s,I n s->wpAny (model prog w) A (pyNext it) (λr s₁=>match r with
      | none=>R (.ok .next) s₁
      | some v=>wpAny (model prog w) A (letOwnedTupleGo target it v) (λ_ s₁=>wpAny (model prog w) A (assign target env v) (λ_ s₂=>
          wpAny (model prog w) A (forIn ifs true λc r=>if r=true then do let ok <- isTrue c env (eval c env); pure (J1 ok)else pure (J1 r)) (λok s₃=>
            if ok=true then wpAny (model prog w) A (eval elt env) (λx s₄=>
              wpAny (model prog w) A (call (.builtin "list.append") [acc,x]) (λ_ s₅=>∃m,m < n/\I m s₅) (λ_ _=>JF) s₄) (λ_ _=>JF) s₃
            else ∃m,m < n/\I m s₃) (λ_ _=>JF) s₂) (λ_ _=>JF) s₁) (λ_ _=>JF) s₁) (λ_ _=>JF) s)
    (n:HW) (h:I n s) :
    codeAny (model prog w) A (.compLoop (.ListComp elt [#[target,iter,ifs,0]] scope pos) 0 it acc env) R s:=by
  refine codeAny_loop rfl I (λn s hI=>?_) n h
  show wpAny _ A ((compTurn (.ListComp elt [#[target,iter,ifs,0]] scope pos) 0 it acc env).onRaise (λx=>do noteFrame x env; theTreesLotGoes x)) _ _ s
  refine wpAny_noted ?_;rw[compTurn_list];refine HL (L6 (HL (J2 (turn n s hI) (λr s₁ h₁=>?_) λ_ _ h'=>h'.elim)))
  cases r with
  | none=>exact HR h₁
  | some v=>
    refine HL (J2 h₁ (λ_ s₁ h₁=>?_) λ_ _ h'=>h'.elim)
    refine HL (J2 h₁ (λ_ s₂ h₂=>HL (J2 h₂ (λok s₃ h₃=>?_) λ_ _ h'=>h'.elim)) λ_ _ h'=>h'.elim)
    cases ok with
    | false=>exact HR #[rfl,h₃]
    | true=>
      exact HL (HL (J2 h₃ (λx s₄ h₄=>HL (J2 h₄ (λ_ s₅ h₅=>HR (HR #[rfl,h₅])) λ_ _ h'=>h'.elim)) λ_ _ h'=>h'.elim))
section
variable{X:Cx}{pins:HK (HX×JR)}{σ:L2.St}{H:Hp}{s:HQ}
theorem Inv.adopt {D:HX}{o:HO}(I:Inv X pins σ H s)(hn:H D=K3)(h1:D∈X.ex\/X.s₀.heap.objs.size<=D)(hL:D≠X.env.locals)(h2:∀x c,X.env.cells.lookup x=ba c->c≠D)(h3:∀p∈X.pn++pins,p.1≠D)
  (new:ObjOk X.prog X.w (bP H D o) s.heap D o):Inv X pins σ (bP H D o) s:=by
 have nit:∀b u,H b=ba u->b≠D:=λb u e z=>by rw[z,hn]at e; cases e
 have key:Inv X pins σ (bP H D o) { s with heap:=s.heap,gens:=s.gens,drawn:=s.drawn,toks:=s.toks }:=by
  refine I.step (g':=s.gens) (d':=s.drawn) (t':=s.toks) (h':=s.heap) (ch:=[D]) (λb hb=>?_) (λb o _ _ hc e _=>e) (λb o _ _ hc e _=>#[o.slots,e]) (λb o hc e n=>?_)
   (λb o hc e=>#[o,e]) (λb xs e=>?_) (λb o xs e=>?_) (λb ps e=>#[#[],?_]) (λm hm=>hm) (λb u e=>?_) I.bare
  ·have e:b=D:=by simpa using hb
   subst e;exact#[h1,hL,h2,h3]
  ·rw[aK (λz=>hc (by simp[z]))]; exact n
  ·rw[aK (nit b _ e)]; exact e
  ·rw[aK (nit b _ e)]; exact e
  ·rw[aK (nit b _ e),e]; simp
  ·by_cases hb:b=D
   ·subst hb; rw[bf]at e; cases e; exact new
   ·rw[aK hb]at e;refine(I.hok b u e).stay (λc v hc q=>q) (λc q=>?_) λc xs q=>?_
    ·rw[aK (nit c _ q)]; exact q
    ·rw[aK (nit c _ q)]; exact q
 exact key
theorem C6 {scope:Ld}{cl:HK (Iv×HX)}{N:HK Iv}{cap:HK (HU HW)}{C:HX}{s0:HQ}{ex:HK HX}(I:Inv X pins σ H s)(ck:CompOk X scope cl N cap)(hs:s.heap.objs.size<=s0.heap.objs.size)(hC:s0.heap.objs.size<=C)
  (hk:∀b o,s.heap.get? b=ba o->s0.heap.get? b=ba o) (hex:∀b∈ex,(b≠C)/\(∀x c,X.env.cells.lookup x=ba c->c≠b)/\(∀o,X.base.get? b≠ba o)/\b∉qK X.stack) :
  (lx X scope cl C N s0 H ex).Ok where
 mod:=I.ok.mod
 kind:=ck.kind
 glob:=I.ok.glob
 blt:=I.ok.blt
 above:=hC
 inj:=λx y c h1 h2=>I.ok.inj x y c (ck.sub x c h1) (ck.sub y c h2)
 has:=λx h=>ck.has x h
 cab:=λx c h=>by cases h
 hd:=I.ok.hd
 frames:=I.ok.frames
 stk:=.inl rfl
 exf:=λb hb=>#[(hex b hb).1,λx c h=>(hex b hb).2.1 x c (ck.sub x c h)]
 bs:=λb o e=>#[hk b o (I.bk b o e),(I.bs b o e).2]
 bsz:=Jh (Jh I.ok.bsz I.sz) hs
 noex:=λb o e hb=>(hex b hb).2.2.1 o e
 exfs:=λb hb=>(hex b hb).2.2.2
 funs:=I.stack.of_keeps λb o e _=>#[o,hk b o e,rfl]
 frf:=I.stkFree
structure BlockOk (X:Cx)(scope:Ld)(cl:HK (Iv×HX))(N:HK Iv)(tg elt:Iz)(ifs:HK Iz)(g:FG)(c:FT)(f:FE):Prop where
 tgt:∀C s0 H0 ex,GG (lx X scope cl C N s0 H0 ex) tg g
 tst:∀C s0 H0 ex pins s σ H Q,Inv (lx X scope cl C N s0 H0 ex) pins σ H s->tT (lx X scope cl C N s0 H0 ex) c σ H Q->
  wpAny (model X.prog X.w) X.A (forIn ifs true λc r=>if r=true then do let ok <- isTrue c (compEnvC scope cl C X.env) (eval c (compEnvC scope cl C X.env)); pure (J1 ok)else pure (J1 r)) (TP (lx X scope cl C N s0 H0 ex) pins σ Q) (λ_ _=>JF) s
 elt:∀C s0 H0 ex,GE (lx X scope cl C N s0 H0 ex) elt f
theorem nQ {prog:IM}{w:IU}{B:IQ}{s:HQ}{E:HM->HQ->Prop}{Q:HM->HQ->Prop}{D:HX}{its:HK HM}{n:HW}{u:HM}(e:s.heap.get? D=ba { cls:=.type "list",data:=.seq its.toArray n })(hz:its.length < sizeLine)
  (h:∀h' n',h'.get? D=ba { cls:=.type "list",data:=.seq (its++[u]).toArray n' }->(∀b o,b≠D->s.heap.get? b=ba o->h'.get? b=ba o)->Q .none { s with heap:=h' }) :
  wpAny (model prog w) B (call (.builtin "list.append") [.ref D,u]) Q E s:=by
 refine Mx F.slot_list_append #[_,e,rfl] F.entry_list_append (F.args_list_append_2 _ _) (OE D its.toArray n u (by rw[Ii]; omega)) #[e,?_]
 have q:=OY e (λa=>a.push u)
 have e2:its.toArray.push u=(its++[u]).toArray:=by simp
 rw[e2]at q;exact h _ _ q (λb o hb ho=>(IX s.heap (JK λa=>a.push u) (Ne.symm hb)).trans ho)
theorem mK {scope:Ld}{cl:HK (Iv×HX)}{N:HK Iv}{cap:HK (HU HW)}{tg elt iter:Iz}{ifs:HK Iz}{g:FG}{c:FT}{f:FE}{pos:KA}{A:HK HX}{ρ:Fm}{S S':aa}{mi:MI}{n:HW}{ws:HK W}{E:HM->HQ->Prop}
  {it:HX} {fp:HK HX} {tn:HW->Jc->Prop} {J:It} {RR:HM->HX->OV->HQ->Prop}
  (I:Inv X pins σ H s) (hc:X.calm=true) (er:EnvRel X.K A H ρ σ) (so:StoreOk X.w X.K A H S) (ck:CompOk X scope cl N cap) (bk:BlockOk X scope cl N tg elt ifs g c f)
  (T:Turn X.prog X.w X.K tg J fp it tn) (t0:tn 0 s.heap) (hfp:∀b∈fp,iO X pins H b) (mit:MIt X.w X.K mi J A H) (e:bL mi g c f n 0 (eT cap ρ) S=ba (ws,S')) (hz:ws.length<=sizeLine)
  (fin:∀D C s' H' A' vs m,s'.heap.Ns C m->H' D=K3->D≠C->C≠X.env.locals->C∉X.fs->H' C=K3->X.s₀.heap.objs.size<=C->(∀x c,X.env.cells.lookup x=ba c->c≠C)->(∀p∈X.pn++pins,p.1≠C)->
   Inv X pins σ (bP H' D (.lst vs)) s'->Ext X.K A H A' H'->StoreOk X.w X.K A' H' S'->RelL X.K A' H' ws vs->RR (.ref D) C (.ok .next) s') :
  wpAny (model X.prog X.w) X.A (newList []) (λacc s₃=>wpAny (model X.prog X.w) X.A (newFunctionEnv scope X.env.globals cl [] X.env.qual K3 .none (ba X.env)) (λcenv s₄=>
   codeAny (model X.prog X.w) X.A (.compStart (.ListComp elt [#[tg,iter,ifs,0]] scope pos) 0 (.ref it) acc { cenv with scope:=relabel scope X.env }) (RR acc cenv.locals) s₄) E s₃) E s:=by
 refine IV (wpAny_newFunctionEnv ck.nocell (by intro y hy; simp at hy) (λh₁ hns₁ hsb₁=>?_) ck.kind)
 dsimp only at hns₁ hsb₁ ⊢;generalize hH2:s.heap.push { cls:=.type "list",dict:=K3,data:=.seq ([]:HK HM).toArray }=h2 at hns₁ hsb₁ ⊢;have hCs:h2.objs.size=s.heap.objs.size+1:=by rw[<- hH2,K1]
 have k2:∀b o,s.heap.get? b=ba o->h2.get? b=ba o:=λb o z=>hH2 ▸ HP _ z
 have lt2:∀b o,h2.get? b=ba o->b < h2.objs.size:=λb o z=>Io z
 have k1:∀b o,h2.get? b=ba o->h₁.get? b=ba o:=λb o z=>hsb₁.extBut b o (Iy (lt2 b o z)) (HP _ z)
 have hD2:h2.get? s.heap.objs.size=ba { cls:=.type "list",data:=.seq ([]:HK HM).toArray }:=hH2 ▸ Ij _ rfl;have hDC:s.heap.objs.size≠h2.objs.size:=by rw[hCs]; omega
 have fresh:∀a,s.heap.objs.size<=a->H a=K3:=λa ha=>I.hok.fresh ha
 have cellLt:∀x c,X.env.cells.lookup x=ba c->c < s.heap.objs.size:=λx c z=>let ⟨_,q⟩:=I.cell x c z; q.lt
 have fpLt:∀b∈fp,b < s.heap.objs.size:=λb hb=>let ⟨_,q,_⟩:=T.obj 0 s.heap t0 b hb; Io q
 have stkLt:∀b∈qK X.stack,b < s.heap.objs.size:=λb hb=>let ⟨_,o,q,_⟩:=I.stack.mem hb; Io q
 have baseLt:∀b o,X.base.get? b=ba o->b < s.heap.objs.size:=λb o z=>Io (I.bk b o z)
 have fpStk:∀b∈fp,b∉qK X.stack:=λb hb z=>by
  rcases IE.mp (I.stkSub b z)with q|q
  ·exact(hfp b hb).2.1 q
  ·exact(hfp b hb).2.2.1 q
 have fpBase:∀b∈fp,∀o,X.base.get? b≠ba o:=λb hb o z=>by
  rcases(hfp b hb).2.2.2.1 with q|q
  ·exact I.ok.noex b o z q
  ·exact absurd (IG (Io (I.ok.bs b o z).1) q) (JM _)
 have ltC:∀ {b:HX},b < s.heap.objs.size->b≠h2.objs.size:=λhb=>by rw[hCs]; exact Iy (KO hb)
 let s3:HQ:={ s with heap:=h2 }
 have ok':(lx X scope cl h2.objs.size N s3 H (fp++[s.heap.objs.size])).Ok:=by
  refine C6 I ck (show s.heap.objs.size<=h2.objs.size by rw[hCs]; omega) (Ih _) k2 λb hb=>?_
  rcases IY.mp hb with hb|hb
  ·exact#[ltC (fpLt b hb),(hfp b hb).2.2.2.2.1,fpBase b hb,fpStk b hb]
  ·have eb:b=s.heap.objs.size:=by simpa using hb
   subst eb;exact#[hDC,λx c z=>Iy (cellLt x c z),λo z=>JM _ (baseLt _ o z),λz=>JM _ (stkLt _ z)]
 obtain⟨m0,hn0,hl0⟩:=I.loc;have I0:Inv (lx X scope cl h2.objs.size N s3 H (fp++[s.heap.objs.size])) [] (cap.map λo=>match o with|some j=>(σ[j]?).join|none=>K3) H { s3 with heap:=h₁,toks:=s3.toks+([]:HK (Iv×HM)).length }:=by
  refine#[ok',rfl,I.bare,Un.kept k1,#[_,hns₁,λi x v e1 e2 e3=>?_],λx cc z=>?_,fresh _ (show s.heap.objs.size<=h2.objs.size by rw[hCs]; exact KN _),λx cc z=>I.freeC x cc (ck.sub x cc z),λp hp=>absurd hp (by simp[lx]),(I.hok.kept k2).kept k1,by rw[HN]; exact ck.len]
  ·rw[HY]at e2;cases q:cap[i]? with
   | none=>rw[q]at e2; cases e2
   | some oj=>
    rw[q]at e2;cases oj with
    | none=>cases e2
    | some j=>
     obtain⟨z1,z2,z3⟩:=ck.cap i j x q e1;have e2':(σ[j]?).join=ba v:=by simpa using e2
     have e2'':σ[j]?=ba (ba v):=by
      cases r:σ[j]? with
      | none=>rw[r]at e2'; cases e2'
      | some y=>rw[r]at e2'; exact congrArg ba e2'
     obtain⟨u,ru,lk⟩:=hl0 j x v z1 e2'' (by
      rcases z2 with z|z
      ·exact .inr (.inl z)
      ·exact .inr (.inr z))
     refine#[u,ru,?_];rcases lk with⟨zk,_⟩|⟨_,cc,zc,zi⟩
     ·rcases z2 with z|z <;> (rw[zk]at z; cases z)
     ·obtain⟨c2,hc2⟩:=ck.has x z3;have:=ck.sub x c2 hc2;rw[zc]at this; cases this
      refine .inr #[z3,cc,hc2,?_];obtain⟨o,ho,hd⟩:=zi;exact#[o,k1 _ _ (k2 _ _ ho),hd]
  ·obtain⟨v,o,ho,hd⟩:=I.cell x cc (ck.sub x cc z);exact#[v,o,k1 _ _ (k2 _ _ ho),hd]
 have er0:EnvRel X.K A H (eT cap ρ) (cap.map λo=>match o with|some j=>(σ[j]?).join|none=>K3):=by
  refine#[by simp[eT],λi w q=>?_]
  unfold eT at q;rw[HY]at q ⊢;cases r:cap[i]? with
  | none=>rw[r]at q; cases q
  | some oj=>
   rw[r]at q;cases oj with
   | none=>cases q
   | some j=>
    have q':(ρ[j]?).join=ba w:=by simpa using q
    have q'':ρ[j]?=ba (ba w):=by
     cases z:ρ[j]? with
     | none=>rw[z]at q'; cases q'
     | some y=>rw[z]at q'; exact congrArg ba q'
    obtain⟨v,z1,z2⟩:=er.2 j w q'';exact#[v,by simp[z1],z2]
 have t1:tn 0 h₁:=T.keep 0 s.heap h₁ t0 λb hb o z=>k1 b o (k2 b o z)
 have fpOk':∀ {H':Hp} {pp:HK (HX×JR)},(∀b∈fp,H' b=K3)->(∀p∈pp,p.1=s.heap.objs.size)->∀b∈fp,iO (lx X scope cl h2.objs.size N s3 H (fp++[s.heap.objs.size])) pp H' b:=λhn hp b hb=>
  #[hn b hb,ltC (fpLt b hb),fpStk b hb,.inl (J3 _ hb),λx cc z=>(hfp b hb).2.2.2.2.1 x cc (ck.sub x cc z),λp hpp=>by
   rw[hp p (by simpa [lx]using hpp)]
   exact(Iy (fpLt b hb)).symm]
 have DinEx:s.heap.objs.size∈fp++[s.heap.objs.size]:=IL _ (by simp)
 have cellD:∀x c,cl.lookup x=ba c->c≠s.heap.objs.size:=λx cc z=>Iy (cellLt x cc (ck.sub x cc z))
 have fpD:∀b∈fp,b≠s.heap.objs.size:=λb hb=>Iy (fpLt b hb)
 have theEnd:∀s' σ' H' A' vs its nn,Inv (lx X scope cl h2.objs.size N s3 H (fp++[s.heap.objs.size])) [] σ' H' s'->s'.heap.get? s.heap.objs.size=ba { cls:=.type "list",data:=.seq its nn }->∀(hits:∃l:HK HM,its=l.toArray/\Vals vs l),H' s.heap.objs.size=K3->Ext X.K A H A' H'->StoreOk X.w X.K A' H' S'->RelL X.K A' H' ws vs->
   RR (.ref s.heap.objs.size) h2.objs.size (.ok .next) s':=by
  intro s' σ' H' A' vs its nn I' hD hits hDn ex so' rl;obtain⟨l,rfl,rv⟩:=hits;obtain⟨m,hn,_⟩:=id I'.loc;have un:Un (qK X.stack) (fp++[s.heap.objs.size]) H H' s.heap s'.heap:=(Un.kept k2).trans I'.base;have hch:∀b∈fp++[s.heap.objs.size],(b∈X.ex\/X.s₀.heap.objs.size<=b)/\b≠X.env.locals/\(∀x c,X.env.cells.lookup x=ba c->c≠b)/\∀p∈X.pn++pins,p.1≠b:=λb hb=>by
   rcases IY.mp hb with hb|hb
   ·exact#[(hfp b hb).2.2.2.1,(hfp b hb).2.1,(hfp b hb).2.2.2.2.1,(hfp b hb).2.2.2.2.2]
   ·have eb:b=s.heap.objs.size:=by simpa using hb
    subst eb;exact#[.inr I.sz,(Iy I.lt).symm,λx cc z=>Iy (cellLt x cc z),λp hp=>Iy (Io (I.pin p hp).1)]
  have I2:Inv X pins σ H' s':=I.call' (show s'.os=s.os from I'.os) un I'.hok I'.bare hch
  have I3:Inv X pins σ (bP H' s.heap.objs.size (.lst vs)) s':=Inv.adopt I2 hDn (hch _ DinEx).1 (hch _ DinEx).2.1 (hch _ DinEx).2.2.1 (hch _ DinEx).2.2.2 #[by rw[<- rl.length]; exact hz,l,nn,rv,hD]
  have hCle:s.heap.objs.size<=h2.objs.size:=by rw[hCs]; exact KN _
  exact fin _ _ s' H' A' vs m hn hDn hDC (Kj (IG I.lt hCle)) (I.nofs hCle) I'.free (Jh I.sz hCle) (λx cc z=>Iy (IG (cellLt x cc z) hCle))
   (λp hp=>Iy (IG (Io (I.pin p hp).1) hCle)) I3 ex so' rl
 have loop:∀s4:HQ,s4={ s3 with heap:=h₁,toks:=s3.toks+([]:HK (Iv×HM)).length }->
   codeAny (model X.prog X.w) X.A (.compLoop (.ListComp elt [#[tg,iter,ifs,0]] scope pos) 0 (.ref it) (.ref s.heap.objs.size) (compEnvC scope cl h2.objs.size X.env)) (RR (.ref s.heap.objs.size) h2.objs.size) s4:=by
  rintro s4 rfl;refine gh (λk s5=>∃i σ5 H5 A5 ρ5 S5 done its nn vs ys,Inv (lx X scope cl h2.objs.size N s3 H (fp++[s.heap.objs.size])) [] σ5 H5 s5/\tn i s5.heap/\(∀b∈fp,H5 b=K3)/\s5.heap.get? s.heap.objs.size=ba { cls:=.type "list",data:=.seq (its:HK HM).toArray nn }/\H5 s.heap.objs.size=K3/\Vals vs its/\
   Ext X.K A H A5 H5/\EnvRel X.K A5 H5 ρ5 σ5/\StoreOk X.w X.K A5 H5 S5/\RelL X.K A5 H5 done vs/\ws=done++ys/\bL mi g c f k i ρ5 S5=ba (ys,S')) ?_ n
   #[0,_,H,A,_,S,[],[],0,[],ws,I0,t1,λb hb=>(hfp b hb).1,k1 _ _ hD2,fresh _ (Ih _),.nil,.refl,er0,so,.nil,rfl,e]
  rintro k s5 ⟨i,σ5,H5,A5,ρ5,S5,done,its,nn,vs,ys,I5,t5,f5,d5,n5,v5,e5,er5,so5,rl5,hw5,w5⟩;have pinD:Inv (lx X scope cl h2.objs.size N s3 H (fp++[s.heap.objs.size])) [(s.heap.objs.size,{ cls:=.type "list",data:=.seq its.toArray nn })] σ5 H5 s5:=I5.pins_of λp hp=>by
   have hp':p=(s.heap.objs.size,{ cls:=.type "list",data:=.seq its.toArray nn }):=by simpa using hp
   subst hp';exact#[d5,n5,hDC,λz=>JM _ (stkLt _ z),λv z=>by cases z]
  have oneD:∀p∈[(s.heap.objs.size,({ cls:=.type "list",data:=.seq its.toArray nn }:JR))],p.1=s.heap.objs.size:=λp hp=>by
   have hp':p=(s.heap.objs.size,{ cls:=.type "list",data:=.seq its.toArray nn }):=by simpa using hp
   rw[hp']
  cases k with
  | zero=>
   simp only[bL]at w5;split at w5
   ·rename_i hst;cases w5;rw[Kw]at hw5;subst hw5;refine bJ (T.done (lx X scope cl h2.objs.size N s3 H (fp++[s.heap.objs.size])) rfl rfl rfl hc i _ s5 σ5 H5 _ pinD (fpOk' f5 oneD) t5 (mit.stop A5 H5 _ i e5 so5 hst)) λr s6 #[hr,I6]=>?_
    subst hr;have p6:=I6.pin _ (IL _ (Ir.mpr rfl));exact theEnd s6 σ5 H5 A5 vs _ nn (I6.pins_of λp hp=>absurd hp (by simp)) p6.1 #[its,rfl,v5] n5 e5 so5 rl5
   ·cases w5
  | succ k=>
   simp only[bL]at w5;split at w5
   ·rename_i w hw;obtain⟨go,yl⟩:=mit.go A5 H5 S5 i w e5 so5 hw;refine bJ (T.item (lx X scope cl h2.objs.size N s3 H (fp++[s.heap.objs.size])) rfl rfl rfl hc i _ s5 σ5 H5 _ pinD (fpOk' f5 oneD) t5 go) λr s6 #[u,hr,h6]=>?_
    subst hr;refine bJ h6 λ_ s7 #[x,H7,I7,r7,y7,t7,f7]=>?_
    obtain⟨x1,x2,x3⟩:=yl x H7 y7;have I7':=I7.pinned (fpOk' f7 oneD) (T.obj _ _ t7);split at w5
    ·rename_i ρ8 S8 h8;refine bJ (bk.tgt _ _ _ _ _ s7 σ5 H7 x u (λσ' H'=>∃A',Ext X.K A5 H5 A' H'/\StoreOk X.w X.K A' H' S8/\EnvRel X.K A' H' ρ8 σ') I7' r7 #[A5,ρ5,S5,w,ρ8,S8,er5.mono x1,x2,x3,h8,λσ' H' A' q1 q2 q3=>#[A',x1.trans q1,q2,q3]]) λ_ s8 #[σ8,H8,I8,A8,e58,so8,er8]=>?_
     have e8:Ext X.K A H A8 H8:=e5.trans e58;have pD:∀ {σ':L2.St} {H':Hp} {s':HQ},Inv (lx X scope cl h2.objs.size N s3 H (fp++[s.heap.objs.size])) ([(s.heap.objs.size,{ cls:=.type "list",data:=.seq its.toArray nn })]++iP fp s7.heap) σ' H' s'->s'.heap.get? s.heap.objs.size=ba { cls:=.type "list",data:=.seq its.toArray nn }/\H' s.heap.objs.size=K3:=λI'=>
      let q:=I'.pin _ (IL _ (J3 _ (Ir.mpr rfl)))
      #[q.1,q.2.1]
     have pF:∀ {σ':L2.St} {H':Hp} {s':HQ},Inv (lx X scope cl h2.objs.size N s3 H (fp++[s.heap.objs.size])) ([(s.heap.objs.size,{ cls:=.type "list",data:=.seq its.toArray nn })]++iP fp s7.heap) σ' H' s'->(∀b∈fp,H' b=K3)/\∀b∈fp,∀o,s7.heap.get? b=ba o->s'.heap.get? b=ba o:=λI'=>
      #[λb hb=>by
       obtain⟨o,eo,_⟩:=T.obj _ _ t7 b hb;exact(I'.pin (b,o) (IL _ (IL _ (eN hb eo)))).2.1,
       λb hb o eo=>(I'.pin (b,o) (IL _ (IL _ (eN hb eo)))).1]
     split at w5
     ·rename_i S9 h9;refine bJ (bk.tst _ _ _ _ _ s8 σ8 H8 (λb H'=>b=true/\∃A',Ext X.K A8 H8 A' H'/\StoreOk X.w X.K A' H' S9) I8 #[A8,ρ8,S8,true,S9,er8,so8,h9,λb H' #[z0,A',z1,z2]=>#[z0,A',z1,z2]]) λb s9 #[H9,I9,z0,A9,e9,so9]=>?_
      subst z0;rw[Ix rfl];split at w5
      ·rename_i y S10 h10;split at w5
       ·rename_i ys' S4 h11;cases w5;refine bJ (bk.elt _ _ _ _ _ s9 σ8 H9 (EndV X.w X.K A9 H9 S10 y) I9 #[A9,ρ8,S9,y,S10,er8.mono e9,so9,h10,λ_ _ z=>z]) λu10 s10 #[v10,H10,I10,r10,A10,e10,so10,rl10]=>?_
        obtain⟨d10,n10⟩:=pD I10;obtain⟨f10,k10⟩:=pF I10;have hlen:its.length < sizeLine:=by
         have l1:=v5.length;have l2:=rl5.length;rw[hw5,Im,JC]at hz;omega
        refine nQ d10 hlen λh' n' hd' hk'=>?_
        have Ib:Inv (lx X scope cl h2.objs.size N s3 H (fp++[s.heap.objs.size])) [] σ8 H10 { s10 with heap:=h' }:=by
         have Ia:Inv (lx X scope cl h2.objs.size N s3 H (fp++[s.heap.objs.size])) [] σ8 H10 s10:=I10.pins_of λp hp=>absurd hp (by simp)
         exact Ia.turned (t':=s10.toks) (it:=s.heap.objs.size) hk' n10 hDC (.inl DinEx) cellD (λp hp=>absurd hp (by simp[lx]))
        refine#[k,J6 k,i+1,σ8,H10,A10,ρ8,S10,done++[y],its++[u10],n',vs++[v10],ys',Ib,?_,f10,hd',n10,v5.append #v[r10],(e8.trans e9).trans e10,(er8.mono e9).mono e10,so10,?_,?_,h11]
        ·exact T.keep (i+1) s7.heap h' t7 λb hb o eo=>hk' b o (fpD b hb) (k10 b hb o eo)
        ·exact(rl5.mono ((e58.trans e9).trans e10)).append #v[rl10]
        ·rw[hw5,Kt]; rfl
       ·cases w5
      ·cases w5
     ·rename_i S9 h9;refine bJ (bk.tst _ _ _ _ _ s8 σ8 H8 (λb H'=>b=false/\∃A',Ext X.K A8 H8 A' H'/\StoreOk X.w X.K A' H' S9) I8 #[A8,ρ8,S8,false,S9,er8,so8,h9,λb H' #[z0,A',z1,z2]=>#[z0,A',z1,z2]]) λb s9 #[H9,I9,z0,A9,e9,so9]=>?_
      subst z0;rw[IK IA];obtain⟨d9,n9⟩:=pD I9;obtain⟨f9,k9⟩:=pF I9;refine#[k,J6 k,i+1,σ8,H9,A9,ρ8,S9,done,its,nn,vs,ys,I9.pins_of λp hp=>absurd hp (by simp),T.keep (i+1) s7.heap _ t7 k9,f9,d9,n9,v5,e8.trans e9,er8.mono e9,so9,rl5.mono (e58.trans e9),hw5,w5]
     ·cases w5
    ·cases w5
   ·cases w5
 exact codeAny_compStart_list (loop _ rfl) (T.self X.A 0 _ _ _ t1 (loop _ rfl))
theorem pZ {fi:FI}{g:FG}{c:FT}{f:FE}{cap:HK (HU HW)}{ρ:Fm}{S:aa}{w:W}{S':aa}(e:kC fi g c f cap ρ S=ba (w,S')) :
  ∃mi S1 n ys S2,fi ρ S=ba (mi,S1)/\mi.len S1=ba n/\bL mi g c f n 0 (eT cap ρ) S1=ba (ys,S2)/\ys.length<=sizeLine/\w=.ref S2.length/\S'=S2++[.lst ys]:=by
 unfold kC at e;split at e
 ·rename_i mi S1 h1;split at e
  ·rename_i n h2;split at e
   ·rename_i ys S2 h3;obtain⟨h4,h5,h6⟩:=jO e;exact#[mi,S1,n,ys,S2,h1,h2,h3,h4,h5,h6]
   ·cases e
  ·cases e
 ·cases e
theorem Ay {scope:Ld}{N:HK Iv}{cap:HK (HU HW)}{tg elt iter:Iz}{ifs:HK Iz}{fi:FI}{g:FG}{c:FT}{f:FE}{pos:KA}(hc:X.calm=true)(hi:GI X tg iter fi)(hck:X.Ok->∃cl,CompOk X scope cl N cap/\BlockOk X scope cl N tg elt ifs g c f)
  (hs:∀x,foldedSetIterable iter X.env x=pure x):GE X (.ListComp elt [#[tg,iter,ifs,0]] scope pos) (kC fi g c f cap):=by
 intro pins s σ H Q I ⟨A,ρ,S,w,S',er,so,e,hq⟩;obtain⟨mi,S1,n,ys,S2,h1,h2,h3,h4,rfl,rfl⟩:=pZ e;obtain⟨cl,ck,bk⟩:=hck I.ok;rw[eval_ListComp];refine M2 (use:=K3) rfl hs ck.clos ck.kind ck.names (bJ (hi pins s σ H (λJ H'=>∃A',Ext X.K A H A' H'/\StoreOk X.w X.K A' H' S1/\MIt X.w X.K mi J A' H') I #[A,ρ,S,mi,S1,er,so,h1,λJ H' A' z1 z2 z3=>#[A',z1,z2,z3]]) λv s1 q1=>bJ q1 λitv s2 q2=>?_)
 obtain⟨it,fp,tn,J,H2,rfl,I2,T,t0,hfp,A2,e2,so2,mit⟩:=q2;refine mK (RR:=λacc C=>compPost (model X.prog X.w) X.A X.xe K3 (EP X pins σ Q) acc C) I2 hc (er.mono e2) so2 ck bk T t0 hfp mit h3 h4 ?_
 intro D C s' H' A' vs m hn hDn hDC hCL hCf hCn hCs hCc hCp I3 ex so3 rl;refine#[m,hn,λh' hs'=>?_]
 have I4:Inv X pins σ (bP H' D (.lst vs)) { s' with heap:=h' }:=I3.turned (t':=s'.toks) (it:=C) (λb o hb eo=>hs'.extBut b o hb eo) (by rw[aK (Ne.symm hDC)]; exact hCn) hCL (.inr hCs) hCc hCp
 exact#[.ref D,_,I4,rfl,hq _ _ (EndV.after (e2.trans ex) (.lst so3 rl hDn))]
theorem rF {scope:Ld}{N:HK Iv}{cap:HK (HU HW)}{tg elt iter:Iz}{ifs:HK Iz}{fi:FI}{g:FG}{c:FT}{f:FE}{pos py spos:KA}{y:Iv}{i:HW}(hc:X.calm=true)(hi:GI X tg iter fi)(hck:X.Ok->∃cl,CompOk X scope cl N cap/\BlockOk X scope cl N tg elt ifs g c f)
  (hs:∀x,foldedSetIterable iter X.env x=pure x) (hsw:swapsWith (.ListComp elt [#[tg,iter,ifs,0]] scope pos) (ba (.Name y py)) spos.line X.env=pure true) (hN:X.N.Nodup) (hy:X.N[i]?=ba y) (hl:X.env.scope.names.lookup y=ba .local) :
  GS X (.Assign [.Name y py] (.ListComp elt [#[tg,iter,ifs,0]] scope pos) spos) (kB (kC fi g c f cap) (Al i)):=by
 intro pins s σ H Dd I ⟨A,ρ,S,o,S',er,so,e,hd⟩;unfold kB at e;split at e
 ·rename_i w S0 h0;simp only[Al]at e;cases e;obtain⟨mi,S1,n,ys,S2,h1,h2,h3,h4,rfl,rfl⟩:=pZ h0;obtain⟨cl,ck,bk⟩:=hck I.ok;rw[exec_Assign_Name_used _ _ _ _ hsw];refine HL (L6 (HL ?_));show wpAny _ X.A (do let _ <- comprehension (.ListComp elt [⟨tg,iter,ifs,0⟩] scope pos) scope X.env _ (newList []) false (eval iter X.env) (ba (assign (.Name y py) X.env))) _ _ s
  refine HL (J2 (M2 (use:=ba (assign (.Name y py) X.env)) (Q:=λ_ s'=>SP X pins Dd .next s') rfl hs ck.clos ck.kind ck.names
   (bJ (hi pins s σ H (λJ H'=>∃A',Ext X.K A H A' H'/\StoreOk X.w X.K A' H' S1/\MIt X.w X.K mi J A' H') I #[A,ρ,S,mi,S1,er,so,h1,λJ H' A' z1 z2 z3=>#[A',z1,z2,z3]]) λv s1 q1=>bJ q1 λitv s2 q2=>?_)) (λ_ s' hq=>HR (HR hq)) λ_ _ e=>e)
  obtain⟨it,fp,tn,J,H2,rfl,I2,T,t0,hfp,A2,e2,so2,mit⟩:=q2;refine mK (RR:=λacc C=>compPost (model X.prog X.w) X.A X.xe (ba (assign (.Name y py) X.env)) (λ_ s'=>SP X pins Dd .next s') acc C) I2 hc (er.mono e2) so2 ck bk T t0 hfp mit h3 h4 ?_
  intro D C s' H' A' vs m hn hDn hDC hCL hCf hCn hCs hCc hCp I3 ex so3 rl;obtain⟨oC,esC,epC,hoC,hdC,hrC⟩:=id hn;have I3':Inv X (pins++[(C,oC)]) σ (bP H' D (.lst vs)) s':=I3.pins_of λp hp=>by
   rcases IY.mp hp with hp|hp
   ·exact I3.pin p (IL _ hp)
   ·have hp':p=(C,oC):=by simpa using hp
    subst hp';exact#[hoC,by rw[aK (Ne.symm hDC)]; exact hCn,hCL,hCf,λv z=>by rw[hdC]at z; cases z]
  show wpAny _ X.A (assign (.Name y py) X.env (.ref D)) _ _ _;refine Ox (gW I3' hN hy (.inl hl) (v:=.ref D) rfl (λs4 I4=>?_) (.inr hl))
  have pC:=I4.pin (C,oC) (IL _ (IL _ (Ir.mpr rfl)));refine#[m,#[oC,esC,epC,pC.1,hdC,hrC],λh' hs'=>?_]
  have I5:Inv X pins (σ.set i (ba (.ref D))) (bP H' D (.lst vs)) s4:=I4.pins_of λp hp=>I4.pin p (IL _ (J3 _ hp))
  have I6:Inv X pins (σ.set i (ba (.ref D))) (bP H' D (.lst vs)) { s4 with heap:=h' }:=I5.turned (t':=s4.toks) (it:=C) (λb o hb eo=>hs'.extBut b o hb eo) (by rw[aK (Ne.symm hDC)]; exact hCn) hCL (.inr hCs) hCc hCp
  obtain⟨Af,f1,f2,f3⟩:=EndV.after (e2.trans ex) (EndV.lst so3 rl hDn);exact#[_,_,I6,hd.nx _ _ #[_,Af,rfl,f1,f2,(er.mono f1).set f3 i]]
 ·cases e
end
open PySem.Builtin.SmallTypes (nextOf)
section
variable{prog:IM}{w:IU}
structure Zit (prog:IM)(w:IU)(it:HX)(T:HW->Jc->Prop)(C:Jc->Prop)(i:HW)(U:HU (HM->Prop)):Prop where
 keep:∀j h h',T j h->(∀o,h.get? it=ba o->h'.get? it=ba o)->T j h'
 next:∀V,U=ba V->∀(B:IQ) (s:HQ) (Q:HM->HQ->Prop) (E:HM->HQ->Prop),T i s.heap->C s.heap->(∀u h' tk,V u->T (i+1) h'->JZ it s.heap h'->Q u { s with heap:=h',toks:=tk })->wpAny (model prog w) B (nextOf (.ref it)) Q E s
 stop:U=K3->∀(B:IQ) (s:HQ) (Q:HM->HQ->Prop) (E:HM->HQ->Prop),B.handled=K3->T i s.heap->C s.heap->(∀h' e,NO it s.heap h'->(∃o,h'.get? e=ba o/\o.cls=.type "StopIteration")->E (.ref e) { s with heap:=h' })->wpAny (model prog w) B (nextOf (.ref it)) Q E s
variable{B:IQ}{E:HM->HQ->Prop}{s:HQ}{z p q i1 i2:HX}{T1 T2:HW->Jc->Prop}{C1 C2:Jc->Prop}{i:HW}{a b:HM}
noncomputable def Zc (z q i1 i2:HX)(C:Jc->Prop):Prop:=∀h h',C h->(∀c o,c≠z->c≠q->c≠i1->c≠i2->h.get? c=ba o->h'.get? c=ba o)->C h'
end
end Mi
namespace Mi
open PySem PySem.Spec PyProof.Rows L2
open PySem.Builtin.SmallTypes (nextOf)
noncomputable def rG (prog:IM)(w:IU)(v:HM)(o:JR)(C:Jc->Prop):Prop:=∀(B:IQ) (s:HQ) (Q:HM->HQ->Prop) (E:HM->HQ->Prop),C s.heap->Q (.ref s.heap.objs.size) { s with heap:=s.heap.push o }->wpAny (model prog w) B (pyIter v) Q E s
section
variable{prog:IM}{w:IU}{B:IQ}{E:HM->HQ->Prop}{s:HQ}{v1 v2:HM}{o1 o2:JR}{C1 C2:Jc->Prop}
end
end Mi
namespace Mi
open PySem PySem.Spec PyProof.Rows L2
open PySem.Builtin.SmallTypes (nextOf)
section
variable{prog:IM}{w:IU}{A:IQ}{E:HM->HQ->Prop}{s:HQ}
theorem ER {it t:HX}{i:HW}{items:ID HM}{x:HM}{Q:HM->HQ->Prop}(hit:s.heap.IsTupleIter it t i)(ht:s.heap.IsTuple t items)(hx:items[i]?=ba x)
  (hQ:∀h',h'.IsTupleIter it t (i+1)->JZ it s.heap h'->Q x { s with heap:=h' }):wpAny (model prog w) A (nextOf (.ref it)) Q E s:=by
 obtain⟨o,ho,hc,hd⟩:=id hit;obtain⟨ot,hot,_,nt,hdt⟩:=ht;unfold MM;refine HL (Jq (name:=Kl "__next__") hit.typeIs F.slot_tuple_iterator_next (Jr F.slot_tuple_iterator_next hit.typeIs F.entry_tuple_iterator_next ?_ (F.args_tuple_iterator_next_1 _)));show wpAny _ _ (field (.ref it) 0 >>= _) _ _ s;refine HL (Kn ho hd (x:=.ref t) rfl ?_);show wpAny _ _ (if (IR t==Ja)=true then _ else _) _ _ s
 rw[IK (show ¬ ((IR t==Ja)=true)from IA)]
 show wpAny _ _ (field (.ref it) 1 >>= _) _ _ s;refine HL (Kn ho hd (x:=.int i 0) rfl (HL (Ko hot hdt ?_)));simp only[Iu,hx];refine HL (MD ho hd (by simp) (HR #[x,rfl,HR (hQ _ #[_,JN _ ho (NH (LK hd _)),(OL ..).trans hc,?_] (KW ..))]))
 rw[LK hd]; simp[rawInt]
theorem ES {it t:HX}{i:HW}{items:ID HM}{Q:HM->HQ->Prop}(hh:A.handled=K3)(hit:s.heap.IsTupleIter it t i)(ht:s.heap.IsTuple t items)(hx:items[i]?=K3)
  (hE:∀h' e,NO it s.heap h'->(∃o,h'.get? e=ba o/\o.cls=.type "StopIteration")->E (.ref e) { s with heap:=h' }):wpAny (model prog w) A (nextOf (.ref it)) Q E s:=by
 obtain⟨o,ho,hc,hd⟩:=id hit;obtain⟨ot,hot,_,nt,hdt⟩:=ht;unfold MM;refine HL (Jq (name:=Kl "__next__") hit.typeIs F.slot_tuple_iterator_next (Jr F.slot_tuple_iterator_next hit.typeIs F.entry_tuple_iterator_next ?_ (F.args_tuple_iterator_next_1 _)));show wpAny _ _ (field (.ref it) 0 >>= _) _ _ s;refine HL (Kn ho hd (x:=.ref t) rfl ?_);show wpAny _ _ (if (IR t==Ja)=true then _ else _) _ _ s
 rw[IK (show ¬ ((IR t==Ja)=true)from IA)]
 show wpAny _ _ (field (.ref it) 1 >>= _) _ _ s;refine HL (Kn ho hd (x:=.int i 0) rfl (HL (Ko hot hdt ?_)));simp only[Iu,hx];refine HL (Nc (HL (MD ho hd (by simp) ?_)))
 show wpAny _ _ (newExc (.type "StopIteration") [] >>= _) _ _ _;refine HL ?_;simp only[newExc,newTuple];refine HL (IV ?_ (by size_fits))
 refine HL (m:=firstArgMember _ _) (LN (a:=Ja) (by first|rfl|(simp only[firstArgMember]; rfl)) (IV ?_ (by size_fits)))
 simp only[raiseNew];refine HL (N9 ?_)
 first|rw[show A.in1.handled=K3 from hh]|rw[hh]
 exact HL (HR (O8 (hE _ _ (((KW ..).extBut.push _).push _) #[_,Ij _ rfl,rfl])))
end
inductive Zs where|tup (a:HX)|lst (a:HX)|txt (x:Iv)
noncomputable def Zs.T (it:HX):Zs->HW->Jc->Prop
 | .tup a,i,h=>h.IsTupleIter it a i
 | .lst a,i,h=>h.IsListIter it a i
 | .txt x,i,h=>∃t,h.IsStrIter it "str_ascii_iterator" x t i\/h.IsStrIter it "str_iterator" x t i
noncomputable def Zs.at (K:Ig)(H:Hp)(i:HW)(v:V):Zs->Prop
 | .tup a=>∃xs,SqT K H a xs/\xs[i]?=ba v
 | .lst a=>∃xs,SqL K H a xs/\xs[i]?=ba v
 | .txt x=>∃c,x.cps[i]?=ba c/\v=.str #[[c].toArray]
noncomputable def Zs.out (K:Ig)(H:Hp)(i:HW):Zs->Prop
 | .tup a=>∃xs,SqT K H a xs/\xs.length<=i
 | .lst a=>∃xs,SqL K H a xs/\xs.length<=i
 | .txt x=>x.cps.size<=i
theorem Zs.keep {S:Zs}{it:HX}{j:HW}{h h':Jc}(t:S.T it j h)(k:∀o,h.get? it=ba o->h'.get? it=ba o):S.T it j h':=by
 cases S with
 | tup a=>exact t.at k
 | lst a=>exact t.at k
 | txt x=>
  obtain⟨tk,t⟩:=t;exact#[tk,t.imp (λ#[o,e,r]=>#[o,k _ e,r]) λ#[o,e,r]=>#[o,k _ e,r]]
section
variable{X:Cx}{pins:HK (HX×JR)}{σ:L2.St}{H:Hp}{s:HQ}
theorem xr (I:Inv X pins σ H s){a b:HX}{o:JR}(h:X.K.lookup a=ba o)(f:iO X pins H b):a≠b:=λz=>by
 subst z;have hb:=I.ok.mod.kin a o h;rcases f.2.2.2.1 with q|q
 ·exact I.ok.noex a o hb q
 ·exact absurd (IG (Io (I.ok.bs a o hb).1) q) (JM _)
end
end Mi
namespace Mi
open PySem PySem.Spec PyProof.Rows L2
open PySem.Builtin.SmallTypes (nextOf)
section
variable{X:Cx}{pins:HK (HX×JR)}{σ:L2.St}{H:Hp}{s:HQ}{h':Jc}
theorem xt {a b:HX}{u:HO}(h:Rd H a u)(f:H b=K3):a≠b:=λz=>by
 subst z;rcases h with h|⟨o,h⟩ <;> (rw[f]at h; cases h)
theorem Inv.turnedL {t':HW}{ch:HK HX}(I:Inv X pins σ H s)(k:∀b o,b∉ch->s.heap.get? b=ba o->h'.get? b=ba o)(hf:∀b∈ch,iO X pins H b):Inv X pins σ H { s with heap:=h',toks:=t' }:=by
 have nit:∀b u,H b=ba u->b∉ch:=λb u e z=>by have:=(hf b z).1; rw[e]at this; cases this
 refine I.step (g':=s.gens) (d':=s.drawn) (ch:=ch) (λb hb=>?_) (λb o _ _ hc e _=>k b o hc e) (λb o _ _ hc e _=>#[o.slots,k b o hc e]) (λ_ _ _ _ n=>n) (λb o hc e=>#[o,k b o hc e]) (λ_ _ e=>e) (λ_ _ _ e=>e) (λb ps e=>#[#[],by rw[e]; simp]) (λm hm=>?_) (λb u e=>?_) I.bare
 ·obtain⟨_,f1,_,f3,f4,f5⟩:=hf b hb;exact#[f3,f1,f4,f5]
 ·obtain⟨o,es,ep,ho,r⟩:=hm;exact#[o,es,ep,k _ o (λz=>(hf _ z).2.1 rfl) ho,r]
 ·refine(I.hok b u e).stay (λc v hc q=>k c v ?_ q) (λ_ q=>q) λ_ _ q=>q
  rcases hc with z|z
  ·rw[z]; exact nit b u e
  ·exact nit c _ z
theorem Zs.zit {S:Zs}{it z q i1 i2:HX}{i:HW}{U:HU V}(I:Inv X pins σ H s)(hf:∀b∈[z,q,i1,i2],iO X pins H b)(g:match U with|some v=>S.at X.K H i v|none=>S.out X.K H i) :
  ∃C,Zit X.prog X.w it (S.T it) C i (U.map λv u=>RelV v u)/\C s.heap/\Zc z q i1 i2 C:=by
 have zc:∀(a:HX) (P:Jc->Prop),(∀h h',P h->(∀o,h.get? a=ba o->h'.get? a=ba o)->P h')->(∀b∈[z,q,i1,i2],a≠b)->Zc z q i1 i2 P:=λa P hP hn h h' p k=>
  hP h h' p λo e=>k a o (hn z (by simp)) (hn q (by simp)) (hn i1 (by simp)) (hn i2 (by simp)) e
 have sep:∀ {a:HX} {u:HO} {o:JR} {b:HX},(Rd H a u\/X.K.lookup a=ba o)->b∈[z,q,i1,i2]->a≠b:=λh hb=>h.elim (λr=>xt r (hf _ hb).1) λr=>xr I r (hf _ hb)
 cases S with
 | tup a=>
  obtain⟨xs,hq,hx⟩ : ∃xs,SqT X.K H a xs/\(match U with|some v=>xs[i]?=ba v|none=>xs.length<=i):=by
   cases U <;> exact g
  obtain⟨its,rv,p,_⟩:=I.tuple hq;have hne:∀b∈[z,q,i1,i2],a≠b:=λb hb=>by
   rcases hq with r|⟨o,_,_,r,_⟩
   ·exact xt r (hf b hb).1
   ·exact xr I r (hf b hb)
  refine#[λh=>h.IsTuple a its.toArray,#[λj h h' t k=>Zs.keep (S:=.tup a) t k,λV hV B s2 Q E t c hQ=>?_,λhU B s2 Q E hh t c hE=>?_],p,zc a _ (λh h' #[o,e,r] k=>#[o,k _ e,r]) hne]
  ·cases U with
   | none=>cases hV
   | some v=>
    cases hV;obtain⟨u,hu,ru⟩:=rv.get hx;exact ER t c (x:=u) (by simpa using hu) λh' t' sb=>hQ u h' s2.toks ru t' sb
  ·cases U with
   | some v=>cases hU
   | none=>
    have:=L2.Vals.length rv;have hx':xs.length<=i:=hx;exact ES hh t c (by simp; omega) hE
 | lst a=>
  obtain⟨xs,hq,hx⟩ : ∃xs,SqL X.K H a xs/\(match U with|some v=>xs[i]?=ba v|none=>xs.length<=i):=by
   cases U <;> exact g
  obtain⟨its,rv,p,_⟩:=I.list hq;have hne:∀b∈[z,q,i1,i2],a≠b:=λb hb=>by
   rcases hq with r|⟨o,_,_,r,_⟩
   ·exact xt r (hf b hb).1
   ·exact xr I r (hf b hb)
  refine#[λh=>h.IsList a its.toArray,#[λj h h' t k=>Zs.keep (S:=.lst a) t k,λV hV B s2 Q E t c hQ=>?_,λhU B s2 Q E hh t c hE=>?_],p.isList,zc a _ (λh h' #[o,e,r] k=>#[o,k _ e,r]) hne]
  ·cases U with
   | none=>cases hV
   | some v=>
    cases hV;obtain⟨u,hu,ru⟩:=rv.get hx;exact wpAny_nextOf_list_item t c (x:=u) (by simpa using hu) λh' t' sb=>hQ u h' s2.toks ru t' sb
  ·cases U with
   | some v=>cases hU
   | none=>
    have:=L2.Vals.length rv;have hx':xs.length<=i:=hx;exact wpAny_nextOf_list_end hh t c (by simp; omega) hE
 | txt x=>
  refine#[λ_=>OT,#[λj h h' t k=>Zs.keep (S:=.txt x) t k,λV hV B s2 Q E t _ hQ=>?_,λhU B s2 Q E hh t _ hE=>?_],trivial,λ_ _ _ _=>trivial]
  ·cases U with
   | none=>cases hV
   | some v=>
    cases hV;obtain⟨c,hc,rfl⟩ : ∃c,x.cps[i]?=ba c/\v=.str #[[c].toArray]:=g;obtain⟨tk,t|t⟩:=t
    ·exact wpAny_nextOf_ascii_item t hc λh' t' sb=>hQ _ h' _ #[_,rfl] #[tk,.inl t'] sb
    ·exact wpAny_nextOf_wide_item t hc λh' t' sb=>hQ _ h' _ #[_,rfl] #[tk,.inr t'] sb
  ·cases U with
   | some v=>cases hU
   | none=>
    have hx:x.cps[i]?=K3:=by simpa using(show x.cps.size<=i from g)
    obtain⟨tk,t|t⟩:=t
    ·exact wpAny_nextOf_ascii_end hh t hx hE
    ·exact wpAny_nextOf_wide_end hh t hx hE
end
noncomputable def Zs.is (K:Ig)(H:Hp)(i:HW)(v:V):Zs->Prop
 | .tup a=>∀xs,SqT K H a xs->xs[i]?=ba v
 | .lst a=>∀xs,SqL K H a xs->xs[i]?=ba v
 | .txt x=>∃c,x.cps[i]?=ba c/\v=.str #[[c].toArray]
theorem Zs.at_is {S:Zs}{X:Cx}{pins:HK (HX×JR)}{σ:L2.St}{H:Hp}{s:HQ}{i:HW}{v:V}(I:Inv X pins σ H s)(h:S.at X.K H i v):S.is X.K H i v:=by
 cases S with
 | tup a=>obtain⟨xs,hq,hx⟩:=h; exact λys hy=>by rw[I.tuple_inj hy hq]; exact hx
 | lst a=>obtain⟨xs,hq,hx⟩:=h; exact λys hy=>by rw[I.list_inj hy hq]; exact hx
 | txt x=>exact h
end Mi
namespace Mi
open PySem PySem.Spec PyProof.Rows L2
noncomputable def GN:W->HU (HK W)
 | .tup xs=>ba xs
 | .str x=>ba (x.cps.toList.map λc=>.str #[[c].toArray])
 | _=>K3
section
variable{X:Cx}{pins:HK (HX×JR)}{σ:L2.St}{H:Hp}{s:HQ}{A:HK HX}
noncomputable def ZRel (K:Ig)(A:HK HX)(H:Hp)(xs:HK W):Zs->Prop
 | .tup a=>∃vs,SqT K H a vs/\RelL K A H xs vs
 | .lst a=>JF
 | .txt x=>xs=x.cps.toList.map λc=>.str #[[c].toArray]
theorem ZRel.mono {K:Ig}{A A':HK HX}{H H':Hp}{xs:HK W}{S:Zs}(e:Ext K A H A' H')(h:ZRel K A H xs S):ZRel K A' H' xs S:=by
 cases S with
 | tup a=>obtain⟨vs,h1,h2⟩:=h; exact#[vs,e.tp _ _ h1,h2.mono e]
 | lst a=>exact h
 | txt x=>exact h
theorem ZRel.at {K:Ig}{xs:HK W}{S:Zs}{i:HW}{w:W}(h:ZRel K A H xs S)(hi:xs[i]?=ba w):∃v,S.at K H i v/\Rel K A H w v:=by
 cases S with
 | tup a=>obtain⟨vs,h1,h2⟩:=h; obtain⟨v,h3,h4⟩:=h2.get hi; exact#[v,#[vs,h1,h3],h4]
 | lst a=>exact h.elim
 | txt x=>
  have h:xs=x.cps.toList.map λc=>.str #[[c].toArray]:=h
  subst h;rw[HY,HS]at hi;obtain⟨c,hc,rfl⟩:=hi;exact#[.str #[[c].toArray],#[c,by rw[<- JB]; exact hc,rfl],.str]
theorem ZRel.is {K:Ig}{xs:HK W}{S:Zs}{i:HW}{w:W}{v:V}(h:ZRel K A H xs S)(hi:xs[i]?=ba w)(z:S.is K H i v):Rel K A H w v:=by
 obtain⟨v',h1,h2⟩:=h.at hi;cases S with
 | tup a=>
  obtain⟨vs,q,e⟩:=h1;have:=z vs q;rw[e]at this; cases this
  exact h2
 | lst a=>exact h.elim
 | txt x=>
  obtain⟨c,e,rfl⟩:=h1;obtain⟨c',e',rfl⟩:=z;rw[e]at e'; cases e'
  exact h2
theorem ZRel.out {K:Ig}{xs:HK W}{S:Zs}{i:HW}(h:ZRel K A H xs S)(hi:xs.length<=i):S.out K H i:=by
 cases S with
 | tup a=>obtain⟨vs,h1,h2⟩:=h; exact#[vs,h1,by rw[<- h2.length]; exact hi]
 | lst a=>exact h.elim
 | txt x=>
  have h:xs=x.cps.toList.map λc=>.str #[[c].toArray]:=h
  subst h;show x.cps.size<=i
  simpa using hi
theorem Az {x:W}{v:V}{u:HM}{xs:HK W}(I:Inv X pins σ H s)(r:Rel X.K A H x v)(ru:RelV v u)(e:GN x=ba xs) :
  ∃(S:Zs) (o:JR) (C:Jc->Prop),ZRel X.K A H xs S/\rG X.prog X.w u o C/\C s.heap/\(∀h o,C h->C (h.push o))/\o.isFreed=false/\∀it h,h.get? it=ba o->S.T it 0 h:=by
 cases r with
 | @tup ws a vs hq rl=>
  cases e;obtain⟨its,rv,p,_⟩:=I.tuple hq;obtain rfl:u=IR a:=ru;exact#[.tup a,{ cls:=.type "tuple_iterator",data:=.fields [.ref a,.int 0 0].toArray },λh=>h.IsTuple a its.toArray,#[vs,hq,rl],λB s Q E c hQ=>Oo c hQ,p,λh o #[ot,e,r]=>#[ot,HP _ e,r],rfl,λit h e=>#[_,e,rfl,rfl]]
 | @str x=>
  cases e;obtain⟨t,rfl⟩:=ru;cases ha:x.cps.all (· < 128)with
  | false=>exact#[.txt x,{ cls:=.type "str_iterator",data:=.fields [.str x t,.int 0 0].toArray },λ_=>OT,rfl,λB s Q E _ hQ=>wpAny_pyIter_wide ha hQ,trivial,λ_ _ _=>trivial,rfl,λit h e=>#[t,.inr #[_,e,rfl,rfl]]]
  | true=>exact#[.txt x,{ cls:=.type "str_ascii_iterator",data:=.fields [.str x t,.int 0 0].toArray },λ_=>OT,rfl,λB s Q E _ hQ=>wpAny_pyIter_ascii ha hQ,trivial,λ_ _ _=>trivial,rfl,λit h e=>#[t,.inl #[_,e,rfl,rfl]]]
 | _=>cases e
end
open PySem.Builtin.SmallTypes (nextOf)
section
variable{prog:IM}{w:IU}{B:IQ}{E:HM->HQ->Prop}{s:HQ}{e it:HX}{T:HW->Jc->Prop}{C:Jc->Prop}{i:HW}{old:HM}
structure EnAt (h0 h:Jc)(e it:HX)(fs:ID HM)(T:Jc->Prop):Prop where
 here:h.get? e=ba { cls:=.type "enumerate",dict:=K3,data:=.fields fs,slots:=#[] }
 turn:T h
 kept:∀b o,b≠e->b≠it->h0.get? b=ba o->h.get? b=ba o
theorem EnAt.put {h0:Jc}{fs:ID HM}{T:Jc->Prop}{k:HW}{v:HM}{Q:Rc->HQ->Prop}(x:EnAt h0 s.heap e it fs T)(hne:e≠it)(kT:∀h h',T h->(∀o,h.get? it=ba o->h'.get? it=ba o)->T h')(hk:k < fs.size)
  (q:∀h',EnAt h0 h' e it (fs.setIfInBounds k v) T->JZ e s.heap h'->Q () { s with heap:=h' }):wpAny (model prog w) B (setField (.ref e) k v) Q E s:=
 Oh x.here hk λh' y sb=>q h' #[y,kT _ _ x.turn λo z=>sb.extBut _ _ (Ne.symm hne) z,λb o h1 h2 z=>sb.extBut b o h1 (x.kept b o h1 h2 z)] sb
theorem mL {U:HU (HM->Prop)}{Q:HM->HQ->Prop}(Z:Zit prog w it T C i U)(hh:B.handled=K3)(he:QP s.heap e it (i:Ik) old)(t:T i s.heap)(c:C s.heap)(hne:e≠it)
  (hI:∀V,U=ba V->∀u h' tk tk0,V u->IsEnumOut h' e it ((i:Ik)+1) u s.heap.objs.size->T (i+1) h'->h'.get? s.heap.objs.size=ba { cls:=.type "tuple",data:=.seq [.int i tk0,u].toArray }->
   (∀b o,b≠e->b≠it->s.heap.get? b=ba o->h'.get? b=ba o)->Q (.ref s.heap.objs.size) { s with heap:=h',toks:=tk })
  (hE:U=K3->∀h' x,NO it s.heap h'->(∃o,h'.get? x=ba o/\o.cls=.type "StopIteration")->E (.ref x) { s with heap:=h' }) :
  wpAny (model prog w) B (Le.«enumerate.__next__» #[[.ref e],[]]) (λfin s'=>∃v,fin=.done (.ret v)/\Q v s') E s:=by
 obtain⟨hp,g,d,tk,os⟩:=s;show wpAny _ _ (field (.ref e) 2 >>= _) _ _ _;refine HL (Kn he rfl (x:=.ref it) rfl (HL ?_));cases U with
 | none=>exact Z.stop rfl _ _ _ _ hh t c λh' x a b=>hE rfl h' x a b
 | some V=>
  refine Z.next V rfl _ _ _ _ t c λu ha tka hu ta sba=>?_
  have kT:=Z.keep (i+1);have xa:EnAt hp ha e it [.none,.bool false,.ref it,rawInt i,.none,old].toArray (T (i+1)):=#[(sba.2 e hne).trans he,ta,λb o _ h2 z=>sba.extBut b o h2 z]
  have za:ha.objs.size=hp.objs.size:=sba.1;clear sba ta;show wpAny _ _ (field (.ref e) 3 >>= _) _ _ #[ha,g,d,tka,os];refine HL (Kn xa.here rfl (x:=rawInt i) rfl ?_);show wpAny _ _ (field (.ref e) 4 >>= _) _ _ #[ha,g,d,tka,os];refine HL (Kn xa.here rfl (x:=.none) rfl ?_);show wpAny _ _ (mkInt i >>= _) _ _ #[ha,g,d,tka,os];refine HL (Pa (HL (xa.put (s:=#[ha,g,d,tka+1,os]) hne kT (by simp) λhb xb sb1=>HL (xb.put (s:=#[hb,g,d,tka+1,os]) hne kT (by simp) λhc xc sb2=>HL (NM ?_)))))
  have zc:hc.objs.size=hp.objs.size:=by rw[sb2.1,<- za]; exact sb1.1
  have hel:hp.objs.size≠e:=Kj (Io he);have new:=Ij hc (o:={ cls:=.type "tuple",data:=.seq [.int i tka,u].toArray }) rfl;have xd:EnAt hp (hc.push { cls:=.type "tuple",data:=.seq [.int i tka,u].toArray }) e it [.none,.bool false,.ref it,rawInt ((i:Ik)+1),.none,old].toArray (T (i+1)):=#[HP _ xc.here,kT _ _ xc.turn λo z=>HP _ z,λb o h1 h2 z=>HP _ (xc.kept b o h1 h2 z)]
  rw[zc]at new;show wpAny _ _ (LD (.ref e) >>= _) _ _ #[hc.push _,g,d,tka+1,os];rw[zc];generalize hc.push { cls:=.type "tuple",data:=.seq [.int i tka,u].toArray }=hd at new xd ⊢;clear zc sb2 xc sb1 xb hb xa za;refine HL ?_;unfold LD;refine HL (Kn xd.here rfl (x:=.none) rfl (HR ?_));simp only[Kb];refine HL (Nc (HL (Kn xd.here rfl (x:=old) rfl (HL (xd.put (s:=#[hd,g,d,tka+1,os]) hne kT (by simp) λh1 x1 s1=>HL ?_)))))
  unfold N2;refine HL (x1.put (s:=#[h1,g,d,tka+1,os]) hne kT (by simp) λh2 x2 s2=>x2.put (s:=#[h2,g,d,tka+1,os]) hne kT (by simp) λh3 x3 s3=>HL (Mb (HR #[_,rfl,hI V rfl u h3 (tka+1) tka hu x3.here x3.turn ?_ x3.kept])))
  exact s3.extBut _ _ hel (s2.extBut _ _ hel (s1.extBut _ _ hel new))
variable{v:HM}{o:JR}
theorem p4 (h1:rG prog w v o C) :
  MeetsIn prog w (Le.«enumerate.__new__» #[[.type "enumerate",v],[]]) (λ_ R s=>C s.heap/\R (.ok (.ret (.ref (s.heap.push o).objs.size))) { s with heap:=(s.heap.push o).push { cls:=.type "enumerate",data:=.fields [.none,.bool false,.ref s.heap.objs.size,rawInt 0,.none,.none].toArray } }):=
 .of_wp λA R s h=>by
  obtain⟨hp,g,d,tk,os⟩:=s;obtain⟨c,h⟩:=h;have hsub:=sub_enumerate;have d1:∀(B:IQ) (Q:HM->HQ->Prop) (E:HM->HQ->Prop),Q (.ref hp.objs.size) #[hp.push o,g,d,tk,os]->wpAny (model prog w) B (pyIter v) Q E #[hp,g,d,tk,os]:=λB Q E q=>h1 B #[hp,g,d,tk,os] Q E c q
  wp_walk
  refine wpAny_stack_any λst=>HR ?_
  split
  ·rename_i c _ _ _ _ _;cases(c==JS "enumerate")
   ·wp_walk using d1 _ _ _
    exact#[_,rfl,h]
   ·wp_walk using d1 _ _ _
    exact#[_,rfl,h]
  ·wp_walk using d1 _ _ _
   exact#[_,rfl,h]
theorem uI {Q:HM->HQ->Prop}(h1:rG prog w v o C)(c:C s.heap)(n1:o.isFreed=false)
  (h:∀h',QP h' (s.heap.objs.size+1) s.heap.objs.size 0 .none->h'.get? s.heap.objs.size=ba o->(∀b o,s.heap.get? b=ba o->h'.get? b=ba o)->Q (.ref (s.heap.objs.size+1)) { s with heap:=h' }) :
  wpAny (model prog w) B (call (.type "enumerate") [v]) Q E s:=by
 refine callType_newIn F.called_enumerate #v[] (F.typeCall_enumerate_1 _) (F.newCall_enumerate_1 _) (λobj=>F.args_object_init_2 obj _) F.entry_enumerate_new (p4 h1) #[c,?_]
 have hz:(s.heap.push o).objs.size=s.heap.objs.size+1:=K1 ..;show _/\_;rw[hz];have he:QP ((s.heap.push o).push { cls:=.type "enumerate",data:=.fields [.none,.bool false,.ref s.heap.objs.size,rawInt 0,.none,.none].toArray }) (s.heap.objs.size+1) s.heap.objs.size 0 .none:=by
  have:=Ij (s.heap.push o) (o:={ cls:=.type "enumerate",data:=.fields [.none,.bool false,.ref s.heap.objs.size,rawInt 0,.none,.none].toArray }) rfl;rw[hz]at this; exact this
 exact#[#[_,he,rfl],h _ he (HP _ (Ij _ n1)) λb o x=>HP _ (HP _ x)]
end
noncomputable def Hu (K:Ig)(S1:Zs):It:=
 #[λi H=>∃x,S1.at K H i x,λi H v H'=>∃p x,S1.is K H i x/\v=.ref p/\H p=K3/\H'=bP H p (.tup [.int i,x]),λi H=>S1.out K H i]
theorem uJ {P:IM}{w:IU}{K:Ig}{els:HK Iz}{k0:HW}{tp:KA}{S1:Zs}{z i1:HX}(D:z≠i1) :
  Turn P w K (.Tuple els k0 tp) (Hu K S1) [z,i1] z (λi h=>(∃old,QP h z i1 i old)/\S1.T i1 i h) where
 mem:=by simp
 obj:=λi h #[#[old,a],d] b' hb=>by
  have it:∀ {S:Zs} {it:HX},S.T it i h->∃o,h.get? it=ba o/\∀v,o.data≠.cell v:=λ{S it} t=>by
   cases S with
   | tup a=>obtain⟨o,e,_,d⟩:=t; exact#[o,e,λv z=>by rw[d]at z; cases z]
   | lst a=>obtain⟨o,e,_,d⟩:=t; exact#[o,e,λv z=>by rw[d]at z; cases z]
   | txt x=>obtain⟨tk,⟨o,e,_,d⟩|⟨o,e,_,d⟩⟩:=t <;> exact#[o,e,λv z=>by rw[d]at z; cases z]
  simp only[IE,Js,KP]at hb;rcases hb with rfl|rfl
  ·exact#[_,a,λv z=>by cases z]
  ·exact it d
 keep:=λi h h' #[#[old,a],d] k=>#[#[old,k z (by simp) _ a],Zs.keep d (k i1 (by simp))]
 item:=by
  intro X hP hw hK hc i pins s σ H E I hf st hg;subst hP hw hK;obtain⟨x,g1⟩:=hg;obtain⟨⟨old,a⟩,d⟩:=st;have hf4:∀b∈[z,z,i1,i1],iO X pins H b:=λb hb=>hf b (by simp only[IE,Js,KP]at hb ⊢; rcases hb with h|h|h|h <;> simp[h])
  obtain⟨C1,Z1,c1,k1⟩:=Zs.zit (it:=i1) (U:=ba x) I hf4 g1;have hT:s.TypeIs (.ref z) "enumerate":=#[_,a,rfl];unfold pyNext;refine HL (L7 (Jq (name:=Kl "__next__") hT F.slot_enumerate_next (Jr F.slot_enumerate_next hT F.entry_enumerate_next ?_ (F.args_enumerate_next_1 _))));refine mL Z1 (I.ok.hd hc) a d c1 D (λV e1 u g tk tk0 r1 zg t1 ng kp=>?_) (λz=>by cases z)
  cases e1;refine HR #[_,rfl,?_];refine wpAny_letOwnedTupleGo_enum (s:={ s with heap:=g,toks:=tk }) zg λg' zg' sb=>?_
  have N0:H s.heap.objs.size=K3:=I.hok.fresh (Ih _);have lt:∀ {b:HX},b∈[z,i1]->s.heap.objs.size≠b:=λ{b} hb=>by
   have:∃o,s.heap.get? b=ba o:=by
    have it:∀ {S:Zs} {it:HX},S.T it i s.heap->∃o,s.heap.get? it=ba o:=λ{S it} t=>by
     cases S with
     | tup a=>obtain⟨o,e,_⟩:=t; exact#[o,e]
     | lst a=>obtain⟨o,e,_⟩:=t; exact#[o,e]
     | txt x=>obtain⟨tk,⟨o,e,_⟩|⟨o,e,_⟩⟩:=t <;> exact#[o,e]
    simp only[IE,Js,KP]at hb;rcases hb with rfl|rfl
    ·exact#[_,a]
    ·exact it d
   obtain⟨o,e⟩:=this;exact Kj (Io e)
  have up:∀b o,b∉[z,i1]->s.heap.get? b=ba o->g'.get? b=ba o:=λb o hb e=>by
   simp only[IE,Js,KP,QM]at hb;exact sb.extBut _ _ hb.1 (kp b o hb.1 hb.2 e)
  have I1:Inv X pins σ H { s with heap:=g',toks:=tk }:=Mi.Inv.turnedL I up hf
  have ng':g'.get? s.heap.objs.size=ba { cls:=.type "tuple",data:=.seq [.int i tk0,u].toArray }:=sb.extBut _ _ (lt (by simp)) ng
  have I2:Inv X pins σ (bP H s.heap.objs.size (.tup [.int i,x])) { s with heap:=g',toks:=tk }:=by
   refine Mi.Inv.adopt I1 N0 (.inr I.sz) (Kj I.lt) (λw c e=>?_) (λp hp=>?_) #[by show 2<=sizeLine; decide,[.int i tk0,u],.cons #[_,rfl] #v[r1],#[_,ng',rfl,0,rfl]]
   ·obtain⟨v,q⟩:=I.cell w c e;exact Iy q.lt
   ·exact Iy (Io (I.pin p hp).1)
  refine#[.ref s.heap.objs.size,_,I2,rfl,#[s.heap.objs.size,x,Zs.at_is I g1,rfl,N0,rfl],#[#[_,zg'],Zs.keep t1 λo e=>sb.extBut _ _ (Ne.symm D) e],λb hb=>?_]
  rw[aK (Ne.symm (lt hb))];exact(hf b hb).1
 done:=by
  intro X hP hw hK hc i pins s σ H E I hf st hg;subst hP hw hK;obtain⟨⟨old,a⟩,d⟩:=st;have hf4:∀b∈[z,z,i1,i1],iO X pins H b:=λb hb=>hf b (by simp only[IE,Js,KP]at hb ⊢; rcases hb with h|h|h|h <;> simp[h])
  obtain⟨C1,Z1,c1,k1⟩:=Zs.zit (it:=i1) (U:=K3) I hf4 hg;have hT:s.TypeIs (.ref z) "enumerate":=#[_,a,rfl];unfold pyNext;refine HL (L7 (Jq (name:=Kl "__next__") hT F.slot_enumerate_next (Jr F.slot_enumerate_next hT F.entry_enumerate_next ?_ (F.args_enumerate_next_1 _))));refine mL Z1 (I.ok.hd hc) a d c1 D (λV e1=>by cases e1) λ_ h' e k #[o,ho,hc]=>?_
  exact HL (Lu (T:="StopIteration") (b:=true) #[o,ho,hc] NL (HR #[rfl,Mi.Inv.turnedL (t':=s.toks) I (λb o hb e=>by
    simp only[IE,Js,KP,QM]at hb;exact k b o hb.2 e) hf]))
 self:=λ_ _ _ _ _ st h=>by obtain⟨⟨old,a⟩,_⟩:=st; exact OP a h
noncomputable def nR (xs:HK W):HK W:=xs.zipIdx.map λp=>.tup [.int (p.2:HW),p.1]
theorem p7 {xs:HK W}{i:HW}{w:W}(h:(nR xs)[i]?=ba w):∃x,xs[i]?=ba x/\w=.tup [.int i,x]:=by
 unfold nR at h;rw[HY,List.getElem?_zipIdx,PD,HS]at h;obtain⟨x,h1,rfl⟩:=h;exact#[x,h1,by simp]
noncomputable def AA (f:FA):FI:=λρ S=>match f ρ S with
 | some ([x],S1)=>match GN x with
  | some xs=>ba (.its (nR xs),S1)
  | none=>K3
 | _=>K3
section
variable{X:Cx}{pins:HK (HX×JR)}{σ:L2.St}{H:Hp}{s:HQ}{A:HK HX}
theorem xu {S1:Zs}{xs:HK W}(z1:ZRel X.K A H xs S1):MIt X.w X.K (.its (nR xs)) (Hu X.K S1) A H:=by
 refine#[λA' H' S i w e so hi=>?_,λA' H' S i e so hi=>?_]
 ·simp only[MI.at,IT]at hi;obtain⟨x,e1,rfl⟩:=p7 hi;obtain⟨v,g1,r1⟩:=(z1.mono e).at e1;refine#[#[v,g1],λp H2 #[a,v',q1,hp,hn,hH]=>?_]
  subst hp hH;have ex:Ext X.K A' H' A' (bP H' a (.tup [.int i,v'])):=c9 (.inl hn);exact#[ex,so.lay hn,.tup (.of bf) #v[.int,((z1.mono e).is e1 q1).mono ex]]
 ·simp only[MI.at,IT,Jw,nR,HN,List.length_zipIdx]at hi;exact(z1.mono e).out hi
theorem uK:bootBuiltins "enumerate" = ba (.type "enumerate"):=rfl
theorem AB {els:HK Iz}{k0:HW}{tp:KA}{a:Iz}{f:FA}{p pos:KA}(hg:Gl X "enumerate")(hm:X.mg "enumerate" = K3)(ha:GA X [a] f)(hs:starEach [a] X.env=[(false,eval a X.env)]) :
  GI X (.Tuple els k0 tp) (.Call (.Name "enumerate" p) [a] [] pos) (AA f):=by
 intro pins s σ H R I ⟨A,ρ,S,mi,S',er,so,e,hq⟩;unfold AA at e;split at e
 ·rename_i x S1 h1;split at e
  ·rename_i xs e1;cases e;refine Call_ (iN I hg hm uK (Kx (bJ (ha pos pins s σ H _ I #[A,ρ,S,_,_,er,so,h1,λ_ _ z=>z]) λus s1 #[vs,H1,I1,r1,A1,z1,z2,z3]=>?_) (by rw[hs]; rfl) (by rfl)))
   cases z3 with
   | cons ra t=>
    cases t;cases r1 with
    | cons ua t=>
     cases t;obtain⟨Sa,oa,Ca,za,ia,ca,ka,na,ta⟩:=Az I1 ra ua e1;refine uI ia ca na λh' hz g1 kp=>?_
     have I2:Inv X pins σ H1 { s1 with heap:=h' }:=I1.kept (t':=s1.toks) kp
     refine OP (s:={ s1 with heap:=h' }) hz ?_
     refine#[s1.heap.objs.size+1,_,_,_,H1,rfl,I2,uJ (S1:=Sa) (i1:=s1.heap.objs.size) (by simp),#[#[_,hz],ta _ _ g1],λb hb=>?_,hq _ _ A1 z1 z2 (xu za)]
     have hb':s1.heap.objs.size<=b:=by
      simp only[IE,Js,KP]at hb;rcases hb with rfl|rfl
      ·exact M5 _ _
      ·exact Ih _
     exact I1.fpOk hb' (I1.hok.fresh hb')
  ·cases e
 ·cases e
end
end Mi
namespace Mi
open PySem PySem.Spec PyProof.Rows L2
noncomputable def AC (g1 g2:HK W->aa->HU (W×aa))(xs:HK W)(S:aa):HU (W×aa):=match g1 xs S with
 | some r=>ba r
 | none=>g2 xs S
theorem p8 {X:Cx}{f:HM}{g1 g2:HK W->aa->HU (W×aa)}(h1:LCall X f g1)(h2:LCall X f g2):LCall X f (AC g1 g2):=by
 intro pins s σ H A S xs vs us w S' I so rl rv e;unfold AC at e;split at e
 ·rename_i r hr;cases e;exact h1 pins s σ H A S xs vs us w S' I so rl rv hr
 ·exact h2 pins s σ H A S xs vs us w S' I so rl rv e
inductive Bi where|len|list|tuple|int|set|sorted|range|all|min
 deriving Lg
noncomputable def Bi.fn:Bi->HK W->aa->HU (W×aa)
 | .len=>rg|.list=>AC jm mz|.tuple=>iV|.int=>EB|.set=>kz|.sorted=>AC cL eS|.range=>kh|.all=>CD|.min=>zN
noncomputable def Bi.name:Bi->Iv
 | .len=>"len"|.list=>"list"|.tuple=>"tuple"|.int=>"int"|.set=>"set"|.sorted=>"sorted"|.range=>"range"|.all=>"all"|.min=>"min"
inductive Me where|append|extend|join|pop|get
 deriving Lg
noncomputable def Me.fn:Me->W->HK W->aa->HU (W×aa)
 | .append=>g8|.extend=>jP|.join=>sd|.pop=>zL|.get=>si
noncomputable def Me.name:Me->Iv
 | .append=>"append"|.extend=>"extend"|.join=>"join"|.pop=>"pop"|.get=>"get"
noncomputable def Me.ty:Me->JJ
 | .append=>"list"|.extend=>"list"|.join=>"str"|.pop=>"list"|.get=>"dict"
inductive Tg where
 | nm (i:HW)|tp (is:HK HW)
set_option genSizeOf false in
set_option genInjectivity false in
mutual
inductive E where
 | c (w:W)|v (i:HW)
 | op (o:BOp) (a b:E)
 | cmp (o:COp) (a b:E)
 | and (a b:E)|or (a b:E)|not (a:E)
 | own (f:Iv) (n:HW) (es:Es)|bi (b:Bi) (es:Es)|me (m:Me) (o:E) (es:Es)
 | ix (a b:E)|sl (a:E) (lo hi:Ep)|tup (es:Es)|lst (es:Es)
 | isi (c:JJ) (a:E)
 | neg (a:E)|dnew|disp (es:Es)|ite (t a b:E)
 | comp (elt:E) (tg:Tg) (it:Ie) (cs:Es) (cap:HK (HU HW))
inductive Es where
 | nil|cons (e:E) (es:Es)
inductive Ep where
 | no|yes (e:E)
inductive Ie where
 | seq (e:E)|rng (es:Es)|rng2 (es:Es)|enu (es:Es)
end
set_option genSizeOf false in
set_option genInjectivity false in
mutual
inductive Sm where
 | set (i:HW) (e:E)|asg (is:HK HW) (e:E)|par (i j:HW) (es:Es)|put (o k e:E)
 | ex (e:E)|ret (e:E)|retN|pass|brk|cont|bad
 | ite (t:E) (a b:Ss)|whl (t:E) (b:Ss)|loop (tg:Tg) (it:Ie) (b:Ss)
inductive Ss where
 | nil|cons (s:Sm) (ss:Ss)
end
noncomputable def iM:Tg->FG
 | .nm i=>Al i
 | .tp is=>DP is
section
variable (Φ:Iv->FF)
mutual
noncomputable def aG:E->FE
 | .c w=>fC w
 | .v i=>fV i
 | .op o a b=>zP (fB o) (aG a) (aG b)
 | .cmp o a b=>zQ o (aG a) (aG b)
 | .and a b=>sF (aG a) (aG b)
 | .or a b=>zW (aG a) (aG b)
 | .not a=>sG (aG a)
 | .own f n es=>pV n (Φ f) (cZ es)
 | .bi b es=>jr b.fn (cZ es)
 | .me m o es=>DO m.ty m.fn (aG o) (cZ es)
 | .ix a b=>GL (aG a) (aG b)
 | .sl a lo hi=>EK (aG a) (sM lo) (sM hi)
 | .tup es=>w6 (cZ es)
 | .lst es=>w8 (cZ es)
 | .isi c a=>xo c (aG a)
 | .neg a=>wQ (aG a)
 | .dnew=>Bw
 | .disp es=>pY (cZ es)
 | .ite t a b=>zX (cU t) (aG a) (aG b)
 | .comp elt tg it cs cap=>kC (ly it) (iM tg) (AD cs) (aG elt) cap
noncomputable def cU:E->FT
 | .cmp o a b=>wW (zQ o (aG a) (aG b))
 | .and a b=>wX (cU a) (cU b)
 | .or a b=>EH (cU a) (cU b)
 | .not a=>zR (cU a)
 | .c w=>gg (fC w)
 | .v i=>gg (fV i)
 | .op o a b=>gg (zP (fB o) (aG a) (aG b))
 | .own f n es=>gg (pV n (Φ f) (cZ es))
 | .bi b es=>gg (jr b.fn (cZ es))
 | .me m o es=>gg (DO m.ty m.fn (aG o) (cZ es))
 | .ix a b=>gg (GL (aG a) (aG b))
 | .sl a lo hi=>gg (EK (aG a) (sM lo) (sM hi))
 | .tup es=>gg (w6 (cZ es))
 | .lst es=>gg (w8 (cZ es))
 | .isi c a=>gg (xo c (aG a))
 | .neg a=>gg (wQ (aG a))
 | .dnew=>λ_ _=>K3
 | .disp _=>λ_ _=>K3
 | .ite _ _ _=>λ_ _=>K3
 | .comp _ _ _ _ _=>λ_ _=>K3
noncomputable def cZ:Es->FA
 | .nil=>jy
 | .cons e es=>eg (aG e) (cZ es)
noncomputable def AD:Es->FT
 | .nil=>Bx
 | .cons e .nil=>cU e
 | .cons _ (.cons _ _)=>λ_ _=>K3
noncomputable def sM:Ep->FO
 | .no=>CT
 | .yes e=>sI (aG e)
noncomputable def ly:Ie->FI
 | .seq e=>fm (aG e)
 | .rng es=>uG (cZ es)
 | .rng2 es=>iRng2 (cZ es)
 | .enu es=>AA (cZ es)
end
variable (fuel:HW)
mutual
noncomputable def gk:Sm->FS
 | .set i e=>kB (aG Φ e) (Al i)
 | .asg is e=>kB (aG Φ e) (DP is)
 | .par i j es=>An i j (cZ Φ es)
 | .put o k e=>kB (aG Φ e) (Am (aG Φ o) (aG Φ k))
 | .ex e=>Ae (aG Φ e)
 | .ret e=>Ai (aG Φ e)
 | .retN=>λ_ S=>ba (.rt .non,S)
 | .pass=>xi
 | .brk=>λρ S=>ba (.bk ρ,S)
 | .cont=>λρ S=>ba (.ct ρ,S)
 | .bad=>λ_ _=>K3
 | .ite t a b=>Ak (cU Φ t) (fG a) (fG b)
 | .whl t b=>nP (cU Φ t) (fG b) fuel
 | .loop tg it b=>xl (ly Φ it) (iM tg) (fG b)
noncomputable def fG:Ss->FS
 | .nil=>λρ S=>ba (.nx ρ,S)
 | .cons s ss=>Ad (gk s) (fG ss)
end
end
structure Gam where
 sc:HK (Iv×J5)
 N:HK Iv
 fns:HK (Iv×HW)
 blt:HK Iv
 dfn:IF
noncomputable def C7:HU J5->IF
 | some .local=>true|some .cell=>true|some .free=>true|_=>false
noncomputable def AE:HU J5->IF
 | some .cell=>true|some .free=>true|_=>false
noncomputable def fH (names outer:HK (Iv×J5)):HK (Iv×J5):=names.map λ(n,k)=>if (k==.free&&outer.lookup n==ba .cell)then(n,.cell)else(n,k)
noncomputable def slot (Γ:Gam)(x:Iv):HU HW:=if C7 (Γ.sc.lookup x) && !(x==("__debug__" : Iv)) && !(x==("__classdict__" : Iv))then Γ.N.findIdx? (· == x)else K3
noncomputable def sN:Oz->HU BOp
 | .Add=>ba .add|.Sub=>ba .sub|.Mult=>ba .mul|.FloorDiv=>ba .fdiv|.Mod=>ba .mod|.Pow=>ba .pow|_=>K3
noncomputable def sO:Qb->HU COp
 | .Eq=>ba .eq|.NotEq=>ba .ne|.Lt=>ba .lt|.LtE=>ba .le|.Gt=>ba .gt|.GtE=>ba .ge|.In=>ba .isin|.NotIn=>ba .notin|.Is=>ba .is|.IsNot=>ba .isnot
noncomputable def AF (x:Iv):HU Bi:=[Bi.len,.list,.tuple,.int,.set,.sorted,.range,.all,.min].find? λb=>b.name==x
noncomputable def AG (x:Iv):HU Me:=[Me.append,.extend,.join,.pop,.get].find? λb=>b.name==x
noncomputable def ET (Γ:Gam)(x:Iv):IF:=Γ.sc.lookup x==ba .globalImplicit && !(x==("__debug__" : Iv))
noncomputable def xv (x:Iv):HU JJ:=if x==("bool" : Iv)then ba "bool" else if x==("int" : Iv)then ba "int" else if x==("str" : Iv)then ba "str" else if x==("tuple" : Iv)then ba "tuple" else if x==("list" : Iv)then ba "list" else if x==("dict" : Iv)then ba "dict" else K3
noncomputable def sP:HK (HU Iz)->HK Iz->HK Iz
 | some k::ks,v::vs=>k::v::sP ks vs
 | _,_=>[]
noncomputable def AH (Γ:Gam)(f:Iz->HU E):HK Iz->HU E
 | [a,.Name c _]=>if ET Γ c&&Γ.blt.contains c then match xv c,f a with
  | some cs,ba a'=>ba (.isi cs a')
  | _,_=>K3
  else K3
 | _=>K3
noncomputable def fW:Iz->IF
 | .Name _ _=>true|.Constant _ _ _=>true|.Subscript _ _ _=>true|_=>false
noncomputable def lD (Γ:Gam)(x:Iv):IF:=Γ.sc.lookup x==ba .globalImplicit && !(x==("__debug__" : Iv))
noncomputable def c7 (Γ:Gam)(x:Iv):HU HW:=if (Γ.sc.lookup x==ba .local)||(Γ.dfn&&Γ.sc.lookup x==ba .cell)then Γ.N.findIdx? (· == x)else K3
noncomputable def cA (f:Iz->HU E)(es:HK Iz):HU Es:=es.foldr (λe acc=>match f e,acc with|some e',ba es'=>ba (.cons e' es')|_,_=>K3) (ba .nil)
noncomputable def cB (f:Iz->HU E)(op:QN):HK Iz->HU E
 | []=>K3
 | [a]=>f a
 | a::b::bK=>match f a,cB f op (b::bK)with
  | some a',ba b'=>ba (match op with|.And=>.and a' b'|.Or=>.or a' b')
  | _,_=>K3
noncomputable def cP (f:Iz->HU E):HU Iz->HU Ep
 | none=>ba .no
 | some e=>(f e).map .yes
noncomputable def isTup:Iz->IF
 | .Tuple _ _ _=>true
 | _=>false
noncomputable def cI (Γ:Gam)(f:Iz->HU E)(tg:Iz):Iz->HU Ie
 | .Call (.Name x p) [a] [] q=>if x==("range" : Iv)&&lD Γ x&&Γ.blt.contains x then(cA f [a]).map .rng else if x==("enumerate" : Iv)&&lD Γ x&&Γ.blt.contains x&&isTup tg then(cA f [a]).map .enu else(f (.Call (.Name x p) [a] [] q)).map .seq
 | .Call (.Name x p) [a,b] [] q=>if x==("range" : Iv)&&lD Γ x&&Γ.blt.contains x then(cA f [a,b]).map .rng2 else(f (.Call (.Name x p) [a,b] [] q)).map .seq
 | e=>(f e).map .seq
noncomputable def DQ (Γ:Gam):HK Iz->HU (HK HW)
 | []=>ba []
 | .Name x _::ts=>match c7 Γ x,DQ Γ ts with
  | some i,ba is=>ba (i::is)
  | _,_=>K3
 | _::_=>K3
noncomputable def cT (Γ:Gam):Iz->HU Tg
 | .Name x _=>(c7 Γ x).map .nm
 | .Tuple ts _ _=>(DQ Γ ts).map .tp
 | _=>K3
noncomputable def gA (names:HK (Iv×J5)):HK Iv:=(names.filter λp=>p.2==.local||p.2==.free).map (·.1)
noncomputable def fX (Γ:Gam)(names:HK (Iv×J5)):HK (HU HW):=(gA names).map λx=>if names.lookup x==ba .local then K3 else Γ.N.findIdx? (· == x)
noncomputable def xw (Γ:Gam)(scope:Ld):IF:=
 (scope.kind==.function)&&scope.names.all (λy=>!(y.2==.local)||scope.names.lookup y.1==ba .local)&&scope.names.all (λy=>!(y.2==.cell)) &&
 scope.names.all (λy=>!(y.2==.free)||(AE (Γ.sc.lookup y.1)&&scope.names.lookup y.1==ba .free&&(Γ.N.findIdx? (· == y.1)).isSome))&&decide (gA scope.names).Nodup
noncomputable def gB (Γ:Gam)(scope:Ld):Gam:={ Γ with sc:=fH scope.names Γ.sc,N:=gA scope.names,dfn:=false }
noncomputable def xx (f:Iz->HU E)(keys:HK (HU Iz))(values:HK Iz):HU E:=
 if keys.isEmpty&&values.isEmpty then ba .dnew
 else if keys.all (·.isSome)&&decide (keys.length=values.length)&&decide (keys.length<=15)then(cA f (sP keys values)).map .disp else K3
noncomputable def cE:HW->Gam->Iz->HU E
 | 0,_,_=>K3
 | n+1,Γ,e=>match e with
  | .Constant (.int i) _ _=>ba (.c (.int i))
  | .Constant (.str x) _ _=>ba (.c (.str x))
  | .Constant (.bool b) _ _=>ba (.c (.bl b))
  | .Constant .none _ _=>ba (.c .non)
  | .Name x _=>match slot Γ x with
   | some i=>ba (.v i)
   | none=>K3
  | .BinOp a op b _=>match sN op,cE n Γ a,cE n Γ b with
   | some o,ba a',ba b'=>ba (.op o a' b')
   | _,_,_=>K3
  | .UnaryOp .Not a _=>(cE n Γ a).map .not
  | .UnaryOp .USub a _=>(cE n Γ a).map .neg
  | .BoolOp op vs _=>cB (cE n Γ) op vs
  | .Compare a [op] [b] _=>match sO op,cE n Γ a,cE n Γ b with
   | some o,ba a',ba b'=>ba (.cmp o a' b')
   | _,_,_=>K3
  | .IfExp t a b _=>match cE n Γ t,cE n Γ a,cE n Γ b with
   | some t',ba a',ba b'=>ba (.ite t' a' b')
   | _,_,_=>K3
  | .Call (.Name f _) args [] _=>if lD Γ f then match Γ.fns.lookup f with
    | some k=>(cA (cE n Γ) args).map (.own f k)
    | none=>if f==("isinstance" : Iv)then(if Γ.blt.contains f then AH Γ (cE n Γ) args else K3)else match AF f,args with
     | some b,a::as=>if Γ.blt.contains f then(cA (cE n Γ) (a::as)).map (.bi b)else K3
     | _,_=>K3
   else K3
  | .Call (.Attribute o m apos) (a::as) [] cpos=>match AG m,cE n Γ o,cA (cE n Γ) (a::as)with
   | some m',ba o',ba es=>if fW o&&(apos.endLine==cpos.line)&&decide ((a::as).length < 29)then ba (.me m' o' es)else K3
   | _,_,_=>K3
  | .Subscript a (.Slice lo hi K3 _) _=>match cE n Γ a,cP (cE n Γ) lo,cP (cE n Γ) hi with
   | some a',ba lo',ba hi'=>ba (.sl a' lo' hi')
   | _,_,_=>K3
  | .Subscript a b _=>match cE n Γ a,cE n Γ b with
   | some a',ba b'=>ba (.ix a' b')
   | _,_=>K3
  | .Tuple es _ _=>(cA (cE n Γ) es).map .tup
  | .List es _=>(cA (cE n Γ) es).map .lst
  | .Dict keys values _=>xx (cE n Γ) keys values
  | .ListComp elt [#[tg,iter,ifs,asy]] scope _=>if (asy==0)&&(xw Γ scope&&decide (ifs.length<=1))then
    match cI Γ (cE n Γ) tg iter,cT (gB Γ scope) tg,cA (cE n (gB Γ scope)) ifs,cE n (gB Γ scope) elt with
    | some it,ba t,ba cs,ba el=>ba (.comp el t it cs (fX Γ scope.names))
    | _,_,_,_=>K3
   else K3
  | _=>K3
structure CtxOk (Φ:Iv->FF)(X:Cx)(Γ:Gam):Prop where
 names:X.env.scope.names=Γ.sc
 kind:X.env.scope.kind=.function
 N:X.N=Γ.N
 nd:Γ.N.Nodup
 calm:X.calm=true
 xe:X.xe=λ_ _=>JF
 un:X.A.units+gH < cLine
 dfn:Γ.dfn=true->∀x,X.fn x=true
 blt:∀x∈Γ.blt,X.mg x=K3
 fns:∀f n,Γ.fns.lookup f=ba n->∃k fa fd ps,FnOk X.prog X.w X.K X.mg X.base vc k fa fd ps (xg X.w X.K n (Φ f))/\Room k X.A/\X.mg f=ba (.ref fa)/\JP X.K (.ref fa)=true/\Binds X.K fd ps []
theorem aW {α:Type}{x:α}{P:Prop}(h:(K3:HU α)=ba x):P:=nomatch h
noncomputable def gM:Iz->IF
 | .Starred _ _=>false
 | _=>true
theorem aD {e:Iz}{es:HK Iz}{env:Ow}(h:gM e=true):starEach (e::es) env=(false,eval e env)::starEach es env:=by
 cases e <;> first|rfl|cases h
theorem bw {env:Ow}{pos:KA}:∀ {es:HK Iz},es.all gM=true->(backTo pos (starEach es env)).any (·.1)=false
 | [],_=>rfl
 | e::es,h=>by
  rw[Jo,HV]at h;rw[aD h.1];show(false||(backTo pos (starEach es env)).any (·.1))=false
  rw[bw h.2];rfl
theorem p9 {env:Ow}{pos:KA}:∀ {es:HK Iz},es.all gM=true->(backTo pos (starEach es env)).all (λx=>!x.1)=true
 | [],_=>rfl
 | e::es,h=>by
  rw[Jo,HV]at h;rw[aD h.1];show(true&&(backTo pos (starEach es env)).all (λx=>!x.1))=true
  rw[p9 h.2];rfl
theorem iY {n:HW}{Γ:Gam}{e:Iz}{e':E}(h:cE n Γ e=ba e'):gM e=true:=by
 cases n with
 | zero=>cases h
 | succ n=>cases e <;> first|rfl|(exact aW h)
theorem ij {f:Iz->HU E}{e:Iz}{es:HK Iz}{r:Es}(h:cA f (e::es)=ba r):∃e' es',f e=ba e'/\cA f es=ba es'/\r=.cons e' es':=by
 simp only[cA,Pj]at h;split at h
 ·rename_i e' es' h1 h2;cases h;exact#[e',es',h1,h2,rfl]
 ·cases h
theorem cD {n:HW}{Γ:Gam}:∀ {es:HK Iz} {r:Es},cA (cE n Γ) es=ba r->es.all gM=true
 | [],_,_=>rfl
 | e::es,r,h=>by
  obtain⟨e',es',h1,h2,_⟩:=ij h;rw[Jo,iY h1,cD h2];rfl
theorem dq {N:HK Iv}{x:Iv}{i:HW}(h:N.findIdx? (· == x)=ba i):N[i]?=ba x:=by
 obtain⟨hl,h1,_⟩:=List.findIdx?_eq_some_iff_getElem.mp h;rw[Ic hl];exact congrArg ba (eq_of_beq h1)
section
variable{Φ:Iv->FF}{X:Cx}{Γ:Gam}
theorem jV {e:Iz}:GT X e (λ_ _=>K3):=λpins s σ H Q I #[A,ρ,S,k,S',er,so,e1,hq]=>by cases e1
theorem xy {x:Iv}(h:C7 (X.env.scope.names.lookup x)=true):FQ X.env.scope x:=by
 unfold C7 at h;split at h
 ·exact .inl (by assumption)
 ·exact .inr (.inl (by assumption))
 ·exact .inr (.inr (by assumption))
 ·cases h
theorem xz (K:CtxOk Φ X Γ){x:Iv}{pos:KA}{i:HW}(h:slot Γ x=ba i):GE X (.Name x pos) (fV i):=by
 unfold slot at h;split at h
 ·rename_i hc;rw[HV,HV]at hc;obtain⟨⟨h1,h2⟩,h3⟩:=hc;refine GK (vg (by rw[K.N]; exact dq h) (xy (by rw[K.names]; exact h1)) (by simpa using h2) (by simpa using h3))
 ·cases h
theorem kD (K:CtxOk Φ X Γ){x:Iv}(h:lD Γ x=true):Gl X x/\(x==("__debug__" : Iv))=false:=by
 unfold lD at h;rw[HV]at h;refine#[?_,by simpa using h.2]
 show X.env.scope.names.lookup x=_;rw[K.names];exact eq_of_beq h.1
theorem xA {o:Qb}{c:COp}(h:sO o=ba c):c.py=o:=by
 cases o <;> (simp only[sO,IT]at h; subst h; rfl)
theorem xB {o:Oz}{c:BOp}(h:sN o=ba c):c.py=o:=by
 cases o <;> simp only[sN,IT]at h <;> first|(subst h; rfl)|cases h
theorem uL {x:Iv}{b:Bi}(h:AF x=ba b):b.name=x:=by
 have:=Nz h;exact eq_of_beq this
theorem uM {x:Iv}{b:Me}(h:AG x=ba b):b.name=x:=by
 have:=Nz h;exact eq_of_beq this
theorem dz {n:HW}(ih:∀ {e:Iz} {e':E},cE n Γ e=ba e'->GE X e (aG Φ e')):∀ {es:HK Iz} {r:Es},cA (cE n Γ) es=ba r->GA X es (cZ Φ r)
 | [],r,h=>by cases h; exact CS
 | e::es,r,h=>by
  obtain⟨e',es',h1,h2,rfl⟩:=ij h;exact zY (ih h1) (dz ih h2) (aD (iY h1))
theorem EU (K:CtxOk Φ X Γ){n:HW}{f:Iv}{p pos:KA}{args:HK Iz}{k:HW}{r:Es}(hg:lD Γ f=true)(hf:Γ.fns.lookup f=ba k)(ha:cA (cE n Γ) args=ba r)(h:GA X args (cZ Φ r)):GE X (.Call (.Name f p) args [] pos) (pV k (Φ f) (cZ Φ r)):=by
 obtain⟨d,fa,fd,ps,F,hr,hm,hk,hb⟩:=K.fns f k hf;obtain⟨g1,g2⟩:=kD K hg;cases args with
 | nil=>cases ha; exact Ab F hr g1 hm hk hb g2
 | cons a as=>
  have ns:=cD ha;rw[Jo,HV]at ns;exact CU F hr g1 hm hk hb h g2 (aD ns.1) (bw ns.2)
theorem GP (K:CtxOk Φ X Γ){n:HW}{f:Iv}{p pos:KA}{a:Iz}{as:HK Iz}{b:Bi}{r:Es}(hg:lD Γ f=true)(hb:AF f=ba b)(hc:Γ.blt.contains f=true)(ha:cA (cE n Γ) (a::as)=ba r)(h:GA X (a::as) (cZ Φ r)):GE X (.Call (.Name f p) (a::as) [] pos) (jr b.fn (cZ Φ r)):=by
 obtain⟨g1,g2⟩:=kD K hg;have hm:X.mg f=K3:=K.blt f (by simpa using hc)
 have ns:=cD ha;rw[Jo,HV]at ns;have e:=uL hb;subst e;have hu:X.A.units+12 < cLine:=by have:=K.un; have:gH=20:=rfl; omega
 have calm:∀ {f:HM} {g:HK W->aa->HU (W×aa)},(X.A.handled=K3->LCall X f g)->LCall X f g:=λh pins s σ H A S xs vs us w S' I=>h (I.ok.hd K.calm) pins s σ H A S xs vs us w S' I
 cases b with
 | len=>exact sH rE g1 hm PySem.boot_len h #v[] g2 (aD ns.1) (bw ns.2)
 | list=>exact pT (calm λhh=>p8 (pg hh) (pK hh)) g1 hm rfl h #v[] g2 (aD ns.1) (bw ns.2)
 | tuple=>exact pT (calm nO) g1 hm rfl h #v[] g2 (aD ns.1) (bw ns.2)
 | int=>exact pT ud g1 hm rfl h #v[] g2 (aD ns.1) (bw ns.2)
 | set=>exact pT (calm λhh=>rA hh hu) g1 hm rfl h #v[] g2 (aD ns.1) (bw ns.2)
 | sorted=>exact sH (calm λhh=>p8 (pR hh hu) (nK hh hu)) g1 hm rfl h #v[] g2 (aD ns.1) (bw ns.2)
 | range=>exact pT pf g1 hm rfl h #v[] g2 (aD ns.1) (bw ns.2)
 | all=>exact sH (calm uE) g1 hm rfl h #v[] g2 (aD ns.1) (bw ns.2)
 | min=>exact sH (calm λhh=>uC hh hu) g1 hm rfl h #v[] g2 (aD ns.1) (bw ns.2)
theorem xC {x:Iv}{c:JJ}(h:xv x=ba c):bootBuiltins x=ba (.type c)/\x≠"__name__":=by
 unfold xv at h;split at h
 ·rename_i e; cases h; rw[eq_of_beq e]; exact#[rfl,#v[]]
 ·split at h
  ·rename_i e; cases h; rw[eq_of_beq e]; exact#[rfl,#v[]]
  ·split at h
   ·rename_i e; cases h; rw[eq_of_beq e]; exact#[rfl,#v[]]
   ·split at h
    ·rename_i e; cases h; rw[eq_of_beq e]; exact#[rfl,#v[]]
    ·split at h
     ·rename_i e; cases h; rw[eq_of_beq e]; exact#[rfl,#v[]]
     ·split at h
      ·rename_i e; cases h; rw[eq_of_beq e]; exact#[rfl,#v[]]
      ·cases h
theorem EV (K:CtxOk Φ X Γ){n:HW}{f:Iv}{p pos:KA}{args:HK Iz}{r:E}(hg:lD Γ f=true)(hb:(f==("isinstance" : Iv))=true)(hc:Γ.blt.contains f=true)(ih:∀ {e:Iz} {e':E},cE n Γ e=ba e'->GE X e (aG Φ e'))(h:AH Γ (cE n Γ) args=ba r) :
  GE X (.Call (.Name f p) args [] pos) (aG Φ r)/\∃a c,r=.isi c a:=by
 obtain⟨g1,g2⟩:=kD K hg;have hm:X.mg f=K3:=K.blt f (by simpa using hc)
 have e:=eq_of_beq hb;subst e;unfold AH at h;split at h
 ·rename_i a c q;split at h
  ·rename_i hcc;rw[HV]at hcc;obtain⟨g3,g4⟩:=kD K (x:=c) hcc.1;have hm2:X.mg c=K3:=K.blt c (by simpa using hcc.2)
   split at h
   ·rename_i cs a' h1 h2;cases h;obtain⟨b1,b2⟩:=xC h1;exact#[C5 g1 hm g3 hm2 b1 b2 g4 (ih h2) (aD (iY h2)),a',cs,rfl]
   ·cases h
  ·cases h
 ·cases h
theorem eH {o:Iz}{name:Iv}{env:Ow}(h:fW o=true):attributeBase o name env (eval o env)=eval o env:=by
 cases o <;> first|rfl|cases h
theorem sQ {n:HW}{pos:KA}(ih:∀ {e:Iz} {e':E},cE n Γ e=ba e'->GE X e (aG Φ e')):∀(keys:HK (HU Iz)) (values:HK Iz) {r:Es},keys.all (·.isSome)=true->keys.length=values.length->cA (cE n Γ) (sP keys values)=ba r->EQ X pos keys values (cZ Φ r)
 | [],[],r,_,_,h=>by cases h; exact Au
 | [],_::_,r,_,hl,_=>by cases hl
 | _::_,[],r,_,hl,_=>by cases hl
 | none::_,_::_,r,ha,_,_=>by cases ha
 | some k::ks,v::vs,r,ha,hl,h=>by
  simp only[sP]at h;obtain⟨e1,es1,h1,h2,rfl⟩:=ij h;obtain⟨e2,es2,h3,h4,rfl⟩:=ij h2;rw[Jo,HV]at ha;exact xp (ih h1) (ih h3) (sQ ih ks vs ha.2 (by simpa using hl) h4)
theorem GQ (K:CtxOk Φ X Γ){n:HW}{m:Iv}{apos cpos:KA}{o a:Iz}{as:HK Iz}{b:Me}{o':E}{r:Es}(hm:AG m=ba b)(hr:fW o=true)(hl:(apos.endLine==cpos.line)=true)(hn:(a::as).length < 29)(ho:GE X o (aG Φ o'))(ha:cA (cE n Γ) (a::as)=ba r)(h:GA X (a::as) (cZ Φ r)) :
  GE X (.Call (.Attribute o m apos) (a::as) [] cpos) (DO b.ty b.fn (aG Φ o') (cZ Φ r)):=by
 have ns:=cD ha;have ns':=ns;rw[Jo,HV]at ns;have jA:((backTo cpos (starEach (a::as) X.env)).all (λx=>!x.1)&&(backToKw cpos (keywordEach [] X.env)).all (λx=>x.1.isSome)&&decide ((a::as).length+([]:HK Pl).length+(if ([]:HK Pl).isEmpty then 0 else 1) < 30))=true:=by
  rw[p9 ns',L8,HV];exact#[rfl,JY (by simp only[Ke,List.isEmpty_nil,Kb]; omega)]
 have e:=uM hm;subst e;cases b with
 | append=>exact pU LO PySem.F.slot_list_append PySem.F.type_list_append nC ho h (eH hr) jA hl (aD ns.1) (bw ns.2)
 | extend=>exact pU LO PySem.F.slot_list_extend PySem.F.type_list_extend nD ho h (eH hr) jA hl (aD ns.1) (bw ns.2)
 | join=>exact pU PySem.F.plainAttrs_str PySem.F.slot_str_join PySem.F.type_str_join qX ho h (eH hr) jA hl (aD ns.1) (bw ns.2)
 | pop=>exact pU LO PySem.F.slot_list_pop PySem.F.type_list_pop ue ho h (eH hr) jA hl (aD ns.1) (bw ns.2)
 | get=>exact pU PySem.F.plainAttrs_dict NE PySem.F.type_dict_get (rc (by have:=K.un; have:gH=20:=rfl; omega)) ho h (eH hr) jA hl (aD ns.1) (bw ns.2)
theorem qa {n:HW}{Γ:Gam}{e:Iz}{e':E}{op:Qb}(h:cE n Γ e=ba e'):behindInMarks op e=false:=by
 cases n with
 | zero=>cases h
 | succ n=>cases e <;> first|rfl|(exact aW h)
theorem rH {n:HW}{Γ:Gam}{e:Iz}{e':E}(h:cE n Γ e=ba e'):nr e:=by
 cases n with
 | zero=>cases h
 | succ n=>cases e <;> first|(intro o i; rfl)|(exact aW h)
theorem nS {n:HW}{Γ:Gam}{f:Iz->HU E}{e:Iz}{i:Ie}{env:Ow}{tg:Iz}(hf:∀el k p,f (.Set el k p)=K3)(h:cI Γ f tg e=ba i):∀x,foldedSetIterable e env x=pure x:=by
 intro x;cases e <;> first|rfl|(simp[cI,hf]at h)
theorem nT {n:HW}{op:QN}{pos:KA}(ih:∀ {e:Iz} {e':E},cE n Γ e=ba e'->GE X e (aG Φ e')):∀ {vs:HK Iz} {r:E},cB (cE n Γ) op vs=ba r->GE X (.BoolOp op vs pos) (aG Φ r)
 | [],r,h=>by cases h
 | [a],r,h=>CN (ih h)
 | a::b::bK,r,h=>by
  simp only[cB]at h;split at h
  ·rename_i a' b' h1 h2;cases h;cases op with
   | And=>exact CO (ih h1) (nT ih h2)
   | Or=>exact EJ (ih h1) (nT ih h2)
  ·cases h
theorem nU {n:HW}{op:QN}{pos:KA}(ih:∀ {e:Iz} {e':E},cE n Γ e=ba e'->GT X e (cU Φ e')):∀ {vs:HK Iz} {r:E},cB (cE n Γ) op vs=ba r->GW X (.BoolOp op vs pos) (cU Φ r)
 | [],r,h=>by cases h
 | [a],r,h=>by
  cases op with
  | And=>exact zU (ih h)
  | Or=>exact CK (ih h)
 | a::b::bK,r,h=>by
  simp only[cB]at h;split at h
  ·rename_i a' b' h1 h2;cases h;cases op with
   | And=>exact CL (ih h1) (nU ih h2)
   | Or=>exact EI (ih h1) (nU ih h2)
  ·cases h
theorem xD {n:HW}(ih:∀ {e:Iz} {e':E},cE n Γ e=ba e'->GE X e (aG Φ e')){o:HU Iz}{p:Ep}(h:cP (cE n Γ) o=ba p):GO X o (sM Φ p):=by
 cases o with
 | none=>cases h; exact zZ
 | some e=>
  simp only[cP,HS]at h;obtain⟨e',h1,rfl⟩:=h;exact Aa (ih h1)
theorem rJ (K:CtxOk Φ X Γ){n:HW}(ih:∀ {e:Iz} {e':E},cE n Γ e=ba e'->GE X e (aG Φ e')){tg e:Iz}{i:Ie}(h:cI Γ (cE n Γ) tg e=ba i):GI X tg e (ly Φ i):=by
 have gen:(cE n Γ e).map Ie.seq=ba i->GI X tg e (ly Φ i):=λh=>by
  rw[HS]at h;obtain⟨e',h1,rfl⟩:=h;exact Ax (ih h1)
 unfold cI at h;split at h
 ·rename_i x p a pos;split at h
  ·rename_i hc;rw[HV,HV]at hc;obtain⟨⟨h1,h2⟩,h3⟩:=hc;have hx:=eq_of_beq h1;subst hx;rw[HS]at h;obtain⟨r,hr,rfl⟩:=h;have ns:=cD hr;rw[Jo,HV]at ns;exact Ar (kD K h2).1 (K.blt _ (by simpa using h3)) (dz ih hr) (aD ns.1)
  ·split at h
   ·rename_i hc;rw[HV,HV,HV]at hc;obtain⟨⟨⟨h1,h2⟩,h3⟩,h4⟩:=hc;have hx:=eq_of_beq h1;subst hx;rw[HS]at h;obtain⟨r,hr,rfl⟩:=h;have ns:=cD hr;rw[Jo,HV]at ns;cases tg with
    | Tuple els k0 tp=>exact AB (kD K h2).1 (K.blt _ (by simpa using h3)) (dz ih hr) (aD ns.1)
    | _=>cases h4
   ·exact gen h
 ·rename_i x p a b pos;split at h
  ·rename_i hc;rw[HV,HV]at hc;obtain⟨⟨h1,h2⟩,h3⟩:=hc;have hx:=eq_of_beq h1;subst hx;rw[HS]at h;obtain⟨r,hr,rfl⟩:=h;have ns:=cD hr;rw[Jo,Jo,HV,HV]at ns;exact As (kD K h2).1 (K.blt _ (by simpa using h3)) (dz ih hr) (by rw[aD ns.1,aD ns.2.1]; rfl) (aD ns.2.1)
  ·exact gen h
 ·exact gen h
theorem nV (K:CtxOk Φ X Γ){x:Iv}{i:HW}(h:c7 Γ x=ba i):X.N[i]?=ba x/\yT X.env.scope x/\(X.fn x=true\/X.env.scope.names.lookup x=ba .local):=by
 unfold c7 at h;split at h
 ·rename_i hc;refine#[by rw[K.N]; exact dq h,?_]
  unfold L2.yT;rw[K.names];rw[J0,HV]at hc;rcases hc with hc|⟨hd,hc⟩
  ·have:=eq_of_beq hc;exact#[.inl this,.inr this]
  ·exact#[.inr (eq_of_beq hc),.inl (K.dfn hd x)]
 ·cases h
theorem qb (K:CtxOk Φ X Γ):∀ {ts:HK Iz} {is:HK HW},DQ Γ ts=ba is->(∀x∈ts,∃y p,x=NX y p)/\Na (λ(t:Iz) (i:HW)=>∃x p,t=NX x p/\X.N[i]?=ba x/\yT X.env.scope x/\(X.fn x=true\/X.env.scope.names.lookup x=ba .local)) ts is
 | [],is,h=>by cases h; exact#[λx hx=>by simp at hx,.nil]
 | t::ts,is,h=>by
  cases t with
  | Name x p=>
   simp only[DQ]at h;split at h
   ·rename_i i is' h1 h2;cases h;obtain⟨a,b⟩:=qb K h2;exact#[λy hy=>(IE.mp hy).elim (λe=>#[x,p,e]) (a y),.cons #[x,p,rfl,nV K h1] b]
   ·cases h
  | _=>cases h
theorem gN {env:Ow}:∀ {ts:HK Iz},(∀x∈ts,∃y p,x=NX y p)->(assignEach ts env).length=ts.length/\(assignEach ts env).findIdx? (·.1)=K3
 | [],_=>#[rfl,rfl]
 | t::ts,h=>by
  obtain⟨y,p,rfl⟩:=h t JG;obtain⟨a,b⟩:=gN (env:=env) λx hx=>h x (JD _ hx)
  refine#[by show(assignEach ts env).length+1=ts.length+1; rw[a],?_]
  show List.findIdx? (·.1) ((false,assign (.Name y p) env)::assignEach ts env)=K3
  rw[List.findIdx?_cons,b];rfl
theorem sR (K:CtxOk Φ X Γ){tg:Iz}{t:Tg}(h:cT Γ tg=ba t):GG X tg (iM t):=by
 have hN:X.N.Nodup:=by rw[K.N]; exact K.nd
 cases tg with
 | Name x p=>
  simp only[cT,HS]at h;obtain⟨i,h1,rfl⟩:=h;obtain⟨a,b,c⟩:=nV K h1;exact sJ hN a b c
 | Tuple ts k p=>
  simp only[cT,HS]at h;obtain⟨is,h1,rfl⟩:=h;obtain⟨a,b⟩:=qb K h1;exact CY K.calm a b hN (gN a).1 (gN a).2
 | _=>cases h
end
noncomputable def eB (env:Ow):HK (Iv×J5)->HK (Iv×HX)->HK (Iv×HX)
 | [],cs=>cs
 | (n,k)::r,cs=>eB env r (if k==.free then(n,(env.cells.lookup n).getD 0)::cs else cs)
theorem iZ {env:Ow}:∀(names:HK (Iv×J5)) (cs:HK (Iv×HX)),(∀y∈names,y.2=.free->(env.cells.lookup y.1).isSome=true)->
  (forIn names cs λx r=>match x with|(name,kind)=>if (kind==LF)=true then do let a <- cellOf env name; pure (J1 ((name,a)::r))else pure (J1 r):Qo (HK (Iv×HX)))=pure (eB env names cs)
 | [],cs,_=>by rw[PL]; rfl
 | (n,k)::r,cs,h=>by
  rw[Nv];have hr:=λy hy=>h y (JD _ hy)
  by_cases hk:(k==LF)=true
  ·obtain⟨c,hc⟩:=Jn.mp (h (n,k) JG (eq_of_beq hk));have e1:cellOf env n=pure c:=by unfold cellOf; rw[hc]
   simp only[hk,Kb,e1,pure_bind];rw[iZ r _ hr];simp only[eB,hk,Kb,hc,O3]
  ·have hk':(k==LF)=false:=by simpa using hk
   simp only[hk',IB,JA,pure_bind];rw[iZ r _ hr];simp only[eB,hk',IB,JA]
theorem jz {scope:Ld}{env:Ow}(h:∀y∈scope.names,y.2=.free->(env.cells.lookup y.1).isSome=true):closureFor scope env=pure (eB env scope.names []):=by
 have:=iZ scope.names [] h;unfold closureFor;simp only[this,pure_bind]
theorem kE {env:Ow}:∀(names:HK (Iv×J5)) (cs:HK (Iv×HX)),(∀y∈names,y.2=.free->(env.cells.lookup y.1).isSome=true)->(∀x c,cs.lookup x=ba c->env.cells.lookup x=ba c)->
  ∀x c,(eB env names cs).lookup x=ba c->env.cells.lookup x=ba c
 | [],cs,_,h,x,c,e=>h x c e
 | (n,k)::r,cs,hn,h,x,c,e=>by
  refine kE r _ (λy hy=>hn y (JD _ hy)) (λx c e=>?_) x c e
  split at e
  ·rename_i hk;rw[J9]at e;split at e
   ·rename_i hx;cases e;have:=eq_of_beq hx;subst this;obtain⟨c,hc⟩:=Jn.mp (hn (x,k) JG (eq_of_beq hk));rw[hc]; rfl
   ·exact h x c e
  ·exact h x c e
theorem jt {env:Ow}{x:Iv}:∀(names:HK (Iv×J5)) (cs:HK (Iv×HX)),(∃c,cs.lookup x=ba c)->∃c,(eB env names cs).lookup x=ba c
 | [],cs,h=>h
 | (n,k)::r,cs,h=>by
  refine jt r _ ?_;split
  ·rw[J9];split
   ·exact#[_,rfl]
   ·exact h
  ·exact h
theorem kF {env:Ow}{x:Iv}:∀(names:HK (Iv×J5)) (cs:HK (Iv×HX)),(x,LF)∈names->∃c,(eB env names cs).lookup x=ba c
 | [],cs,h=>by simp at h
 | (n,k)::r,cs,h=>by
  rcases IE.mp h with e|h
  ·cases e;refine jt r _ ?_;simp[J9]
  ·exact kF r _ h
theorem kG {x:Iv}{k:J5}:∀ {l:HK (Iv×J5)},l.lookup x=ba k->(x,k)∈l
 | [],h=>by simp at h
 | (n,j)::r,h=>by
  rw[J9]at h;split at h
  ·rename_i hx;cases h;have:=eq_of_beq hx;subst this;exact JG
  ·exact JD _ (kG h)
theorem eC {X:Cx}{Φ:Iv->FF}{Γ:Gam}(K:CtxOk Φ X Γ)(scope:Ld):(relabel scope X.env).names=fH scope.names Γ.sc:=by
 unfold relabel fH Nj;rw[K.kind,K.names];refine JV λ#[n,k] _=>?_
 have e:(Op==Op)=true:=rfl;simp only[e,LC]
theorem dW {outer:HK (Iv×J5)}{x:Iv}:∀ {names:HK (Iv×J5)},(fH names outer).lookup x=(names.lookup x).map λk=>if (k==.free&&outer.lookup x==ba .cell)then .cell else k
 | []=>rfl
 | (n,k)::r=>by
  have ih:=dW (outer:=outer) (x:=x) (names:=r);show List.lookup x ((if (k==LF&&outer.lookup n==ba .cell)=true then(n,Rk)else(n,k))::fH r outer)=_
  cases hx:x==n with
  | true=>
   have:=eq_of_beq hx;subst this;simp only[J9,Jj,IZ];split <;> simp[J9]
  | false=>
   simp only[J9,hx];split <;> (simp only[J9,hx]; exact ih)
section
variable{Φ:Iv->FF}{X:Cx}{Γ:Gam}
structure ScOk (Γ:Gam)(scope:Ld):Prop where
 kind:scope.kind=.function
 names:∀y∈scope.names,y.2=.local->scope.names.lookup y.1=ba .local
 nocell:∀y∈scope.names,y.2≠.cell
 free:∀y∈scope.names,y.2=.free->AE (Γ.sc.lookup y.1)=true/\scope.names.lookup y.1=ba .free/\(Γ.N.findIdx? (· == y.1)).isSome=true
 nd:(gA scope.names).Nodup
theorem sS {scope:Ld}(h:xw Γ scope=true):ScOk Γ scope:=by
 unfold xw at h;rw[HV,HV,HV,HV]at h;obtain⟨⟨⟨⟨h1,h2⟩,h3⟩,h4⟩,h5⟩:=h;refine#[eq_of_beq h1,λy hy e=>?_,λy hy e=>?_,λy hy e=>?_,Jl h5]
 ·have:=IC.mp h2 y hy;rw[e]at this
  simpa using this
 ·have:=IC.mp h3 y hy;rw[e]at this;simp at this
 ·have:=IC.mp h4 y hy;rw[e]at this;simp only[Jj,KS,MZ,HV]at this;exact#[this.1.1,eq_of_beq this.1.2,this.2]
theorem sT {o:HU J5}(h:AE o=true):o=ba .cell\/o=ba .free:=by
 unfold AE at h;split at h
 ·exact .inl rfl
 ·exact .inr rfl
 ·cases h
theorem mM (K:CtxOk Φ X Γ)(ok:X.Ok){scope:Ld}(sc:ScOk Γ scope):CompOk X scope (eB X.env scope.names []) (gA scope.names) (fX Γ scope.names):=by
 have cells:∀y∈scope.names,y.2=.free->(X.env.cells.lookup y.1).isSome=true:=λy hy e=>by
  have hk:=sT (sc.free y hy e).1;obtain⟨c,hc⟩:=ok.has y.1 (by unfold Nj; rw[K.names]; exact hk)
  rw[hc]; rfl
 have relab:∀x,((relabel scope X.env).names.lookup x=ba .cell\/(relabel scope X.env).names.lookup x=ba .free)->(x,LF)∈scope.names:=λx h=>by
  rw[eC K,dW]at h;cases q:scope.names.lookup x with
  | none=>rw[q]at h; rcases h with h|h <;> cases h
  | some k=>
   rw[q]at h;have hm:=kG q;cases k with
   | free=>exact hm
   | cell=>exact absurd rfl (sc.nocell _ hm)
   | _=>rcases h with h|h <;> simp at h
 refine#[jz cells,sc.kind,sc.names,sc.nocell,kE _ _ cells (λx c e=>by cases e),λx h=>kF _ _ (relab x h),by simp[fX],λi j x hi hx=>?_]
 unfold fX at hi;rw[HY,hx]at hi;simp only[IZ,IT]at hi;split at hi
 ·cases hi
 ·rename_i hl;have hx2:x∈gA scope.names:=Ip hx;unfold gA at hx2;obtain⟨⟨x',k⟩,hf,e⟩:=II.mp hx2;obtain⟨hm,hk⟩:=Mc.mp hf;have e':x'=x:=e;subst e';have hkf:k=.free:=by
   simp only[J0]at hk;rcases hk with hk|hk
   ·have:k=.local:=eq_of_beq hk;subst this;have:=sc.names (x',.local) hm rfl;rw[this]at hl;simp at hl
   ·exact eq_of_beq hk
  subst hkf;obtain⟨f1,f2,f3⟩:=sc.free _ hm rfl;refine#[by rw[K.N]; exact dq hi,by unfold Nj; rw[K.names]; exact sT f1,?_]
  rw[eC K,dW,f2];simp only[IZ,IT,Jj,L8];split
  ·exact .inl rfl
  ·exact .inr rfl
theorem eJ (K:CtxOk Φ X Γ){scope:Ld}(sc:ScOk Γ scope)(C:HX)(s0:HQ)(H0:Hp)(ex:HK HX):CtxOk Φ (lx X scope (eB X.env scope.names []) C (gA scope.names) s0 H0 ex) (gB Γ scope) where
 names:=eC K scope
 kind:=sc.kind
 N:=rfl
 nd:=sc.nd
 calm:=K.calm
 xe:=rfl
 un:=K.un
 dfn:=λh=>by cases h
 blt:=K.blt
 fns:=K.fns
theorem qc {cs:Es}{n:HW}{ifs:HK Iz}{Γ:Gam}(hl:ifs.length<=1)(hc:cA (cE n Γ) ifs=ba cs){Y:Cx}(ih:∀ {e:Iz} {e':E},cE n Γ e=ba e'->GT Y e (cU Φ e'))(hx:Y.xe=λ_ _=>JF) :
  ∀pins s σ H Q,Inv Y pins σ H s->tT Y (AD Φ cs) σ H Q->
  wpAny (model Y.prog Y.w) Y.A (forIn ifs true λc r=>if r=true then do let ok <- isTrue c Y.env (eval c Y.env); pure (J1 ok)else pure (J1 r)) (TP Y pins σ Q) (λ_ _=>JF) s:=by
 intro pins s σ H Q I h
 match ifs,hl,hc with
 | [],_,hc=>
  cases hc;obtain⟨A,ρ,S,k,S',er,so,e,hq⟩:=h;cases e;exact wpAny_tests_nil #[H,I,hq _ _ #[rfl,A,.refl,so]]
 | [c],_,hc=>
  obtain⟨e',es',h1,h2,rfl⟩:=ij hc;cases h2;have:=ih h1 pins s σ H Q I h;rw[hx]at this;exact wpAny_tests_one this
theorem bU:∀(n:HW) {Γ:Gam} {X:Cx} {e:Iz} {e':E},CtxOk Φ X Γ->cE n Γ e=ba e'->GE X e (aG Φ e')/\GT X e (cU Φ e'):=by
 intro n
 induction n with
 | zero=>intro Γ X e e' K h; cases h
 | succ n ih=>
  intro Γ X e e' K h;have ihE:∀ {e:Iz} {e':E},cE n Γ e=ba e'->GE X e (aG Φ e'):=λq=>(ih K q).1
  have ihT:∀ {e:Iz} {e':E},cE n Γ e=ba e'->GT X e (cU Φ e'):=λq=>(ih K q).2
  have hu10:X.A.units+10 < cLine:=by have:=K.un; have:gH=20:=rfl; omega
  cases e with
  | Constant c k p=>
   cases c <;> cases h
   all_goals first
    | exact#[pS vk (λ_ _=>.non),cy (pS vk (λ_ _=>.non)) λ_=>rfl]
    | exact#[pS Bq (λ_ _=>.bl),cy (pS Bq (λ_ _=>.bl)) λ_=>rfl]
    | exact#[pS vh (λ_ _=>.int),cy (pS vh (λ_ _=>.int)) λ_=>rfl]
    | exact#[pS vm (λ_ _=>.str),cy (pS vm (λ_ _=>.str)) λ_=>rfl]
  | Name x p=>
   replace h:(match slot Γ x with|some i=>ba (E.v i)|none=>K3)=ba e':=h
   split at h
   ·rename_i i h1;cases h;exact#[xz K h1,cy (xz K h1) λ_=>rfl]
   ·cases h
  | BinOp a op b p=>
   replace h:(match sN op,cE n Γ a,cE n Γ b with|some o,ba a',ba b'=>ba (E.op o a' b')|_,_,_=>K3)=ba e':=h
   split at h
   ·rename_i o a' b' h1 h2 h3;cases h;have e:=xB h1;subst e;exact#[Bv (r4 o) (ihE h2) (ihE h3),cy (Bv (r4 o) (ihE h2) (ihE h3)) λ_=>rfl]
   ·cases h
  | UnaryOp op a p=>
   cases op with
   | Not=>
    replace h:(cE n Γ a).map E.not=ba e':=h;rw[HS]at h;obtain⟨a',h1,rfl⟩:=h;exact#[CP (ihE h1),CM (ihT h1)]
   | USub=>
    replace h:(cE n Γ a).map E.neg=ba e':=h;rw[HS]at h;obtain⟨a',h1,rfl⟩:=h;exact#[wR (ihE h1),cy (wR (ihE h1)) λ_=>rfl]
   | _=>exact aW h
  | BoolOp op vs p=>
   replace h:cB (cE n Γ) op vs=ba e':=h;exact#[nT ihE h,(nU ihT h).pt]
  | Compare a ops cs p=>
   match ops,cs,h with
   | [op],[b],h=>
    replace h:(match sO op,cE n Γ a,cE n Γ b with|some o,ba a',ba b'=>ba (E.cmp o a' b')|_,_,_=>K3)=ba e':=h
    split at h
    ·rename_i o a' b' h1 h2 h3;cases h;have e:=xA h1;subst e;exact#[CI K.un (ihE h2) (ihE h3) (qa h3),CJ K.un (ihE h2) (ihE h3) (qa h3)]
    ·cases h
   | [],_,h=>exact aW h
   | [_],[],h=>exact aW h
   | [_],_::_::_,h=>exact aW h
   | _::_::_,_,h=>exact aW h
  | IfExp t a b p=>
   replace h:(match cE n Γ t,cE n Γ a,cE n Γ b with|some t',ba a',ba b'=>ba (E.ite t' a' b')|_,_,_=>K3)=ba e':=h
   split at h
   ·rename_i t' a' b' h1 h2 h3;cases h;exact#[CQ (ihT h1) (ihE h2) (ihE h3),jV]
   ·cases h
  | Call f args kws p=>
   cases kws with
   | cons _ _=>cases f <;> first|(exact aW h)|(cases args <;> (exact aW h))
   | nil=>
    cases f with
    | Name x q=>
     replace h:(if lD Γ x then match Γ.fns.lookup x with|some k=>(cA (cE n Γ) args).map (E.own x k)|none=>if x==("isinstance" : Iv)then(if Γ.blt.contains x then AH Γ (cE n Γ) args else K3)else match (generalizing:=false) AF x,args with|some b,a::as=>if Γ.blt.contains x then(cA (cE n Γ) (a::as)).map (E.bi b)else K3|_,_=>K3 else K3)=ba e':=h
     split at h
     ·rename_i hg;split at h
      ·rename_i k hk;rw[HS]at h;obtain⟨r,hr,rfl⟩:=h;have g:=EU (pos:=p) (p:=q) K hg hk hr (dz ihE hr);exact#[g,cy g λ_=>rfl]
      ·split at h
       ·rename_i his;split at h
        ·rename_i hc;obtain⟨g,a',c',rfl⟩:=EV (pos:=p) (p:=q) K hg his hc ihE h;exact#[g,cy g λ_=>rfl]
        ·cases h
       ·split at h
        ·rename_i bb a as hb;split at h
         ·rename_i hc;rw[HS]at h;obtain⟨r,hr,rfl⟩:=h;have g:=GP (pos:=p) (p:=q) K hg hb hc hr (dz ihE hr);exact#[g,cy g λ_=>rfl]
         ·cases h
        ·cases h
     ·cases h
    | Attribute o m q=>
     cases args with
     | nil=>exact aW h
     | cons a as=>
      replace h:(match AG m,cE n Γ o,cA (cE n Γ) (a::as)with|some m',ba o',ba es=>if fW o&&(q.endLine==p.line)&&decide ((a::as).length < 29)then ba (E.me m' o' es)else K3|_,_,_=>K3)=ba e':=h
      split at h
      ·rename_i m' o' es h1 h2 h3;split at h
       ·rename_i hc;rw[HV,HV,Iw]at hc;cases h;have g:=GQ K (cpos:=p) (apos:=q) h1 hc.1.1 hc.1.2 hc.2 (ihE h2) h3 (dz ihE h3);exact#[g,cy g λ_=>rfl]
       ·cases h
      ·cases h
    | _=>exact aW h
  | Subscript a b p=>
   have plain:(match cE n Γ a,cE n Γ b with|some a',ba b'=>ba (E.ix a' b')|_,_=>K3)=ba e'->GE X (.Subscript a b p) (aG Φ e')/\GT X (.Subscript a b p) (cU Φ e'):=λh=>by
    split at h
    ·rename_i a' b' h1 h2;cases h;have g:=EL (pos:=p) hu10 (ihE h1) (ihE h2) (rH h2);exact#[g,cy g λ_=>rfl]
    ·cases h
   cases b with
   | Slice lo hi st q=>
    cases st with
    | none=>
     replace h:(match cE n Γ a,cP (cE n Γ) lo,cP (cE n Γ) hi with|some a',ba lo',ba hi'=>ba (E.sl a' lo' hi')|_,_,_=>K3)=ba e':=h
     split at h
     ·rename_i a' lo' hi' h1 h2 h3;cases h;have g:=EM (pos:=p) (p2:=q) (ihE h1) (xD ihE h2) (xD ihE h3);exact#[g,cy g λ_=>rfl]
     ·cases h
    | some z=>exact plain h
   | _=>exact plain h
  | Tuple es k p=>
   replace h:(cA (cE n Γ) es).map E.tup=ba e':=h;rw[HS]at h;obtain⟨r,h1,rfl⟩:=h;exact#[w9 (dz ihE h1),cy (w9 (dz ihE h1)) λ_=>rfl]
  | List es p=>
   replace h:(cA (cE n Γ) es).map E.lst=ba e':=h;rw[HS]at h;obtain⟨r,h1,rfl⟩:=h;exact#[xf (dz ihE h1),cy (xf (dz ihE h1)) λ_=>rfl]
  | Dict keys values p=>
   replace h:xx (cE n Γ) keys values=ba e':=h;unfold xx at h;split at h
   ·rename_i hc;cases h;rw[HV]at hc;have k0:keys=[]:=O4.mp hc.1;have v0:values=[]:=O4.mp hc.2;subst k0 v0;exact#[Av,jV]
   ·rename_i hc0;split at h
    ·rename_i hc;rw[HV,HV,Iw,Iw]at hc;rw[HS]at h;obtain⟨r,hr,rfl⟩:=h;have h0:keys≠[]:=λz=>by
      subst z;have v0:values=[]:=Kv.mp hc.1.2.symm;subst v0;exact hc0 rfl
     exact#[Aw (pos:=p) hu10 (sQ ihE keys values hc.1.1 hc.1.2 hr) hc.1.1 hc.1.2 h0 hc.2,jV]
    ·cases h
  | ListComp elt gens scope p=>
   match gens,h with
   | [#[tg,iter,ifs,asy]],h=>
    replace h:(if (asy==0)&&(xw Γ scope&&decide (ifs.length<=1))then match cI Γ (cE n Γ) tg iter,cT (gB Γ scope) tg,cA (cE n (gB Γ scope)) ifs,cE n (gB Γ scope) elt with|some it,ba t,ba cs,ba el=>ba (E.comp el t it cs (fX Γ scope.names))|_,_,_,_=>K3 else K3)=ba e':=h
    split at h
    ·rename_i hc;rw[HV,HV,Iw]at hc;have e0:asy=0:=eq_of_beq hc.1;subst e0;replace hc:=hc.2;split at h
     ·rename_i it t cs el h1 h2 h3 h4;cases h;have sc:=sS hc.1;refine#[Ay K.calm (rJ K ihE h1) (λok=>#[_,mM K ok sc,?_]) (nS (n:=n) (λel k p=>by cases n <;> rfl) h1),jV]
      refine#[λC s0 H0 ex=>sR (eJ K sc C s0 H0 ex) h2,λC s0 H0 ex pins s σ H Q I q=>?_,λC s0 H0 ex=>(ih (eJ K sc C s0 H0 ex) h4).1]
      exact qc hc.2 h3 (λz=>(ih (eJ K sc C s0 H0 ex) z).2) rfl pins s σ H Q I q
     ·cases h
    ·cases h
   | [],h=>exact aW h
   | #[_,_,_,_]::_::_,h=>exact aW h
  | _=>exact aW h
end
noncomputable abbrev bV:HW:=30
noncomputable def By:Iz->IF
 | .Constant (.str _) _ _=>true
 | _=>false
noncomputable def i3:Iz->IF
 | .ListComp _ _ _ _=>true
 | _=>false
noncomputable def sU:Iz->IF
 | .Slice _ _ _ _=>true
 | _=>false
noncomputable def uN (f:KQ->HU Sm)(ss:HK KQ):HU Ss:=ss.foldr (λs acc=>match f s,acc with|some s',ba ss'=>ba (.cons s' ss')|_,_=>K3) (ba .nil)
noncomputable def C8 (Γ:Gam):HK Iz->Iz->HU Sm
 | [.Name x px,.Name y py],.Tuple [a,b] _ _=>match Γ.N.findIdx? (· == x),Γ.N.findIdx? (· == y),cA (cE bV Γ) [a,b]with
  | some i,ba j,ba es=>if !(i==j)&&(Γ.sc.lookup x==ba .local)&&(Γ.sc.lookup y==ba .local)&&(py.line==px.line) && !([a,b].all (foldedForSure 8)) && !([a,b].all (constantsAlone 8))then ba (.par i j es)else K3
  | _,_,_=>K3
 | _,_=>K3
noncomputable def cS:HW->Gam->KQ->HU Sm
 | 0,_,_=>K3
 | n+1,Γ,st=>match st with
  | .Assign [.Name x _] e _=>match c7 Γ x,cE bV Γ e with
   | some i,ba e'=>ba (.set i e')
   | _,_=>K3
  | .Assign [.Tuple ts _ _] e _=>if isTup e then C8 Γ ts e else if i3 e then K3 else match DQ Γ ts,cE bV Γ e with
   | some is,ba e'=>ba (.asg is e')
   | _,_=>K3
  | .Assign [.Subscript o k _] e _=>if sU k then K3 else match cE bV Γ o,cE bV Γ k,cE bV Γ e with
   | some o',ba k',ba e'=>ba (.put o' k' e')
   | _,_,_=>K3
  | .Expr e _=>if By e then ba .pass else if i3 e then K3 else(cE bV Γ e).map .ex
  | .Return (ba e) _=>(cE bV Γ e).map .ret
  | .Return K3 _=>ba .retN
  | .Pass _=>ba .pass
  | .Raise _ _ _=>ba .bad
  | .Break _=>ba .brk
  | .Continue _=>ba .cont
  | .If t a b _=>match cE bV Γ t,uN (cS n Γ) a,uN (cS n Γ) b with
   | some t',ba a',ba b'=>ba (.ite t' a' b')
   | _,_,_=>K3
  | .While t b [] _=>match cE bV Γ t,uN (cS n Γ) b with
   | some t',ba b'=>ba (.whl t' b')
   | _,_=>K3
  | .For tg it b [] _=>match cT Γ tg,cI Γ (cE bV Γ) tg it,uN (cS n Γ) b with
   | some t,ba i,ba b'=>ba (.loop t i b')
   | _,_,_=>K3
  | _=>K3
section
variable{Φ:Iv->FF}{X:Cx}{Γ:Gam}{fuel:HW}
theorem xE {f:KQ->HU Sm}{s:KQ}{ss:HK KQ}{r:Ss}(h:uN f (s::ss)=ba r):∃s' ss',f s=ba s'/\uN f ss=ba ss'/\r=.cons s' ss':=by
 simp only[uN,Pj]at h;split at h
 ·rename_i e' es' h1 h2;cases h;exact#[e',es',h1,h2,rfl]
 ·cases h
theorem fY {n:HW}(ih:∀ {st:KQ} {s':Sm},cS n Γ st=ba s'->GS X st (gk Φ fuel s')):∀ {ss:HK KQ} {r:Ss},uN (cS n Γ) ss=ba r->GSs X ss (fG Φ fuel r)
 | [],r,h=>by cases h; exact Ac
 | s::ss,r,h=>by
  obtain⟨s',ss',h1,h2,rfl⟩:=xE h;exact xh (ih h1) (fY ih h2)
theorem kH {e:Iz}{t:HU Iz}{l:HW}{env:Ow}(h:i3 e=false)(n:HW){Γ:Gam}{e':E}(hc:cE n Γ e=ba e'):swapsWith e t l env=pure false:=by
 cases n with
 | zero=>cases hc
 | succ n=>cases e <;> first|(exfalso; exact aW hc)|rfl|cases h
theorem rK (K:CtxOk Φ X Γ){n:HW}{elt:Iz}{gens:HK Comprehension}{scope:Ld}{p:KA}{e':E}(h:cE (n+1) Γ (.ListComp elt gens scope p)=ba e') :
  ∃tg iter ifs fi g c f cap,gens=[#[tg,iter,ifs,0]]/\aG Φ e'=kC fi g c f cap/\GI X tg iter fi/\(X.Ok->∃cl,CompOk X scope cl (gA scope.names) cap/\BlockOk X scope cl (gA scope.names) tg elt ifs g c f)/\∀x,foldedSetIterable iter X.env x=pure x:=by
 match gens,h with
 | [#[tg,iter,ifs,asy]],h=>
  replace h:(if (asy==0)&&(xw Γ scope&&decide (ifs.length<=1))then match cI Γ (cE n Γ) tg iter,cT (gB Γ scope) tg,cA (cE n (gB Γ scope)) ifs,cE n (gB Γ scope) elt with|some it,ba t,ba cs,ba el=>ba (E.comp el t it cs (fX Γ scope.names))|_,_,_,_=>K3 else K3)=ba e':=h
  split at h
  ·rename_i hc;rw[HV,HV,Iw]at hc;have e0:asy=0:=eq_of_beq hc.1;subst e0;replace hc:=hc.2;split at h
   ·rename_i it t cs el h1 h2 h3 h4;cases h;have sc:=sS hc.1;refine#[tg,iter,ifs,_,_,_,_,_,rfl,rfl,rJ K (λz=>(bU n K z).1) h1,λok=>#[_,mM K ok sc,?_],nS (n:=n) (λel k p=>by cases n <;> rfl) h1]
    refine#[λC s0 H0 ex=>sR (eJ K sc C s0 H0 ex) h2,λC s0 H0 ex pins s σ H Q I q=>?_,λC s0 H0 ex=>(bU n (eJ K sc C s0 H0 ex) h4).1]
    exact qc hc.2 h3 (λz=>(bU n (eJ K sc C s0 H0 ex) z).2) rfl pins s σ H Q I q
   ·cases h
  ·cases h
 | [],h=>exact aW h
 | #[_,_,_,_]::_::_,h=>exact aW h
theorem EW (K:CtxOk Φ X Γ){x:Iv}{px pos:KA}{e:Iz}{i:HW}{e':E}(hi:c7 Γ x=ba i)(he:cE bV Γ e=ba e'):GS X (.Assign [.Name x px] e pos) (kB (aG Φ e') (Al i)):=by
 obtain⟨a,b,c⟩:=nV K hi;have hN:X.N.Nodup:=by rw[K.N]; exact K.nd
 have plain:swapsWith e (ba (.Name x px)) pos.line X.env=pure false->GS X (.Assign [.Name x px] e pos) (kB (aG Φ e') (Al i)):=λhs=>rC (bU _ K he).1 (sJ hN a b c) hs (by cases e <;> rfl) rfl
 cases hc:i3 e with
 | false=>exact plain (kH hc _ he)
 | true=>
  cases e with
  | ListComp elt gens scope p=>
   cases hsw:(X.env.blockKind==.function&&X.env.kindOf x==ba .local&&px.line==p.line && !(scope.names.any λ(n,k)=>n==x&&(k==.local||k==.cell)))with
   | false=>
    refine plain ?_;show(pure (X.env.blockKind==.function&&X.env.kindOf x==ba .local&&px.line==p.line && !(scope.names.any λ(n,k)=>n==x&&(k==.local||k==.cell))):Qo IF)=pure false
    rw[hsw]
   | true=>
    have hsw':swapsWith (.ListComp elt gens scope p) (ba (.Name x px)) pos.line X.env=pure true:=by
     show(pure (X.env.blockKind==.function&&X.env.kindOf x==ba .local&&px.line==p.line && !(scope.names.any λ(n,k)=>n==x&&(k==.local||k==.cell))):Qo IF)=pure true
     rw[hsw]
    rw[HV,HV,HV]at hsw;have hl:X.env.scope.names.lookup x=ba .local:=eq_of_beq hsw.1.1.2;obtain⟨tg,iter,ifs,fi,g,c',f,cap,rfl,e2,gi,hck,hs⟩:=rK K he;rw[e2];exact rF K.calm gi hck hs hsw' hN a hl
  | _=>cases hc
theorem qd (K:CtxOk Φ X Γ){x y:Iv}{px py pt pt2:KA}{kt k2:HW}{a b:Iz}(hxy:x≠y)(hx:Γ.sc.lookup x=ba .local)(hy:Γ.sc.lookup y=ba .local)(hl:(py.line==px.line)=true)(h1:[a,b].all (foldedForSure 8)=false)(h2:[a,b].all (constantsAlone 8)=false)(hs:gM a=true)(hs2:gM b=true) :
  swappedStores [.Tuple [.Name x px,.Name y py] kt pt] (.Tuple [a,b] k2 pt2) X.env=pure (ba [x,y]):=by
 have kx:(X.env.kindOf x==ba .local)=true:=by unfold Nj; rw[K.names,hx]; rfl
 have ky:(X.env.kindOf y==ba .local)=true:=by unfold Nj; rw[K.names,hy]; rfl
 have bk:(X.env.blockKind != .function)=false:=by
  unfold Env.blockKind;rw[K.kind];rfl
 have hp:(px.line==px.line)=true:=by simp
 have ed:([x,y].eraseDups.length != [x,y].length)=false:=by
  have:(y==x)=false:=by simpa using Ne.symm hxy
  simp[N3,this]
 have kx':X.env.kindOf x=ba .local:=eq_of_beq kx;have ky':X.env.kindOf y=ba .local:=eq_of_beq ky;have hl':py.line=px.line:=eq_of_beq hl;have bk':X.env.blockKind=.function:=by simpa using bk
 have yx:(y==x)=false:=by simpa using Ne.symm hxy
 have h1':(foldedForSure 8 a&&foldedForSure 8 b)=false:=by simpa using h1
 have h2':(constantsAlone 8 a&&constantsAlone 8 b)=false:=by simpa using h2
 unfold swappedStores;simp only[Ky,List.any_nil,N8,Lz,List.filterMap_nil,kx',ky',bk',List.head?_cons,IZ,O3,JC,Ke,Jo,List.all_nil,LC,h1',h2'];refine Eq.trans (IK ?_) (Eq.trans (IK ?_) ?_)
 ·decide
 ·rw[J0];rintro(hh|hh)
  ·clear h1 h2 h1' h2';cases a <;> first|(cases hh; done)|(cases hs; done)
  ·clear h1 h2 h1' h2';cases b <;> first|(cases hh; done)|(cases hs2; done)
 ·simp[Expr.pos,hl',yx,N3]
theorem AI (fuel:HW)(K:CtxOk Φ X Γ):∀(n:HW) {st:KQ} {s':Sm},cS n Γ st=ba s'->GS X st (gk Φ fuel s'):=by
 have hN:X.N.Nodup:=by rw[K.N]; exact K.nd
 have own:NW (model X.prog X.w) X.A X.env X.xe:=by rw[K.xe]; exact Q8
 intro n
 induction n with
 | zero=>intro st s' h; cases h
 | succ n ih=>
  intro st s' h;cases st with
  | Expr e p=>
   replace h:(if By e then ba Sm.pass else if i3 e then K3 else(cE bV Γ e).map Sm.ex)=ba s':=h
   split at h
   ·rename_i hd;cases h;cases e with
    | Constant c k q=>
     cases c with
     | str x=>exact CV
     | _=>cases hd
    | _=>cases hd
   ·split at h
    ·cases h
    ·rename_i hd hc;rw[HS]at h;obtain⟨e',h1,rfl⟩:=h;exact EN (bU _ K h1).1 (kH (by simpa using hc) _ h1)
  | Return o p=>
   cases o with
   | none=>cases h; exact Aj
   | some e=>
    replace h:(cE bV Γ e).map Sm.ret=ba s':=h;rw[HS]at h;obtain⟨e',h1,rfl⟩:=h;exact CW (bU _ K h1).1
  | Pass p=>cases h; exact Ag
  | Raise exc cause pos=>cases h; exact λpins s D σ H I #[A,ρ,S,o,S',er,so,e,hq]=>nomatch e
  | Break p=>cases h; exact xj
  | Continue p=>cases h; exact Ah
  | If t a b p=>
   replace h:(match cE bV Γ t,uN (cS n Γ) a,uN (cS n Γ) b with|some t',ba a',ba b'=>ba (Sm.ite t' a' b')|_,_,_=>K3)=ba s':=h
   split at h
   ·rename_i t' a' b' h1 h2 h3;cases h;exact EO (bU _ K h1).2 (fY ih h2) (fY ih h3)
   ·cases h
  | While t b o p=>
   cases o with
   | cons _ _=>exact aW h
   | nil=>
    replace h:(match cE bV Γ t,uN (cS n Γ) b with|some t',ba b'=>ba (Sm.whl t' b')|_,_=>K3)=ba s':=h
    split at h
    ·rename_i t' b' h1 h2;cases h;exact xk fuel own (bU _ K h1).2 (fY ih h2)
    ·cases h
  | For tg it b o p=>
   cases o with
   | cons _ _=>exact aW h
   | nil=>
    replace h:(match cT Γ tg,cI Γ (cE bV Γ) tg it,uN (cS n Γ) b with|some t,ba i,ba b'=>ba (Sm.loop t i b')|_,_,_=>K3)=ba s':=h
    split at h
    ·rename_i t i b' h1 h2 h3;cases h;exact C4 own K.calm (rJ K (λz=>(bU _ K z).1) h2) (sR K h1) (fY ih h3) (nS (n:=bV) (λel k p=>rfl) h2)
    ·cases h
  | Assign ts e p=>
   match ts,h with
   | [],h=>exact aW h
   | a::_::_,h=>cases a <;> exact aW h
   | [t],h=>
    cases t with
    | Name x px=>
     replace h:(match c7 Γ x,cE bV Γ e with|some i,ba e'=>ba (Sm.set i e')|_,_=>K3)=ba s':=h
     split at h
     ·rename_i i e' h1 h2;cases h;exact EW K h1 h2
     ·cases h
    | Subscript o k q=>
     replace h:(if sU k then K3 else match cE bV Γ o,cE bV Γ k,cE bV Γ e with|some o',ba k',ba e'=>ba (Sm.put o' k' e')|_,_,_=>K3)=ba s':=h
     split at h
     ·cases h
     ·rename_i hc;split at h
      ·rename_i o' k' e' h1 h2 h3;cases h;refine rC (bU _ K h3).1 (CZ (by have:=K.un; have:gH=20:=rfl; omega) (bU _ K h1).1 (bU _ K h2).1 ?_) (by cases e <;> rfl) (by cases e <;> rfl) rfl
       intro v;cases k <;> first|rfl|exact absurd rfl hc
      ·cases h
    | Tuple ts' k q=>
     have par:∀ {x y:Iv} {px py:KA} {a b:PySem.Expr} {k2:HW} {q2:KA},(match Γ.N.findIdx? (· == x),Γ.N.findIdx? (· == y),cA (cE bV Γ) [a,b]with
       | some i,ba j,ba es=>if !(i==j)&&(Γ.sc.lookup x==ba .local)&&(Γ.sc.lookup y==ba .local)&&(py.line==px.line) && !([a,b].all (foldedForSure 8)) && !([a,b].all (constantsAlone 8))then ba (Sm.par i j es)else K3
       | _,_,_=>K3)=ba s'->GS X (.Assign [.Tuple [.Name x px,.Name y py] k q] (.Tuple [a,b] k2 q2) p) (gk Φ fuel s'):=λ{x y px py a b k2 q2} h=>by
      split at h
      ·rename_i i j es h1 h2 h3;split at h
       ·rename_i hc;cases h;rw[HV,HV,HV,HV,HV]at hc;obtain⟨⟨⟨⟨⟨c1,c2⟩,c3⟩,c4⟩,c5⟩,c6⟩:=hc;have hij:i≠j:=by simpa using c1
        have ns:=cD h3;rw[Jo,Jo,HV,HV]at ns;have hi:X.N[i]?=ba x:=by rw[K.N]; exact dq h1
        have hj:X.N[j]?=ba y:=by rw[K.N]; exact dq h2
        refine C0 K.calm hN hi hj hij (by rw[K.names]; exact eq_of_beq c2) (by rw[K.names]; exact eq_of_beq c3) (dz (λz=>(bU _ K z).1) h3) (qd K ?_ (eq_of_beq c2) (eq_of_beq c3) c4 (by rw[<- MS]; exact c5) (by rw[<- MS]; exact c6) ns.1 ns.2.1) rfl
        rintro rfl;rw[h1]at h2;cases h2;exact hij rfl
       ·cases h
      ·cases h
     replace h:(if isTup e then C8 Γ ts' e else if i3 e then K3 else match DQ Γ ts',cE bV Γ e with|some is,ba e'=>ba (Sm.asg is e')|_,_=>K3)=ba s':=h
     split at h
     ·unfold C8 at h;split at h
      ·exact par h
      ·cases h
     ·split at h
      ·cases h
      ·rename_i hc1 hc2;split at h
       ·rename_i is e' h1 h2;cases h;refine rC (bU _ K h2).1 (sR (tg:=.Tuple ts' k q) (t:=.tp is) K (by simp[cT,h1])) (kH (t:=ba (.Tuple ts' k q)) (l:=p.line) (env:=X.env) (by simpa using hc2) _ h2) ?_ rfl
        cases e <;> first|rfl|exact absurd rfl hc1
       ·cases h
    | _=>exact aW h
  | _=>exact aW h
end
structure Df where
 ps:HK Iv
 N:HK Iv
 body:Ss
noncomputable def eW (N:HK Iv)(ws:HK W):Fm:=ws.map ba++IW (N.length - ws.length) K3
noncomputable def aq (defs:HK (Iv×Df))(fuel:HW):HW->Iv->FF
 | 0,_,_,_=>K3
 | d+1,f,ws,S=>match defs.lookup f with
  | some df=>if ws.length=df.ps.length then match fG (aq defs fuel d) fuel df.body (eW df.N ws) S with
    | some (.rt w,S')=>ba (w,S')
    | some (.nx _,S')=>ba (.non,S')
    | _=>K3
   else K3
  | none=>K3
structure Md where
 fns:HK (Iv×HW)
 blt:HK Iv
noncomputable def Bz (M:Md)(st:KQ)(N:HK Iv):Gam:={ sc:=(af st).names,N:=N,fns:=M.fns,blt:=M.blt,dfn:=true }
noncomputable def bZ (M:Md)(st:KQ)(df:Df):Prop:=uN (cS 20 (Bz M st df.N)) (cH st)=ba df.body
theorem mN {K:Ig}{A:HK HX}{H:Hp}{ws:HK W}{vs:HK V}{N:HK Iv}(r:RelL K A H ws vs):EnvRel K A H (eW N ws) (fw N vs):=by
 refine#[by simp[eW,L2.fw,r.length],λi w h=>?_]
 unfold eW at h;unfold L2.fw
 by_cases hi:i < ws.length
 ·rw[Je (by simpa using hi),HY]at h
  rw[Je (by rw[HN,<- r.length]; exact hi),HY]
  cases q:ws[i]? with
  | none=>rw[q]at h; cases h
  | some w'=>
   rw[q]at h;simp only[IZ,IT]at h;subst h;obtain⟨v,h1,h2⟩:=r.get q;exact#[v,by rw[h1]; rfl,h2]
 ·rw[KD (by simpa using hi)]at h
  have:=Ip h;simp at this
section
variable{P:IM}{w:IU}{K:Ig}{mg:Iv->HU HM}{base:Jc}
noncomputable def BA (P:IM)(w:IU)(K:Ig)(mg:Iv->HU HM)(base:Jc)(M:Md)(defs:HK (Iv×Df))(fuel d:HW):Prop:=
 ∀f n,M.fns.lookup f=ba n->∃fa fd ps,FnOk P w K mg base vc d fa fd ps (xg w K n (aq defs fuel d f))/\mg f=ba (.ref fa)/\JP K (.ref fa)=true/\Binds K fd ps []
structure MdOk (w:IU)(K:Ig)(mg:Iv->HU HM)(M:Md):Prop where
 blt:∀y∈M.blt,mg y=K3
theorem BB {M:Md}{defs:HK (Iv×Df)}{fuel d:HW}{x qual:Iv}{st:KQ}{f:HX}{fd:KC}{df:Df}(F:Fun K x qual st f fd)(S:FnScope df.N df.ps (af st))(hd:defs.lookup x=ba df)(hc:bZ M st df)
  (hb:MdOk w K mg M) (prev:BA P w K mg base M defs fuel d):FnOk P w K mg base vc (d+1) f fd df.ps (xg w K df.ps.length (aq defs fuel (d+1) x)):=by
 refine F.ok S (λvs H Q E h=>?_) (λcdv A outer s H vs Q E hr h=>?_)
 ·obtain⟨A,S,ws,w',S',_,rl,hl,_⟩:=h;rw[<- rl.length]; exact hl
 ·obtain⟨A',St,ws,w',S',so,rl,hl,e,hq⟩:=h;have K':CtxOk (aq defs fuel d) (qP vc P w K mg base df.N qual (af st) f cdv A outer s H E).nox (Bz M st df.N):=by
   refine#[rfl,S.kind,rfl,S.nd,rfl,rfl,?_,λ_ _=>rfl,hb.blt,λg n hg=>?_]
   ·have:=hr.un;show(A.deeper _).units+20 < cLine;omega
   ·obtain⟨fa,fd',ps',h1,h2,h3,h4⟩:=prev g n hg;exact#[d,fa,fd',ps',h1,hr,h2,h3,h4]
  refine#[tS _ (fG (aq defs fuel d) fuel df.body),fY (λz=>AI fuel K' 20 z) hc,?_]
  simp only[aq,hd]at e;rw[Ix hl]at e;split at e
  ·rename_i w1 S1 h1;cases e;refine#[A',eW df.N ws,St,_,_,mN rl,so,h1,#[λσ' H' #[_,_,z,_]=>(by cases z),λv H' #[w2,A2,z0,z1,z2,z3]=>?_,λσ' H' #[_,_,z,_]=>(by cases z),λσ' H' #[_,_,z,_]=>(by cases z)]]
   cases z0;exact hq v H' #[A2,z1,z2,z3]
  ·rename_i ρ1 S1 h1;cases e;refine#[A',eW df.N ws,St,_,_,mN rl,so,h1,#[λσ' H' #[w2,A2,z0,z1,z2,z3]=>?_,λσ' H' #[_,_,z,_]=>(by cases z),λσ' H' #[_,_,z,_]=>(by cases z),λσ' H' #[_,_,z,_]=>(by cases z)]]
   exact hq _ H' #[A2,z1,z2,.non]
  ·cases e
theorem uO {H:Hp}{a:HX}{ns:HK Ik}(hO:vK H)(hS:SqL K H a (ns.map V.int)):StoreOk w K [a] H [.fro (ns.map W.int)]/\RelL K [a] H [.ref 0] [.ref a]:=by
 have rl:∀ns:HK Ik,RelL K [a] H (ns.map W.int) (ns.map V.int):=by
  intro ns
  induction ns with
  | nil=>exact .nil
  | cons n ns ih=>exact .cons .int ih
 have fr:FroL K H a (ns.map V.int):=by
  rcases hS with(h|⟨o,h⟩)|h
  ·rcases hO a with z|⟨o,xs,z⟩ <;> (rw[z]at h; cases h)
  ·exact .inl #[o,h]
  ·exact .inr h
 refine#[#[rfl,λi j b o u e1 m1 e2 m2 _ _=>?_,λi o b e1 e2=>?_],.cons (.ref rfl) .nil]
 ·cases i with
  | zero=>simp at e1; subst e1; cases m1
  | succ i=>simp at e1
 ·cases i with
  | zero=>
   simp at e1 e2;subst e1 e2;exact#[_,fr,rl ns]
  | succ i=>simp at e1
theorem C9 {g:FF}{H:Hp}{a:HX}{ns:HK Ik}(h:∃S',g [.ref 0] [.fro (ns.map W.int)]=ba (.bl true,S'))(hO:vK H)(hS:SqL K H a (ns.map V.int)):xg w K 1 g [.ref a] H (λv _=>v=.bl true) λ_ _ _=>JF:=by
 obtain⟨S',e⟩:=h;obtain⟨so,rl⟩:=uO hO hS;exact#[[a],_,_,_,S',so,rl,rfl,e,λv H' #[A',z1,z2,z3]=>by cases z3; rfl]
end
noncomputable def Wp {α:Type}(o:HU α)(Q:α->Prop):Prop:=∃a,o=ba a/\Q a
theorem ab {α:Type}{a:α}{Q:α->Prop}:Wp (ba a) Q↔Q a:=#[λ#[b,e,h]=>(by cases e; exact h),λh=>#[a,rfl,h]]
theorem ac {α:Type}{Q:α->Prop}:Wp (K3:HU α) Q↔JF:=#[λ#[b,e,h]=>(by cases e),λh=>h.elim]
theorem Wp.mono {α:Type}{o:HU α}{Q Q':α->Prop}(h:Wp o Q)(k:∀a,Q a->Q' a):Wp o Q':=let ⟨a,e,q⟩:=h; #[a,e,k a q]
theorem GR {α β:Type}{o:HU α}{f:α->β}{Q:β->Prop}:Wp (o.map f) Q↔Wp o λa=>Q (f a):=by cases o <;> simp[ab,ac]
section
variable{Φ:Iv->FF}{fuel:HW}{ρ:Fm}{S:aa}
noncomputable abbrev QW:=W×aa->Prop
theorem HF {w:W}{Q:QW}:Wp (aG Φ (.c w) ρ S) Q↔Q (w,S):=by simp[aG,fC,ab,ac]
theorem Hv {i:HW}{Q:QW}:Wp (aG Φ (.v i) ρ S) Q↔∃w,ρ[i]?=ba (ba w)/\Q (w,S):=by
 simp only[aG,fV];rcases h:ρ[i]? with _|_|w <;> simp[ab,ac]
theorem xF {g:W->W->aa->HU (W×aa)}{a b:FE}{Q:QW}:Wp (zP g a b ρ S) Q↔Wp (a ρ S) λp=>Wp (b ρ p.2) λq=>Wp (g p.1 q.1 q.2) Q:=by
 unfold zP;rcases h:a ρ S with _|⟨x,S1⟩
 ·simp[ab,ac]
 ·rcases h2:b ρ S1 with _|⟨y,S2⟩ <;> simp[ab,ac,h2]
theorem GU {o:BOp}{a b:E}{Q:QW}:Wp (aG Φ (.op o a b) ρ S) Q↔Wp (aG Φ a ρ S) λp=>Wp (aG Φ b ρ p.2) λq=>Wp (fB o p.1 q.1 q.2) Q:=by rw[aG]; exact xF
theorem BC {o:COp}{a b:E}{Q:QW}:Wp (aG Φ (.cmp o a b) ρ S) Q↔Wp (aG Φ a ρ S) λp=>Wp (aG Φ b ρ p.2) λq=>Wp (eR o p.1 q.1 q.2) Q:=by rw[aG]; exact xF
theorem GV {a b:E}{Q:QW}:Wp (aG Φ (.ix a b) ρ S) Q↔Wp (aG Φ a ρ S) λp=>Wp (aG Φ b ρ p.2) λq=>Wp (qJ p.1 q.1 q.2) Q:=by rw[aG]; exact xF
theorem EX {a b:E}{Q:QW}:Wp (aG Φ (.and a b) ρ S) Q↔Wp (aG Φ a ρ S) λp=>∃k,p.1=.bl k/\(k=true->Wp (aG Φ b ρ p.2) Q)/\(k=false->Q (.bl false,p.2)):=by
 simp only[aG,sF];rcases h:aG Φ a ρ S with _|⟨x,S1⟩
 ·simp[ab,ac]
 ·cases x <;> simp[ab,ac]
  rename_i b; cases b <;> simp[ab,ac]
theorem GX {a b:E}{Q:QW}:Wp (aG Φ (.or a b) ρ S) Q↔Wp (aG Φ a ρ S) λp=>∃k,p.1=.bl k/\(k=true->Q (.bl true,p.2))/\(k=false->Wp (aG Φ b ρ p.2) Q):=by
 simp only[aG,zW];rcases h:aG Φ a ρ S with _|⟨x,S1⟩
 ·simp[ab,ac]
 ·cases x <;> simp[ab,ac]
  rename_i b; cases b <;> simp[ab,ac]
theorem EY {a:E}{Q:QW}:Wp (aG Φ (.not a) ρ S) Q↔Wp (aG Φ a ρ S) λp=>∃k,p.1=.bl k/\Q (.bl (!k),p.2):=by
 simp only[aG,sG];rcases h:aG Φ a ρ S with _|⟨x,S1⟩
 ·simp[ab,ac]
 ·cases x <;> simp[ab,ac]
  rename_i k; cases k <;> simp
theorem EZ {t a b:E}{Q:QW}:Wp (aG Φ (.ite t a b) ρ S) Q↔Wp (cU Φ t ρ S) λp=>(p.1=true->Wp (aG Φ a ρ p.2) Q)/\(p.1=false->Wp (aG Φ b ρ p.2) Q):=by
 simp only[aG,zX];rcases h:cU Φ t ρ S with _|⟨x,S1⟩
 ·simp[ab,ac]
 ·cases x <;> simp[ab,ac]
theorem BE {f:Iv}{n:HW}{es:Es}{Q:QW}:Wp (aG Φ (.own f n es) ρ S) Q↔Wp (cZ Φ es ρ S) λp=>p.1.length=n/\Wp (Φ f p.1 p.2) Q:=by
 simp only[aG,pV];rcases h:cZ Φ es ρ S with _|⟨x,S1⟩
 ·simp[ab,ac]
 ·by_cases hl:x.length=n <;> simp[ab,ac,hl]
theorem E1 {b:Bi}{es:Es}{Q:QW}:Wp (aG Φ (.bi b es) ρ S) Q↔Wp (cZ Φ es ρ S) λp=>Wp (b.fn p.1 p.2) Q:=by
 simp only[aG,jr];rcases h:cZ Φ es ρ S with _|⟨x,S1⟩ <;> simp[ab,ac]
theorem GY {m:Me}{o:E}{es:Es}{Q:QW}:Wp (aG Φ (.me m o es) ρ S) Q↔Wp (aG Φ o ρ S) λp=>tyOk m.ty p.2 p.1=true/\Wp (cZ Φ es ρ p.2) λq=>Wp (m.fn p.1 q.1 q.2) Q:=by
 simp only[aG,DO];rcases h:aG Φ o ρ S with _|⟨x,S1⟩
 ·simp[ab,ac]
 ·by_cases ht:tyOk m.ty S1 x=true
  ·rcases h2:cZ Φ es ρ S1 with _|⟨y,S2⟩ <;> simp[ab,ac,ht,h2]
  ·simp[ab,ac,ht]
theorem GZ {a:E}{lo hi:Ep}{Q:QW}:Wp (aG Φ (.sl a lo hi) ρ S) Q↔Wp (aG Φ a ρ S) λp=>Wp (sM Φ lo ρ p.2) λq=>Wp (sM Φ hi ρ q.2) λr=>Wp (ve p.1 q.1 r.1 r.2) Q:=by
 simp only[aG,EK];rcases h:aG Φ a ρ S with _|⟨x,S1⟩
 ·simp[ab,ac]
 ·rcases h2:sM Φ lo ρ S1 with _|⟨y,S2⟩
  ·simp[ab,ac,h2]
  ·rcases h3:sM Φ hi ρ S2 with _|⟨z,S3⟩ <;> simp[ab,ac,h2,h3]
theorem G0 {Q:HU Ik×aa->Prop}:Wp (sM Φ .no ρ S) Q↔Q (K3,S):=by simp[sM,CT,ab,ac]
theorem E2 {a:E}{Q:HU Ik×aa->Prop}:Wp (sM Φ (.yes a) ρ S) Q↔Wp (aG Φ a ρ S) λp=>∃i,p.1=.int i/\Q (ba i,p.2):=by
 simp only[sM,sI];rcases h:aG Φ a ρ S with _|⟨x,S1⟩
 ·simp[ab,ac]
 ·cases x <;> simp[ab,ac]
theorem E3 {es:Es}{Q:QW}:Wp (aG Φ (.tup es) ρ S) Q↔Wp (cZ Φ es ρ S) λp=>p.1.length<=sizeLine/\Q (.tup p.1,p.2):=by
 simp only[aG,w6,qU];rcases h:cZ Φ es ρ S with _|⟨x,S1⟩
 ·simp[ab,ac]
 ·by_cases hl:x.length<=sizeLine <;> simp[ab,ac,hl]
theorem E4 {es:Es}{Q:QW}:Wp (aG Φ (.lst es) ρ S) Q↔Wp (cZ Φ es ρ S) λp=>p.1.length<=sizeLine/\Q (.ref p.2.length,p.2++[.lst p.1]):=by
 simp only[aG,w8,lB];rcases h:cZ Φ es ρ S with _|⟨x,S1⟩
 ·simp[ab,ac]
 ·by_cases hl:x.length<=sizeLine <;> simp[ab,ac,hl]
theorem BF {c:JJ}{a:E}{Q:QW}:Wp (aG Φ (.isi c a) ρ S) Q↔Wp (aG Φ a ρ S) λp=>∃k,xm p.2 p.1 c=ba k/\Q (.bl k,p.2):=by
 simp only[aG,xo];rcases h:aG Φ a ρ S with _|⟨x,S1⟩
 ·simp[ab,ac]
 ·cases h2:xm S1 x c <;> simp[ab,ac,h2]
  rename_i k; cases k <;> simp
theorem E5 {a:E}{Q:QW}:Wp (aG Φ (.neg a) ρ S) Q↔Wp (aG Φ a ρ S) λp=>∃i,p.1=.int i/\Q (.int (-i),p.2):=by
 simp only[aG,wQ];rcases h:aG Φ a ρ S with _|⟨x,S1⟩
 ·simp[ab,ac]
 ·cases x <;> simp[ab,ac]
theorem Da {es:Es}{Q:QW}:Wp (aG Φ (.disp es) ρ S) Q↔Wp (cZ Φ es ρ (S++[.dic []])) λp=>p.2[S.length]?=ba (.dic [])/\∃kvs,dy [] p.1=ba kvs/\Q (.ref S.length,p.2.set S.length (.dic kvs)):=by
 have e:aG Φ (.disp es) ρ S=pY (cZ Φ es) ρ S:=by rw[aG]
 rw[e];unfold pY;cases cZ Φ es ρ (S++[.dic []])with
 | none=>simp[ac]
 | some p=>
  obtain⟨x,S1⟩:=p;simp only[ab];cases h2:S1[S.length]? with
  | none=>simp[ac]
  | some o=>
   cases o with
   | lst _=>simp[ac]
   | fro _=>simp[ac]
   | frd _=>simp[ac]
   | stt _=>simp[ac]
   | rng _ _=>simp[ac]
   | dic kvs=>
    cases kvs with
    | nil=>cases h3:dy [] x <;> simp[ab,ac]
    | cons a b=>simp[ac]
theorem E6 {Q:HK W×aa->Prop}:Wp (cZ Φ .nil ρ S) Q↔Q ([],S):=by simp[cZ,jy,ab,ac]
theorem Db {e:E}{es:Es}{Q:HK W×aa->Prop}:Wp (cZ Φ (.cons e es) ρ S) Q↔Wp (aG Φ e ρ S) λp=>Wp (cZ Φ es ρ p.2) λq=>Q (p.1::q.1,q.2):=by
 simp only[cZ,eg];rcases h:aG Φ e ρ S with _|⟨x,S1⟩
 ·simp[ab,ac]
 ·rcases h2:cZ Φ es ρ S1 with _|⟨y,S2⟩ <;> simp[ab,ac,h2]
noncomputable abbrev QB:=IF×aa->Prop
theorem E7 {f:FE}{Q:QB}:Wp (wW f ρ S) Q↔Wp (f ρ S) λp=>∃k,p.1=.bl k/\Q (k,p.2):=by
 unfold wW;rcases h:f ρ S with _|⟨x,S1⟩
 ·simp[ab,ac]
 ·cases x <;> simp[ab,ac]
  rename_i k; cases k <;> simp
theorem sV {f:FE}{Q:QB}:Wp (gg f ρ S) Q↔Wp (f ρ S) λp=>∃k,gc p.2 p.1=ba k/\Q (k,p.2):=by
 unfold gg;rcases h:f ρ S with _|⟨x,S1⟩
 ·simp[ab,ac]
 ·cases h2:gc S1 x <;> simp[ab,ac,h2]
  rename_i k; cases k <;> simp
theorem E8 {o:COp}{a b:E}{Q:QB}:Wp (cU Φ (.cmp o a b) ρ S) Q↔Wp (aG Φ (.cmp o a b) ρ S) λp=>∃k,p.1=.bl k/\Q (k,p.2):=by rw[cU,aG]; exact E7
theorem E9 {a b:E}{Q:QB}:Wp (cU Φ (.and a b) ρ S) Q↔Wp (cU Φ a ρ S) λp=>(p.1=true->Wp (cU Φ b ρ p.2) Q)/\(p.1=false->Q (false,p.2)):=by
 simp only[cU,wX];rcases h:cU Φ a ρ S with _|⟨x,S1⟩
 ·simp[ab,ac]
 ·cases x <;> simp[ab,ac]
theorem G1 {a b:E}{Q:QB}:Wp (cU Φ (.or a b) ρ S) Q↔Wp (cU Φ a ρ S) λp=>(p.1=true->Q (true,p.2))/\(p.1=false->Wp (cU Φ b ρ p.2) Q):=by
 simp only[cU,EH];rcases h:cU Φ a ρ S with _|⟨x,S1⟩
 ·simp[ab,ac]
 ·cases x <;> simp[ab,ac]
theorem Fa {a:E}{Q:QB}:Wp (cU Φ (.not a) ρ S) Q↔Wp (cU Φ a ρ S) λp=>Q (!p.1,p.2):=by
 simp only[cU,zR];rcases h:cU Φ a ρ S with _|⟨x,S1⟩ <;> simp[ab,ac]
theorem HG {i:HW}{Q:QB}:Wp (cU Φ (.v i) ρ S) Q↔Wp (aG Φ (.v i) ρ S) λp=>∃k,gc p.2 p.1=ba k/\Q (k,p.2):=by rw[cU,aG]; exact sV
theorem Fb {f:Iv}{n:HW}{es:Es}{Q:QB}:Wp (cU Φ (.own f n es) ρ S) Q↔Wp (aG Φ (.own f n es) ρ S) λp=>∃k,gc p.2 p.1=ba k/\Q (k,p.2):=by rw[cU,aG]; exact sV
theorem G2 {b:Bi}{es:Es}{Q:QB}:Wp (cU Φ (.bi b es) ρ S) Q↔Wp (aG Φ (.bi b es) ρ S) λp=>∃k,gc p.2 p.1=ba k/\Q (k,p.2):=by rw[cU,aG]; exact sV
theorem Fc {c:JJ}{a:E}{Q:QB}:Wp (cU Φ (.isi c a) ρ S) Q↔Wp (aG Φ (.isi c a) ρ S) λp=>∃k,gc p.2 p.1=ba k/\Q (k,p.2):=by rw[cU,aG]; exact sV
noncomputable abbrev QO:=Out×aa->Prop
theorem Fd {Q:QO}:Wp (fG Φ fuel .nil ρ S) Q↔Q (.nx ρ,S):=by simp[fG,ab,ac]
theorem Dc {s:Sm}{ss:Ss}{Q:QO}:Wp (fG Φ fuel (.cons s ss) ρ S) Q↔Wp (gk Φ fuel s ρ S) λp=>(∀ρ',p.1=.nx ρ'->Wp (fG Φ fuel ss ρ' p.2) Q)/\((∀ρ',p.1≠.nx ρ')->Q p):=by
 simp only[fG,Ad];rcases h:gk Φ fuel s ρ S with _|⟨o,S1⟩
 ·simp[ab,ac]
 ·cases o <;> simp[ab,ac]
theorem xG {f:FE}{g:FG}{Q:QO}:Wp (kB f g ρ S) Q↔Wp (f ρ S) λp=>Wp (g p.1 ρ p.2) λq=>Q (.nx q.1,q.2):=by
 unfold kB;rcases h:f ρ S with _|⟨x,S1⟩
 ·simp[ab,ac]
 ·rcases h2:g x ρ S1 with _|⟨y,S2⟩ <;> simp[ab,ac,h2]
theorem De {i:HW}{e:E}{Q:QO}:Wp (gk Φ fuel (.set i e) ρ S) Q↔Wp (aG Φ e ρ S) λp=>Q (.nx (ρ.set i (ba p.1)),p.2):=by
 rw[gk,xG]; simp[Al,ab,ac]
theorem Dg {is:HK HW}{e:E}{Q:QO}:Wp (gk Φ fuel (.asg is e) ρ S) Q↔Wp (aG Φ e ρ S) λp=>∃ws ρ',p.1=.tup ws/\dS is ws ρ=ba ρ'/\Q (.nx ρ',p.2):=by
 rw[gk,xG];constructor
 ·refine λh=>h.mono λp hp=>?_
  obtain⟨w,S1⟩:=p;obtain⟨q,h1,h2⟩:=hp;cases w with
  | tup ws=>
   simp only[DP,HS]at h1;obtain⟨ρ',h3,rfl⟩:=h1;exact#[ws,ρ',rfl,h3,h2]
  | _=>cases h1
 ·refine λh=>h.mono λp hp=>?_
  obtain⟨w,S1⟩:=p;obtain⟨ws,ρ',h0,h1,h2⟩:=hp;subst h0;exact#[(ρ',S1),by simp[DP,h1],h2]
theorem Dh {i j:HW}{es:Es}{Q:QO}:Wp (gk Φ fuel (.par i j es) ρ S) Q↔Wp (cZ Φ es ρ S) λp=>∃x y,p.1=[x,y]/\Q (.nx ((ρ.set i (ba x)).set j (ba y)),p.2):=by
 simp only[gk,An];rcases h:cZ Φ es ρ S with _|⟨x,S1⟩
 ·simp[ac]
 ·match x with
  | []=>simp[ab,ac]
  | [_]=>simp[ab,ac]
  | [a,b]=>
   simp only[ab];exact#[λh=>#[a,b,rfl,h],λ#[x,y,e,h]=>by cases e; exact h]
  | _::_::_::_=>simp[ab,ac]
theorem Di {o k e:E}{Q:QO}:Wp (gk Φ fuel (.put o k e) ρ S) Q↔Wp (aG Φ e ρ S) λp=>Wp (aG Φ o ρ p.2) λq=>Wp (aG Φ k ρ q.2) λr=>∃S',ic q.1 r.1 p.1 r.2=ba S'/\Q (.nx ρ,S'):=by
 rw[gk,xG];rcases h:aG Φ e ρ S with _|⟨x,S1⟩
 ·simp[ab,ac]
 ·simp only[ab];unfold Am;rcases h2:aG Φ o ρ S1 with _|⟨y,S2⟩
  ·simp[ab,ac]
  ·rcases h3:aG Φ k ρ S2 with _|⟨z,S3⟩
   ·simp[ab,ac,h3]
   ·cases h4:ic y z x S3 <;> simp[ab,ac,h3,h4]
theorem Fe {e:E}{Q:QO}:Wp (gk Φ fuel (.ex e) ρ S) Q↔Wp (aG Φ e ρ S) λp=>Q (.nx ρ,p.2):=by
 simp only[gk,Ae];rcases h:aG Φ e ρ S with _|⟨x,S1⟩ <;> simp[ab,ac]
theorem Dj {e:E}{Q:QO}:Wp (gk Φ fuel (.ret e) ρ S) Q↔Wp (aG Φ e ρ S) λp=>Q (.rt p.1,p.2):=by
 simp only[gk,Ai];rcases h:aG Φ e ρ S with _|⟨x,S1⟩ <;> simp[ab,ac]
theorem Dk {t:E}{a b:Ss}{Q:QO}:Wp (gk Φ fuel (.ite t a b) ρ S) Q↔Wp (cU Φ t ρ S) λp=>(p.1=true->Wp (fG Φ fuel a ρ p.2) Q)/\(p.1=false->Wp (fG Φ fuel b ρ p.2) Q):=by
 simp only[gk,Ak];rcases h:cU Φ t ρ S with _|⟨x,S1⟩
 ·simp[ab,ac]
 ·cases x <;> simp[ab,ac]
end
section
variable{Φ:Iv->FF}{fuel:HW}{ρ:Fm}{S:aa}
noncomputable def xH (I:Fm->aa->Prop)(Q:QO)(o:Out×aa):Prop:=match o.1 with
 | .nx ρ'=>I ρ' o.2
 | .ct ρ'=>I ρ' o.2
 | .bk ρ'=>Q (.nx ρ',o.2)
 | .rt w=>Q (.rt w,o.2)
theorem i4 {mi:MI}{g:FG}{b:FS}{xs:HK W}{Q:QO}(I:HW->Fm->aa->Prop)(hat:∀i ρ S,I i ρ S->mi.at S i=ba xs[i]?)
  (hstep:∀i w ρ S,xs[i]?=ba w->I i ρ S->Wp (g w ρ S) λq=>Wp (b q.1 q.2) (xH (I (i+1)) Q)) (hend:∀ρ S,I xs.length ρ S->Q (.nx ρ,S)):∀(n i:HW) (ρ:Fm) (S:aa),i+n=xs.length->I i ρ S->Wp (fF mi g b n i ρ S) Q
 | 0,i,ρ,S,hl,hI=>by
  have e:mi.at S i=ba K3:=by rw[hat i ρ S hI,Lc ∅]
  simp only[fF,e];have hi:i=xs.length:=∅
  exact ab.mpr (hend ρ S (hi ▸ hI))
 | n+1,i,ρ,S,hl,hI=>by
  have hi:i < xs.length:=∅
  have e:mi.at S i=ba (ba xs[i]):=by rw[hat i ρ S hI,Ic hi]
  obtain⟨⟨ρ1,S1⟩,h1,⟨o,S2⟩,h2,h3⟩:=hstep i xs[i] ρ S (Ic hi) hI;simp only[fF,e,h1,h2];cases o with
  | nx ρ2=>exact i4 I hat hstep hend n (i+1) ρ2 S2 ∅ h3
  | ct ρ2=>exact i4 I hat hstep hend n (i+1) ρ2 S2 ∅ h3
  | bk ρ2=>exact ab.mpr h3
  | rt w=>exact ab.mpr h3
theorem Ff {fi:FI}{g:FG}{b:FS}{Q:QO}:Wp (xl fi g b ρ S) Q↔Wp (fi ρ S) λp=>∃n,p.1.len p.2=ba n/\Wp (fF p.1 g b n 0 ρ p.2) Q:=by
 unfold xl;rcases h:fi ρ S with _|⟨mi,S1⟩
 ·simp[ac]
 ·cases h2:mi.len S1 <;> simp[ab,ac,h2]
theorem dF {mi:MI}{g:FG}{c:FT}{f:FE}{xs:HK W}{Q:HK W×aa->Prop}(I:HW->HK W->Fm->aa->Prop)(hat:∀i ys ρ S,I i ys ρ S->mi.at S i=ba xs[i]?)
  (hstep:∀i w ys ρ S,xs[i]?=ba w->I i ys ρ S->Wp (g w ρ S) λq=>Wp (c q.1 q.2) λk=>(k.1=true->Wp (f q.1 k.2) λy=>I (i+1) (ys++[y.1]) q.1 y.2)/\(k.1=false->I (i+1) ys q.1 k.2))
  (hend:∀ys ρ S,I xs.length ys ρ S->Q (ys,S)):∀(n i:HW) (ys:HK W) (ρ:Fm) (S:aa),i+n=xs.length->I i ys ρ S->Wp (bL mi g c f n i ρ S) λp=>Q (ys++p.1,p.2)
 | 0,i,ys,ρ,S,hl,hI=>by
  have e:mi.at S i=ba K3:=by rw[hat i ys ρ S hI,Lc ∅]
  simp only[bL,e];refine ab.mpr ?_;have:i=xs.length:=∅
  simpa using hend ys ρ S (this ▸ hI)
 | n+1,i,ys,ρ,S,hl,hI=>by
  have hi:i < xs.length:=∅
  have e:mi.at S i=ba (ba xs[i]):=by rw[hat i ys ρ S hI,Ic hi]
  obtain⟨⟨ρ1,S1⟩,h1,⟨k,S2⟩,h2,h3,h4⟩:=hstep i xs[i] ys ρ S (Ic hi) hI;simp only[bL,e,h1,h2];cases k with
  | true=>
   obtain⟨⟨y,S3⟩,h5,h6⟩:=h3 rfl;simp only[h5];obtain⟨⟨zs,S4⟩,h7,h8⟩:=dF I hat hstep hend n (i+1) (ys++[y]) ρ1 S3 ∅ h6
   simp only[h7];exact ab.mpr (by simpa using h8)
  | false=>exact dF I hat hstep hend n (i+1) ys ρ1 S2 ∅ (h4 rfl)
theorem xI {elt:E}{tg:Tg}{it:Ie}{cs:Es}{cap:HK (HU HW)}{Q:QW}:Wp (aG Φ (.comp elt tg it cs cap) ρ S) Q↔Wp (ly Φ it ρ S) λp=>∃n,p.1.len p.2=ba n/\Wp (bL p.1 (iM tg) (AD Φ cs) (aG Φ elt) n 0 (eT cap ρ) p.2) λq=>q.1.length<=sizeLine/\Q (.ref q.2.length,q.2++[.lst q.1]):=by
 simp only[aG,kC,lB];rcases h:ly Φ it ρ S with _|⟨mi,S1⟩
 ·simp[ac]
 ·rcases h2:mi.len S1 with _|n
  ·simp[ab,ac,h2]
  ·rcases h3:bL mi (iM tg) (AD Φ cs) (aG Φ elt) n 0 (eT cap ρ) S1 with _|⟨ys,S2⟩
   ·simp[ab,ac,h2,h3]
   ·by_cases hl:ys.length<=sizeLine <;> simp[ab,ac,h2,h3,hl]
theorem Fg {Q:QB}:Wp (AD Φ .nil ρ S) Q↔Q (true,S):=by simp[AD,Bx,ab]
theorem Fh {e:E}{Q:QB}:Wp (AD Φ #v[e] ρ S) Q↔Wp (cU Φ e ρ S) Q:=by rw[AD]
theorem G3 {i:HW}{w:W}{Q:Fm×aa->Prop}:Wp (iM (.nm i) w ρ S) Q↔Q (ρ.set i (ba w),S):=by simp[iM,Al,ab]
theorem kI {c:FT}{b:FS}{Q:QO}(I:HW->Fm->aa->Prop)(hstep:∀m ρ S,I m ρ S->Wp (c ρ S) λk=>(k.1=true->∃m',m=m'+1/\Wp (b ρ k.2) (xH (I m') Q))/\(k.1=false->Q (.nx ρ,k.2))) :
  ∀(n m:HW) (ρ:Fm) (S:aa),m < n->I m ρ S->Wp (nP c b n ρ S) Q
 | 0,m,ρ,S,h,_=>∅
 | n+1,m,ρ,S,h,hI=>by
  obtain⟨⟨k,S1⟩,h1,h2,h3⟩:=hstep m ρ S hI;simp only[nP,h1];cases k with
  | false=>exact ab.mpr (h3 rfl)
  | true=>
   obtain⟨m',rfl,⟨o,S2⟩,h5,h6⟩:=h2 rfl;simp only[h5];cases o with
   | nx ρ2=>exact kI I hstep n m' ρ2 S2 ∅ h6
   | ct ρ2=>exact kI I hstep n m' ρ2 S2 ∅ h6
   | bk ρ2=>exact ab.mpr h6
   | rt w=>exact ab.mpr h6
theorem uP {defs:HK (Iv×Df)}{d:HW}{f:Iv}{ws:HK W}{df:Df}{Q:QW}(h:defs.lookup f=ba df)(hl:ws.length=df.ps.length)
  (hb:Wp (fG (aq defs fuel d) fuel df.body (eW df.N ws) S) λp=>match p.1 with|.rt w=>Q (w,p.2)|.nx _=>Q (.non,p.2)|_=>JF):Wp (aq defs fuel (d+1) f ws S) Q:=by
 obtain⟨⟨o,S1⟩,h1,h2⟩:=hb;simp only[aq,h,Ix hl,h1];cases o with
 | rt w=>exact ab.mpr h2
 | nx ρ=>exact ab.mpr h2
 | bk _=>exact h2.elim
 | ct _=>exact h2.elim
end
section
variable{S:aa}{Q:QW}
theorem cX {a b:Ik}:fB .add (.int a) (.int b) S=ba (.int (a+b),S):=rfl
theorem BG {a b:Ik}:fB .sub (.int a) (.int b) S=ba (.int (a - b),S):=rfl
theorem nW {c:Ik->Ik->IF}{f:Ik->Ik->Ik}{i j:Ik}(h:c i j=true):yO c f (.int i) (.int j) S=ba (.int (f i j),S):=by
 unfold yO;dsimp only;rw[Ix h]
theorem qf {a b:Ik}(h : -(2 ^ 64) < b)(h2:b < 2 ^ 64):fB .mul (.int a) (.int b) S=ba (.int (a*b),S):=nW (c:=t8) (f:=(· * ·)) (by
 unfold t8;simp only[J0,HV,Iw];exact .inr #[h,h2])
theorem ik {a b:Ik}(h:0 < b):fB .mod (.int a) (.int b) S=ba (.int (a % b),S):=nW (c:=λ_ j=>decide (0 < j)) (f:=(· % ·)) (JY h)
theorem gO {a b:Ik}(h:0 < b)(h2:b < 1073741824):fB .fdiv (.int a) (.int b) S=ba (.int (a / b),S):=nW (c:=λ_ j=>zv j) (f:=(· / ·)) (by
 unfold zv;simp only[HV,Iw];exact#[h,h2])
theorem Dl:fB .pow (.int 10) (.int 18) S=ba (.int 1000000000000000000,S):=rfl
theorem Dm {x y:Iv}(h:x.length+y.length<=sizeLine):fB .add (.str x) (.str y) S=ba (.str (x++y),S):=by simp only[fB,t9]; rw[Ix h]
theorem rL {xs ys:HK W}(h:(xs++ys).length<=sizeLine):fB .add (.tup xs) (.tup ys) S=ba (.tup (xs++ys),S):=by simp only[fB,t9,qU]; rw[Ix h]
theorem xJ {i j:HW}{xs ys:HK W}(h1:S[i]?=ba (.lst xs))(h2:S[j]?=ba (.lst ys))(h:(xs++ys).length<=sizeLine):fB .add (.ref i) (.ref j) S=ba (.ref S.length,S++[.lst (xs++ys)]):=by
 simp only[fB,t9,oN,h1,h2,lB]; rw[Ix h]
theorem im {a b:Ik}:eR .eq (.int a) (.int b) S=ba (.bl (a==b),S):=rfl
theorem G4 {a b:Ik}:eR .ne (.int a) (.int b) S=ba (.bl (!(a==b)),S):=rfl
theorem AJ {a b:Ik}:eR .lt (.int a) (.int b) S=ba (.bl (decide (a < b)),S):=rfl
theorem Fi {a b:Ik}:eR .gt (.int a) (.int b) S=ba (.bl (decide (a > b)),S):=rfl
theorem G5 {a b:Ik}:eR .ge (.int a) (.int b) S=ba (.bl (decide (a>=b)),S):=rfl
theorem BH {a b:Iv}:eR .eq (.str a) (.str b) S=ba (.bl (a==b),S):=rfl
theorem Fj {a b:Iv}:eR .ne (.str a) (.str b) S=ba (.bl (!(a==b)),S):=rfl
theorem aT {r:HW}{xs:HK W}(h:S[r]?=ba (.lst xs)):gZ S r=ba xs:=by simp[gZ,h]
theorem AK {r:HW}{xs:HK W}(h:S[r]?=ba (.fro xs)):gZ S r=ba xs:=by simp[gZ,h]
theorem eh {r:HW}{xs:HK W}(h:S[r]?=ba (.lst xs)):oN S r=ba xs:=by simp[oN,h]
theorem nX {r:HW}{xs:HK W}(h:S[r]?=ba (.lst xs)):jn S r=K3:=by simp[jn,h]
theorem da {r:HW}{kvs:HK (T×W)}(h:S[r]?=ba (.dic kvs)):jn S r=ba kvs:=by simp[jn,h]
theorem nY {r:HW}{kvs:HK (T×W)}(h:S[r]?=ba (.dic kvs)):gZ S r=K3:=by simp[gZ,h]
theorem AL {r:HW}{kvs:HK (T×W)}(h:S[r]?=ba (.frd kvs)):jn S r=ba kvs:=by simp[jn,h]
theorem atI_nat {α:Type}{xs:HK α}{j:HW}{w:α}(h:xs[j]?=ba w):qI xs (j:Ik)=ba w:=by
 have hl:=(HZ.mp h).1;unfold qI u9;rw[Ix (IH j),Ix (by exact_mod_cast hl)]
 simpa using h
theorem nZ {α:Type}{xs:HK α}{i:Ik}{w:α}(h0:0<=i)(h:xs[i.toNat]?=ba w):qI xs i=ba w:=by
 have:=atI_nat h
 rwa [NZ h0]at this
theorem xK {r:HW}{xs:HK W}{i:Ik}{w:W}(h:S[r]?=ba (.lst xs))(h0:0<=i)(hw:xs[i.toNat]?=ba w):qJ (.ref r) (.int i) S=ba (w,S):=by
 show vd (.ref r) (.int i) S=_;simp[vd,aT h,nZ h0 hw]
theorem Fk {xs:HK W}{i:Ik}{w:W}(h0:0<=i)(hw:xs[i.toNat]?=ba w):qJ (.tup xs) (.int i) S=ba (w,S):=by
 show vd (.tup xs) (.int i) S=_;simp[vd,nZ h0 hw]
theorem BI {x:Iv}{i:Ik}{c:HW}(hz:x.length<=sizeLine)(h0:0<=i)(hw:x.cps.toList[i.toNat]?=ba c):qJ (.str x) (.int i) S=ba (.str #[[c].toArray],S):=by
 show vd (.str x) (.int i) S=_;simp[vd,hz,nZ h0 hw]
theorem BJ {r:HW}{xs:HK W}{i:Ik}{w:W}(h:S[r]?=ba (.lst xs))(h0:0<=i)(hi:i.toNat < xs.length):ic (.ref r) (.int i) w S=ba (S.set r (.lst (xs.set i.toNat w))):=by
 show ub (.ref r) (.int i) w S=_;have:u9 xs.length i=ba i.toNat:=by
  unfold u9;rw[Ix h0,Ix ∅]
 simp[ub,eh h,this]
theorem BK {r:HW}{xs:HK W}(h:S[r]?=ba (.lst xs)):rg [.ref r] S=ba (.int xs.length,S):=by
 simp[rg,nX h,qW,aT h]
theorem xL {r:HW}{xs:HK W}{y:W}(h:S[r]?=ba (.lst xs))(hl:xs.length < sizeLine):g8 (.ref r) [y] S=ba (.non,S.set r (.lst (xs++[y]))):=by
 simp[g8,eh h,hl]
theorem Fn {r:HW}{xs:HK W}(h:S[r]?=ba (.lst xs)):iV [.ref r] S=ba (.tup xs,S):=by
 simp[iV,uk,h,j8,aT h]
theorem dX {r:HW}{xs:HK W}(h:S[r]?=ba (.lst xs)):tyOk "list" S (.ref r)=true:=by simp[tyOk,aT h]
theorem bT {r:HW}{o o':O}(h:S[r]?=ba o):(S.set r o')[r]?=ba o':=by
 rw[Kd,Ix rfl,Ix (HZ.mp h).1]
theorem b6 {r j:HW}{o':O}(h:r≠j):(S.set r o')[j]?=S[j]?:=by rw[Kd,IK h]
theorem ah {o:O}:(S++[o])[S.length]?=ba o:=by simp
theorem aw {j:HW}{o u:O}(h:S[j]?=ba o):(S++[u])[j]?=ba o:=by rw[Je (HZ.mp h).1]; exact h
theorem dY {j:HW}{o:O}(h:S[j]?=ba o):j < S.length:=(HZ.mp h).1
structure Kp (r:HW)(S S':aa):Prop where
 get:∀j o,j≠r->S[j]?=ba o->S'[j]?=ba o
 len:S.length<=S'.length
theorem Kp.refl {r:HW}{S:aa}:Kp r S S:=#[λ_ _ _ h=>h,Ih _]
theorem Kp.trans {r:HW}{S S' S'':aa}(a:Kp r S S')(b:Kp r S' S''):Kp r S S'':=#[λj o n h=>b.get j o n (a.get j o n h),Jh a.len b.len]
theorem Kp.set {r:HW}{S:aa}{o:O}:Kp r S (S.set r o):=#[λj u n h=>by rw[b6 (Ne.symm n)]; exact h,by simp]
theorem Kp.push {r:HW}{S:aa}{o:O}:Kp r S (S++[o]):=#[λj u n h=>aw h,by simp]
theorem Kp.late {r t:HW}{S0 S:aa}{o:O}(a:Kp r S0 S)(h:S0.length<=t):Kp r S0 (S.set t o):=
 #[λj u n e=>by
  have:=dY e;rw[b6 ∅]; exact a.get j u n e,by simpa using a.len]
end
noncomputable def wO {α:Type}(o:HU α)(Q:α->Prop):Prop:=match o with
 | some a=>Q a
 | none=>JF
theorem cp {α:Type}{o:HU α}{Q:α->Prop}(h:wO o Q):Wp o Q:=by
 cases o with
 | none=>exact h.elim
 | some a=>exact#[a,rfl,h]
theorem Fo {α:Type}{o:HU α}{Q:α->Prop}(h:Wp o Q):wO o Q:=by
 obtain⟨a,rfl,q⟩:=h;exact q
theorem ag {α:Type}{o:HU α}{a:α}{Q:α->Prop}(e:o=ba a)(h:Q a):wO o Q:=by subst e; exact h
noncomputable def wB:W->(IF->Prop)->Prop
 | .bl k,Q=>Q k
 | _,_=>JF
noncomputable def wN:W->(Ik->Prop)->Prop
 | .int k,Q=>Q k
 | _,_=>JF
noncomputable def wU:W->(HK W->Prop)->Prop
 | .tup k,Q=>Q k
 | _,_=>JF
theorem sW {w:W}{Q:IF->Prop}(h:wB w Q):∃k,w=.bl k/\Q k:=by cases w <;> first|exact h.elim|exact#[_,rfl,h]
theorem BL {w:W}{Q:Ik->Prop}(h:wN w Q):∃k,w=.int k/\Q k:=by cases w <;> first|exact h.elim|exact#[_,rfl,h]
theorem Fp {w:W}{Q:HK W->Prop}(h:wU w Q):∃k,w=.tup k/\Q k:=by cases w <;> first|exact h.elim|exact#[_,rfl,h]
noncomputable def w2:HK W->(W->W->Prop)->Prop
 | [x,y],Q=>Q x y
 | _,_=>JF
theorem Fq {xs:HK W}{Q:W->W->Prop}(h:w2 xs Q):∃x y,xs=[x,y]/\Q x y:=by
 match xs,h with
 | [x,y],h=>exact#[x,y,rfl,h]
noncomputable def wG:HU W->(W->Prop)->Prop
 | some w,Q=>Q w
 | none,_=>JF
noncomputable def wV:Fm->HW->(W->Prop)->Prop
 | [],_,_=>JF
 | o::_,0,Q=>wG o Q
 | _::ρ,n+1,Q=>wV ρ n Q
theorem xM {Q:W->Prop}:∀ {ρ:Fm} {i:HW},wV ρ i Q->∃w,ρ[i]?=ba (ba w)/\Q w
 | [],i,h=>h.elim
 | some w::ρ,0,h=>#[w,rfl,h]
 | none::ρ,0,h=>h.elim
 | x::ρ,n+1,h=>by
  obtain⟨w,e2,q⟩:=xM (ρ:=ρ) (i:=n) h;exact#[w,e2,q]
noncomputable def bD (Φ:Iv->FF)(f:Iv)(n:HW)(ws:HK W)(S:aa):HU (W×aa):=if ws.length=n then Φ f ws S else K3
section
variable (Φ:Iv->FF) (fuel:HW)
mutual
noncomputable def wE:E->Fm->aa->QW->Prop
 | .c w,_,S,Q=>Q (w,S)
 | .v i,ρ,S,Q=>wV ρ i λw=>Q (w,S)
 | .op o a b,ρ,S,Q=>wE a ρ S λp=>wE b ρ p.2 λq=>wO (fB o p.1 q.1 q.2) Q
 | .cmp o a b,ρ,S,Q=>wE a ρ S λp=>wE b ρ p.2 λq=>wO (eR o p.1 q.1 q.2) Q
 | .and a b,ρ,S,Q=>wE a ρ S λp=>wB p.1 λk=>(k=true->wE b ρ p.2 Q)/\(k=false->Q (.bl false,p.2))
 | .or a b,ρ,S,Q=>wE a ρ S λp=>wB p.1 λk=>(k=true->Q (.bl true,p.2))/\(k=false->wE b ρ p.2 Q)
 | .not a,ρ,S,Q=>wE a ρ S λp=>wB p.1 λk=>Q (.bl (!k),p.2)
 | .own f n es,ρ,S,Q=>wA es ρ S λp=>wO (bD Φ f n p.1 p.2) Q
 | .bi b es,ρ,S,Q=>wA es ρ S λp=>wO (b.fn p.1 p.2) Q
 | .me m o es,ρ,S,Q=>wE o ρ S λp=>tyOk m.ty p.2 p.1=true/\wA es ρ p.2 λq=>wO (m.fn p.1 q.1 q.2) Q
 | .ix a b,ρ,S,Q=>wE a ρ S λp=>wE b ρ p.2 λq=>wO (qJ p.1 q.1 q.2) Q
 | .sl a lo hi,ρ,S,Q=>wE a ρ S λp=>wP lo ρ p.2 λq=>wP hi ρ q.2 λr=>wO (ve p.1 q.1 r.1 r.2) Q
 | .tup es,ρ,S,Q=>wA es ρ S λp=>Q (.tup p.1,p.2)
 | .lst es,ρ,S,Q=>wA es ρ S λp=>Q (.ref p.2.length,p.2++[.lst p.1])
 | .isi c a,ρ,S,Q=>wE a ρ S λp=>wO (xm p.2 p.1 c) λk=>Q (.bl k,p.2)
 | .neg a,ρ,S,Q=>wE a ρ S λp=>wN p.1 λi=>Q (.int (-i),p.2)
 | .dnew,_,S,Q=>Q (.ref S.length,S++[.dic []])
 | .disp es,ρ,S,Q=>wA es ρ (S++[.dic []]) λp=>p.2[S.length]?=ba (.dic [])/\wO (dy [] p.1) λkvs=>Q (.ref S.length,p.2.set S.length (.dic kvs))
 | .ite t a b,ρ,S,Q=>wT t ρ S λp=>(p.1=true->wE a ρ p.2 Q)/\(p.1=false->wE b ρ p.2 Q)
 | .comp elt tg it cs cap,ρ,S,Q=>Wp (aG Φ (.comp elt tg it cs cap) ρ S) Q
noncomputable def wT:E->Fm->aa->QB->Prop
 | .cmp o a b,ρ,S,Q=>wE a ρ S λp=>wE b ρ p.2 λq=>wO (eR o p.1 q.1 q.2) λr=>wB r.1 λk=>Q (k,r.2)
 | .and a b,ρ,S,Q=>wT a ρ S λp=>(p.1=true->wT b ρ p.2 Q)/\(p.1=false->Q (false,p.2))
 | .or a b,ρ,S,Q=>wT a ρ S λp=>(p.1=true->Q (true,p.2))/\(p.1=false->wT b ρ p.2 Q)
 | .not a,ρ,S,Q=>wT a ρ S λp=>Q (!p.1,p.2)
 | .isi c a,ρ,S,Q=>wE a ρ S λp=>wO (xm p.2 p.1 c) λk=>Q (k,p.2)
 | .c w,ρ,S,Q=>Wp (cU Φ (.c w) ρ S) Q
 | .v i,ρ,S,Q=>wV ρ i λw=>wO (gc S w) λk=>Q (k,S)
 | .op o a b,ρ,S,Q=>Wp (cU Φ (.op o a b) ρ S) Q
 | .own f n es,ρ,S,Q=>wA es ρ S λp=>wO (bD Φ f n p.1 p.2) λq=>wO (gc q.2 q.1) λk=>Q (k,q.2)
 | .bi b es,ρ,S,Q=>wA es ρ S λp=>wO (b.fn p.1 p.2) λq=>wO (gc q.2 q.1) λk=>Q (k,q.2)
 | .me m o es,ρ,S,Q=>Wp (cU Φ (.me m o es) ρ S) Q
 | .ix a b,ρ,S,Q=>Wp (cU Φ (.ix a b) ρ S) Q
 | .sl a lo hi,ρ,S,Q=>Wp (cU Φ (.sl a lo hi) ρ S) Q
 | .tup es,ρ,S,Q=>Wp (cU Φ (.tup es) ρ S) Q
 | .lst es,ρ,S,Q=>Wp (cU Φ (.lst es) ρ S) Q
 | .neg a,ρ,S,Q=>Wp (cU Φ (.neg a) ρ S) Q
 | .dnew,ρ,S,Q=>Wp (cU Φ .dnew ρ S) Q
 | .disp es,ρ,S,Q=>Wp (cU Φ (.disp es) ρ S) Q
 | .ite t a b,ρ,S,Q=>Wp (cU Φ (.ite t a b) ρ S) Q
 | .comp elt tg it cs cap,ρ,S,Q=>Wp (cU Φ (.comp elt tg it cs cap) ρ S) Q
noncomputable def wA:Es->Fm->aa->(HK W×aa->Prop)->Prop
 | .nil,_,S,Q=>Q ([],S)
 | .cons e es,ρ,S,Q=>wE e ρ S λp=>wA es ρ p.2 λq=>Q (p.1::q.1,q.2)
noncomputable def wP:Ep->Fm->aa->(HU Ik×aa->Prop)->Prop
 | .no,_,S,Q=>Q (K3,S)
 | .yes a,ρ,S,Q=>wE a ρ S λp=>wN p.1 λi=>Q (ba i,p.2)
end
noncomputable def sX (K:Fm->aa->Prop)(Q:QO)(p:Out×aa):Prop:=match p.1 with
 | .nx ρ=>K ρ p.2
 | o=>Q (o,p.2)
mutual
noncomputable def wS:Sm->Fm->aa->(Fm->aa->Prop)->QO->Prop
 | .set i e,ρ,S,K,_=>wE Φ e ρ S λp=>K (ρ.set i (ba p.1)) p.2
 | .asg is e,ρ,S,K,_=>wE Φ e ρ S λp=>wU p.1 λws=>wO (dS is ws ρ) λρ'=>K ρ' p.2
 | .par i j es,ρ,S,K,_=>wA Φ es ρ S λp=>w2 p.1 λx y=>K ((ρ.set i (ba x)).set j (ba y)) p.2
 | .put o k e,ρ,S,K,_=>wE Φ e ρ S λp=>wE Φ o ρ p.2 λq=>wE Φ k ρ q.2 λr=>wO (ic q.1 r.1 p.1 r.2) λS'=>K ρ S'
 | .ex e,ρ,S,K,_=>wE Φ e ρ S λp=>K ρ p.2
 | .ret e,ρ,S,_,Q=>wE Φ e ρ S λp=>Q (.rt p.1,p.2)
 | .retN,_,S,_,Q=>Q (.rt .non,S)
 | .pass,ρ,S,K,_=>K ρ S
 | .brk,ρ,S,_,Q=>Q (.bk ρ,S)
 | .cont,ρ,S,_,Q=>Q (.ct ρ,S)
 | .bad,_,_,_,_=>JF
 | .ite t a b,ρ,S,K,Q=>wT Φ t ρ S λp=>∀Q':QO,(∀ρ' S',K ρ' S'->Q' (.nx ρ',S'))->(∀o S',(∀ρ',o≠.nx ρ')->Q (o,S')->Q' (o,S'))->(p.1=true->yP a ρ p.2 Q')/\(p.1=false->yP b ρ p.2 Q')
 | .whl t b,ρ,S,K,Q=>Wp (gk Φ fuel (.whl t b) ρ S) (sX K Q)
 | .loop tg it b,ρ,S,K,Q=>Wp (gk Φ fuel (.loop tg it b) ρ S) (sX K Q)
noncomputable def yP:Ss->Fm->aa->QO->Prop
 | .nil,ρ,S,Q=>Q (.nx ρ,S)
 | .cons s ss,ρ,S,Q=>wS s ρ S (λρ' S'=>yP ss ρ' S' Q) Q
end
end
noncomputable def F0:Es->HW
 | .nil=>0
 | .cons _ es=>F0 es+1
mutual
noncomputable def d8:E->IF
 | .c _|.v _|.comp _ _ _ _ _|.dnew=>true
 | .op _ a b|.cmp _ a b|.and a b|.or a b|.ix a b=>d8 a&&d8 b
 | .ite a b c=>d8 a&&d8 b&&d8 c
 | .neg a|.not a|.isi _ a=>d8 a
 | .own _ n es=>F0 es==n&&oO es
 | .bi _ es|.disp es=>oO es
 | .me _ o es=>d8 o&&oO es
 | .sl a lo hi=>d8 a&&G6 lo&&G6 hi
 | .tup es|.lst es=>decide (F0 es<=1000)&&oO es
noncomputable def oO:Es->IF
 | .nil=>true
 | .cons e es=>d8 e&&oO es
noncomputable def G6:Ep->IF
 | .no=>true
 | .yes e=>d8 e
end
mutual
noncomputable def Hw:Sm->IF
 | .set _ e|.asg _ e|.ex e|.ret e=>d8 e
 | .put o k e=>d8 o&&d8 k&&d8 e
 | .par _ _ es=>oO es
 | .ite t a b=>d8 t&&io a&&io b
 | _=>true
noncomputable def io:Ss->IF
 | .nil=>true
 | .cons s ss=>Hw s&&io ss
end
section
variable{Φ:Iv->FF}{fuel:HW}
theorem ip:∀ {es:Es} {ρ:Fm} {S S':aa} {ws:HK W},cZ Φ es ρ S=ba (ws,S')->ws.length=F0 es
 | .nil,ρ,S,S',ws,h=>by rw[cZ]at h; cases h; rfl
 | .cons e es,ρ,S,S',ws,h=>by
  rw[cZ]at h;unfold eg at h;split at h
  ·split at h
   ·rename_i h2; cases h; rw[JC,ip h2]; rfl
   ·cases h
  ·cases h
theorem xN {n:HW}(h:decide (n<=1000)=true):n<=sizeLine:=Jh (Jl h) (by rw[Jf]; decide)
theorem cV {a b:IF}(h:(a&&b)=true):a=true:=by cases a <;> first|rfl|cases h
theorem dZ {a b:IF}(h:(a&&b)=true):b=true:=by cases a <;> first|exact h|cases h
mutual
theorem bx:∀(e:E) {ρ:Fm} {S:aa} {Q:QW},d8 e=true->wE Φ e ρ S Q->Wp (aG Φ e ρ S) Q
 | .c w,ρ,S,Q,k,h=>HF.mpr h
 | .v i,ρ,S,Q,k,h=>Hv.mpr (xM h)
 | .op o a b,ρ,S,Q,k,h=>GU.mpr ((bx a (cV k) h).mono λp hp=>(bx b (dZ k) hp).mono λq hq=>cp hq)
 | .cmp o a b,ρ,S,Q,k,h=>BC.mpr ((bx a (cV k) h).mono λp hp=>(bx b (dZ k) hp).mono λq hq=>cp hq)
 | .and a b,ρ,S,Q,k,h=>EX.mpr ((bx a (cV k) h).mono λp hp=>let ⟨c,e,h1,h2⟩:=sW hp; #[c,e,λz=>bx b (dZ k) (h1 z),h2])
 | .or a b,ρ,S,Q,k,h=>GX.mpr ((bx a (cV k) h).mono λp hp=>let ⟨c,e,h1,h2⟩:=sW hp; #[c,e,h1,λz=>bx b (dZ k) (h2 z)])
 | .not a,ρ,S,Q,k,h=>EY.mpr ((bx a k h).mono λp hp=>sW hp)
 | .own f n es,ρ,S,Q,k,h=>BE.mpr (by
   obtain⟨⟨ws,S1⟩,e,hq⟩:=gC es (dZ k) h;have hl:ws.length=n:=(ip e).trans (eq_of_beq (cV k));simp only[bD,Ix hl]at hq;exact#[_,e,hl,cp hq])
 | .bi b es,ρ,S,Q,k,h=>E1.mpr ((gC es k h).mono λp hp=>cp hp)
 | .me m o es,ρ,S,Q,k,h=>GY.mpr ((bx o (cV k) h).mono λp hp=>#[hp.1,(gC es (dZ k) hp.2).mono λq hq=>cp hq])
 | .ix a b,ρ,S,Q,k,h=>GV.mpr ((bx a (cV k) h).mono λp hp=>(bx b (dZ k) hp).mono λq hq=>cp hq)
 | .sl a lo hi,ρ,S,Q,k,h=>GZ.mpr ((bx a (cV (cV k)) h).mono λp hp=>(BM lo (dZ (cV k)) hp).mono λq hq=>(BM hi (dZ k) hq).mono λr hr=>cp hr)
 | .tup es,ρ,S,Q,k,h=>E3.mpr (by
   obtain⟨⟨ws,S1⟩,e,hq⟩:=gC es (dZ k) h;exact#[_,e,by rw[ip e]; exact xN (cV k),hq])
 | .lst es,ρ,S,Q,k,h=>E4.mpr (by
   obtain⟨⟨ws,S1⟩,e,hq⟩:=gC es (dZ k) h;exact#[_,e,by rw[ip e]; exact xN (cV k),hq])
 | .isi c a,ρ,S,Q,k,h=>BF.mpr ((bx a k h).mono λp hp=>cp hp)
 | .neg a,ρ,S,Q,k,h=>E5.mpr ((bx a k h).mono λp hp=>BL hp)
 | .dnew,ρ,S,Q,k,h=>#[_,rfl,h]
 | .disp es,ρ,S,Q,k,h=>Da.mpr ((gC es k h).mono λp hp=>#[hp.1,let ⟨kvs,e,q⟩:=cp hp.2; #[kvs,e,q]])
 | .ite t a b,ρ,S,Q,k,h=>EZ.mpr ((iq t (cV (cV k)) h).mono λp hp=>#[λz=>bx a (dZ (cV k)) (hp.1 z),λz=>bx b (dZ k) (hp.2 z)])
 | .comp elt tg it cs cap,ρ,S,Q,k,h=>h
theorem gC:∀(es:Es) {ρ:Fm} {S:aa} {Q:HK W×aa->Prop},oO es=true->wA Φ es ρ S Q->Wp (cZ Φ es ρ S) Q
 | .nil,ρ,S,Q,k,h=>E6.mpr h
 | .cons e es,ρ,S,Q,k,h=>Db.mpr ((bx e (cV k) h).mono λp hp=>gC es (dZ k) hp)
theorem BM:∀(e:Ep) {ρ:Fm} {S:aa} {Q:HU Ik×aa->Prop},G6 e=true->wP Φ e ρ S Q->Wp (sM Φ e ρ S) Q
 | .no,ρ,S,Q,k,h=>G0.mpr h
 | .yes a,ρ,S,Q,k,h=>E2.mpr ((bx a k h).mono λp hp=>BL hp)
theorem iq:∀(e:E) {ρ:Fm} {S:aa} {Q:QB},d8 e=true->wT Φ e ρ S Q->Wp (cU Φ e ρ S) Q
 | .cmp o a b,ρ,S,Q,k,h=>E8.mpr (BC.mpr ((bx a (cV k) h).mono λp hp=>(bx b (dZ k) hp).mono λq hq=>(cp hq).mono λr hr=>sW hr))
 | .and a b,ρ,S,Q,k,h=>E9.mpr ((iq a (cV k) h).mono λp hp=>#[λz=>iq b (dZ k) (hp.1 z),hp.2])
 | .or a b,ρ,S,Q,k,h=>G1.mpr ((iq a (cV k) h).mono λp hp=>#[hp.1,λz=>iq b (dZ k) (hp.2 z)])
 | .not a,ρ,S,Q,k,h=>Fa.mpr (iq a k h)
 | .isi c a,ρ,S,Q,k,h=>Fc.mpr (BF.mpr ((bx a k h).mono λp hp=>let ⟨b,e,q⟩:=cp hp; #[b,e,b,rfl,q]))
 | .v i,ρ,S,Q,k,h=>HG.mpr (Hv.mpr (let ⟨w,e,q⟩:=xM h; #[w,e,cp q]))
 | .own f n es,ρ,S,Q,k,h=>Fb.mpr (BE.mpr (by
   obtain⟨⟨ws,S1⟩,e,hq⟩:=gC es (dZ k) h;have hl:ws.length=n:=(ip e).trans (eq_of_beq (cV k));simp only[bD,Ix hl]at hq;exact#[_,e,hl,(cp hq).mono λq hq=>cp hq]))
 | .c w,ρ,S,Q,k,h=>h
 | .op o a b,ρ,S,Q,k,h=>h
 | .bi b es,ρ,S,Q,k,h=>G2.mpr (E1.mpr ((gC es k h).mono λp hp=>(cp hp).mono λq hq=>cp hq))
 | .me m o es,ρ,S,Q,k,h=>h
 | .ix a b,ρ,S,Q,k,h=>h
 | .sl a lo hi,ρ,S,Q,k,h=>h
 | .tup es,ρ,S,Q,k,h=>h
 | .lst es,ρ,S,Q,k,h=>h
 | .neg a,ρ,S,Q,k,h=>h
 | .dnew,ρ,S,Q,k,h=>h
 | .disp es,ρ,S,Q,k,h=>h
 | .ite t a b,ρ,S,Q,k,h=>h
 | .comp elt tg it cs cap,ρ,S,Q,k,h=>h
end
mutual
theorem Fs:∀(s:Sm) {ρ:Fm} {S:aa} {K:Fm->aa->Prop} {Q:QO},Hw s=true->wS Φ fuel s ρ S K Q->Wp (gk Φ fuel s ρ S) (sX K Q)
 | .set i e,ρ,S,K,Q,k,h=>De.mpr (bx e k h)
 | .asg is e,ρ,S,K,Q,k,h=>Dg.mpr ((bx e k h).mono λp hp=>let ⟨ws,e1,h1⟩:=Fp hp; let ⟨ρ',e2,h2⟩:=cp h1; #[ws,ρ',e1,e2,h2])
 | .par i j es,ρ,S,K,Q,k,h=>Dh.mpr ((gC es k h).mono λp hp=>Fq hp)
 | .put o i e,ρ,S,K,Q,k,h=>Di.mpr ((bx e (dZ k) h).mono λp hp=>(bx o (cV (cV k)) hp).mono λq hq=>(bx i (dZ (cV k)) hq).mono λr hr=>cp hr)
 | .ex e,ρ,S,K,Q,k,h=>Fe.mpr (bx e k h)
 | .ret e,ρ,S,K,Q,k,h=>Dj.mpr (bx e k h)
 | .retN,ρ,S,K,Q,k,h=>#[_,rfl,h]
 | .pass,ρ,S,K,Q,k,h=>#[_,rfl,h]
 | .brk,ρ,S,K,Q,k,h=>#[_,rfl,h]
 | .cont,ρ,S,K,Q,k,h=>#[_,rfl,h]
 | .bad,ρ,S,K,Q,k,h=>h.elim
 | .ite t a b,ρ,S,K,Q,k,h=>Dk.mpr ((iq t (cV (cV k)) h).mono λp hp=>by
   obtain⟨h1,h2⟩:=hp (sX K Q) (λρ' S' z=>z) (λo S' hn z=>by cases o <;> first|exact z|exact absurd rfl (hn _))
   exact#[λz=>i5 a (dZ (cV k)) (h1 z),λz=>i5 b (dZ k) (h2 z)])
 | .whl t b,ρ,S,K,Q,k,h=>h
 | .loop tg it b,ρ,S,K,Q,k,h=>h
theorem i5:∀(ss:Ss) {ρ:Fm} {S:aa} {Q:QO},io ss=true->yP Φ fuel ss ρ S Q->Wp (fG Φ fuel ss ρ S) Q
 | .nil,ρ,S,Q,k,h=>Fd.mpr h
 | .cons s ss,ρ,S,Q,k,h=>Dc.mpr ((Fs s (cV k) h).mono λp hp=>by
   obtain⟨o,S1⟩:=p;cases o with
   | nx ρ'=>exact#[λρ2 e=>by cases e; exact i5 ss (dZ k) hp,λz=>absurd rfl (z ρ')]
   | _=>exact#[λρ2 e=>(by cases e),λ_=>hp])
end
structure wZ (Φ:Iv->FF)(fuel:HW)(ss:Ss)(ρ:Fm)(S:aa)(Q:QO):Prop where
 out:yP Φ fuel ss ρ S Q
theorem Ft {ss:Ss}{ρ:Fm}{S:aa}{Q:QO}:yP Φ fuel ss ρ S Q=wZ Φ fuel ss ρ S Q:=propext #[λh=>#[h],λh=>h.out]
theorem Do {defs:HK (Iv×Df)}{d:HW}{f:Iv}{n:HW}{ws:HK W}{df:Df}{S:aa}{Q:QW}(h:defs.lookup f=ba df)(hn:ws.length=n)(hl:ws.length=df.ps.length)(ok:io df.body=true)
  (hb:∀Q':QO,(∀w S',Q (w,S')->Q' (.rt w,S'))->wZ (aq defs fuel d) fuel df.body (eW df.N ws) S Q'):wO (bD (aq defs fuel (d+1)) f n ws S) Q:=by
 unfold bD;rw[Ix hn];exact Fo (uP h hl ((i5 _ ok (hb (λp=>match p.1 with|.rt w=>Q (w,p.2)|_=>JF) λw S' q=>q).out).mono λp hp=>by
  obtain⟨o,S1⟩:=p;cases o <;> first|exact hp|exact hp.elim))
end
section
variable{Φ:Iv->FF}{fuel:HW}{ρ:Fm}{S:aa}{K:Fm->aa->Prop}{Q:QO}
noncomputable def yQ (Φ:Iv->FF)(fuel:HW)(b:Ss)(ρ:Fm)(S:aa)(I:Fm->aa->Prop)(Q:QO):Prop:=∀Q':QO,(∀ρ' S',I ρ' S'->Q' (.nx ρ',S'))->(∀w S',Q (.rt w,S')->Q' (.rt w,S'))->wZ Φ fuel b ρ S Q'
theorem kJ {tg:Tg}{it:Ie}{b:Ss}{mi:MI}{S1:aa}{xs:HK W}(I:HW->Fm->aa->Prop)(ok:io b=true)(hi:ly Φ it ρ S=ba (mi,S1))(hat:∀i ρ S,I i ρ S->mi.at S i=ba xs[i]?)(hl:mi.len S1=ba xs.length)(h0:I 0 ρ S1)
  (hstep:∀(i:HW) (w:W) (ρ:Fm) (S:aa),xs[i]?=ba w->I i ρ S->wO (iM tg w ρ S) λq=>yQ Φ fuel b q.1 q.2 (I (i+1)) Q) (hend:∀ρ S,I xs.length ρ S->K ρ S):Wp (gk Φ fuel (.loop tg it b) ρ S) (sX K Q):=by
 rw[gk,Ff];refine#[_,hi,xs.length,hl,?_];refine i4 (Q:=sX K Q) I hat (λi w ρ S h1 h2=>?_) (λρ S h=>hend ρ S h) _ 0 ρ S1 ∅ h0
 exact(cp (hstep i w ρ S h1 h2)).mono λq hq=>i5 b ok (wZ.out (hq _ (λ_ _ h=>h) λ_ _ h=>h))
theorem cz {e:E}{Q:QW}(ok:d8 e=true)(h:wE Φ e ρ S Q):∃w S',aG Φ e ρ S=ba (w,S')/\Q (w,S'):=let ⟨⟨w,S'⟩,a,b⟩:=bx e ok h; #[w,S',a,b]
theorem dG {i0:HW}{e:E}{b:Ss}(j:Ik)(I:HW->Fm->aa->Prop)(oe:d8 e=true)(ok:io b=true)(hj : -(2 ^ 62)<=j/\j < 2 ^ 62)(he:wE Φ e ρ S λp=>p.1=.int j/\I 0 ρ p.2)
  (hstep:∀(i:HW) (ρ:Fm) (S:aa),(i:Ik) < j->I i ρ S->yQ Φ fuel b (ρ.set i0 (ba (.int i))) S (I (i+1)) Q) (hend:∀ρ S,I j.toNat ρ S->K ρ S):Wp (gk Φ fuel (.loop (.nm i0) (.rng #v[e]) b) ρ S) (sX K Q):=by
 obtain⟨w,S1,e1,rfl,h0⟩:=cz oe he;have hl:(dw 0 j.toNat).length=j.toNat:=by simp[dw]
 refine kJ (mi:=.its (dw 0 j.toNat)) (S1:=S1) (xs:=dw 0 j.toNat) I ok ?_ (λ_ _ _ _=>rfl) rfl h0 (λi w ρ S hw hI=>?_) λρ S hI=>hend ρ S (hl ▸ hI)
 ·simp only[ly,cZ,eg,jy,uG,e1];rw[Ix hj]
 ·rw[dU]at hw;split at hw
  ·rename_i hk;cases hw;rw[Nk];exact hstep i ρ S ∅ hI
  ·cases hw
theorem BN {t:E}{b:Ss}(I:HW->Fm->aa->Prop)(m:HW)(ot:d8 t=true)(ok:io b=true)(hm:m < fuel)(h0:I m ρ S)
  (hstep:∀m ρ S,I m ρ S->wT Φ t ρ S λk=>(k.1=true->∃m',m=m'+1/\yQ Φ fuel b ρ k.2 (I m') Q)/\(k.1=false->K ρ k.2)):Wp (gk Φ fuel (.whl t b) ρ S) (sX K Q):=by
 rw[gk];refine kI (Q:=sX K Q) I (λm ρ S hI=>(iq t ot (hstep m ρ S hI)).mono λk hk=>#[λz=>?_,λz=>hk.2 z]) fuel m ρ S hm h0
 obtain⟨m',e,h⟩:=hk.1 z;exact#[m',e,i5 b ok (wZ.out (h _ (λ_ _ h=>h) λ_ _ h=>h))]
noncomputable def wC (Φ:Iv->FF):Es->Fm->aa->QB->Prop
 | .nil,_,S,Q=>Q (true,S)
 | .cons e .nil,ρ,S,Q=>wT Φ e ρ S Q
 | .cons _ (.cons _ _),_,_,_=>JF
theorem BO {cs:Es}{Q:QB}(ok:oO cs=true)(h:wC Φ cs ρ S Q):Wp (AD Φ cs ρ S) Q:=by
 match cs,h,ok with
 | .nil,h,_=>exact Fg.mpr h
 | .cons e .nil,h,ok=>exact Fh.mpr (iq e (cV ok) h)
noncomputable def ju (Φ:Iv->FF)(elt:E)(cs:Es)(ρ:Fm)(S:aa)(G:W->Fm->aa->Prop)(N:Fm->aa->Prop):Prop:=wC Φ cs ρ S λk=>(k.1=true->wE Φ elt ρ k.2 λy=>G y.1 ρ y.2)/\(k.1=false->N ρ k.2)
theorem i6 {elt:E}{tg:Tg}{it:Ie}{cs:Es}{cap:HK (HU HW)}{mi:MI}{S1:aa}{xs:HK W}{Q:QW}(I:HW->HK W->Fm->aa->Prop)(oe:d8 elt=true)(oc:oO cs=true)(hi:ly Φ it ρ S=ba (mi,S1))(hat:∀i ys ρ S,I i ys ρ S->mi.at S i=ba xs[i]?)(hl:mi.len S1=ba xs.length)(h0:I 0 [] (eT cap ρ) S1)
  (hstep:∀(i:HW) (w:W) (ys:HK W) (ρ:Fm) (S:aa),xs[i]?=ba w->I i ys ρ S->wO (iM tg w ρ S) λq=>ju Φ elt cs q.1 q.2 (λy=>I (i+1) (ys++[y])) (I (i+1) ys))
  (hend:∀ys ρ S,I xs.length ys ρ S->ys.length<=sizeLine/\Q (.ref S.length,S++[.lst ys])):Wp (aG Φ (.comp elt tg it cs cap) ρ S) Q:=by
 rw[xI];refine#[_,hi,xs.length,hl,?_];refine(dF (xs:=xs) (Q:=λq=>q.1.length<=sizeLine/\Q (.ref q.2.length,q.2++[.lst q.1])) I hat (λi w ys ρ S h1 h2=>?_) hend xs.length 0 [] _ S1 ∅ h0).mono λq hq=>by simpa using hq
 exact(cp (hstep i w ys ρ S h1 h2)).mono λq hq=>(BO oc hq).mono λk hk=>#[λz=>bx elt oe (hk.1 z),hk.2]
theorem en {elt e:E}{i0:HW}{cs:Es}{cap:HK (HU HW)}{Q:QW}(j:Ik)(I:HW->HK W->Fm->aa->Prop)(oi:d8 e=true)(oe:d8 elt=true)(oc:oO cs=true)(hj : -(2 ^ 62)<=j/\j < 2 ^ 62)(he:wE Φ e ρ S λp=>p.1=.int j/\I 0 [] (eT cap ρ) p.2)
  (hstep:∀(i:HW) (ys:HK W) (ρ:Fm) (S:aa),(i:Ik) < j->I i ys ρ S->ju Φ elt cs (ρ.set i0 (ba (.int i))) S (λy=>I (i+1) (ys++[y])) (I (i+1) ys))
  (hend:∀ys ρ S,I j.toNat ys ρ S->ys.length<=sizeLine/\Q (.ref S.length,S++[.lst ys])):Wp (aG Φ (.comp elt (.nm i0) (.rng #v[e]) cs cap) ρ S) Q:=by
 obtain⟨w,S1,e1,rfl,h0⟩:=cz oi he;have hl:(dw 0 j.toNat).length=j.toNat:=by simp[dw]
 refine i6 (mi:=.its (dw 0 j.toNat)) (S1:=S1) (xs:=dw 0 j.toNat) I oe oc ?_ (λ_ _ _ _ _=>rfl) rfl h0 (λi w ys ρ S hw hI=>?_) λys ρ S hI=>hend ys ρ S (hl ▸ hI)
 ·simp only[ly,cZ,eg,jy,uG,e1];rw[Ix hj]
 ·rw[dU]at hw;split at hw
  ·rename_i hk;cases hw;rw[Nk];exact hstep i ys ρ S ∅ hI
  ·cases hw
theorem sY {elt e:E}{tg:Tg}{cs:Es}{cap:HK (HU HW)}{Q:QW}(xs:HK W)(I:HW->HK W->Fm->aa->Prop)(oi:d8 e=true)(oe:d8 elt=true)(oc:oO cs=true)(he:wE Φ e ρ S λp=>p.1=.tup xs/\I 0 [] (eT cap ρ) p.2)
  (hstep:∀(i:HW) (w:W) (ys:HK W) (ρ:Fm) (S:aa),xs[i]?=ba w->I i ys ρ S->wO (iM tg w ρ S) λq=>ju Φ elt cs q.1 q.2 (λy=>I (i+1) (ys++[y])) (I (i+1) ys))
  (hend:∀ys ρ S,I xs.length ys ρ S->ys.length<=sizeLine/\Q (.ref S.length,S++[.lst ys])):Wp (aG Φ (.comp elt tg (.seq e) cs cap) ρ S) Q:=by
 obtain⟨w,S1,e1,rfl,h0⟩:=cz oi he;exact i6 (mi:=.its xs) (S1:=S1) I oe oc (by simp only[ly,fm,e1]) (λ_ _ _ _ _=>rfl) rfl h0 hstep hend
theorem sZ {elt e:E}{tg:Tg}{cs:Es}{cap:HK (HU HW)}{Q:QW}(t:HW)(xs:HK W)(I:HW->HK W->Fm->aa->Prop)(oi:d8 e=true)(oe:d8 elt=true)(oc:oO cs=true)(he:wE Φ e ρ S λp=>p.1=.ref t/\I 0 [] (eT cap ρ) p.2)(hat:∀i ys ρ S,I i ys ρ S->S[t]?=ba (.lst xs))
  (hstep:∀(i:HW) (w:W) (ys:HK W) (ρ:Fm) (S:aa),xs[i]?=ba w->I i ys ρ S->wO (iM tg w ρ S) λq=>ju Φ elt cs q.1 q.2 (λy=>I (i+1) (ys++[y])) (I (i+1) ys))
  (hend:∀ys ρ S,I xs.length ys ρ S->ys.length<=sizeLine/\Q (.ref S.length,S++[.lst ys])):Wp (aG Φ (.comp elt tg (.seq e) cs cap) ρ S) Q:=by
 obtain⟨w,S1,e1,rfl,h0⟩:=cz oi he;exact i6 (mi:=.live t) (S1:=S1) I oe oc (by simp only[ly,fm,e1,aT (hat _ _ _ _ h0)]) (λi ys ρ S h=>by simp only[MI.at,aT (hat _ _ _ _ h)]) (by simp only[MI.len,aT (hat _ _ _ _ h0),IZ]) h0 hstep hend
theorem AM {elt a:E}{tg:Tg}{cs:Es}{cap:HK (HU HW)}{Q:QW}(xs:HK W)(I:HW->HK W->Fm->aa->Prop)(oa:d8 a=true)(oe:d8 elt=true)(oc:oO cs=true)(he:wE Φ a ρ S λp=>GN p.1=ba xs/\I 0 [] (eT cap ρ) p.2)
  (hstep:∀(i:HW) (x:W) (ys:HK W) (ρ:Fm) (S:aa),xs[i]?=ba x->I i ys ρ S->wO (iM tg (.tup [.int i,x]) ρ S) λq=>ju Φ elt cs q.1 q.2 (λy=>I (i+1) (ys++[y])) (I (i+1) ys))
  (hend:∀ys ρ S,I xs.length ys ρ S->ys.length<=sizeLine/\Q (.ref S.length,S++[.lst ys])):Wp (aG Φ (.comp elt tg (.enu #v[a]) cs cap) ρ S) Q:=by
 obtain⟨x,S1,e1,h1,h0⟩:=cz oa he;have hl:(nR xs).length=xs.length:=by simp[nR]
 refine i6 (mi:=.its (nR xs)) (S1:=S1) (xs:=nR xs) I oe oc (by simp only[ly,cZ,eg,jy,AA,e1,h1]) (λ_ _ _ _ _=>rfl) rfl h0 (λi w ys ρ S hw hI=>?_) λys ρ S hI=>hend ys ρ S (hl ▸ hI)
 obtain⟨y,hy,rfl⟩:=p7 hw;exact hstep i y ys ρ S hy hI
theorem st {s:Sm}{ss:Ss}(h:wS Φ fuel s ρ S (λρ' S'=>wZ Φ fuel ss ρ' S' Q) Q):wZ Φ fuel (.cons s ss) ρ S Q:=#[by
 rw[yP];simp only[Ft];exact h]
theorem dv (h:Q (.nx ρ,S)):wZ Φ fuel .nil ρ S Q:=#[by rw[yP]; exact h]
theorem aO {t:IF}{a b:Ss}{Q Q0:QO}{K:Fm->aa->Prop}(ha:t=true->∀Q':QO,(∀ρ' S',K ρ' S'->Q' (.nx ρ',S'))->(∀w S',Q (.rt w,S')->Q' (.rt w,S'))->wZ Φ fuel a ρ S Q')(hb:t=false->∀Q':QO,(∀ρ' S',K ρ' S'->Q' (.nx ρ',S'))->(∀w S',Q (.rt w,S')->Q' (.rt w,S'))->wZ Φ fuel b ρ S Q') :
  ∀Q':QO,(∀ρ' S',K ρ' S'->Q' (.nx ρ',S'))->(∀o S',(∀ρ',o≠.nx ρ')->Q (o,S')->Q' (o,S'))->(t=true->yP Φ fuel a ρ S Q')/\(t=false->yP Φ fuel b ρ S Q'):=
 λQ' h1 h2=>#[λe=>(ha e Q' h1 λw S'=>h2 (.rt w) S' (λ_ z=>nomatch z)).out,λe=>(hb e Q' h1 λw S'=>h2 (.rt w) S' (λ_ z=>nomatch z)).out]
end
noncomputable def d0:Ss:=
 #v[.ret (.lst #v[.bi .list #v[.v 0],.c (.int 0),.c (.int 0),.c (.int 1),.c (.int 0)])]
noncomputable def cC:Ss:=
 #v[.ite (.and (.cmp .eq (.ix (.v 0) (.c (.int 2))) (.c (.int 0))) (.cmp .lt (.ix (.v 0) (.c (.int 1))) (.bi .len #v[.ix (.v 0) (.c (.int 0))]))) #v[.set 2 (.ix (.ix (.v 0) (.c (.int 0))) (.ix (.v 0) (.c (.int 1)))),.put (.v 0) (.c (.int 1)) (.op .add (.ix (.v 0) (.c (.int 1))) (.c (.int 1))),.ite (.cmp .ge (.v 2) (.op .pow (.c (.int 10)) (.c (.int 18)))) #v[.put (.v 0) (.c (.int 2)) (.v 2)] #v[.put (.v 0) (.c (.int 3)) (.op .mod (.op .add (.op .add (.op .mul (.ix (.v 0) (.c (.int 3))) (.c (.int 40013))) (.op .mod (.v 2) (.c (.int 1000003)))) (.c (.int 1))) (.c (.int 2147483647)))]] .nil,.ite (.cmp .gt (.ix (.v 0) (.c (.int 2))) (.c (.int 0))) #v[.set 3 (.op .mod (.ix (.v 0) (.c (.int 2))) (.v 1)),.put (.v 0) (.c (.int 2)) (.op .fdiv (.ix (.v 0) (.c (.int 2))) (.v 1)),.ret (.v 3)] .nil,.put (.v 0) (.c (.int 4)) (.op .add (.ix (.v 0) (.c (.int 4))) (.c (.int 1))),.put (.v 0) (.c (.int 3)) (.op .mod (.op .add (.op .add (.op .mul (.ix (.v 0) (.c (.int 3))) (.c (.int 48271))) (.c (.int 12820163))) (.ix (.v 0) (.c (.int 4)))) (.c (.int 2147483647))),.ret (.op .mod (.op .fdiv (.op .mod (.op .mul (.op .add (.op .mod (.ix (.v 0) (.c (.int 3))) (.c (.int 65521))) (.c (.int 1))) (.op .add (.op .fdiv (.ix (.v 0) (.c (.int 3))) (.c (.int 65521))) (.c (.int 7919)))) (.c (.int 1000003))) (.c (.int 7))) (.v 1))]
noncomputable def db:Ss:=
 #v[.ret (.me .join (.c (.str "")) #v[.comp (.ix (.c (.str "abcdefghijklmnopqrstuvwxyz")) (.own "_law_pick" 2 #v[.v 2,.c (.int 26)])) (.nm 1) (.rng #v[.v 1]) .nil [K3,K3,ba 0]])]
noncomputable def eX:Ss:=
 #v[.ite (.cmp .ne (.v 1) (.c (.str ""))) #v[.ret (.op .add (.v 1) (.own "_law_letters" 2 #v[.v 0,.op .add (.c (.int 1)) (.own "_law_pick" 2 #v[.v 0,.c (.int 2)])]))] .nil,.ite (.cmp .eq (.own "_law_pick" 2 #v[.v 0,.c (.int 6)]) (.c (.int 0))) #v[.set 2 (.lst #v[.c (.str "markss"),.c (.str "mark"),.c (.str "way"),.c (.str "wayss"),.c (.str "bars"),.c (.str "ba"),.c (.str "somex")]),.set 2 (.op .add (.v 2) (.lst #v[.c (.str "eachx"),.c (.str "note"),.c (.str "no"),.c (.str "ands"),.c (.str "ors"),.c (.str "o"),.c (.str "iss")])),.ret (.ix (.v 2) (.own "_law_pick" 2 #v[.v 0,.c (.int 14)]))] .nil,.ret (.own "_law_letters" 2 #v[.v 0,.op .add (.c (.int 1)) (.own "_law_pick" 2 #v[.v 0,.c (.int 8)])])]
noncomputable def cF:Ss:=
 #v[.set 2 (.c (.str "")),.ite (.cmp .eq (.own "_law_pick" 2 #v[.v 0,.c (.int 3)]) (.c (.int 0))) #v[.set 2 (.own "_law_letters" 2 #v[.v 0,.op .add (.c (.int 1)) (.own "_law_pick" 2 #v[.v 0,.c (.int 6)])])] .nil,.set 3 (.lst #v[.c (.str "marks"),.c (.str "ways"),.c (.str "bar"),.c (.str "some"),.c (.str "each"),.c (.str "not"),.c (.str "and"),.c (.str "or"),.c (.str "is")]),.loop (.nm 4) (.rng #v[.v 1]) #v[.set 5 (.own "_law_name" 2 #v[.v 0,.v 2]),.set 6 (.c (.int 0)),.whl (.cmp .isin (.v 5) (.v 3)) #v[.set 5 (.op .mul (.ix (.c (.str "abcdefghijklmnopqrstuvwxyz")) (.op .mod (.v 6) (.c (.int 26)))) (.op .add (.c (.int 1)) (.op .fdiv (.v 6) (.c (.int 26))))),.set 6 (.op .add (.v 6) (.c (.int 1)))],.ex (.me .append (.v 3) #v[.v 5])],.ret (.bi .tuple #v[.sl (.v 3) (.yes (.c (.int 9))) .no])]
noncomputable def dc:Ss:=
 #v[.ite (.cmp .lt (.v 3) (.v 2)) #v[.ret (.ix (.ix (.ix (.v 1) (.v 2)) (.c (.int 1))) (.v 3))] .nil,.ret (.ix (.ix (.ix (.v 0) (.c (.int 1))) (.ix (.ix (.ix (.v 1) (.v 3)) (.c (.int 1))) (.v 2))) (.c (.int 1)))]
noncomputable def c8:Ss:=
 #v[.set 3 (.lst .nil),.loop (.nm 4) (.rng #v[.bi .len #v[.v 2]]) #v[.set 5 (.ix (.v 2) (.v 4)),.ex (.me .append (.v 3) #v[.tup #v[.ix (.ix (.v 1) (.v 5)) (.c (.int 0)),.bi .tuple #v[.comp (.own "_law_between" 4 #v[.v 3,.v 4,.v 2,.v 1]) (.nm 1) (.seq (.sl (.v 2) .no (.yes (.v 4)))) .nil [K3,K3,ba 5,ba 0,ba 1]]]])],.ret (.bi .tuple #v[.v 3])]
noncomputable def fI:Ss:=
 #v[.ret (.lst #v[.tup #v[.c (.int 0),.c (.int 1),.c (.int 2)],.tup #v[.c (.int 0),.c (.int 2),.c (.int 1)],.tup #v[.c (.int 1),.c (.int 0),.c (.int 2)],.tup #v[.c (.int 1),.c (.int 2),.c (.int 0)],.tup #v[.c (.int 2),.c (.int 0),.c (.int 1)],.tup #v[.c (.int 2),.c (.int 1),.c (.int 0)]])]
noncomputable def dH:Ss:=
 #v[.ret (.bi .min #v[.comp (.own "_law_part" 3 #v[.v 2,.v 3,.v 1]) (.nm 1) (.seq (.own "_law_turns" 0 .nil)) .nil [K3,K3,ba 0,ba 1]])]
noncomputable def eu:Ss:=
 #v[.set 2 (.ix (.lst #v[.lst #v[.tup #v[.c (.int 0)]],.lst #v[.tup #v[.c (.int 0),.c (.int 1)],.tup #v[.c (.int 1),.c (.int 0)]],.lst #v[.tup #v[.c (.int 0),.c (.int 1),.c (.int 2)],.tup #v[.c (.int 1),.c (.int 0),.c (.int 2)],.tup #v[.c (.int 0),.c (.int 2),.c (.int 1)]]]) (.op .sub (.v 1) (.c (.int 1)))),.ret (.ix (.v 2) (.own "_law_pick" 2 #v[.v 0,.bi .len #v[.v 2]]))]
noncomputable def de:Ss:=
 #v[.set 4 (.own "_law_names" 2 #v[.v 0,.op .add (.v 1) (.bi .len #v[.v 2])]),.set 5 (.bi .tuple #v[.comp (.tup #v[.ix (.v 4) (.op .add (.v 3) (.v 1)),.ix (.v 2) (.v 1)]) (.nm 1) (.rng #v[.bi .len #v[.v 2]]) .nil [K3,K3,ba 2,ba 1,ba 4]]),.ret (.tup #v[.sl (.v 4) .no (.yes (.v 1)),.v 5,.bi .tuple #v[.bi .sorted #v[.v 3]]])]
noncomputable def cf:Ss:=
 #v[.set 3 (.lst .nil),.loop (.nm 4) (.rng #v[.c (.int 3)]) #v[.ex (.me .append (.v 3) #v[.tup #v[.own "_law_pick" 2 #v[.v 0,.v 1],.bi .tuple #v[.comp (.own "_law_pick" 2 #v[.v 2,.v 3]) (.nm 1) (.rng #v[.v 4]) .nil [K3,K3,ba 0,ba 2]]]])],.ret (.bi .tuple #v[.v 3])]
noncomputable def ev:Ss:=
 #v[.set 1 (.lst #v[.tup #v[.c (.int 1),.c (.int 1)],.tup #v[.c (.int 2),.c (.int 1)],.tup #v[.c (.int 3),.c (.int 1)],.tup #v[.c (.int 1),.c (.int 2)],.tup #v[.c (.int 1),.c (.int 2)],.tup #v[.c (.int 2),.c (.int 2)],.tup #v[.c (.int 2),.c (.int 2)],.tup #v[.c (.int 3),.c (.int 2)],.tup #v[.c (.int 1),.c (.int 3)],.tup #v[.c (.int 1),.c (.int 3)],.tup #v[.c (.int 2),.c (.int 3)]]),.ret (.ix (.v 1) (.own "_law_pick" 2 #v[.v 0,.c (.int 11)]))]
noncomputable def cM:Ss:=
 #v[.asg [1,2] (.own "_law_sizes" 1 #v[.v 0]),.set 3 (.own "_law_rule_of" 4 #v[.v 0,.v 1,.own "_law_backs" 2 #v[.v 0,.v 2],.tup .nil]),.set 4 .dnew,.loop (.nm 5) (.rng #v[.own "_law_pick" 2 #v[.v 0,.c (.int 9)]]) #v[.put (.v 4) (.own "_law_figure" 2 #v[.v 3,.own "_law_free_three" 3 #v[.v 0,.v 1,.v 2]]) (.c (.bl true))],.ret (.tup #v[.ix (.v 3) (.c (.int 0)),.ix (.v 3) (.c (.int 1)),.bi .tuple #v[.bi .sorted #v[.v 4]]])]
noncomputable def bW:Ss:=
 #v[.set 1 (.lst #v[.tup #v[.tup #v[.c (.int 1),.c (.int 0)],.disp #v[.tup #v[.c (.int 0),.c (.int 0)],.lst #v[.c (.int 0)]],.c (.int 3)],.tup #v[.tup #v[.c (.int 0),.c (.int 2),.c (.int 1)],.disp #v[.tup #v[.c (.int 1),.c (.int 1)],.lst #v[.c (.int 1)]],.c (.int 2)],.tup #v[.tup #v[.c (.int 0),.c (.int 1)],.disp #v[.tup #v[.c (.int 1),.c (.int 1)],.lst #v[.c (.int 1)]],.c (.int 3)]]),.ex (.me .append (.v 1) #v[.tup #v[.tup #v[.c (.int 0),.c (.int 1)],.disp #v[.tup #v[.c (.int 1),.c (.int 1)],.lst #v[.c (.int 1)],.tup #v[.c (.int 0),.c (.int 0)],.lst #v[.c (.int 1)]],.c (.int 3)]]),.ex (.me .append (.v 1) #v[.tup #v[.tup #v[.c (.int 0),.c (.int 1)],.disp #v[.tup #v[.c (.int 1),.c (.int 1)],.lst .nil],.c (.int 1)]]),.ex (.me .append (.v 1) #v[.tup #v[.tup #v[.c (.int 0),.c (.int 2),.c (.int 1)],.disp #v[.tup #v[.c (.int 0),.c (.int 0)],.lst #v[.c (.int 0)],.tup #v[.c (.int 0),.c (.int 1)],.lst #v[.c (.int 1)],.tup #v[.c (.int 1),.c (.int 0)],.lst #v[.c (.int 1)],.tup #v[.c (.int 1),.c (.int 1)],.lst #v[.c (.int 1)]],.c (.int 2)]]),.ex (.me .append (.v 1) #v[.tup #v[.tup #v[.c (.int 1),.c (.int 0)],.dnew,.c (.int 3)]]),.ex (.me .append (.v 1) #v[.tup #v[.tup #v[.c (.int 0),.c (.int 1),.c (.int 2)],.disp #v[.tup #v[.c (.int 2),.c (.int 2)],.lst #v[.c (.int 2)],.tup #v[.c (.int 1),.c (.int 2)],.lst #v[.c (.int 1)],.tup #v[.c (.int 2),.c (.int 1)],.lst #v[.c (.int 1)],.tup #v[.c (.int 1),.c (.int 1)],.lst #v[.c (.int 1),.c (.int 2)]],.c (.int 2)]]),.ex (.me .append (.v 1) #v[.tup #v[.tup #v[.c (.int 0),.c (.int 1),.c (.int 2)],.disp #v[.tup #v[.c (.int 0),.c (.int 0)],.lst #v[.c (.int 0),.c (.int 1)]],.c (.int 2)]]),.ret (.ix (.v 1) (.own "_law_pick" 2 #v[.v 0,.c (.int 9)]))]
noncomputable def dI:Ss:=
 #v[.set 5 (.disp #v[.tup #v[.c (.int 1),.c (.int 0)],.v 2,.tup #v[.c (.int 2),.c (.int 0)],.v 3,.tup #v[.c (.int 2),.c (.int 1)],.v 4]),.loop (.nm 6) (.seq (.bi .list #v[.v 5])) #v[.put (.v 5) (.tup #v[.ix (.v 6) (.c (.int 1)),.ix (.v 6) (.c (.int 0))]) (.ix (.v 0) (.ix (.v 5) (.v 6)))],.loop (.tp [7,8,9]) (.seq (.own "_law_turns" 0 .nil)) #v[.ite (.cmp .notin (.ix (.v 5) (.tup #v[.v 7,.v 9])) (.me .get (.v 1) #v[.tup #v[.ix (.v 5) (.tup #v[.v 7,.v 8]),.ix (.v 5) (.tup #v[.v 8,.v 9])],.lst #v[.ix (.v 5) (.tup #v[.v 7,.v 9])]])) #v[.ret (.c (.bl true))] .nil],.ret (.c (.bl false))]
noncomputable def bE:Ss:=
 #v[.set 3 (.bi .len #v[.v 1]),.set 4 (.lst #v[.lst #v[.tup #v[.c (.int 0)]],.lst #v[.tup #v[.c (.int 0),.c (.int 1)],.tup #v[.c (.int 1),.c (.int 0)]]]),.ex (.me .append (.v 4) #v[.lst #v[.tup #v[.c (.int 0),.c (.int 1),.c (.int 2)],.tup #v[.c (.int 0),.c (.int 2),.c (.int 1)],.tup #v[.c (.int 2),.c (.int 0),.c (.int 1)],.tup #v[.c (.int 2),.c (.int 1),.c (.int 0)]]]),.set 5 (.ix (.v 4) (.op .sub (.v 3) (.c (.int 1)))),.ite (.cmp .eq (.v 1) (.tup #v[.c (.int 0),.c (.int 1),.c (.int 2)])) #v[.set 5 (.own "_law_turns" 0 .nil)] .nil,.set 6 (.ix (.v 5) (.own "_law_pick" 2 #v[.v 0,.bi .len #v[.v 5]])),.set 7 (.op .mul (.lst #v[.c (.int 0)]) (.v 3)),.loop (.nm 8) (.rng #v[.v 3]) #v[.put (.v 7) (.ix (.v 6) (.v 8)) (.ix (.v 6) (.ix (.v 1) (.v 8)))],.set 9 .dnew,.loop (.tp [10,11]) (.seq (.v 2)) #v[.put (.v 9) (.tup #v[.ix (.v 6) (.v 10),.ix (.v 6) (.v 11)]) (.comp (.ix (.v 2) (.v 1)) (.nm 1) (.seq (.ix (.v 2) (.tup #v[.v 10,.v 11]))) .nil [K3,K3,ba 6])],.ret (.tup #v[.bi .tuple #v[.v 7],.v 9])]
noncomputable def bX:Ss:=
 #v[.set 1 (.own "_law_pick" 2 #v[.v 0,.c (.int 7)]),.ite (.cmp .eq (.v 1) (.c (.int 0))) #v[.ret (.own "_law_free_rule" 1 #v[.v 0])] .nil,.ite (.cmp .eq (.v 1) (.c (.int 1))) #v[.ret (.own "_law_one_way_rule" 1 #v[.v 0])] .nil,.asg [2,3,4] (.own "_law_laying_kind" 1 #v[.v 0]),.set 5 (.op .add (.c (.int 1)) (.own "_law_pick" 2 #v[.v 0,.v 4])),.asg [2,3] (.own "_law_numbered" 3 #v[.v 0,.v 2,.v 3]),.set 6 (.own "_law_rule_of" 4 #v[.v 0,.v 5,.v 2,.tup .nil]),.set 7 .dnew,.set 8 (.bi .len #v[.v 2]),.loop (.nm 9) (.rng #v[.op .mul (.op .mul (.v 8) (.v 8)) (.v 8)]) #v[.par 10 11 #v[.op .mod (.v 9) (.v 8),.op .mod (.op .fdiv (.v 9) (.v 8)) (.v 8)],.set 12 (.op .fdiv (.op .fdiv (.v 9) (.v 8)) (.v 8)),.ite (.own "_law_breaks" 5 #v[.v 2,.v 3,.v 10,.v 11,.v 12]) #v[.loop (.nm 13) (.seq (.own "_law_rising" 1 #v[.v 5])) #v[.set 14 (.tup #v[.tup #v[.ix (.v 13) (.c (.int 0)),.tup .nil],.tup #v[.ix (.v 13) (.c (.int 1)),.tup #v[.v 10]]]),.put (.v 7) (.own "_law_figure" 2 #v[.v 6,.op .add (.v 14) (.tup #v[.tup #v[.ix (.v 13) (.c (.int 2)),.tup #v[.v 11,.v 12]]])]) (.c (.bl true))]] .nil],.ret (.tup #v[.ix (.v 6) (.c (.int 0)),.ix (.v 6) (.c (.int 1)),.bi .tuple #v[.bi .sorted #v[.v 7]]])]
noncomputable def dJ:Ss:=
 #v[.set 1 (.lst .nil),.loop (.nm 2) (.rng #v[.v 0]) #v[.loop (.nm 3) (.rng2 #v[.v 2,.v 0]) #v[.set 1 (.op .add (.v 1) (.comp (.tup #v[.v 2,.v 3,.v 1]) (.nm 1) (.rng2 #v[.v 3,.v 0]) .nil [K3,K3,ba 2,ba 3]))]],.ret (.v 1)]
noncomputable def cv:Ss:=
 #v[.asg [1,2] (.own "_law_sizes" 1 #v[.v 0]),.set 3 (.own "_law_rule_of" 4 #v[.v 0,.v 1,.own "_law_backs" 2 #v[.v 0,.v 2],.tup .nil]),.set 5 (.comp (.v 1) (.nm 1) (.rng #v[.v 2]) #v[.cmp .eq (.ix (.ix (.ix (.v 2) (.c (.int 1))) (.v 1)) (.c (.int 1))) (.v 1)] [K3,K3,ba 3]),.ite (.or (.cmp .eq (.v 5) (.lst .nil)) (.cmp .eq (.v 2) (.c (.int 1)))) #v[.ret (.v 3)] .nil,.set 6 (.ix (.v 5) (.own "_law_pick" 2 #v[.v 0,.bi .len #v[.v 5]])),.set 7 .dnew,.loop (.nm 4) (.rng #v[.own "_law_pick" 2 #v[.v 0,.c (.int 9)]]) #v[.set 8 (.own "_law_free_three" 3 #v[.v 0,.v 1,.v 2]),.ite (.and (.cmp .ne (.ix (.ix (.ix (.v 8) (.c (.int 1))) (.c (.int 1))) (.c (.int 0))) (.v 6)) (.cmp .notin (.v 6) (.ix (.ix (.v 8) (.c (.int 2))) (.c (.int 1))))) #v[.put (.v 7) (.own "_law_figure" 2 #v[.v 3,.v 8]) (.c (.bl true))] .nil],.ret (.tup #v[.ix (.v 3) (.c (.int 0)),.ix (.v 3) (.c (.int 1)),.bi .tuple #v[.bi .sorted #v[.v 7]]])]
noncomputable def bQ:Ss:=
 #v[.set 1 (.op .add (.c (.int 1)) (.own "_law_pick" 2 #v[.v 0,.c (.int 3)])),.set 2 (.comp (.tup #v[.tup #v[.v 1,.tup .nil],.tup #v[.v 1,.tup #v[.c (.int 0)]],.tup #v[.v 1,.tup #v[.c (.int 0),.c (.int 0)]]]) (.nm 1) (.rng #v[.v 1]) #v[.cmp .eq (.own "_law_pick" 2 #v[.v 2,.c (.int 2)]) (.c (.int 0))] [K3,K3,ba 0]),.ret (.own "_law_rule_of" 4 #v[.v 0,.v 1,.tup #v[.c (.int 0)],.v 2])]
noncomputable def bS:Ss:=
 #v[.set 3 (.lst .nil),.loop (.nm 4) (.rng #v[.v 2]) #v[.set 5 (.own "_law_pick" 2 #v[.v 0,.bi .len #v[.ix (.v 1) (.c (.int 0))]]),.ex (.me .append (.v 3) #v[.tup #v[.v 5,.bi .tuple #v[.comp (.own "_law_pick" 2 #v[.v 2,.bi .len #v[.ix (.v 3) (.c (.int 1))]]) (.nm 1) (.rng #v[.v 4]) .nil [K3,K3,ba 0,ba 1]]]])],.ret (.bi .tuple #v[.v 3])]
noncomputable def b7:Ss:=
 #v[.ite (.cmp .is (.v 1) (.c .non)) #v[.ret (.cmp .is (.v 0) (.c .non))] .nil,.ite (.or (.isi "bool" (.v 1)) (.isi "bool" (.v 0))) #v[.ret (.and (.isi "bool" (.v 1)) (.and (.isi "bool" (.v 0)) (.cmp .eq (.v 0) (.v 1))))] .nil,.ite (.isi "int" (.v 1)) #v[.ret (.and (.isi "int" (.v 0)) (.cmp .eq (.v 0) (.v 1)))] .nil,.ite (.isi "str" (.v 1)) #v[.ret (.and (.isi "str" (.v 0)) (.cmp .eq (.v 0) (.v 1)))] .nil,.ite (.or (.cmp .ne (.isi "tuple" (.v 1)) (.isi "tuple" (.v 0))) (.cmp .ne (.isi "list" (.v 1)) (.isi "list" (.v 0)))) #v[.ret (.c (.bl false))] .nil,.ret (.and (.cmp .eq (.bi .len #v[.v 0]) (.bi .len #v[.v 1])) (.bi .all #v[.comp (.own "_law_alike" 2 #v[.ix (.v 3) (.v 1),.ix (.v 2) (.v 1)]) (.nm 1) (.rng #v[.bi .len #v[.v 1]]) .nil [K3,K3,ba 1,ba 0]]))]
noncomputable def Is (defs:HK (Iv×Df))(f:Iv)(np nn:HW)(b:Ss):Prop:=∃df:Df,defs.lookup f=ba df/\df.ps.length=np/\df.N.length=nn/\df.body=b
theorem aN {defs:HK (Iv×Df)}{fuel d:HW}{f:Iv}{np nn:HW}{b:Ss}{ws:HK W}{S:aa}{Q:QW}(h:Is defs f np nn b)(hl:ws.length=np)(ok:io b=true)
  (hb:∀Q':QO,(∀w S',Q (w,S')->Q' (.rt w,S'))->wZ (aq defs fuel d) fuel b (ws.map ba++IW (nn - np) K3) S Q'):wO (bD (aq defs fuel (d+1)) f np ws S) Q:=by
 obtain⟨df,h1,h2,h3,h4⟩:=h;subst h4;refine Do h1 hl (hl.trans h2.symm) ok λQ' hR=>?_
 have:=hb Q' hR;unfold eW;rw[h3,hl];exact this
structure Gen (defs:HK (Iv×Df)):Prop where
 pick:Is defs ("_law_pick" : Iv) 2 4 cC
 letters:Is defs ("_law_letters" : Iv) 2 2 db
 name:Is defs ("_law_name" : Iv) 2 3 eX
 names:Is defs ("_law_names" : Iv) 2 7 cF
 between:Is defs ("_law_between" : Iv) 4 4 dc
 part:Is defs ("_law_part" : Iv) 3 6 c8
 turns:Is defs ("_law_turns" : Iv) 0 0 fI
 figure:Is defs ("_law_figure" : Iv) 2 2 dH
 backs:Is defs ("_law_backs" : Iv) 2 3 eu
 rule_of:Is defs ("_law_rule_of" : Iv) 4 6 de
 free_three:Is defs ("_law_free_three" : Iv) 3 5 cf
 sizes:Is defs ("_law_sizes" : Iv) 1 2 ev
 any_rule:Is defs ("_law_any_rule" : Iv) 1 6 cM
 laying_kind:Is defs ("_law_laying_kind" : Iv) 1 2 bW
 breaks:Is defs ("_law_breaks" : Iv) 5 10 dI
 numbered:Is defs ("_law_numbered" : Iv) 3 12 bE
 laying_rule:Is defs ("_law_laying_rule" : Iv) 1 15 bX
 rising:Is defs ("_law_rising" : Iv) 1 4 dJ
 free_rule:Is defs ("_law_free_rule" : Iv) 1 9 cv
 one_way_rule:Is defs ("_law_one_way_rule" : Iv) 1 3 bQ
structure FlA (S:aa)(r q:HW)(ns:HK Ik)(i c x n:Ik):Prop where
 at_r:S[r]?=ba (.lst [.ref q,.int i,.int c,.int x,.int n])
 at_q:S[q]?=ba (.lst (ns.map W.int))
 lt:q < r
 i0:0<=i
 c0:0<=c
 x0:0<=x
 x1:x < 2147483647
theorem FlA.ne {S:aa}{r q:HW}{ns:HK Ik}{i c x n:Ik}(h:FlA S r q ns i c x n):q≠r:=Iy h.lt
noncomputable def Fl (S:aa)(r:HW):Prop:=∃(q:HW) (ns:HK Ik) (i c x n:Ik),FlA S r q ns i c x n
theorem FlA.put {S:aa}{r q:HW}{ns:HK Ik}{i c x n i' c' x' n':Ik}(h:FlA S r q ns i c x n)(h1:0<=i')(h2:0<=c')(h3:0<=x')(h4:x' < 2147483647):FlA (S.set r (.lst [.ref q,.int i',.int c',.int x',.int n'])) r q ns i' c' x' n':=
 #[bT h.at_r,by rw[b6 (Ne.symm h.ne)]; exact h.at_q,h.lt,h1,h2,h3,h4]
theorem Fl.keep {S S':aa}{r:HW}(h:Fl S r)(h1:S'[r]?=S[r]?)(k:Kp r S S'):Fl S' r:=
 let ⟨q,ns,i,c,x,n,f⟩:=h; #[q,ns,i,c,x,n,by rw[h1]; exact f.at_r,k.get _ _ f.ne f.at_q,f.lt,f.i0,f.c0,f.x0,f.x1]
theorem Fl.lt {S:aa}{r:HW}(h:Fl S r):r < S.length:=let ⟨_,_,_,_,_,_,f⟩:=h; dY f.at_r
structure Ka (S S':aa):Prop where
 get:∀(j:HW) (o:O),S[j]?=ba o->S'[j]?=ba o
 len:S.length<=S'.length
theorem Ka.refl {S:aa}:Ka S S:=#[λ_ _ h=>h,Ih _]
theorem Ka.trans {S S' S'':aa}(a:Ka S S')(b:Ka S' S''):Ka S S'':=#[λj o h=>b.get j o (a.get j o h),Jh a.len b.len]
theorem Ka.push {S:aa}{o:O}:Ka S (S++[o]):=#[λj u h=>aw h,by simp]
theorem Ka.late {t:HW}{S0 S:aa}{o:O}(a:Ka S0 S)(h:S0.length<=t):Ka S0 (S.set t o):=
 #[λj u e=>by have:=dY e; rw[b6 ∅]; exact a.get j u e,by simpa using a.len]
theorem Ka.kp {S S':aa}(a:Ka S S')(r:HW):Kp r S S':=#[λj o _ h=>a.get j o h,a.len]
theorem Fl.ka {S S':aa}{r:HW}(h:Fl S r)(k:Ka S S'):Fl S' r:=h.keep (by obtain⟨q,ns,i,c,x,n,f⟩:=h; rw[k.get _ _ f.at_r,f.at_r]) (k.kp r)
theorem Fl.own {S:aa}{r t:HW}{o:O}(h:Fl S r)(ht:r < t):Fl (S.set t o) r:=by
 obtain⟨q,ns,i,c,x,n,f⟩:=h;have:=f.lt;exact#[q,ns,i,c,x,n,by rw[b6 ∅]; exact f.at_r,by rw[b6 ∅]; exact f.at_q,f.lt,f.i0,f.c0,f.x0,f.x1]
theorem d4 {S:aa}{r:HW}{xs:HK W}{i:HW}{w:W}{Q:QW}(h:S[r]?=ba (.lst xs))(hw:xs[i]?=ba w)(q:Q (w,S)):wO (qJ (.ref r) (.int (i:Ik)) S) Q:=ag (xK h (IH i) (by rw[Iu]; exact hw)) q
theorem mO {S:aa}{r:HW}{xs:HK W}{i:HW}{w:W}{Q:aa->Prop}(h:S[r]?=ba (.lst xs))(hi:Rn (i+1) xs.length=true)(q:Q (S.set r (.lst (xs.set i w)))):wO (ic (.ref r) (.int (i:Ik)) w S) Q:=ag (BJ h (IH i) (by rw[Iu]; exact L1 hi)) (by rw[Iu]; exact q)
section
variable{defs:HK (Iv×Df)}{fuel d:HW}{S:aa}{r:HW}{Q:QW}
theorem aX (hd:Is defs ("_law_pick" : Iv) 2 4 cC){m:Ik}(hf:Fl S r)(h0:0 < m)(h1:m < 1073741824)(k:∀v S',0<=v->v < m->Fl S' r->Kp r S S'->Q (.int v,S')) :
  wO (bD (aq defs fuel (d+1)) "_law_pick" 2 [.ref r,.int m] S) Q:=by
 obtain⟨q,ns,i,c,x,n,f⟩:=hf;refine aN hd rfl rfl λQ' hR=>?_
 replace k:∀v S',0<=v->v < m->Fl S' r->Kp r S S'->Q' (.rt (.int v),S'):=λv S' a b c e=>hR _ _ (k v S' a b c e)
 clear hR;show wZ _ _ cC [ba (.ref r),ba (.int m),K3,K3] S Q';have bK:∀(S1:aa) (w2:HU W) (i1 c1 x1 n1:Ik),FlA S1 r q ns i1 c1 x1 n1->Kp r S S1->wZ (aq defs fuel d) fuel (match cC with|.cons _ ss=>ss|.nil=>.nil) [ba (.ref r),ba (.int m),w2,K3] S1 Q':=by
  intro S1 w2 i1 c1 x1 n1 f1 k1;dsimp only[cC];refine st ?_;dsimp only[wS,wT,wE,wV,wG];refine d4 (i:=2) f1.at_r rfl ?_;dsimp only[Fi,wO,wB];refine aO (Q0:=Q') (λhg Q2 hn hr=>?_) (λhg Q2 hn hr=>?_)
  ·clear hn;refine st ?_;dsimp only[wS,wE,wV,wG];refine d4 (i:=2) f1.at_r rfl (ag (ik h0) ?_);refine st ?_;dsimp only[wS,wE,wV,wG,Iq];refine d4 (i:=2) f1.at_r rfl (ag (gO h0 h1) (mO (i:=2) f1.at_r rfl ?_));refine st ?_;dsimp only[wS,wE,wV,wG,Iq];exact hr _ _ (k _ _ (KL _ ∅) (KF _ h0) #[q,ns,i1,c1 / m,x1,n1,f1.put f1.i0 (Mh f1.c0 ∅) f1.x0 f1.x1] (k1.trans .set))
  ·refine dv (hn _ _ ?_);clear hn hr;have f2:FlA (S1.set r (.lst [.ref q,.int i1,.int c1,.int x1,.int (n1+1)])) r q ns i1 c1 x1 (n1+1):=f1.put f1.i0 f1.c0 f1.x0 f1.x1;refine st ?_;dsimp only[wS,wE,wV,wG];refine d4 (i:=4) f1.at_r rfl ?_;dsimp only[cX,wO];refine mO (i:=4) f1.at_r rfl ?_;refine st ?_;dsimp only[wS,wE,wV,wG,Iq];refine d4 (i:=3) f2.at_r rfl (ag (qf #v[] #v[]) ?_)
   dsimp only[cX,wO];refine d4 (i:=4) f2.at_r rfl ?_;dsimp only[cX,wO];refine(mO (i:=3) f2.at_r rfl ?_);have f3:FlA ((S1.set r (.lst [.ref q,.int i1,.int c1,.int x1,.int (n1+1)])).set r (.lst [.ref q,.int i1,.int c1,.int ((x1*48271+12820163+(n1+1)) % 2147483647),.int (n1+1)])) r q ns i1 c1 ((x1*48271+12820163+(n1+1)) % 2147483647) (n1+1):=f2.put f1.i0 f1.c0 (KL _ #v[]) (KF _ #v[])
   dsimp only[Iq];generalize(x1*48271+12820163+(n1+1)) % 2147483647=y at f3 ⊢;have b1:y / 65521+7919 < 2 ^ 64:=by
    have:=f3.x1;have:=Int.ediv_le_self 65521 f3.x0;omega
   have b2 : -(2 ^ 64) < y / 65521+7919:=by
    have:=Mh f3.x0 (show(0:Ik)<=65521 by decide)
    omega
   refine st ?_;dsimp only[wS,wE,wV,wG,Iq];refine d4 (i:=3) f3.at_r rfl (ag (ik #v[]) ?_)
   dsimp only[cX,wO];refine d4 (i:=3) f3.at_r rfl ?_;dsimp only[cX,wO];refine ag (qf b2 b1) ?_;refine ag (ik h0) ?_;exact k _ _ (KL _ ∅) (KF _ h0) #[q,ns,_,_,_,_,f3] (k1.trans (Kp.set.trans .set))
 dsimp only[cC]at bK ⊢;refine st ?_;dsimp only[wS,wT,wE,wV,wG,wA];refine d4 (i:=2) f.at_r rfl ?_;dsimp only[im,wO,wB];have skip:∀Q2:QO,(∀ρ' S',wZ (aq defs fuel d) fuel _ ρ' S' Q'->Q2 (.nx ρ',S'))->Q2 (.nx [ba (.ref r),ba (.int m),K3,K3],S):=λQ2 hn=>hn _ _ (bK S K3 i c x n f .refl)
 refine#[λ_=>?_,λ_ Q2 hn hr=>#[λz=>(by cases z),λ_=>(dv (skip Q2 hn)).out]]
 refine d4 (i:=1) f.at_r rfl (d4 (i:=0) f.at_r rfl (ag (BK f.at_q) ?_));dsimp only[AJ,wO,wB];refine aO (Q0:=Q') (λhl Q2 hn _=>?_) (λhg Q2 hn hr=>dv (skip Q2 hn))
 clear skip;have hl':i.toNat < ns.length:=by
  have:=Jl hl;rw[HN]at this;have:=f.i0;omega
 have hcell:(ns.map W.int)[i.toNat]?=ba (.int ns[i.toNat]):=by simp[hl']
 generalize ns[i.toNat]=cell at hcell;have f1:FlA (S.set r (.lst [.ref q,.int (i+1),.int c,.int x,.int n])) r q ns (i+1) c x n:=f.put (by have:=f.i0; omega) f.c0 f.x0 f.x1
 refine st ?_;dsimp only[wS,wE,wV,wG];refine d4 (i:=0) f.at_r rfl (d4 (i:=1) f.at_r rfl (ag (xK f.at_q f.i0 hcell) ?_));refine st ?_;dsimp only[wS,wE,wV,wG,Iq];refine d4 (i:=1) f.at_r rfl ?_;dsimp only[cX,wO];refine mO (i:=1) f.at_r rfl ?_;refine st ?_;dsimp only[wS,wT,wE,wV,wG,Dl,G5,wO,wB];refine aO (Q0:=Q') (λhg Q3 hn3 _=>?_) (λhg Q3 hn3 _=>?_)
 ·refine st ?_;dsimp only[wS,wE,wV,wG];refine mO (i:=2) f1.at_r rfl (dv (hn3 _ _ (dv (hn _ _ ?_))));exact bK _ _ (i+1) cell x n (f1.put f1.i0 (by have:=Jl hg; omega) f.x0 f.x1) (Kp.set.trans .set)
 ·refine st ?_;dsimp only[wS,wE,wV,wG];refine d4 (i:=3) f1.at_r rfl (ag (qf #v[] #v[]) (ag (ik #v[]) ?_))
  dsimp only[cX,wO];refine mO (i:=3) f1.at_r rfl (dv (hn3 _ _ (dv (hn _ _ ?_))));exact bK _ _ (i+1) c _ n (f1.put f1.i0 f.c0 (KL _ #v[]) (KF _ #v[])) (Kp.set.trans .set)
end
noncomputable def dr:HW->Ss->Ss
 | 0,ss=>ss
 | n+1,.cons _ ss=>dr n ss
 | _,.nil=>.nil
theorem aU {α:Type}{a:α}{Q:α->Prop}:wO (ba a) Q=Q a:=rfl
theorem bq {Φ:Iv->FF}{fuel:HW}{ρ:Fm}{S:aa}{Q:QO}{s:Sm}{ss:Ss}(h:∀K:Fm->aa->Prop,(∀ρ' S',wZ Φ fuel ss ρ' S' Q->K ρ' S')->wS Φ fuel s ρ S K Q):wZ Φ fuel (.cons s ss) ρ S Q:=st (h _ λ_ _ h=>h)
theorem Fu {Φ:Iv->FF}{fuel:HW}{ρ:Fm}{S:aa}{i:HW}{e:E}{K:Fm->aa->Prop}{Q:QO}(h:wE Φ e ρ S λp=>K (ρ.set i (ba p.1)) p.2):wS Φ fuel (.set i e) ρ S K Q:=by rw[wS]; exact h
theorem ir {n:HW}(h:Rn n 1000=true):n<=sizeLine:=Jh (L1 h) (by rw[Jf]; decide)
theorem jA {n:HW}(h:n<=1000):n<=sizeLine:=Jh h (by rw[Jf]; decide)
theorem iu {S:aa}{r:HW}{xs:HK W}{i:Ik}{w:W}{Q:QW}(h:S[r]?=ba (.lst xs))(h0:0<=i)(hw:xs[i.toNat]?=ba w)(q:Q (w,S)):wO (qJ (.ref r) (.int i) S) Q:=ag (xK h h0 hw) q
theorem aA {S:aa}{xs:HK W}{i:Ik}{w:W}{Q:QW}(h0:0<=i)(hw:xs[i.toNat]?=ba w)(q:Q (w,S)):wO (qJ (.tup xs) (.int i) S) Q:=ag (Fk h0 hw) q
theorem kK {S:aa}{r:HW}{xs:HK W}{y:W}{Q:QW}(h:S[r]?=ba (.lst xs))(hl:xs.length < 1000)(q:Q (.non,S.set r (.lst (xs++[y])))):wO (Me.append.fn (.ref r) [y] S) Q:=ag (xL h (IG hl (ir rfl))) q
theorem fJ {S:aa}{r:HW}{xs:HK W}{Q:QW}(h:S[r]?=ba (.lst xs))(q:Q (.int xs.length,S)):wO (Bi.len.fn [.ref r] S) Q:=ag (BK h) q
theorem cN {S:aa}{xs:HK W}{Q:QW}(q:Q (.int xs.length,S)):wO (Bi.len.fn [.tup xs] S) Q:=q
theorem dt {S:aa}{r:HW}{xs:HK W}{Q:QW}(h:S[r]?=ba (.lst xs))(q:Q (.tup xs,S)):wO (Bi.tuple.fn [.ref r] S) Q:=ag (Fn h) q
section
variable{Φ:Iv->FF}{fuel:HW}{ρ:Fm}{S S1:aa}{K:Fm->aa->Prop}
theorem cY {t:E}{a:Ss}{Q:QO}(ht:∀Q:QB,Q (false,S1)->wT Φ t ρ S Q)(h:K ρ S1):wS Φ fuel (.ite t a .nil) ρ S K Q:=by
 rw[wS];exact ht _ λQ' h1 h2=>#[λz=>(by cases z),λ_=>(dv (h1 _ _ h)).out]
theorem qg {t:E}{a b:Ss}{Q:QO}(ht:∀Q:QB,Q (true,S1)->wT Φ t ρ S Q)(h:∀Q':QO,(∀ρ' S',K ρ' S'->Q' (.nx ρ',S'))->(∀w S',Q (.rt w,S')->Q' (.rt w,S'))->wZ Φ fuel a ρ S1 Q'):wS Φ fuel (.ite t a b) ρ S K Q:=by
 rw[wS];exact ht _ λQ' h1 h2=>#[λ_=>(h Q' h1 λw S' q=>h2 (.rt w) S' (λ_ z=>nomatch z) q).out,λz=>(by cases z)]
end
theorem xO:∀k:Fin 26,("abcdefghijklmnopqrstuvwxyz" : Iv).cps.toList[k.val]?=ba (97+k.val):=by decide
theorem tf:("abcdefghijklmnopqrstuvwxyz" : Iv).length<=sizeLine:=by decide
theorem kL:∀cs:HK HW,iS (cs.map λc=>W.str #[[c].toArray])=ba (cs.map λc=>(#[[c].toArray] : Iv))
 | []=>rfl
 | c::cs=>by simp[iS,kL cs]
theorem mP:∀cs:HK HW,((cs.map λc=>(#[[c].toArray] : Iv)).map (·.length)).sum=cs.length
 | []=>rfl
 | c::cs=>by
  have:=mP cs;simp only[JH,List.sum_cons,JC];rw[this];show 1+cs.length=_;omega
theorem eY (a b:Iv):(a++b).cps.toList=a.cps.toList++b.cps.toList:=Mm
theorem kM:∀cs:HK HW,(Rh "" (cs.map λc=>(#[[c].toArray] : Iv))).cps.toList=cs
 | []=>rfl
 | [c]=>rfl
 | c::d::cs=>by
  have ih:=kM (d::cs);show(((#[[c].toArray] : Iv)++("" : Iv)++Rh "" ((d::cs).map λc=>(#[[c].toArray] : Iv))).cps).toList=_
  rw[eY,eY,ih];rfl
theorem qh (cs:HK HW):(Qv "" (cs.map λc=>(#[[c].toArray] : Iv))).cps.toList=cs:=by
 show(QU "" _).cps.toList=_;rw[StrLaws.glued_eq_join];exact kM cs
noncomputable def tj (y:Iv):Prop:=∀c∈y.cps.toList,97<=c/\c<=122
noncomputable def Name (y:Iv):Prop:=1<=y.cps.toList.length/\y.cps.toList.length<=8/\tj y
theorem tm (y:Iv):y.length=y.cps.toList.length:=by simp[QJ]
noncomputable def xP:HK Iv:=["markss","mark","way","wayss","bars","ba","somex","eachx","note","no","ands","ors","o","iss"]
theorem uQ:∀y∈xP,Name y:=by
 have h:xP.all (λy=>decide (1<=y.cps.toList.length/\y.cps.toList.length<=8)&&y.cps.toList.all λc=>decide (97<=c/\c<=122))=true:=by decide
 intro y hy;have:=IC.mp h y hy;rw[HV]at this;obtain⟨a,b⟩:=this;exact#[(Jl a).1,(Jl a).2,λc hc=>Jl (IC.mp b c hc)]
theorem kN {α:Type}{f:α->W}{xs:HK α}{i:HW}(h:i < xs.length):∃x∈xs,(xs.map f)[i]?=ba (f x):=#[xs[i],Jg _,by rw[HY,Ic h]; rfl]
section
variable{defs:HK (Iv×Df)}{fuel d:HW}{S:aa}{r:HW}{Q:QW}
theorem i7 (G:Gen defs){m:Ik}(hf:Fl S r)(h0:0<=m)(h1:m<=1000)(k:∀y S',y.cps.toList.length=m.toNat->tj y->Fl S' r->Kp r S S'->Q (.str y,S')) :
  wO (bD (aq defs fuel (d+2)) "_law_letters" 2 [.ref r,.int m] S) Q:=by
 refine aN G.letters rfl rfl λQ' hR=>?_
 show wZ _ _ db [ba (.ref r),ba (.int m)] S Q';dsimp only[db];refine st ?_;dsimp only[wS,wE,wA];refine#[rfl,en m (λi ys ρ S'=>(∃a,ρ=[K3,a,ba (.ref r)])/\Fl S' r/\Kp r S S'/\∃cs:HK HW,ys=cs.map (λc=>W.str #[[c].toArray])/\cs.length=i/\∀c∈cs,97<=c/\c<=122) rfl rfl rfl #[∅,∅] #[rfl,#[K3,rfl],hf,.refl,[],rfl,rfl,λ_ h=>nomatch h] ?_ ?_]
 ·rintro i ys ρ S1 hi ⟨⟨a,rfl⟩,f1,k1,cs,rfl,hl,hc⟩;dsimp only[ju,wC,wE,wA,wV,wG,Iq];refine#[λ_=>aX (d:=d) G.pick f1 #v[] #v[] λv S2 h2 h3 f2 k2=>?_,λz=>by cases z]
  have ha:=xO #[v.toNat,∅]
  refine ag (BI tf h2 ha) #[#[_,rfl],f2,k1.trans k2,cs++[97+v.toNat],by simp,by simp[hl],λc hx=>?_]
  rcases IY.mp hx with h|h
  ·exact hc c h
  ·rw[Ir.mp h]; omega
 ·rintro ys ρ S1 ⟨_,f1,k1,cs,rfl,hl,hc⟩;refine#[by rw[HN,hl,Jf]; omega,?_]
  have hz:((cs.map λc=>(#[[c].toArray] : Iv)).map (·.length)).sum+(cs.map λc=>(#[[c].toArray] : Iv)).length*("" : Iv).length<=16777216:=by
   rw[mP,show("" : Iv).length=0 from rfl,Nl]
   omega
  refine ag (a:=(.str (Qv "" (cs.map λc=>(#[[c].toArray] : Iv))),S1++[.lst (cs.map λc=>W.str #[[c].toArray])])) ?_ (hR _ _ (k _ _ (by rw[qh,hl]) (λc h=>hc c (by rw[qh]at h; exact h)) (f1.ka .push) (k1.trans .push)))
  simp only[Me.fn,sd,ff,aT ah,kL];rw[Ix hz]
theorem Dp (G:Gen defs){y:Iv}(hf:Fl S r)(h0:y.cps.toList.length<=6)(h1:tj y)(k:∀z S',Name z->Fl S' r->Kp r S S'->Q (.str z,S')) :
  wO (bD (aq defs fuel (d+3)) "_law_name" 2 [.ref r,.str y] S) Q:=by
 refine aN G.name rfl rfl λQ' hR=>?_
 replace k:∀z S',Name z->Fl S' r->Kp r S S'->Q' (.rt (.str z),S'):=λz S' a b c=>hR _ _ (k z S' a b c)
 clear hR;show wZ _ _ eX [ba (.ref r),ba (.str y),K3] S Q';dsimp only[eX];refine bq λK hK=>?_
 dsimp only[wS,wT,wE,wV,wG,Fj,wO,wB];refine aO (Q0:=Q') (λ_ Q2 _ hr=>?_) (λ_ Q2 hn _=>?_)
 ·refine st ?_;dsimp only[wS,wE,wA,wV,wG];refine aX (d:=d+1) G.pick hf #v[] #v[] λv S1 v0 v1 f1 k1=>?_
  dsimp only[cX,wO];refine i7 (d:=d) G f1 ∅ ∅ λz S2 hz hs f2 k2=>?_
  have hl:(y++z).cps.toList.length=y.cps.toList.length+z.cps.toList.length:=by rw[eY,Im]
  refine ag (Dm (by rw[tm,tm,Jf]; omega)) (hr _ _ (k _ _ #[∅,∅,λc hc=>?_] f2 (k1.trans k2)))
  rw[eY]at hc;exact(IY.mp hc).elim (h1 c) (hs c)
 ·refine dv (hn _ _ (hK _ _ ?_));clear hn hK;refine bq λK hK=>?_
  dsimp only[wS,wT,wE,wA,wV,wG];refine aX (d:=d+1) G.pick hf #v[] #v[] λv S1 v0 v1 f1 k1=>?_
  dsimp only[im,wO,wB];refine aO (Q0:=Q') (λ_ Q2 _ hr=>?_) (λ_ Q2 hn _=>?_)
  ·refine st ?_;dsimp only[wS,wE,wA,wV,wG,Iq];refine st ?_;dsimp only[wS,wE,wA,wV,wG,Iq];refine ag (xJ (i:=S1.length) (j:=(S1++[_]).length) (aw ah) ah (ir rfl)) ?_;dsimp only;refine st ?_;dsimp only[wS,wE,wA,wV,wG,Iq];refine aX (d:=d+1) G.pick (((f1.ka .push).ka .push).ka .push) #v[] #v[] λv S2 v0 v1 f2 k2=>?_
   have e:=k2.get _ _ (by have:=f1.lt; simp only[Im]; omega) ah
   obtain⟨z,hz,ez⟩:=kN (f:=W.str) (xs:=xP) (i:=v.toNat) (by show v.toNat < 14; omega)
   exact iu e v0 ez (hr _ _ (k _ _ (uQ z hz) f2 (k1.trans (Kp.push.trans (Kp.push.trans (Kp.push.trans k2))))))
  ·refine dv (hn _ _ (hK _ _ ?_));clear hn hK;refine st ?_;dsimp only[wS,wE,wA,wV,wG];refine aX (d:=d+1) G.pick f1 #v[] #v[] λv S2 v0 v1 f2 k2=>?_
   dsimp only[cX,wO];exact i7 (d:=d) G f2 ∅ ∅ λz S3 hz hs f3 k3=>k _ _ #[∅,∅,hs] f3 (k1.trans (k2.trans k3))
end
theorem i8 {α:Type}[Lg α]:∀(l m:HK α),l.Nodup->(∀x∈l,x∈m)->l.length<=m.length
 | [],_,_,_=>JW _
 | x::l,m,hn,hs=>by
  rw[KI]at hn;have hx:x∈m:=hs x (.head _);have h1:=i8 l (m.erase x) hn.2 λy hy=>(List.mem_erase_of_ne (λ(e:y=x)=>hn.1 (by rw[<- e]; exact hy))).mpr (hs y (.tail _ hy))
  rw[List.length_erase_of_mem hx]at h1;have:=List.length_pos_of_mem hx;rw[JC]; omega
noncomputable def lE (k:HW):Iv:=#[[97+k].toArray]
theorem xQ {a b:HW}(h:lE a=lE b):a=b:=by
 unfold lE at h;injection h with h
 injection h with h
 injection h with h
 omega
theorem qi (s:HW):((IN s).map lE).Nodup:=by
 unfold QQ;rw[LZ];exact List.nodup_range.imp λh e=>h (xQ e)
theorem uR {k:HW}(h:k < 26):Name (lE k):=#[Ih 1,(by decide:1<=8),λc hc=>by
 cases Ir.mp (show c∈[97+k]from hc)
 omega]
noncomputable def gP:HK Iv:=["marks","ways","bar","some","each","not","and","or","is"]
theorem xR (zs:HK Iv):(zs.map W.str).all cK=true:=by
 rw[IC];intro x hx;obtain⟨z,_,rfl⟩:=II.mp hx;rfl
theorem AN (zs:HK Iv)(y:Iv):((zs.map W.str).any λz=>zG z (.str y))=decide (y∈zs):=by
 induction zs with
 | nil=>rfl
 | cons z zs ih=>
  rw[JH,Ky,ih];show((z==y)||_)=_
  by_cases h:z=y
  ·subst h; simp
  ·have:(z==y)=false:=by simpa using h
   rw[this,MZ];have h2:(y∈z::zs)=(y∈zs):=by simp[Ne.symm h]
   simp only[h2]
theorem uS {S:aa}{t:HW}{zs:HK Iv}{y:Iv}(h:S[t]?=ba (.lst (zs.map W.str))):eR .isin (.str y) (.ref t) S=ba (.bl (decide (y∈zs)),S):=by
 simp only[eR,nX h,j6,EA,CB,ff,aT h];rw[Ix (by rw[xR]; rfl),AN]
 rfl
theorem Dq {S:aa}{k:HW}:fB .mul (.str #[[k].toArray]) (.int 1) S=ba (.str #[[k].toArray],S):=by
 simp only[fB,vP];rw[Ix #[#v[],#v[],by show 1*1<=sizeLine; rw[Jf]; decide]]
 rfl
theorem iw {xs:HK W}{k:HW}:j7 xs K3 (ba (k:Ik))=xs.take k:=by
 unfold j7;rw[HT.oV,HT.rW,PH,Nat.sub_zero]
 by_cases h:k<=xs.length
 ·rw[Pk h]
 ·rw[O5 ∅,K9 (Ih _),K9 ∅]
theorem xS {xs:HK W}{k:HW}:j7 xs (ba (k:Ik)) K3=xs.drop k:=by
 unfold j7;rw[HT.oV,HT.rW]
 by_cases h:k<=xs.length
 ·rw[Pk h,K9 (by rw[Lq]; exact Ih _)]
 ·rw[O5 ∅,LW (Ih _),LW ∅]; exact List.take_nil
section
variable{defs:HK (Iv×Df)}{fuel d:HW}{S:aa}{r:HW}{Q:QW}
theorem AO {Φ:Iv->FF}{m z w:W}{t:HW}{y:Iv}{zs:HK Iv}{K:Fm->aa->Prop}{Q:QO}(hfu:20 < fuel)(hy:Name y)(e:S[t]?=ba (.lst (zs.map W.str)))(hl:zs.length<=15)
  (k:∀y s,Name y->y∉zs->K [ba (.ref r),ba m,ba z,ba (.ref t),ba w,ba (.str y),ba s] S) :
  wS Φ fuel (.whl (.cmp .isin (.v 5) (.v 3)) #v[.set 5 (.op .mul (.ix (.c (.str "abcdefghijklmnopqrstuvwxyz")) (.op .mod (.v 6) (.c (.int 26)))) (.op .add (.c (.int 1)) (.op .fdiv (.v 6) (.c (.int 26))))),.set 6 (.op .add (.v 6) (.c (.int 1)))])
   [ba (.ref r),ba m,ba z,ba (.ref t),ba w,ba (.str y),ba (.int 0)] S K Q:=by
 rw[wS];refine BN (λmm ρ S'=>∃(s:HW) (y:Iv),ρ=[ba (.ref r),ba m,ba z,ba (.ref t),ba w,ba (.str y),ba (.int s)]/\S'=S/\mm+s=18/\s<=16/\Name y/\(0 < s->y=lE (s - 1))/\∀k,k+1 < s->lE k∈zs) 18 rfl rfl ∅ #[0,y,rfl,rfl,rfl,∅,hy,λh=>absurd h ∅,λk h=>absurd h ∅] ?_
 rintro mm ρ S' ⟨s,y',rfl,rfl,hm,hs,hy',hc1,hc2⟩;dsimp only[wT,wE,wV,wG];refine ag (uS e) #[λhin=>?_,λhout=>k _ _ hy' (LL hout)]
 have all:∀k,k < s->lE k∈zs:=λk hk=>by
  by_cases h:k+1 < s
  ·exact hc2 k h
  ·have e:k=s - 1:=∅
   rw[e,<- hc1 ∅]; exact Jl hin
 have hs15:s<=15:=by
  have h7:=i8 ((IN s).map lE) zs (qi s) λx hx=>by
   obtain⟨k,hk,rfl⟩:=II.mp hx;exact all k (Ji.mp hk)
  rw[HN,Jb]at h7;omega
 refine#[mm - 1,∅,λQ2 hn _=>?_]
 have em:((s:Ik) % 26)=s:=Int.emod_eq_of_lt ∅ ∅
 have ed:((s:Ik) / 26)=0:=Int.ediv_eq_zero_of_lt ∅ ∅
 refine st ?_;dsimp only[wS,wE,wV,wG,Iq];refine ag (ik #v[]) ?_
 rw[em];refine ag (BI (i:=(s:Ik)) tf (IH s) (xO #[s,∅])) ?_
 have e2:fB .fdiv (.int s) (.int 26) S'=ba (.int 0,S'):=by rw[gO ∅ ∅,ed]
 dsimp only;rw[e2];dsimp only[cX,aU];rw[show(1:Ik)+0=1 from rfl]
 refine ag Dq ?_;refine st ?_;dsimp only[wS,wE,wV,wG,Iq,cX,aU];exact dv (hn _ _ #[s+1,lE s,rfl,rfl,∅,∅,uR ∅,λ_=>rfl,λk hk=>all k ∅])
theorem AQ (hfu:20 < fuel)(G:Gen defs){m:HW}(hf:Fl S r)(h1:m<=6)(k:∀(ys:HK Iv) S',ys.length=m->(∀y∈ys,Name y)->(gP++ys).Nodup->Fl S' r->Kp r S S'->Q (.tup (ys.map W.str),S')) :
  wO (bD (aq defs fuel (d+4)) "_law_names" 2 [.ref r,.int m] S) Q:=by
 refine aN G.names rfl rfl λQ' hR=>?_
 replace k:∀(ys:HK Iv) S',ys.length=m->(∀y∈ys,Name y)->(gP++ys).Nodup->Fl S' r->Kp r S S'->Q' (.rt (.tup (ys.map W.str)),S'):=λz S' a b c e f=>hR _ _ (k z S' a b c e f)
 clear hR;show wZ _ _ cF [ba (.ref r),ba (.int m),K3,K3,K3,K3,K3] S Q';have bK:∀(z:Iv) (S2:aa),z.cps.toList.length<=6->tj z->Fl S2 r->Kp r S S2->wZ (aq defs fuel (d+3)) fuel (dr 2 cF) [ba (.ref r),ba (.int m),ba (.str z),K3,K3,K3,K3] S2 Q':=by
  intro z S2 hz1 hz2 f2 k2;dsimp only[dr,cF];have hrt:=f2.lt;have hSt:=k2.len;refine st ?_;dsimp only[wS,wE,wA,wV,wG,Iq];refine bq λK hK=>?_
  refine dG (m:Ik) (λi ρ S'=>∃a4 a5 a6 ys,ρ=[ba (.ref r),ba (.int m),ba (.str z),ba (.ref S2.length),a4,a5,a6]/\S'[S2.length]?=ba (.lst ((gP++ys).map W.str))/\ys.length=i/\(∀y∈ys,Name y)/\(gP++ys).Nodup/\Fl S' r/\Kp r S S') rfl rfl ∅ ?_ ?_ ?_
  ·dsimp only[wE,wV,wG];exact#[rfl,K3,K3,K3,[],rfl,ah,rfl,λ_ h=>(nomatch h),#v[],f2.ka .push,k2.trans .push]
  ·rintro i ρ S3 hi ⟨a4,a5,a6,ys,rfl,e3,hy1,hy2,hy3,f3,k3⟩ Q2 hn _;clear hK;refine st ?_;dsimp only[wS,wE,wA,wV,wG,Iq];refine Dp (d:=d) G f3 hz1 hz2 λy S4 hy f4 k4=>?_
   have e4:=k4.get _ _ ∅ e3
   refine st ?_;dsimp only[wS,wE,wA,wV,wG,Iq];refine st (AO hfu hy e4 (by rw[Im,hy1]; show 9+i<=15; omega) λy' s hy' hnot=>?_)
   refine st ?_;dsimp only[wS,wE,wA,wV,wG,Iq];refine#[dX e4,kK e4 (by rw[HN,Im,hy1]; show 9+i < 1000; omega) ?_]
   refine dv (hn _ _ #[_,_,_,ys++[y'],rfl,?_,by rw[Im,hy1]; rfl,λx hx=>?_,?_,f4.own hrt,(k3.trans k4).late hSt])
   ·rw[bT e4,<- Kt,Jz (l₁:=gP++ys)]; rfl
   ·rcases IY.mp hx with h|h
    ·exact hy2 x h
    ·rw[Ir.mp h]; exact hy'
   ·rw[<- Kt,MV];refine#[hy3,by simp,λa ha b hb e=>?_]
    rw[Ir.mp hb]at e;exact hnot (e ▸ ha)
  ·rintro ρ S3 ⟨a4,a5,a6,ys,rfl,e3,hy1,hy2,hy3,f3,k3⟩;refine hK _ _ (st ?_);dsimp only[wS,wE,wA,wV,wG,wP,wN];have hs:ve (.ref S2.length) (ba 9) K3 S3=ba (.ref S3.length,S3++[.lst (ys.map W.str)]):=by
    have:j7 ((gP++ys).map W.str) (ba ((9:HW):Ik)) K3=ys.map W.str:=by
     rw[xS,Jz];exact List.drop_left' rfl
    simp only[ve,aT e3];rw[show(ba 9:HU Ik)=ba ((9:HW):Ik)from rfl,this]
   refine ag hs (dt ah (k _ _ ?_ hy2 hy3 (f3.ka .push) (k3.trans .push)));rw[hy1]; exact Iu m
 dsimp only[cF];refine st ?_;dsimp only[wS,wE,Iq];refine bq λK hK=>?_
 dsimp only[wS,wT,wE,wA,wV,wG];refine aX (d:=d+2) G.pick hf #v[] #v[] λv S1 v0 v1 f1 k1=>?_
 dsimp only[im,wO,wB];refine aO (Q0:=Q') (λ_ Q2 hn _=>?_) (λ_ Q2 hn _=>?_)
 ·refine st ?_;dsimp only[wS,wE,wA,wV,wG,Iq];refine aX (d:=d+2) G.pick f1 #v[] #v[] λv S2 v0 v1 f2 k2=>?_
  dsimp only[cX,wO];exact i7 (d:=d+1) G f2 ∅ ∅ λz S3 hz hs f3 k3=>dv (hn _ _ (hK _ _ (bK z S3 ∅ hs f3 (k1.trans (k2.trans k3)))))
 ·exact dv (hn _ _ (hK _ _ (bK "" S1 #v[] (λc hc=>nomatch hc) f1 k1)))
end
noncomputable abbrev Pt:=Ik×HK Ik
noncomputable abbrev Wd:=HK Pt
noncomputable def lz (p:Pt):W:=.tup [.int p.1,.tup (p.2.map W.int)]
noncomputable def bu (u:Wd):W:=.tup (u.map lz)
noncomputable def n0 (p:Pt):T:=.tup [.int p.1,.tup (p.2.map T.int)]
noncomputable def dg (u:Wd):T:=.tup (u.map n0)
theorem tq:∀xs:HK Ik,T.ws (xs.map T.int)=xs.map W.int
 | []=>rfl
 | x::xs=>by simp[T.ws,T.w,tq xs]
theorem Fv (p:Pt):(n0 p).w=lz p:=by simp[n0,lz,T.w,T.ws,tq]
theorem xT:∀u:Wd,T.ws (u.map n0)=u.map lz
 | []=>rfl
 | p::u=>by simp[T.ws,Fv,xT u]
theorem xU (u:Wd):(dg u).w=bu u:=by simp[dg,bu,T.w,xT]
theorem Fw (u:Wd):W.t (bu u)=ba (dg u):=by rw[<- xU]; exact T.w_t _
theorem rM:∀us:HK Wd,T.ws (us.map dg)=us.map bu
 | []=>rfl
 | u::us=>by simp[T.ws,xU,rM us]
theorem xV (us:HK Wd):W.ts (us.map bu)=ba (us.map dg):=by rw[<- rM]; exact T.ws_ts _
theorem kO:∀xs:HK Ik,T.depths (xs.map T.int)=0
 | []=>rfl
 | x::xs=>by simp[T.depths,T.depth,kO xs]
theorem xW (p:Pt):(n0 p).depth=2:=by simp[n0,T.depth,T.depths,kO]
theorem mQ:∀u:Wd,T.depths (u.map n0)<=2
 | []=>by simp[T.depths]
 | p::u=>by
  have:=mQ u;simp only[JH,T.depths,xW]; omega
theorem kP (u:Wd):(dg u).depth<=3:=by
 have:=mQ u;simp only[dg,T.depth]; omega
theorem fZ:∀us:HK Wd,T.depths (us.map dg)<=3
 | []=>by simp[T.depths]
 | u::us=>by
  have:=fZ us;have:=kP u;simp only[JH,T.depths]; omega
theorem Dr (u:Wd):gf (bu u)=ba (dg u):=by
 unfold gf;rw[Fw];show(if (dg u).isTup=true/\(dg u).depth<=aF then _ else _)=_
 rw[Ix #[rfl,by have:=kP u; unfold aF; omega]]
mutual
noncomputable def n6:T->T->IF
 | .int _,.int _=>true
 | .str _,.str _=>true
 | .tup xs,.tup ys=>eM xs ys
 | _,_=>false
noncomputable def eM:HK T->HK T->IF
 | [],_=>true
 | _,[]=>true
 | x::xs,y::ys=>n6 x y&&eM xs ys
end
mutual
theorem xX:∀x y:T,n6 x y=true->(lw x y).isSome=true
 | .int _,.int _,_=>rfl
 | .str _,.str _,_=>rfl
 | .tup xs,.tup ys,h=>by
  simp only[n6]at h;simp only[lw];exact tu xs ys h
 | .int _,.str _,h|.int _,.tup _,h|.str _,.int _,h|.str _,.tup _,h|.tup _,.int _,h|.tup _,.str _,h=>by simp[n6]at h
theorem tu:∀xs ys:HK T,eM xs ys=true->(ft xs ys).isSome=true
 | [],[],_=>rfl
 | [],_::_,_=>rfl
 | _::_,[],_=>rfl
 | x::xs,y::ys,h=>by
  simp only[eM,HV]at h;simp only[ft];split
  ·exact tu xs ys h.2
  ·exact xX x y h.1
end
theorem qj:∀xs ys:HK Ik,eM (xs.map T.int) (ys.map T.int)=true
 | [],_=>by simp[eM]
 | _::_,[]=>by simp[eM]
 | x::xs,y::ys=>by simp[eM,n6,qj xs ys]
theorem Ds (p q:Pt):n6 (n0 p) (n0 q)=true:=by simp[n0,n6,eM,qj]
theorem tw:∀u v:Wd,eM (u.map n0) (v.map n0)=true
 | [],_=>by simp[eM]
 | _::_,[]=>by simp[eM]
 | p::u,q::v=>by simp[eM,Ds,tw u v]
theorem Dt (u v:Wd):n6 (dg u) (dg v)=true:=by simp[dg,n6,tw]
theorem i9 (us:HK Wd):gz (us.map dg)=true:=by
 unfold gz;rw[IC];intro x hx;obtain⟨u,_,rfl⟩:=II.mp hx;rw[IC];intro y hy;obtain⟨v,_,rfl⟩:=II.mp hy;exact xX _ _ (Dt u v)
theorem xY (us:HK Wd)(h:∀u∈us,u≠[]):(rf (us.map dg)).isSome=true:=by
 unfold rf;split
 ·rfl
 ·split
  ·rfl
  ·split
   ·rfl
   ·split
    ·rfl
    ·split
     ·rfl
     ·rename_i h5;exfalso;apply h5;rw[IC];intro x hx;obtain⟨u,hu,rfl⟩:=II.mp hx;cases u with
      | nil=>exact absurd rfl (h [] hu)
      | cons p u=>rfl
noncomputable def b8 (bs:HK Ik)(u:Wd)(i j:HW):Ik:=if j < i then((u.getD i (0,[])).2).getD j 0 else bs.getD (((u.getD j (0,[])).2).getD i 0).toNat 0
noncomputable def ar (bs:HK Ik)(u:Wd)(ps:HK HW):Wd:=(IN ps.length).map λk=>((u.getD (ps.getD k 0) (0,[])).1,(ps.take k).map λj=>b8 bs u (ps.getD k 0) j)
noncomputable def br:HK (HK HW):=[[0,1,2],[0,2,1],[1,0,2],[1,2,0],[2,0,1],[2,1,0]]
noncomputable def jB (bs:HK Ik)(u:Wd):Wd:=(br.map (ar bs u)).getD (rh ((br.map (ar bs u)).map dg)) []
noncomputable def bN (n:Iv)(b:Ik):W:=.tup [.str n,.int b]
structure GoodW (a n:HW)(u:Wd):Prop where
 mark:∀(k:HW) (p:Pt),u[k]?=ba p->0<=p.1/\p.1 < a
 len:∀(k:HW) (p:Pt),u[k]?=ba p->p.2.length=k
 way:∀(k:HW) (p:Pt),u[k]?=ba p->∀w∈p.2,0<=w/\w < n
noncomputable def GoodB (bs:HK Ik):Prop:=bs=[0]\/bs=[0,1]\/bs=[1,0]\/bs=[0,1,2]\/bs=[1,0,2]\/bs=[0,2,1]
theorem GoodB.rng {bs:HK Ik}(h:GoodB bs):∀k:HW,k < bs.length->∃b:Ik,bs[k]?=ba b/\0<=b/\b < bs.length:=by
 rcases h with rfl|rfl|rfl|rfl|rfl|rfl <;> intro k hk
 ·match k,hk with
  | 0,_=>exact#[0,rfl,#v[],#v[]]
 ·match k,hk with
  | 0,_=>exact#[0,rfl,#v[],#v[]]
  | 1,_=>exact#[1,rfl,#v[],#v[]]
 ·match k,hk with
  | 0,_=>exact#[1,rfl,#v[],#v[]]
  | 1,_=>exact#[0,rfl,#v[],#v[]]
 ·match k,hk with
  | 0,_=>exact#[0,rfl,#v[],#v[]]
  | 1,_=>exact#[1,rfl,#v[],#v[]]
  | 2,_=>exact#[2,rfl,#v[],#v[]]
 ·match k,hk with
  | 0,_=>exact#[1,rfl,#v[],#v[]]
  | 1,_=>exact#[0,rfl,#v[],#v[]]
  | 2,_=>exact#[2,rfl,#v[],#v[]]
 ·match k,hk with
  | 0,_=>exact#[0,rfl,#v[],#v[]]
  | 1,_=>exact#[2,rfl,#v[],#v[]]
  | 2,_=>exact#[1,rfl,#v[],#v[]]
theorem getD_some {α:Type}{xs:HK α}{i:HW}{x d:α}(h:xs[i]?=ba x):xs.getD i d=x:=by simp[h]
theorem au {α:Type}{xs:HK α}{i:HW}{d:α}(h:i < xs.length):xs[i]?=ba (xs.getD i d):=by simp[h]
theorem n8 {ns:HK Iv}{bs:HK Ik}{k:HW}{n:Iv}{b:Ik}(h1:ns[k]?=ba n)(h2:bs[k]?=ba b):(IJ bN ns bs)[k]?=ba (bN n b):=by
 rw[List.getElem?_zipWith,h1,h2]
noncomputable def am (ps:HK HW):HK W:=ps.map λ(p:HW)=>W.int (p:Ik)
theorem iy {ps:HK HW}{k p:HW}(h:ps[k]?=ba p):(am ps)[k]?=ba (.int p):=by simp[am,h]
theorem bM (bs:HK Ik)(u:Wd)(ps:HK HW):(ar bs u ps).length=ps.length:=by unfold ar; rw[HN,Jb]
theorem kQ {u:Wd}{i:HW}(hi:i < u.length):(u.map lz)[((i:HW):Ik).toNat]?=ba (lz (u.getD i (0,[]))):=by
 rw[Iu,HY,au hi]; rfl
section
variable{defs:HK (Iv×Df)}{fuel d:HW}{S:aa}{r:HW}{Q:QW}
theorem xZ {Φ:Iv->FF}{m0 b0:W}{ns:HK Iv}{bs:HK Ik}{a:HW}{u:Wd}{i j:HW}{Q:QO}(hb:GoodB bs)(hl:ns.length=bs.length)(hu:GoodW a bs.length u)(hi:i < u.length)(hj:j < u.length)(hij:i≠j)(k:Q (.rt (.int (b8 bs u i j)),S)) :
  wZ Φ fuel dc [ba (.tup [m0,.tup (IJ bN ns bs),b0]),ba (bu u),ba (.int i),ba (.int j)] S Q:=by
 have hpi:=au (d:=(0,[])) hi;have hpj:=au (d:=(0,[])) hj;unfold b8 at k;dsimp only[dc];refine bq λK hK=>?_
 dsimp only[wS,wT,wE,wV,wG,AJ,wO,wB,bu];refine aO (Q0:=Q) (λh Q2 _ hr=>?_) (λh Q2 hn _=>?_)
 ·have hji:j < i:=by have:=Jl h; omega
  rw[Ix hji]at k;have hw:j < (u.getD i (0,[])).2.length:=by rw[hu.len i _ hpi]; exact hji
  refine st ?_;dsimp only[wS,wE,wV,wG];refine aA (IH i) (kQ hi) (aA #v[] rfl (aA (IH j) ?_ (hr _ _ k)))
  rw[Iu,HY,au (d:=0) hw]; rfl
 ·have hji:¬ j < i:=by have:=LL h; omega
  rw[IK hji]at k;refine dv (hn _ _ (hK _ _ ?_));clear hn hK;have hw:i < (u.getD j (0,[])).2.length:=by rw[hu.len j _ hpj]; omega
  have hg:=au (d:=0) hw;obtain⟨g1,g2⟩:=hu.way j _ hpj _ (Ip hg);obtain⟨b,hb1,hb2,hb3⟩:=hb.rng ((u.getD j (0,[])).2.getD i 0).toNat ∅
  have hn:((u.getD j (0,[])).2.getD i 0).toNat < ns.length:=∅
  rw[getD_some hb1]at k;refine st ?_;dsimp only[wS,wE,wV,wG];refine aA #v[] rfl (aA (IH j) (kQ hj) (aA #v[] rfl (aA (IH i) ?_ (aA g1 (n8 (Ic hn) hb1) (aA #v[] rfl k)))))
  rw[Iu,HY,hg]; rfl
theorem mR (G:Gen defs){m0 b0:W}{ns:HK Iv}{bs:HK Ik}{a:HW}{u:Wd}{i j:HW}(hb:GoodB bs)(hl:ns.length=bs.length)(hu:GoodW a bs.length u)(hi:i < u.length)(hj:j < u.length)(hij:i≠j)(k:Q (.int (b8 bs u i j),S)) :
  wO (bD (aq defs fuel (d+1)) "_law_between" 4 [.tup [m0,.tup (IJ bN ns bs),b0],bu u,.int i,.int j] S) Q:=
 aN G.between rfl rfl λQ' hR=>xZ hb hl hu hi hj hij (hR _ _ k)
theorem x5 (G:Gen defs){m0 b0:W}{ns:HK Iv}{bs:HK Ik}{a:HW}{u:Wd}{ps:HK HW}(hb:GoodB bs)(hl:ns.length=bs.length)(hu:GoodW a bs.length u)(hps:∀p∈ps,p < u.length)(hnd:ps.Nodup)(hsz:ps.length < 1000)(k:∀S',Ka S S'->Q (bu (ar bs u ps),S')) :
  wO (bD (aq defs fuel (d+2)) "_law_part" 3 [.tup [m0,.tup (IJ bN ns bs),b0],bu u,.tup (am ps)] S) Q:=by
 refine aN G.part rfl rfl λQ' hR=>?_
 replace k:∀S',Ka S S'->Q' (.rt (bu (ar bs u ps)),S'):=λS' a=>hR _ _ (k S' a)
 clear hR;show wZ _ _ c8 [ba (.tup [m0,.tup (IJ bN ns bs),b0]),ba (bu u),ba (.tup (am ps)),K3,K3,K3] S Q';generalize hR0:W.tup [m0,.tup (IJ bN ns bs),b0]=R;dsimp only[c8];refine st ?_;dsimp only[wS,wE,wA,Iq];refine bq λK hK=>?_
 have nl:(am ps).length=ps.length:=HN ..;refine dG (ps.length:Ik) (λk ρ S'=>∃a4 a5,ρ=[ba R,ba (bu u),ba (.tup (am ps)),ba (.ref S.length),a4,a5]/\S'[S.length]?=ba (.lst (((ar bs u ps).take k).map lz))/\Ka S S') rfl rfl ∅ ?_ ?_ ?_
 ·dsimp only[wE,wA,wV,wG];refine cN ?_;rw[nl];exact#[rfl,K3,K3,rfl,ah,.push]
 ·rintro i ρ S1 hi ⟨a4,a5,rfl,e1,k1⟩ Q2 hn _;clear hK;have hi':i < ps.length:=∅
  have hp:ps[i]?=ba ps[i]:=Ic hi';have hpu:ps[i] < u.length:=hps _ (Jg hi');refine st ?_;dsimp only[wS,wE,wV,wG,Iq];refine aA (IH i) (by rw[Iu]; exact iy hp) ?_
  refine st ?_;dsimp only[wS,wE,wA,wV,wG,Iq];refine#[dX e1,aA (IH _) (kQ hpu) (aA #v[] rfl ?_)]
  refine sY (am (ps.take i)) (λj ys ρ2 S2=>(∃a1,ρ2=[K3,a1,ba (.int ps[i]),ba R,ba (bu u)])/\ys=((ps.take i).take j).map (λq=>W.int (b8 bs u ps[i] q))/\Ka S1 S2) rfl rfl rfl ?_ ?_ ?_
  ·dsimp only[wE,wP,wV,wG,wN];refine ag (a:=(.tup (am (ps.take i)),S1)) ?_ #[rfl,#[K3,rfl],rfl,.refl];simp only[ve,iw];unfold am;rw[L9]
  ·rintro j w ys ρ2 S2 hw ⟨⟨a1,rfl⟩,rfl,k2⟩;have hjl:j < (ps.take i).length:=by
    have:=(HZ.mp hw).1;unfold am at this
    rwa [HN]at this
   have hq:(ps.take i)[j]?=ba (ps.take i)[j]:=Ic hjl;cases(iy hq).symm.trans hw;have hj:j < i:=by rw[Jp]at hjl; omega
   have eq:(ps.take i)[j]=ps[j]'∅:=Lf
   generalize(ps.take i)[j]=q at hq eq ⊢;refine ag (show iM (.nm 1) (.int (q:Ik)) [K3,a1,ba (.int ps[i]),ba R,ba (bu u)] S2=ba ([K3,ba (.int (q:Ik)),ba (.int ps[i]),ba R,ba (bu u)],S2)from rfl) ?_
   dsimp only[ju,wC,wE,wA,wV,wG];subst hR0;refine#[λ_=>mR (d:=d) G hb hl hu hpu (by rw[eq]; exact hps _ (Jg _)) ?_ #[#[_,rfl],?_,k2],λz=>by cases z]
   ·rw[eq];intro h;have:=(Ki hnd).mp h;omega
   ·rw[Jd,hq];simp
  ·rintro ys ρ2 S2 ⟨_,rfl,k2⟩;rw[show(am (ps.take i)).length=(ps.take i).length from HN ..,Jy]
   refine#[jA (by rw[HN,Jp]; omega),dt ah ?_]
   have e2:=aw (u:=O.lst ((ps.take i).map λq=>W.int (b8 bs u ps[i] q))) (k2.get _ _ e1)
   refine kK e2 (by rw[HN,Jp]; omega) (dv (hn _ _ #[_,_,rfl,?_,((k1.trans k2).trans .push).late (Ih _)]))
   rw[bT e2];have ep:(ar bs u ps)[i]?=ba ((u.getD ps[i] (0,[])).1,(ps.take i).map λq=>b8 bs u ps[i] q):=by
    unfold ar;rw[HY,JU hi',IZ,getD_some hp]
   rw[Jd,ep];simp[lz,MU]
 ·rintro ρ S1 ⟨a4,a5,rfl,e1,k1⟩;rw[Iu,<- bM bs u ps,Jy]at e1;refine hK _ _ (st ?_);dsimp only[wS,wE,wA,wV,wG];exact dt e1 (k _ k1)
theorem og (G:Gen defs)(k:Q (.ref S.length,S++[.lst (br.map λt=>W.tup (am t))])):wO (bD (aq defs fuel (d+1)) "_law_turns" 0 [] S) Q:=by
 refine aN G.turns rfl rfl λQ' hR=>?_
 dsimp only[fI];refine st ?_;dsimp only[wS,wE,wA];exact hR _ _ k
theorem gQ (bt:HW->HW->IF):∀n:HW,argBest bt n<=n
 | 0=>Ih _
 | n+1=>by have:=gQ bt n; simp only[argBest]; split <;> omega
theorem iz (G:Gen defs){m0 b0:W}{ns:HK Iv}{bs:HK Ik}{a:HW}{u:Wd}(hb:GoodB bs)(hl:ns.length=bs.length)(hu:GoodW a bs.length u)(h3:u.length=3)(k:∀S',Ka S S'->Q (bu (jB bs u),S')) :
  wO (bD (aq defs fuel (d+3)) "_law_figure" 2 [.tup [m0,.tup (IJ bN ns bs),b0],bu u] S) Q:=by
 refine aN G.figure rfl rfl λQ' hR=>?_
 replace k:∀S',Ka S S'->Q' (.rt (bu (jB bs u)),S'):=λS' a=>hR _ _ (k S' a)
 clear hR;show wZ _ _ dH [ba (.tup [m0,.tup (IJ bN ns bs),b0]),ba (bu u)] S Q';generalize hR0:W.tup [m0,.tup (IJ bN ns bs),b0]=R;dsimp only[dH];refine st ?_;dsimp only[wS,wE,wA];refine sZ S.length (br.map λt=>W.tup (am t)) (λi ys ρ2 S2=>(∃a1,ρ2=[K3,a1,ba R,ba (bu u)])/\ys=((br.take i).map λt=>bu (ar bs u t))/\Ka (S++[.lst (br.map λt=>W.tup (am t))]) S2) rfl rfl rfl ?_ ?_ ?_ ?_
 ·dsimp only[wE,wA];exact og (d:=d+1) G #[rfl,#[K3,rfl],rfl,.refl]
 ·rintro i ys ρ2 S2 ⟨_,_,k2⟩;exact k2.get _ _ ah
 ·rintro i w ys ρ2 S2 hw ⟨⟨a1,rfl⟩,rfl,k2⟩;rw[HY,HS]at hw;obtain⟨t,ht,rfl⟩:=hw;have ht3:(∀p∈t,p < 3)/\t.Nodup/\t.length < 1000:=by
   have:∀t∈br,(∀p∈t,p < 3)/\t.Nodup/\t.length < 1000:=by decide
   exact this t (Ip ht)
  refine ag (show iM (.nm 1) (.tup (am t)) [K3,a1,ba R,ba (bu u)] S2=ba ([K3,ba (.tup (am t)),ba R,ba (bu u)],S2)from rfl) ?_
  dsimp only[ju,wC,wE,wA,wV,wG];subst hR0;refine#[λ_=>x5 (d:=d) G hb hl hu (λp hp=>by rw[h3]; exact ht3.1 p hp) ht3.2.1 ht3.2.2 λS3 k3=>#[#[_,rfl],?_,k2.trans k3],λz=>by cases z]
  rw[Jd,ht];simp
 ·rintro ys ρ2 S2 ⟨_,rfl,k2⟩;have e:((br.take (br.map λt=>W.tup (am t)).length).map λt=>bu (ar bs u t))=(br.map (ar bs u)).map bu:=by
   rw[HN,Jy,Km]; rfl
  rw[e];refine#[ir rfl,ag (a:=(bu (jB bs u),S2++[.lst ((br.map (ar bs u)).map bu)])) ?_ (k _ ((Ka.push.trans k2).trans .push))];simp only[Bi.fn,zN,aT ah,xV];rw[Ix #[by have:=fZ (br.map (ar bs u)); unfold cu; omega,i9 _]]
  unfold jB;have hlt:rh ((br.map (ar bs u)).map dg) < (br.map (ar bs u)).length:=Oq (gQ _ _) (by decide:5 < 6)
  rw[HY,au (d:=[]) hlt];rfl
end
noncomputable def ae (xs:HK Ik):HK W:=xs.map W.int
noncomputable def cO (us:HK Wd):HK Wd:=dk (pH (us.map dg)) [] us
theorem qk {α β:Type}{lt:HW->HW->IF}{d:α}{d':β}{f:α->β}{us:HK α}:dk lt d' (us.map f)=(dk lt d us).map f:=by
 unfold dk;rw[HN];split
 ·rfl
 ·rw[Km];refine JV λi hi=>?_
  have hl:i < us.length:=jU ∅ i hi
  simp[hl]
theorem rN {S:aa}{x:W}{us:HK Wd}(h:dR S x=ba (us.map bu))(h64:us.length < 64)(hne:∀u∈us,u≠[]):eS [x] S=ba (.ref S.length,S++[.lst ((cO us).map bu)]):=by
 have ok:gJ (us.map dg)=true:=by
  unfold gJ;simp only[HV,J0,Iw,HN];exact#[#[h64,by have:=fZ us; unfold cu; omega],.inr #[xY us hne,i9 us]]
 simp only[eS,h,xV];rw[Ix ok,qk (d:=[])];rfl
noncomputable def dC (ms ns:HK Iv)(bs:HK Ik)(us:HK Wd):W:=.tup [.tup (ms.map W.str),.tup (IJ bN ns bs),.tup (us.map bu)]
structure GoodN (ms ns:HK Iv):Prop where
 name:∀y∈ms++ns,Name y
 nd:(gP++(ms++ns)).Nodup
theorem GoodW.nil {a n:HW}:GoodW a n []:=#[λk p h=>(by simp at h),λk p h=>(by simp at h),λk p h=>(by simp at h)]
theorem GoodW.snoc {a n:HW}{u:Wd}{m:Ik}{ws:HK Ik}(h:GoodW a n u)(h1:0<=m/\m < a)(h2:ws.length=u.length)(h3:∀w∈ws,0<=w/\w < (n:Ik)):GoodW a n (u++[(m,ws)]):=by
 have key:∀(k:HW) (p:Pt),(u++[(m,ws)])[k]?=ba p->u[k]?=ba p\/(k=u.length/\p=(m,ws)):=λk p e=>by
  rcases Nat.lt_or_ge k u.length with hk|hk
  ·rw[Je hk]at e; exact .inl e
  ·rw[KD hk]at e;have:k - u.length=0:=by
    have:=(HZ.mp e).1;simp at this; omega
   rw[this]at e;cases e;exact .inr #[∅,rfl]
 refine#[λk p e=>?_,λk p e=>?_,λk p e=>?_] <;> rcases key k p e with e|⟨rfl,rfl⟩
 ·exact h.mark k p e
 ·exact h1
 ·exact h.len k p e
 ·exact h2
 ·exact h.way k p e
 ·exact h3
theorem GoodB.inv {bs:HK Ik}(h:GoodB bs):∀k:HW,k < bs.length->bs.getD (bs.getD k 0).toNat 0=k:=by
 rcases h with rfl|rfl|rfl|rfl|rfl|rfl <;> decide
theorem GoodB.at {bs:HK Ik}(h:GoodB bs){x:Ik}(h0:0<=x)(h1:x < bs.length):bs[x.toNat]?=ba (bs.getD x.toNat 0)/\0<=bs.getD x.toNat 0/\bs.getD x.toNat 0 < bs.length:=by
 obtain⟨b,h2,h3⟩:=h.rng x.toNat ∅
 rw[getD_some h2];exact#[h2,h3]
theorem AR {S:aa}{x:W}{xs:HK W}(h:dR S x=ba xs):cL [x] S=K3:=by
 cases x with
 | ref i=>
  have e2:DN S i=K3:=by
   unfold DN;cases e:S[i]? with
   | none=>rfl
   | some o=>
    cases o with
    | stt ss=>simp[dR,gZ,jn,e]at h
    | _=>rfl
  simp only[cL,e2]
 | _=>rfl
theorem ya {S:aa}{x:W}{us:HK Wd}{Q:QW}(h:dR S x=ba (us.map bu))(h64:us.length < 64)(hne:∀u∈us,u≠[])(q:Q (.ref S.length,S++[.lst ((cO us).map bu)])):wO (Bi.sorted.fn [x] S) Q:=by
 refine ag ?_ q;show(match cL [x] S with
  | some r=>ba r
  | none=>eS [x] S)=_
 rw[AR h];exact rN h h64 hne
noncomputable def yb:HK (HW×HW):=[(1,1),(2,1),(3,1),(1,2),(1,2),(2,2),(2,2),(3,2),(1,3),(1,3),(2,3)]
theorem yc:∀p∈yb,1<=p.1/\p.1<=3/\1<=p.2/\p.2<=3/\p.1*p.2<=6:=by decide
noncomputable def kR:HW->HK (HK Ik)
 | 1=>[[0]]
 | 2=>[[0,1],[1,0]]
 | _=>[[0,1,2],[1,0,2],[0,2,1]]
theorem yd:∀n:HW,1<=n->n<=3->(∀b∈kR n,GoodB b/\b.length=n)/\0 < (kR n).length/\(kR n).length<=3
 | 1,_,_=>#[λb h=>by cases Ir.mp h; exact#[.inl rfl,rfl],#v[],#v[]]
 | 2,_,_=>#[λb h=>by
   rcases IE.mp h with rfl|h
   ·exact#[.inr (.inl rfl),rfl]
   ·cases Ir.mp h; exact#[.inr (.inr (.inl rfl)),rfl],#v[],#v[]]
 | 3,_,_=>#[λb h=>by
   rcases IE.mp h with rfl|h
   ·exact#[.inr (.inr (.inr (.inl rfl))),rfl]
   ·rcases IE.mp h with rfl|h
    ·exact#[.inr (.inr (.inr (.inr (.inl rfl)))),rfl]
    ·cases Ir.mp h; exact#[.inr (.inr (.inr (.inr (.inr rfl)))),rfl],#v[],#v[]]
 | 0,h,_=>absurd h #v[]
 | n+4,_,h=>absurd h ∅
section
variable{defs:HK (Iv×Df)}{fuel d:HW}{S:aa}{r:HW}{Q:QW}
theorem oh (G:Gen defs)(hf:Fl S r)(k:∀(a n:HW) S',1<=a->a<=3->1<=n->n<=3->a*n<=6->Fl S' r->Kp r S S'->Q (.tup [.int a,.int n],S')) :
  wO (bD (aq defs fuel (d+2)) "_law_sizes" 1 [.ref r] S) Q:=by
 refine aN G.sizes rfl rfl λQ' hR=>?_
 show wZ _ _ ev [ba (.ref r),K3] S Q';dsimp only[ev];refine st ?_;dsimp only[wS,wE,wA,Iq];refine st ?_;dsimp only[wS,wE,wA,wV,wG];refine aX (d:=d) G.pick (hf.ka .push) #v[] #v[] λv S1 v0 v1 f1 k1=>?_
 have e:=k1.get _ _ (Kj hf.lt) ah;obtain⟨p,hp,ep⟩:=kN (f:=λp:HW×HW=>W.tup [.int p.1,.int p.2]) (xs:=yb) (i:=v.toNat) (by show v.toNat < 11; omega)
 obtain⟨a1,a3,n1,n3,an⟩:=yc p hp;exact iu e v0 ep (hR _ _ (k _ _ _ a1 a3 n1 n3 an f1 (Kp.push.trans k1)))
theorem ol (G:Gen defs){n:HW}(hf:Fl S r)(h1:1<=n)(h3:n<=3)(k:∀(bs:HK Ik) S',GoodB bs->bs.length=n->Fl S' r->Kp r S S'->Q (.tup (ae bs),S')) :
  wO (bD (aq defs fuel (d+2)) "_law_backs" 2 [.ref r,.int n] S) Q:=by
 refine aN G.backs rfl rfl λQ' hR=>?_
 replace k:∀(bs:HK Ik) S',GoodB bs->bs.length=n->Fl S' r->Kp r S S'->Q' (.rt (.tup (ae bs)),S'):=λz S' a b c e=>hR _ _ (k z S' a b c e)
 clear hR;show wZ _ _ eu [ba (.ref r),ba (.int n),K3] S Q';dsimp only[eu];refine bq λK hK=>?_
 dsimp only[wS,wE,wA,wV,wG,Iq];dsimp only[BG,aU];obtain⟨hg,g0,g3⟩:=yd n h1 h3;have fin:∀(t:HW) (S1:aa),S.length<=t->S1[t]?=ba (.lst ((kR n).map λb=>.tup (ae b)))->Ka S S1->K [ba (.ref r),ba (.int n),ba (.ref t)] S1:=by
  intro t S1 ht et ka;refine hK _ _ (st ?_);dsimp only[wS,wE,wA,wV,wG];refine fJ et ?_;rw[HN];refine aX (d:=d) G.pick (hf.ka ka) ∅ ∅ λv S2 v0 v1 f2 k2=>?_
  have e2:=k2.get _ _ (by have:=hf.lt; omega) et
  obtain⟨b,hb,eb⟩:=kN (f:=λb:HK Ik=>W.tup (ae b)) (xs:=kR n) (i:=v.toNat) ∅
  exact iu e2 v0 eb (k b S2 (hg b hb).1 (hg b hb).2 f2 ((ka.kp r).trans k2))
 clear hK g0 g3 hg;rcases(show n=1\/n=2\/n=3 by omega)with rfl|rfl|rfl
 ·exact d4 (i:=0) ah rfl (fin _ _ (Ih _) (aw (aw (aw ah))) (Ka.push.trans (Ka.push.trans (Ka.push.trans .push))))
 ·exact d4 (i:=1) ah rfl (fin _ _ (by simp) (aw (aw ah)) (Ka.push.trans (Ka.push.trans (Ka.push.trans .push))))
 ·exact d4 (i:=2) ah rfl (fin _ _ (by simp only[Im]; omega) (aw ah) (Ka.push.trans (Ka.push.trans (Ka.push.trans .push))))
theorem mS (hfu:20 < fuel)(G:Gen defs){a:HW}{bs:HK Ik}{x:W}{us:HK Wd}(hf:Fl S r)(ha:a<=3)(hb:bs.length<=3)(hx:∀S',Kp r S S'->dR S' x=ba (us.map bu))(h64:us.length < 64)(hne:∀u∈us,u≠[])
  (k:∀(ms ns:HK Iv) S',ms.length=a->ns.length=bs.length->GoodN ms ns->Fl S' r->Kp r S S'->Q (dC ms ns bs (cO us),S')) :
  wO (bD (aq defs fuel (d+5)) "_law_rule_of" 4 [.ref r,.int a,.tup (ae bs),x] S) Q:=by
 refine aN G.rule_of rfl rfl λQ' hR=>?_
 replace k:∀(ms ns:HK Iv) S',ms.length=a->ns.length=bs.length->GoodN ms ns->Fl S' r->Kp r S S'->Q' (.rt (dC ms ns bs (cO us)),S'):=λz y S' a b c e f=>hR _ _ (k z y S' a b c e f)
 clear hR;show wZ _ _ de [ba (.ref r),ba (.int a),ba (.tup (ae bs)),ba x,K3,K3] S Q';have hbl:(ae bs).length=bs.length:=HN ..;dsimp only[de];refine bq λK hK=>?_
 dsimp only[wS,wE,wA,wV,wG,Iq];refine cN ?_;rw[hbl];dsimp only[cX,aU];refine AQ (d:=d) (m:=a+bs.length) hfu G hf ∅ λys S1 q2 q3 q4 f1 k1=>hK _ _ ?_
 clear hK K;have hzl:(IJ bN (ys.drop a) bs).length=bs.length:=by
  rw[Mo,Lq]; omega
 refine bq λK hK=>?_
 dsimp only[wS,wE,wA,Iq];refine en (bs.length:Ik) (λk zs ρ2 S2=>(∃a1,ρ2=[K3,a1,ba (.tup (ae bs)),ba (.int a),ba (.tup (ys.map W.str))])/\zs=((IJ bN (ys.drop a) bs).take k)/\S2=S1) rfl rfl rfl ∅ ?_ ?_ ?_
 ·dsimp only[wE,wA,wV,wG];refine cN ?_;rw[hbl];exact#[rfl,#[K3,rfl],rfl,rfl]
 ·rintro i zs ρ2 S2 hi ⟨⟨a1,rfl⟩,rfl,rfl⟩;clear hK;have hi':i < bs.length:=∅
  have h1:a+i < ys.length:=∅
  dsimp only[ju,wC,wE,wA,wV,wG,Iq,cX,aU];refine#[λ_=>aA ∅ (w:=.str ys[a+i]) ?_ (aA ∅ (w:=.int bs[i]) ?_ #[#[_,rfl],?_,rfl]),λz=>by cases z]
  ·rw[show((a:Ik)+(i:Ik)).toNat=a+i by omega,HY,Ic h1]; rfl
  ·unfold ae;rw[Iu,HY,Ic hi']; rfl
  ·have ez:(IJ bN (ys.drop a) bs)[i]?=ba (bN ys[a+i] bs[i]):=n8 (by rw[List.getElem?_drop]; exact Ic h1) (Ic hi')
   rw[Jd,ez];rfl
 ·rintro zs ρ2 S2 ⟨_,rfl,rfl⟩;rw[Iu,<- hzl,Jy];refine#[jA ∅,dt ah (hK _ _ ?_)]
  clear hK K;refine st ?_;dsimp only[wS,wE,wA,wP,wV,wG,wN];have hs:ve (.tup (ys.map W.str)) K3 (ba (a:Ik)) (S2++[O.lst (IJ bN (ys.drop a) bs)])=ba (.tup ((ys.take a).map W.str),S2++[O.lst (IJ bN (ys.drop a) bs)]):=by
   simp only[ve,iw];rw[L9]
  refine ag hs (ya (hx _ (k1.trans .push)) h64 hne (dt ah ?_));refine k (ys.take a) (ys.drop a) _ ?_ ?_ #[?_,?_] ((f1.ka .push).ka .push) (k1.trans (Kp.push.trans .push))
  ·rw[Jp]; omega
  ·rw[Lq]; omega
  ·rw[NI]; exact q3
  ·rw[NI]; exact q4
theorem eZ (hfu:20 < fuel)(G:Gen defs){a:HW}{bs:HK Ik}(hf:Fl S r)(ha:a<=3)(hb:bs.length<=3)
  (k:∀(ms ns:HK Iv) S',ms.length=a->ns.length=bs.length->GoodN ms ns->Fl S' r->Kp r S S'->Q (dC ms ns bs [],S')) :
  wO (bD (aq defs fuel (d+5)) "_law_rule_of" 4 [.ref r,.int a,.tup (ae bs),.tup []] S) Q:=
 mS hfu G hf ha hb (us:=[]) (λ_ _=>rfl) #v[] (λ_ h=>nomatch h) k
theorem draws {Φ:Iv->FF}{ρ:Fm}{elt e:E}{cap:HK (HU HW)}{n i:HW}{R:Fm}(oe:d8 elt=true)(oi:d8 e=true)(h1:i<=1000)(hc:eT cap ρ=K3::K3::R)(hf:Fl S r)(he:∀Q:QW,Q (.int i,S)->wE Φ e ρ S Q)
  (hp:∀(a:HU W) (S1:aa) (Q:QW),Fl S1 r->(∀v S',0<=v->v < (n:Ik)->Fl S' r->Kp r S1 S'->Q (.int v,S'))->wE Φ elt (K3::a::R) S1 Q)
  (k:∀(vs:HK Ik) S',vs.length=i->(∀w∈vs,0<=w/\w < (n:Ik))->Fl S' r->Kp r S S'->Q (.ref S'.length,S'++[.lst (ae vs)])) :
  Wp (aG Φ (.comp elt (.nm 1) (.rng #v[e]) .nil cap) ρ S) Q:=by
 refine en (i:Ik) (λj ys ρ2 S3=>(∃a1,ρ2=K3::a1::R)/\(∃vs:HK Ik,ys=ae vs/\vs.length=j/\∀w∈vs,0<=w/\w < (n:Ik))/\Fl S3 r/\Kp r S S3) oi oe rfl ∅ (he _ #[rfl,#[K3,hc],#[[],rfl,rfl,λ_ h=>nomatch h],hf,.refl]) ?_ ?_
 ·rintro j ys ρ2 S3 hj ⟨⟨a1,rfl⟩,⟨vs,rfl,hvl,hv⟩,f3,k3⟩;refine#[λ_=>hp _ _ _ f3 λv S4 v0 v1 f4 k4=>#[#[_,rfl],#[vs++[v],(Jz (l₁:=vs) (l₂:=[v])).symm,by rw[Im,hvl]; rfl,λw hw=>?_],f4,k3.trans k4],λz=>by cases z]
  rcases IY.mp hw with h|h
  ·exact hv w h
  ·rw[Ir.mp h]; exact#[v0,v1]
 ·rintro ys ρ2 S3 ⟨_,⟨vs,rfl,hvl,hv⟩,f3,k3⟩;rw[Iu]at hvl;exact#[jA (by rw[show(ae vs).length=vs.length from HN ..]; omega),k vs S3 hvl hv f3 k3]
theorem iA (G:Gen defs){a n:HW}(hf:Fl S r)(ha:0 < a)(ha3:a<=3)(hn:0 < n)(hn3:n<=3)(k:∀(u:Wd) S',u.length=3->GoodW a n u->Fl S' r->Kp r S S'->Q (bu u,S')) :
  wO (bD (aq defs fuel (d+2)) "_law_free_three" 3 [.ref r,.int a,.int n] S) Q:=by
 refine aN G.free_three rfl rfl λQ' hR=>?_
 replace k:∀(u:Wd) S',u.length=3->GoodW a n u->Fl S' r->Kp r S S'->Q' (.rt (bu u),S'):=λz S' a b c e=>hR _ _ (k z S' a b c e)
 clear hR;show wZ _ _ cf [ba (.ref r),ba (.int a),ba (.int n),K3,K3] S Q';dsimp only[cf];have hrt:=hf.lt;refine st ?_;dsimp only[wS,wE,wA,Iq];refine bq λK hK=>?_
 refine dG 3 (λk ρ S'=>∃a4 u,ρ=[ba (.ref r),ba (.int a),ba (.int n),ba (.ref S.length),a4]/\S'[S.length]?=ba (.lst (u.map lz))/\u.length=k/\GoodW a n u/\Fl S' r/\Kp r S S') rfl rfl #v[] #[rfl,K3,[],rfl,ah,rfl,.nil,hf.ka .push,.push] ?_ ?_
 ·rintro i ρ S1 hi ⟨a4,u,rfl,e1,hul,hu,f1,k1⟩ Q2 hn' _;clear hK;refine st ?_;dsimp only[wS,wE,wA,wV,wG,Iq];refine#[dX e1,aX (d:=d) G.pick f1 ∅ ∅ λv S2 v0 v1 f2 k2=>?_]
  have e2:=k2.get _ _ ∅ e1
  refine draws (n:=n) (i:=i) (R:=[ba (.ref r),ba (.int n)]) rfl rfl ∅ rfl f2 (λQ q=>q) (λa S1 Q f q=>aX (d:=d) G.pick f ∅ ∅ q) λvs S3 hvl hv f3 k3=>?_
  have e3:=aw (u:=O.lst (ae vs)) (k3.get _ _ ∅ e2)
  refine dt ah (kK e3 (by rw[HN]; omega) (dv (hn' _ _ #[_,u++[(v,vs)],rfl,?_,by rw[Im,hul]; rfl,hu.snoc #[v0,v1] (hvl.trans hul.symm) hv,(f3.ka .push).own hrt,(k1.trans (k2.trans (k3.trans .push))).late (Ih _)])))
  rw[bT e3,Jz]; rfl
 ·rintro ρ S1 ⟨a4,u,rfl,e1,hul,hu,f1,k1⟩;refine hK _ _ (st ?_);dsimp only[wS,wE,wA,wV,wG];exact dt e1 (k u _ hul hu f1 k1)
theorem ql (G:Gen defs)(hg:Is defs ("_law_any_world" : Iv) 3 6 bS){a:HW}{bs:HK Ik}{ms ns:HK Iv}{b0:W}{many:HW}(hf:Fl S r)(ha:0 < a)(ha3:a<=3)(hb:GoodB bs)(hml:ms.length=a)(hnl:ns.length=bs.length)(hm:many<=999)(k:∀(u:Wd) S',u.length=many->GoodW a bs.length u->Fl S' r->Kp r S S'->Q (bu u,S')) :
  wO (bD (aq defs fuel (d+2)) "_law_any_world" 3 [.ref r,.tup [.tup (ms.map W.str),.tup (IJ bN ns bs),b0],.int many] S) Q:=by
 refine aN hg rfl rfl λQ' hR=>?_
 replace k:∀(u:Wd) S',u.length=many->GoodW a bs.length u->Fl S' r->Kp r S S'->Q' (.rt (bu u),S'):=λz S' a b c e=>hR _ _ (k z S' a b c e)
 clear hR;have hb1:1<=bs.length/\bs.length<=3:=by rcases hb with rfl|rfl|rfl|rfl|rfl|rfl <;> decide
 have hzl:(IJ bN ns bs).length=bs.length:=by rw[Mo]; omega
 have hmm:(ms.map W.str).length=a:=by rw[HN,hml]
 generalize ms.map W.str=M at hmm;generalize IJ bN ns bs=N at hzl;show wZ _ _ bS [ba (.ref r),ba (.tup [.tup M,.tup N,b0]),ba (.int many),K3,K3,K3] S Q';dsimp only[bS];have hrt:=hf.lt;refine st ?_;dsimp only[wS,wE,wA,Iq];refine bq λK hK=>?_
 refine dG (many:Ik) (λk ρ S'=>∃a4 a5 u,ρ=[ba (.ref r),ba (.tup [.tup M,.tup N,b0]),ba (.int many),ba (.ref S.length),a4,a5]/\S'[S.length]?=ba (.lst (u.map lz))/\u.length=k/\GoodW a bs.length u/\Fl S' r/\Kp r S S') rfl rfl ∅ #[rfl,K3,K3,[],rfl,ah,rfl,.nil,hf.ka .push,.push] ?_ ?_
 ·rintro i ρ S1 hi ⟨a4,a5,u,rfl,e1,hul,hu,f1,k1⟩ Q2 hn' _;clear hK;refine st ?_;dsimp only[wS,wE,wA,wV,wG,Iq];refine aA #v[] rfl (cN ?_)
  rw[hmm];refine aX (d:=d) G.pick f1 ∅ ∅ λv S2 v0 v1 f2 k2=>?_
  have e2:=k2.get _ _ ∅ e1
  refine st ?_;dsimp only[wS,wE,wA,wV,wG,Iq];refine#[dX e2,draws (n:=bs.length) (i:=i) (R:=[ba (.ref r),ba (.tup [.tup M,.tup N,b0])]) rfl rfl ∅ rfl f2 (λQ q=>q) (λa S1 Q f q=>?_) λvs S3 hvl hv f3 k3=>?_]
  ·dsimp only[wE,wA,wV,wG];refine aA #v[] rfl (cN ?_)
   rw[hzl];exact aX (d:=d) G.pick f ∅ ∅ q
  have e3:=aw (u:=O.lst (ae vs)) (k3.get _ _ ∅ e2)
  refine dt ah (kK e3 (by rw[HN]; omega) (dv (hn' _ _ #[_,_,u++[(v,vs)],rfl,?_,by rw[Im,hul]; rfl,hu.snoc #[v0,v1] (hvl.trans hul.symm) hv,(f3.ka .push).own hrt,(k1.trans (k2.trans (k3.trans .push))).late (Ih _)])))
  rw[bT e3,Jz]; rfl
 ·rintro ρ S1 ⟨a4,a5,u,rfl,e1,hul,hu,f1,k1⟩;refine hK _ _ (st ?_);dsimp only[wS,wE,wA,wV,wG];exact dt e1 (k u _ ∅ hu f1 k1)
end
noncomputable def lF (n:HW):HK Ik:=(IN n).map λ(k:HW)=>(k:Ik)
noncomputable def ye (a n:HW):HK Wd:=(lF a).flatMap λm0=>(lF a).flatMap λm1=>(lF a).flatMap λm2=>(lF n).flatMap λw1=>(lF n).flatMap λw2=>(lF n).map λw3=>[(m0,[]),(m1,[w1]),(m2,[w2,w3])]
noncomputable def bg (a:HW)(bs:HK Ik):HK Wd:=((ye a bs.length).map (jB bs)).eraseDups
theorem cQ {n:HW}{x:Ik}(h0:0<=x)(h1:x < n):x∈lF n:=II.mpr #[x.toNat,Ji.mpr ∅,∅]
theorem uT {a n:HW}{u:Wd}(h:GoodW a n u)(h3:u.length=3):u∈ye a n:=by
 match u,h3 with
 | [(m0,w0),(m1,w1),(m2,w2)],_=>
  have l0:=h.len 0 _ rfl;have l1:=h.len 1 _ rfl;have l2:=h.len 2 _ rfl;simp only at l0 l1 l2
  match w0,l0 with
  | [],_=>
   match w1,l1 with
   | [x],_=>
    match w2,l2 with
    | [y,z],_=>
     have a0:=h.mark 0 _ rfl;have a1:=h.mark 1 _ rfl;have a2:=h.mark 2 _ rfl;have b1:=h.way 1 _ rfl x (by simp)
     have b2:=h.way 2 _ rfl y (by simp)
     have b3:=h.way 2 _ rfl z (by simp)
     unfold ye;simp only[O6,II];exact#[m0,cQ a0.1 a0.2,m1,cQ a1.1 a1.2,m2,cQ a2.1 a2.2,x,cQ b1.1 b1.2,y,cQ b2.1 b2.2,z,cQ b3.1 b3.2,rfl]
theorem tz {a:HW}{bs:HK Ik}{u:Wd}(h:GoodW a bs.length u)(h3:u.length=3):jB bs u∈bg a bs:=by
 unfold bg;rw[Os];exact II.mpr #[u,uT h h3,rfl]
structure SizeOk (a:HW)(bs:HK Ik):Prop where
 pos:0 < a
 good:GoodB bs
 most:a*bs.length<=6
 a3:a<=3
theorem SizeOk.n3 {a:HW}{bs:HK Ik}(h:SizeOk a bs):0 < bs.length/\bs.length<=3:=by
 rcases h.good with rfl|rfl|rfl|rfl|rfl|rfl <;> decide
theorem DR:(bg 1 [0]).length < 64/\(bg 2 [0]).length < 64/\(bg 3 [0]).length < 64:=by decide +kernel
theorem F1:(bg 1 [0,1]).length < 64/\(bg 2 [0,1]).length < 64/\(bg 1 [1,0]).length < 64/\(bg 2 [1,0]).length < 64:=by decide +kernel
theorem G7:(bg 1 [0,1,2]).length < 64/\(bg 1 [1,0,2]).length < 64/\(bg 1 [0,2,1]).length < 64:=by decide +kernel
theorem G8:(bg 3 [0,1]).length < 64:=by decide +kernel
theorem G9:(bg 3 [1,0]).length < 64:=by decide +kernel
theorem Ha:(bg 2 [0,1,2]).length < 64:=by decide +kernel
theorem Hb:(bg 2 [1,0,2]).length < 64:=by decide +kernel
theorem Hc:(bg 2 [0,2,1]).length < 64:=by decide +kernel
theorem om {a:HW}{bs:HK Ik}(h:SizeOk a bs):(bg a bs).length < 64:=by
 obtain⟨h0,hb,hm,h3⟩:=h;have ha:a=1\/a=2\/a=3:=∅
 rcases hb with rfl|rfl|rfl|rfl|rfl|rfl <;> rcases ha with rfl|rfl|rfl
 ·exact DR.1
 ·exact DR.2.1
 ·exact DR.2.2
 ·exact F1.1
 ·exact F1.2.1
 ·exact G8
 ·exact F1.2.2.1
 ·exact F1.2.2.2
 ·exact G9
 ·exact G7.1
 ·exact Ha
 ·simp at hm
 ·exact G7.2.1
 ·exact Hb
 ·simp at hm
 ·exact G7.2.2
 ·exact Hc
 ·simp at hm
theorem yf (bs:HK Ik)(u:Wd):∃t∈br,jB bs u=ar bs u t:=by
 have h7:(br.map (ar bs u)).length=6:=by rw[HN]; rfl
 have h8:((br.map (ar bs u)).map dg).length=6:=by rw[HN,h7]
 have hlt:rh ((br.map (ar bs u)).map dg) < (br.map (ar bs u)).length:=by
  unfold rh;have h6:=gQ (pH ((br.map (ar bs u)).map dg)) (((br.map (ar bs u)).map dg).length - 1);rw[h7]; omega
 unfold jB;rw[getD_some (Ic hlt)];obtain⟨t,ht,e⟩:=II.mp (Jg hlt);exact#[t,ht,e.symm]
theorem AS (bs:HK Ik)(u:Wd):jB bs u≠[]:=by
 obtain⟨t,ht,e⟩:=yf bs u;rw[e];have:∀t∈br,t≠[]:=by decide
 have h:=this t ht;intro z;have hl:(ar bs u t).length=t.length:=by simp[ar]
 rw[z]at hl;exact h (Kv.mp hl.symm)
theorem qm:∀ {xs ys:HK Ik},xs.map T.int=ys.map T.int->xs=ys
 | [],[],_=>rfl
 | [],_::_,h=>by cases h
 | _::_,[],h=>by cases h
 | x::xs,y::ys,h=>by
  rw[JH,JH]at h;injection h with h1 h2
  injection h1 with h1
  rw[h1,qm h2]
theorem AT {p q:Pt}(h:n0 p=n0 q):p=q:=by
 unfold n0 at h;injection h with h
 injection h with h1 h2
 injection h1 with h1
 injection h2 with h2 _
 injection h2 with h2
 exact Re h1 (qm h2)
theorem on {u v:Wd}(h:dg u=dg v):u=v:=by
 unfold dg at h;injection h with h
 have inj:∀ {u v:Wd},u.map n0=v.map n0->u=v:=by
  intro u
  induction u with
  | nil=>intro v h; cases v with
   | nil=>rfl
   | cons _ _=>cases h
  | cons p u ih=>intro v h; cases v with
   | nil=>cases h
   | cons q v=>
    rw[JH,JH]at h;injection h with h1 h2
    rw[AT h1,ih h2]
 exact inj h
theorem mT {kvs:HK (T×W)}{k:T}{v:W}:(eA kvs k v).map (·.1)=if k∈kvs.map (·.1)then kvs.map (·.1)else kvs.map (·.1)++[k]:=by
 have hany:(kvs.any λp=>decide (p.1=k))=decide (k∈kvs.map (·.1)):=by
  induction kvs with
  | nil=>rfl
  | cons p kvs ih=>
   rw[Ky,ih,JH]
   by_cases e:p.1=k
   ·subst e; simp
   ·rw[IP e,MZ];have:(k∈p.1::kvs.map (·.1))=(k∈kvs.map (·.1)):=by simp[Ne.symm e]
    simp only[this]
 unfold eA;rw[hany]
 by_cases h:k∈kvs.map (·.1)
 ·rw[Ix h,Ix (JY h),Km];refine JV λp _=>?_
  show(if p.1=k then(p.1,v)else p).1=p.1
  split <;> rfl
 ·rw[IK h,IK (by simpa using h),Jz]
  rfl
structure FigD (L:HK Wd)(kvs:HK (T×W))(fs:HK Wd):Prop where
 keys:kvs.map (·.1)=fs.map dg
 nd:fs.Nodup
 mem:∀f∈fs,f∈L
theorem FigD.nil {L:HK Wd}:FigD L [] []:=#[rfl,NR,λ_ h=>nomatch h]
theorem FigD.len {L:HK Wd}{kvs:HK (T×W)}{fs:HK Wd}(h:FigD L kvs fs):kvs.length=fs.length/\fs.length<=L.length:=by
 have:=congrArg Qq h.keys;rw[HN,HN]at this;exact#[this,i8 fs L h.nd h.mem]
theorem FigD.put {L:HK Wd}{kvs:HK (T×W)}{fs:HK Wd}{f:Wd}{v:W}(h:FigD L kvs fs)(hf:f∈L):∃fs',FigD L (eA kvs (dg f) v) fs':=by
 by_cases hm:f∈fs
 ·refine#[fs,?_,h.nd,h.mem];rw[mT,Ix (by rw[h.keys]; exact II.mpr #[f,hm,rfl]),h.keys]
 ·refine#[fs++[f],?_,?_,λg hg=>?_]
  ·rw[mT,IK,h.keys,Jz]
   ·rfl
   ·rw[h.keys];intro z;obtain⟨g,hg,e⟩:=II.mp z;exact hm (on e ▸ hg)
  ·rw[MV];refine#[h.nd,by simp,λa ha b hb e=>?_]
   rw[Ir.mp hb]at e;exact hm (e ▸ ha)
  ·rcases IY.mp hg with h'|h'
   ·exact h.mem g h'
   ·rw[Ir.mp h']; exact hf
theorem FigD.items {S:aa}{t:HW}{L:HK Wd}{kvs:HK (T×W)}{fs:HK Wd}(h:FigD L kvs fs)(e:S[t]?=ba (.dic kvs)):dR S (.ref t)=ba (fs.map bu):=by
 simp only[dR,nY e,da e,IZ];congr 1;have:(kvs.map (·.1)).map T.w=(fs.map dg).map T.w:=by rw[h.keys]
 rw[Km,Km]at this
 calc kvs.map (λp=>p.1.w)=kvs.map (T.w∘λx=>x.1):=rfl
  _=fs.map (T.w∘dg):=this
  _=fs.map bu:=by
   refine JV λf _=>?_
   exact xU f
theorem qo {a:HW}{bs:HK Ik}{f:Wd}(h:f∈bg a bs):f≠[]:=by
 unfold bg at h;rw[Os]at h;obtain⟨u,_,rfl⟩:=II.mp h;exact AS bs u
theorem Fx {S:aa}{t:HW}{kvs:HK (T×W)}{u:Wd}{v:W}(h:S[t]?=ba (.dic kvs))(hl:kvs.length < sizeLine):ic (.ref t) (bu u) v S=ba (S.set t (.dic (eA kvs (dg u) v))):=by
 have hk:=Dr u;unfold bu at hk ⊢;simp only[ic,nH,h,hk];rw[Ix hl]
structure RuleAt (a:HW)(bs:HK Ik)(ms ns:HK Iv)(gs:HK Wd):Prop where
 size:SizeOk a bs
 ml:ms.length=a
 nl:ns.length=bs.length
 nm:GoodN ms ns
 nd:gs.Nodup
 mem:∀g∈gs,g∈bg a bs
noncomputable def d6 (w:W):Prop:=∃a bs ms ns gs,w=dC ms ns bs (cO gs)/\RuleAt a bs ms ns gs
section
variable{Φ:Iv->FF}{fuel:HW}{ρ:Fm}{S:aa}{K:Fm->aa->Prop}{Q:QO}
theorem iB {i0:HW}{e:E}{b:Ss}(oe:d8 e=true)(ok:io b=true)(he:wE Φ e ρ S λp=>∃(j:Ik) (I:HW->Fm->aa->Prop),p.1=.int j/\(-(2 ^ 62)<=j/\j < 2 ^ 62)/\I 0 ρ p.2/\
  (∀(i:HW) (ρ:Fm) (S:aa),(i:Ik) < j->I i ρ S->yQ Φ fuel b (ρ.set i0 (ba (.int i))) S (I (i+1)) Q)/\∀ρ S,I j.toNat ρ S->K ρ S):Wp (gk Φ fuel (.loop (.nm i0) (.rng #v[e]) b) ρ S) (sX K Q):=by
 obtain⟨w,S1,e1,j,I,rfl,hj,h0,hs,hend⟩:=cz oe he;have hl:(dw 0 j.toNat).length=j.toNat:=by simp[dw]
 refine kJ (mi:=.its (dw 0 j.toNat)) (S1:=S1) (xs:=dw 0 j.toNat) I ok ?_ (λ_ _ _ _=>rfl) rfl h0 (λi w ρ S hw hI=>?_) λρ S hI=>hend ρ S (hl ▸ hI)
 ·simp only[ly,cZ,eg,jy,uG,e1];rw[Ix hj]
 ·rw[dU]at hw;split at hw
  ·rename_i hk;cases hw;rw[Nk];exact hs i ρ S ∅ hI
  ·cases hw
theorem kS {tg:Tg}{e:E}{b:Ss}(oe:d8 e=true)(ok:io b=true)(he:wE Φ e ρ S λp=>∃(t:HW) (xs:HK W) (I:HW->Fm->aa->Prop),p.1=.ref t/\I 0 ρ p.2/\(∀i ρ S,I i ρ S->S[t]?=ba (.lst xs))/\
  (∀(i:HW) (w:W) (ρ:Fm) (S:aa),xs[i]?=ba w->I i ρ S->wO (iM tg w ρ S) λq=>yQ Φ fuel b q.1 q.2 (I (i+1)) Q)/\∀ρ S,I xs.length ρ S->K ρ S):Wp (gk Φ fuel (.loop tg (.seq e) b) ρ S) (sX K Q):=by
 obtain⟨w,S1,e1,t,xs,I,rfl,h0,hat,hs,hend⟩:=cz oe he;exact kJ (mi:=.live t) (S1:=S1) I ok (by simp only[ly,fm,e1,aT (hat _ _ _ h0)]) (λi ρ S h=>by simp only[MI.at,aT (hat _ _ _ h)]) (by simp only[MI.len,aT (hat _ _ _ h0),IZ]) h0 hs hend
end
section
variable{defs:HK (Iv×Df)}{fuel d:HW}{S:aa}{r:HW}{Q:QW}
theorem yg {q:HW}{a:HW}{bs:HK Ik}{ms ns:HK Iv}{fs0:HK Wd}{kvs:HK (T×W)}{fs:HK Wd}(h3:S[q]?=ba (.dic kvs))(h4:FigD (bg a bs) kvs fs)(hs:SizeOk a bs)(hml:ms.length=a)(hnl:ns.length=bs.length)(hnm:GoodN ms ns)(k:∀w S',d6 w->Ka S S'->Q (w,S')) :
  wO (qJ (dC ms ns bs fs0) (.int 0) S) λp=>wO (qJ (dC ms ns bs fs0) (.int 1) p.2) λq'=>wO (Bi.sorted.fn [.ref q] q'.2) λs=>wO (Bi.tuple.fn [s.1] s.2) λz=>Q (.tup [p.1,q'.1,z.1],z.2):=by
 refine aA #v[] rfl (aA #v[] rfl ?_)
 have hl:=h4.len;exact ya (h4.items h3) (by have:=om hs; omega) (λf hf=>qo (h4.mem f hf)) (dt ah (k _ _ #[a,bs,ms,ns,fs,rfl,hs,hml,hnl,hnm,h4.nd,h4.mem] .push))
theorem yh {q:HW}{a:HW}{bs:HK Ik}{u:Wd}{kvs:HK (T×W)}{fs:HK Wd}{Q:aa->Prop}(h3:S[q]?=ba (.dic kvs))(h4:FigD (bg a bs) kvs fs)(hs:SizeOk a bs)(hu:GoodW a bs.length u)(hu3:u.length=3)
  (k:∀o,(∃kvs fs,(S.set q o)[q]?=ba (.dic kvs)/\FigD (bg a bs) kvs fs)->Q (S.set q o)):wO (ic (.ref q) (bu (jB bs u)) (.bl true) S) Q:=by
 have hl:=h4.len;have:=om hs;obtain⟨fs',h5⟩:=h4.put (v:=.bl true) (tz hu hu3);exact ag (Fx h3 (by rw[Jf]; omega)) (k _ #[_,fs',bT h3,h5])
theorem rO (hfu:20 < fuel)(G:Gen defs)(hf:Fl S r)(k:∀w S',d6 w->Fl S' r->Kp r S S'->Q (w,S')):wO (bD (aq defs fuel (d+6)) "_law_any_rule" 1 [.ref r] S) Q:=by
 refine aN G.any_rule rfl rfl λQ' hR=>?_
 replace k:∀w S',d6 w->Fl S' r->Kp r S S'->Q' (.rt w,S'):=λz S' a b c=>hR _ _ (k z S' a b c)
 clear hR;show wZ _ _ cM [ba (.ref r),K3,K3,K3,K3,K3] S Q';dsimp only[cM];refine bq λK hK=>?_
 dsimp only[wS,wE,wA,wV,wG];refine oh (d:=d+3) G hf λa n S1 a1 a3 n1 n3 an f1 k1=>?_
 dsimp only[wU];refine ag (show dS [1,2] [.int a,.int n] [ba (.ref r),K3,K3,K3,K3,K3]=ba [ba (.ref r),ba (.int a),ba (.int n),K3,K3,K3]from rfl) (hK _ _ ?_)
 clear hK K;refine bq λK hK=>?_
 dsimp only[wS,wE,wA,wV,wG,Iq];refine ol (d:=d+3) G f1 n1 n3 λbs S2 hb hbl f2 k2=>?_
 have hsz:SizeOk a bs:=#[∅,hb,by rw[hbl]; exact an,a3]
 refine eZ (d:=d) hfu G f2 a3 ∅ λms ns S3 hml hnl hnm f3 k3=>hK _ _ ?_
 clear hK K;have hrt:=f3.lt;replace k3:Kp r S S3:=k1.trans (k2.trans k3);clear k1 k2 f1 f2;refine st ?_;dsimp only[wS,wE,Iq];refine bq λK hK=>?_
 refine iB rfl rfl ?_;dsimp only[wE,wA,wV,wG];refine aX (d:=d+4) G.pick (f3.ka .push) #v[] #v[] λv S4 v0 v9 f4 k4=>?_
 refine#[v,λk ρ S'=>(∃a5,ρ=[ba (.ref r),ba (.int a),ba (.int n),ba (dC ms ns bs []),ba (.ref S3.length),a5])/\(∃kvs fs,S'[S3.length]?=ba (.dic kvs)/\FigD (bg a bs) kvs fs)/\Fl S' r/\Kp r S S',rfl,∅,#[#[K3,rfl],#[[],[],k4.get _ _ ∅ ah,.nil],f4,(k3.trans .push).trans k4],?_,?_]
 ·rintro i ρ S5 hi ⟨⟨a5,rfl⟩,⟨kvs,fs,e5,hd⟩,f5,k5⟩ Q2 hn _;clear hK;refine st ?_;dsimp only[wS,wE,wA,wV,wG,Iq];refine iA (d:=d+3) G f5 ∅ a3 ∅ n3 λu S6 hu3 hu f6 k6=>?_
  have hu:GoodW a bs.length u:=hbl.symm ▸ hu;refine iz (d:=d+2) G hb hnl hu hu3 λS7 k7=>?_
  have e7:=k7.get _ _ (k6.get _ _ ∅ e5)
  exact yh e7 hd hsz hu hu3 λo ho=>dv (hn _ _ #[#[_,rfl],ho,(f6.ka k7).own hrt,((k5.trans k6).trans (k7.kp r)).late k3.len])
 ·rintro ρ S5 ⟨⟨a5,rfl⟩,⟨kvs,fs,e5,hd⟩,f5,k5⟩;refine hK _ _ (st ?_);dsimp only[wS,wE,wA,wV,wG];exact yg (Q:=λp=>Q' (.rt p.1,p.2)) e5 hd hsz hml hnl hnm λw S6 hw k6=>k w S6 hw (f5.ka k6) (k5.trans (k6.kp r))
end
noncomputable def oo (t:Ik×Ik×Ik):W:=.tup [.int t.1,.int t.2.1,.int t.2.2]
noncomputable def qp (a:HW)(t:Ik×Ik×Ik):Prop:=(0<=t.1/\t.1 < a)/\(0<=t.2.1/\t.2.1 < a)/\(0<=t.2.2/\t.2.2 < a)
noncomputable def yi (k:Ik):Wd:=[(k,[]),(k,[0]),(k,[0,0])]
theorem Hd:∀k∈lF 1,yi k∈bg 1 [0]:=by decide +kernel
theorem He:∀k∈lF 2,yi k∈bg 2 [0]:=by decide +kernel
theorem Hf:∀k∈lF 3,yi k∈bg 3 [0]:=by decide +kernel
theorem AU {a:HW}{k:Ik}(h0:1<=a)(h3:a<=3)(hk:0<=k)(hk2:k < a):yi k∈bg a [0]:=by
 have ha:a=1\/a=2\/a=3:=∅
 rcases ha with rfl|rfl|rfl
 ·exact Hd k (cQ hk hk2)
 ·exact He k (cQ hk hk2)
 ·exact Hf k (cQ hk hk2)
theorem AV {a b:Ik}(h:yi a=yi b):a=b:=by
 unfold yi at h;injection h with h1 h2
 injection h1
theorem oq:GoodB [0]:=.inl rfl
theorem Fy {S:aa}{i j:HW}{xs:HK W}(h1:S[i]?=ba (.lst xs))(h2:S[j]?=ba (.lst [])):eR .eq (.ref i) (.ref j) S=ba (.bl xs.isEmpty,S):=by
 show(oZ S (19+1) (.ref i) (.ref j)).map _=_;simp only[oZ,eh h1,eh h2];cases xs with
 | nil=>rfl
 | cons x xs=>rfl
theorem AW {S:aa}{f:Ik}{ws:HK Ik}:∃b,eR .notin (.int f) (.tup (ae ws)) S=ba (.bl b,S):=by
 have hf:(cK (.int f)&&(ae ws).all cK)=true:=by
  simp only[cK,L8,IC];intro x hx;obtain⟨z,_,rfl⟩:=II.mp hx;rfl
 refine#[!(ae ws).any λz=>zG z (.int f),?_]
 show j6 .notin (.int f) (.tup (ae ws)) S=_;simp only[j6,EA,CB,ff,hf,Kb,IZ]
section
variable{Φ:Iv->FF}{fuel:HW}{ρ:Fm}{S:aa}{K:Fm->aa->Prop}{Q:QO}
theorem yj {i0:HW}{a b:E}{bd:Ss}(i j:Ik)(I:HW->Fm->aa->Prop)(oa:d8 a=true)(ob:d8 b=true)(ok:io bd=true)(hj : -(2 ^ 62)<=i/\i < 2 ^ 62/\-(2 ^ 62)<=j/\j < 2 ^ 62)(he:wE Φ a ρ S λp=>p.1=.int i/\wE Φ b ρ p.2 λq=>q.1=.int j/\I 0 ρ q.2)
  (hstep:∀(k:HW) (ρ:Fm) (S:aa),(k:Ik) < j - i->I k ρ S->yQ Φ fuel bd (ρ.set i0 (ba (.int (i+k)))) S (I (k+1)) Q) (hend:∀ρ S,I (j - i).toNat ρ S->K ρ S):Wp (gk Φ fuel (.loop (.nm i0) (.rng2 #v[a,b]) bd) ρ S) (sX K Q):=by
 obtain⟨w,S1,e1,rfl,h1⟩:=cz oa he;obtain⟨w,S2,e2,rfl,h0⟩:=cz ob h1;have hl:(dw i (j - i).toNat).length=(j - i).toNat:=by simp[dw]
 refine kJ (mi:=.its (dw i (j - i).toNat)) (S1:=S2) (xs:=dw i (j - i).toNat) I ok ?_ (λ_ _ _ _=>rfl) rfl h0 (λk w ρ S hw hI=>?_) λρ S hI=>hend ρ S (hl ▸ hI)
 ·simp only[ly,cZ,eg,jy,iRng2,e1,e2];rw[Ix hj]
 ·rw[dU]at hw;split at hw
  ·rename_i hk;cases hw;exact hstep k ρ S ∅ hI
  ·cases hw
theorem yk {elt a b:E}{i0:HW}{cs:Es}{cap:HK (HU HW)}{Q:QW}(i j:Ik)(I:HW->HK W->Fm->aa->Prop)(oa:d8 a=true)(ob:d8 b=true)(oe:d8 elt=true)(oc:oO cs=true)(hj : -(2 ^ 62)<=i/\i < 2 ^ 62/\-(2 ^ 62)<=j/\j < 2 ^ 62)(he:wE Φ a ρ S λp=>p.1=.int i/\wE Φ b ρ p.2 λq=>q.1=.int j/\I 0 [] (eT cap ρ) q.2)
  (hstep:∀(k:HW) (ys:HK W) (ρ:Fm) (S:aa),(k:Ik) < j - i->I k ys ρ S->ju Φ elt cs (ρ.set i0 (ba (.int (i+k)))) S (λy=>I (k+1) (ys++[y])) (I (k+1) ys))
  (hend:∀ys ρ S,I (j - i).toNat ys ρ S->ys.length<=sizeLine/\Q (.ref S.length,S++[.lst ys])):Wp (aG Φ (.comp elt (.nm i0) (.rng2 #v[a,b]) cs cap) ρ S) Q:=by
 obtain⟨w,S1,e1,rfl,h1⟩:=cz oa he;obtain⟨w,S2,e2,rfl,h0⟩:=cz ob h1;have hl:(dw i (j - i).toNat).length=(j - i).toNat:=by simp[dw]
 refine i6 (mi:=.its (dw i (j - i).toNat)) (S1:=S2) (xs:=dw i (j - i).toNat) I oe oc ?_ (λ_ _ _ _ _=>rfl) rfl h0 (λk w ys ρ S hw hI=>?_) λys ρ S hI=>hend ys ρ S (hl ▸ hI)
 ·simp only[ly,cZ,eg,jy,iRng2,e1,e2];rw[Ix hj]
 ·rw[dU]at hw;split at hw
  ·rename_i hk;cases hw;exact hstep k ys ρ S ∅ hI
  ·cases hw
end
section
variable{defs:HK (Iv×Df)}{fuel d:HW}{S:aa}{r:HW}{Q:QW}
theorem ym (G:Gen defs){a:HW}(ha:a<=3)(k:∀(q:HW) (ts:HK (Ik×Ik×Ik)) (S':aa),S'[q]?=ba (.lst (ts.map oo))->(∀t∈ts,qp a t)->S.length<=q->Ka S S'->Q (.ref q,S')) :
  wO (bD (aq defs fuel (d+1)) "_law_rising" 1 [.int a] S) Q:=by
 refine aN G.rising rfl rfl λQ' hR=>?_
 replace k:∀(q:HW) (ts:HK (Ik×Ik×Ik)) (S':aa),S'[q]?=ba (.lst (ts.map oo))->(∀t∈ts,qp a t)->S.length<=q->Ka S S'->Q' (.rt (.ref q),S'):=λq ts S' a b c e=>hR _ _ (k q ts S' a b c e)
 clear hR;show wZ _ _ dJ [ba (.int a),K3,K3,K3] S Q';dsimp only[dJ];refine st ?_;dsimp only[wS,wE,wA,Iq];refine bq λK hK=>?_
 refine dG (a:Ik) (λi ρ S'=>∃(q:HW) (ts:HK (Ik×Ik×Ik)) (a2 a3:HU W),ρ=[ba (.int a),ba (.ref q),a2,a3]/\S'[q]?=ba (.lst (ts.map oo))/\(∀t∈ts,qp a t)/\S.length<=q/\ts.length<=9*i/\Ka S S') rfl rfl ∅ #[rfl,_,[],_,_,rfl,ah,λ_ h=>(nomatch h),Ih _,JW _,.push] ?_ ?_
 ·rintro i ρ S1 hi ⟨q,ts,a2,a3,rfl,e1,ht,hq,hl,k1⟩ Q2 hn _;clear hK k;refine bq λK hK=>?_
  refine yj (i:Ik) (a:Ik) (λj ρ S'=>∃(q:HW) (ts:HK (Ik×Ik×Ik)) (a3:HU W),ρ=[ba (.int a),ba (.ref q),ba (.int i),a3]/\S'[q]?=ba (.lst (ts.map oo))/\(∀t∈ts,qp a t)/\S.length<=q/\ts.length<=9*i+3*j/\Ka S S') rfl rfl rfl ∅ #[rfl,rfl,q,ts,a3,rfl,e1,ht,hq,∅,k1] ?_ ?_
  ·rintro j ρ S2 hj ⟨q,ts,a3,rfl,e2,ht,hq,hl,k2⟩ Q3 hn3 _;clear hK hn;refine st ?_;dsimp only[wS,wE,wV,wG,Iq];refine yk ((i:Ik)+j) (a:Ik) (λm ys ρ2 S3=>(∃a1,ρ2=[K3,a1,ba (.int i),ba (.int ((i:Ik)+j))])/\(∃us:HK (Ik×Ik×Ik),ys=us.map oo/\us.length=m/\∀t∈us,qp a t)/\S3=S2) rfl rfl rfl rfl ∅ #[rfl,rfl,#[K3,rfl],#[[],rfl,rfl,λ_ h=>nomatch h],rfl] ?_ ?_
   ·rintro m ys ρ2 S3 hm ⟨⟨a1,rfl⟩,⟨us,rfl,hul,hu⟩,rfl⟩;refine#[λ_=>#[#[_,rfl],#[us++[((i:Ik),(i:Ik)+j,(i:Ik)+j+m)],by rw[Jz]; rfl,by rw[Im,hul]; rfl,λt h=>?_],rfl],λz=>by cases z]
    rcases IY.mp h with h|h
    ·exact hu t h
    ·rw[Ir.mp h];exact#[#[∅,∅],#[by dsimp only; omega,by dsimp only; omega],#[by dsimp only; omega,by dsimp only; omega]]
   ·rintro ys ρ2 S3 ⟨_,⟨us,rfl,hul,hu⟩,rfl⟩;refine#[jA (by rw[HN]; omega),ag (xJ (aw e2) ah ?_) (dv (hn3 _ _ #[_,ts++us,_,rfl,?_,λt h=>(IY.mp h).elim (ht t) (hu t),?_,?_,k2.trans (Ka.push.trans .push)]))]
    ·refine jA ?_;rw[Im,HN,HN];omega
    ·rw[Jz]; exact ah
    ·have:=k2.len;simp only[Im]; omega
    ·rw[Im]; omega
  ·rintro ρ S2 ⟨q,ts,a3,rfl,e2,ht,hq,hl,k2⟩;exact hK _ _ (dv (hn _ _ #[q,ts,_,_,rfl,e2,ht,hq,∅,k2]))
 ·rintro ρ S1 ⟨q,ts,a2,a3,rfl,e1,ht,hq,hl,k1⟩;refine hK _ _ (st ?_);exact k q ts S1 e1 ht hq k1
theorem uU (hfu:20 < fuel)(G:Gen defs)(hf:Fl S r)(k:∀w S',d6 w->Fl S' r->Kp r S S'->Q (w,S')):wO (bD (aq defs fuel (d+6)) "_law_one_way_rule" 1 [.ref r] S) Q:=by
 refine aN G.one_way_rule rfl rfl λQ' hR=>?_
 replace k:∀w S',d6 w->Fl S' r->Kp r S S'->Q' (.rt w,S'):=λz S' a b c=>hR _ _ (k z S' a b c)
 clear hR;show wZ _ _ bQ [ba (.ref r),K3,K3] S Q';dsimp only[bQ];refine bq λK hK=>?_
 dsimp only[wS,wE,wA,wV,wG,Iq];refine aX (d:=d+4) G.pick hf #v[] #v[] λv S1 v0 v3 f1 k1=>?_
 dsimp only[cX,aU];obtain⟨a,ea⟩ : ∃a:HW,1+v=a:=#[(1+v).toNat,∅]
 rw[ea];refine hK _ _ ?_;clear hK K;refine bq λK hK=>?_
 dsimp only[wS,wE,Iq];refine en (a:Ik) (λk zs ρ2 S2=>(∃a1,ρ2=[K3,a1,ba (.ref r)])/\(∃ks:HK Ik,zs=(ks.map yi).map bu/\ks.Pairwise (·≠·)/\ks.length<=k/\∀x∈ks,0<=x/\x < k)/\Fl S2 r/\Kp r S1 S2) rfl rfl rfl ∅ #[rfl,#[K3,rfl],#[[],rfl,.nil,Ih _,λ_ h=>(nomatch h)],f1,.refl] ?_ ?_
 ·rintro i zs ρ2 S2 hi ⟨⟨a1,rfl⟩,⟨ks,rfl,hkp,hkl,hks⟩,f2,k2⟩;clear hK k;dsimp only[ju,wC,wT,wE,wA,wV,wG,Iq];refine aX (d:=d+4) G.pick f2 #v[] #v[] λv S3 _ _ f3 k3=>?_
  dsimp only[im,aU,wB];refine#[λ_=>#[#[_,rfl],#[ks++[(i:Ik)],by simp[yi,bu,lz],?_,by rw[Im]; exact L4 hkl,λx hx=>?_],f3,k2.trans k3],λ_=>#[#[_,rfl],#[ks,rfl,hkp,∅,λx hx=>#[(hks x hx).1,by have:=(hks x hx).2; omega]],f3,k2.trans k3]]
  ·rw[List.pairwise_append];refine#[hkp,by simp,λx hx y hy e=>?_]
   have:=(hks x hx).2;rw[Ir.mp hy]at e;omega
  ·rcases IY.mp hx with h|h
   ·exact#[(hks x h).1,by have:=(hks x h).2; omega]
   ·rw[Ir.mp h]; omega
 ·rintro zs ρ2 S2 ⟨_,⟨ks,rfl,hkp,hkl,hks⟩,f2,k2⟩;rw[Iu]at hkl hks;refine#[jA (by rw[HN,HN]; omega),hK _ _ (st ?_)]
  clear hK K;dsimp only[wS,wE,wA,wV,wG,Iq];have hlt:=f2.lt;refine mS (d:=d) (a:=a) (bs:=[0]) (us:=ks.map yi) hfu G (f2.ka .push) ∅ #v[] (λS' kk=>?_) (by rw[HN]; omega) (λu hu=>by obtain⟨x,_,rfl⟩:=II.mp hu; exact List.cons_ne_nil _ _) λms ns S3 hml hnl hnm f3 k3=>?_
  ·simp only[dR,aT (kk.get _ _ ∅ ah)]
  refine k _ _ #[a,[0],ms,ns,ks.map yi,rfl,#[#[∅,oq,by simp; omega,∅],hml,hnl,hnm,?_,λg hg=>?_]] f3 (k1.trans (k2.trans (Kp.push.trans k3)))
  ·unfold QQ;rw[LZ];exact hkp.imp λh e=>h (AV e)
  ·obtain⟨x,hx,rfl⟩:=II.mp hg;exact AU ∅ ∅ (hks x hx).1 (hks x hx).2
theorem qr (hfu:20 < fuel)(G:Gen defs)(hf:Fl S r)(k:∀w S',d6 w->Fl S' r->Kp r S S'->Q (w,S')):wO (bD (aq defs fuel (d+6)) "_law_free_rule" 1 [.ref r] S) Q:=by
 refine aN G.free_rule rfl rfl λQ' hR=>?_
 replace k:∀w S',d6 w->Fl S' r->Kp r S S'->Q' (.rt w,S'):=λz S' a b c=>hR _ _ (k z S' a b c)
 clear hR;show wZ _ _ cv [ba (.ref r),K3,K3,K3,K3,K3,K3,K3,K3] S Q';dsimp only[cv];refine bq λK hK=>?_
 dsimp only[wS,wE,wA,wV,wG];refine oh (d:=d+3) G hf λa n S1 a1 a3 n1 n3 an f1 k1=>?_
 dsimp only[wU];refine ag (show dS [1,2] [.int a,.int n] [ba (.ref r),K3,K3,K3,K3,K3,K3,K3,K3]=ba [ba (.ref r),ba (.int a),ba (.int n),K3,K3,K3,K3,K3,K3]from rfl) (hK _ _ ?_)
 clear hK K;refine bq λK hK=>?_
 dsimp only[wS,wE,wA,wV,wG,Iq];refine ol (d:=d+3) G f1 n1 n3 λbs S2 hb hbl f2 k2=>?_
 have hsz:SizeOk a bs:=#[∅,hb,by rw[hbl]; exact an,a3]
 refine eZ (d:=d) hfu G f2 a3 ∅ λms ns S3 hml hnl hnm f3 k3=>hK _ _ ?_
 clear hK K;have hrt:=f3.lt;replace k3:Kp r S S3:=k1.trans (k2.trans k3);clear k1 k2 f1 f2;refine bq λK hK=>?_
 dsimp only[wS,wE,Iq];refine en (n:Ik) (λi zs ρ2 S2=>(∃a1,ρ2=[K3,a1,ba (dC ms ns bs [])])/\(∃ks:HK Ik,zs=ae ks/\ks.length<=i)/\S2=S3) rfl rfl rfl ∅ #[rfl,#[K3,rfl],#[[],rfl,Ih _],rfl] ?_ ?_
 ·rintro i zs ρ2 S2 hi ⟨⟨a1,rfl⟩,⟨ks,rfl,hkl⟩,rfl⟩;clear hK k;have hi':i < bs.length:=∅
  dsimp only[ju,wC,wT,wE,wA,wV,wG,Iq];refine aA #v[] rfl (aA (IH i) (by rw[Iu]; exact n8 (Ic ∅) (Ic hi')) (aA #v[] rfl ?_))
  dsimp only[im,aU,wB];exact#[λ_=>#[#[_,rfl],#[ks++[(i:Ik)],by unfold ae; rw[Jz]; rfl,by rw[Im]; exact L4 hkl],rfl],λ_=>#[#[_,rfl],#[ks,rfl,∅],rfl]]
 ·rintro zs ρ2 S2 ⟨_,⟨ks,rfl,hkl⟩,rfl⟩;rw[Iu]at hkl;have il:(ae ks).length=ks.length:=HN ..;refine#[jA ∅,hK _ _ ?_]
  clear hK K;refine bq λK hK=>?_
  dsimp only[wS,wT,wE,wA,wV,wG,Iq];refine ag (Fy (aw ah) ah) ?_;dsimp only[wB];have f4:=(f3.ka (Ka.push (o:=O.lst (ae ks)))).ka (Ka.push (o:=O.lst []));have k4:=k3.trans ((Kp.push (o:=O.lst (ae ks))).trans (Kp.push (o:=O.lst [])));have e4:=aw (u:=O.lst []) (ah (S:=S2) (o:=O.lst (ae ks)));have hl4:S2.length < (S2++[O.lst (ae ks)]++[O.lst []]).length:=by simp
  generalize hS4:S2++[O.lst (ae ks)]++[O.lst []]=S4 at f4 k4 e4 hl4;clear hS4;have ret:∀Q2:QO,(∀w S',Q' (.rt w,S')->Q2 (.rt w,S'))->wZ (aq defs fuel (d+5)) fuel #v[.ret (.v 3)] [ba (.ref r),ba (.int a),ba (.int n),ba (dC ms ns bs []),K3,ba (.ref S2.length),K3,K3,K3] S4 Q2:=λQ2 hr=>st (hr _ _ (k _ _ #[a,bs,ms,ns,[],rfl,hsz,hml,hnl,hnm,.nil,λ_ h=>(nomatch h)] f4 k4))
  refine#[λ_=>aO (Q0:=Q') (λ_ Q2 _ hr=>ret Q2 hr) (λz=>by cases z),λhne=>?_]
  dsimp only[im,aU,wB];refine aO (Q0:=Q') (λ_ Q2 _ hr=>ret Q2 hr) (λ_ Q2 hn _=>dv (hn _ _ (hK _ _ ?_)))
  clear hK ret hn;have hk0:0 < ks.length:=by
   cases ks with
   | nil=>cases hne
   | cons x ks=>exact Nat.succ_pos _
  refine bq λK hK=>?_
  dsimp only[wS,wE,wA,wV,wG,Iq];refine fJ e4 ?_;rw[il];refine aX (d:=d+4) G.pick f4 ∅ ∅ λv S5 v0 v1 f5 k5=>?_
  have e5:=k5.get _ _ ∅ e4
  obtain⟨x,_,ex⟩:=kN (f:=W.int) (xs:=ks) (i:=v.toNat) ∅
  refine iu e5 v0 ex (hK _ _ ?_);clear hK K;replace k5:Kp r S S5:=k4.trans k5;have hrt5:=f5.lt;refine st ?_;dsimp only[wS,wE,Iq];refine bq λK hK=>?_
  refine iB rfl rfl ?_;dsimp only[wE,wA,wV,wG];refine aX (d:=d+4) G.pick (f5.ka .push) #v[] #v[] λv S6 v0 v9 f6 k6=>?_
  refine#[v,λ_ ρ S'=>(∃a4 a8,ρ=[ba (.ref r),ba (.int a),ba (.int n),ba (dC ms ns bs []),a4,ba (.ref S2.length),ba (.int x),ba (.ref S5.length),a8])/\(∃kvs fs,S'[S5.length]?=ba (.dic kvs)/\FigD (bg a bs) kvs fs)/\Fl S' r/\Kp r S S',rfl,∅,#[#[K3,K3,rfl],#[[],[],k6.get _ _ ∅ ah,.nil],f6,(k5.trans .push).trans k6],?_,?_]
  ·rintro i ρ S7 hi ⟨⟨a4,a8,rfl⟩,⟨kvs,fs,e7,hd⟩,f7,k7⟩ Q2 hn _;clear hK k;refine st ?_;dsimp only[wS,wE,wA,wV,wG,Iq];refine iA (d:=d+3) G f7 ∅ a3 ∅ n3 λu S8 hu3 hu f8 k8=>?_
   have hu:GoodW a bs.length u:=hbl.symm ▸ hu;have e8:=k8.get _ _ ∅ e7
   obtain⟨p0,p1,p2,rfl⟩ : ∃p0 p1 p2,u=[p0,p1,p2]:=by
    match u,hu3 with
    | [p0,p1,p2],_=>exact#[p0,p1,p2,rfl]
   have l1:=hu.len 1 p1 rfl;obtain⟨m1,ws1⟩:=p1;obtain⟨w1,rfl⟩ : ∃w1,ws1=[w1]:=by
    match ws1,l1 with
    | [w1],_=>exact#[w1,rfl]
   obtain⟨b,hb2⟩:=AW (S:=S8) (f:=x) (ws:=p2.2);have kk:=k7.trans k8;refine bq λK hK=>?_
   dsimp only[wS,wT,wE,wA,wV,wG];refine aA #v[] rfl (aA #v[] rfl (aA #v[] rfl ?_))
   dsimp only[G4,aU,wB];have skip:K [ba (.ref r),ba (.int a),ba (.int n),ba (dC ms ns bs []),ba (.int i),ba (.ref S2.length),ba (.int x),ba (.ref S5.length),ba (bu [p0,(m1,[w1]),p2])] S8:=hK _ _ (dv (hn _ _ #[#[_,_,rfl],#[kvs,fs,e8,hd],f8,kk]));refine#[λ_=>?_,λ_=>aO (Q0:=Q2) (λz=>by cases z) λ_ Q3 hn3 _=>dv (hn3 _ _ skip)]
   refine aA #v[] rfl (aA #v[] rfl (ag hb2 ?_))
   dsimp only[wB];refine aO (Q0:=Q2) (λ_ Q3 hn3 _=>?_) λ_ Q3 hn3 _=>dv (hn3 _ _ skip)
   clear skip;refine st ?_;dsimp only[wS,wE,wA,wV,wG];refine iz (d:=d+2) G hb hnl hu hu3 λS9 k9=>?_
   exact yh (k9.get _ _ e8) hd hsz hu hu3 λo ho=>dv (hn3 _ _ (hK _ _ (dv (hn _ _ #[#[_,_,rfl],ho,(f8.ka k9).own hrt5,(kk.trans (k9.kp r)).late k5.len]))))
  ·rintro ρ S7 ⟨⟨a4,a8,rfl⟩,⟨kvs,fs,e7,hd⟩,f7,k7⟩;refine hK _ _ (st ?_);dsimp only[wS,wE,wA,wV,wG];exact yg (Q:=λp=>Q' (.rt p.1,p.2)) e7 hd hsz hml hnl hnm λw S8 hw k8=>k w S8 hw (f7.ka k8) (k7.trans (k8.kp r))
end
noncomputable def bO (u v:Ik):T:=.tup [.int u,.int v]
noncomputable def du (u v:Ik):W:=.tup [.int u,.int v]
theorem iC {u v:Ik}:gf (du u v)=ba (bO u v):=rfl
theorem yn {kvs:HK (T×W)}{k:T}{v:W}{p:T×W}(h:p∈eA kvs k v):p∈kvs\/p=(k,v):=by
 unfold eA at h;split at h
 ·obtain⟨q,hq,rfl⟩:=II.mp h;split
  ·rename_i e; exact .inr (by rw[e])
  ·exact .inl hq
 ·rcases IY.mp h with h|h
  ·exact .inl h
  ·exact .inr (Ir.mp h)
theorem qt {kvs:HK (T×W)}{k:T}{v:W}(h:cx kvs k=ba v):(k,v)∈kvs:=by
 unfold cx at h;rw[HS]at h;obtain⟨p,h1,rfl⟩:=h;have:=Nz h1;rw[<- Jl this];exact List.mem_of_find?_eq_some h1
theorem AX {kvs:HK (T×W)}{p:T×W}(h:p∈kvs):∃v,cx kvs p.1=ba v:=by
 unfold cx;cases e:kvs.find? λq=>decide (q.1=p.1)with
 | some q=>exact#[q.2,rfl]
 | none=>exact absurd (List.find?_eq_none.mp e p h) (by simp)
noncomputable def MustE (S:aa)(n b:HW)(kvs:HK (T×W)):Prop:=∀p∈kvs,∃(u v:Ik) (l:HW) (ws:HK Ik),p=(bO u v,W.ref l)/\(0<=u/\u < n)/\(0<=v/\v < n)/\b<=l/\S[l]?=ba (.lst (ae ws))/\ws.length<=3/\∀w∈ws,0<=w/\w < (n:Ik)
theorem MustE.mono {S S':aa}{n b:HW}{kvs:HK (T×W)}(h:MustE S n b kvs)(k:∀(l:HW) (ws:HK Ik),b<=l->S[l]?=ba (.lst (ae ws))->S'[l]?=ba (.lst (ae ws))):MustE S' n b kvs:=λp hp=>
 let ⟨u,v,l,ws,h1,h2,h3,h4,h5,h6⟩:=h p hp
 #[u,v,l,ws,h1,h2,h3,h4,k l ws h4 h5,h6]
theorem MustE.ka {S S':aa}{n b:HW}{kvs:HK (T×W)}(h:MustE S n b kvs)(k:Ka S S'):MustE S' n b kvs:=h.mono λl ws _ e=>k.get _ _ e
theorem MustE.kp {S S':aa}{n b r:HW}{kvs:HK (T×W)}(h:MustE S n b kvs)(hr:r < b)(k:Kp r S S'):MustE S' n b kvs:=h.mono λl ws hl e=>k.get _ _ ∅ e
theorem MustE.set {S:aa}{n b t:HW}{kvs k:HK (T×W)}{o:O}(h:MustE S n b kvs)(ht:S[t]?=ba (.dic k)):MustE (S.set t o) n b kvs:=h.mono λl ws hl e=>by
 rw[b6 (by rintro rfl; rw[ht]at e; cases e)]; exact e
theorem MustE.put {S:aa}{n b:HW}{kvs:HK (T×W)}{u v:Ik}{l:HW}{ws:HK Ik}(h:MustE S n b kvs)(h2:0<=u/\u < n)(h3:0<=v/\v < n)(h4:b<=l)(h5:S[l]?=ba (.lst (ae ws)))(h6:ws.length<=3)(h7:∀w∈ws,0<=w/\w < (n:Ik)):MustE S n b (eA kvs (bO u v) (.ref l)):=λp hp=>by
 rcases yn hp with hp|rfl
 ·exact h p hp
 ·exact#[u,v,l,ws,rfl,h2,h3,h4,h5,h6,h7]
noncomputable abbrev AY:=Ik×Ik×HK Ik
noncomputable def qu (ws:HK Ik):Es:=ws.foldr (λw es=>.cons (.c (.int w)) es) .nil
noncomputable def tB:HK AY->Es
 | []=>.nil
 | e::L=>.cons (.tup #v[.c (.int e.1),.c (.int e.2.1)]) (.cons (.lst (qu e.2.2)) (tB L))
noncomputable def uV:HK AY->HW->HK W
 | [],_=>[]
 | e::L,s=>du e.1 e.2.1::.ref s::uV L (s+1)
noncomputable def uW (L:HK AY):aa:=L.map λe=>O.lst (ae e.2.2)
noncomputable def tD (n:HW)(e:AY):IF:=decide ((0<=e.1/\e.1 < n)/\(0<=e.2.1/\e.2.1 < n)/\e.2.2.length<=3)&&e.2.2.all λw=>decide (0<=w/\w < (n:Ik))
section
variable{Φ:Iv->FF}{ρ:Fm}
theorem rP {S:aa}:∀ {ws:HK Ik} {Q:HK W×aa->Prop},Q (ae ws,S)->wA Φ (qu ws) ρ S Q
 | [],Q,q=>by show wA Φ .nil ρ S Q; rw[wA]; exact q
 | w::ws,Q,q=>by show wA Φ (.cons (.c (.int w)) (qu ws)) ρ S Q; rw[wA,wE]; exact rP q
theorem yo:∀ {L:HK AY} {S:aa} {Q:HK W×aa->Prop},Q (uV L S.length,S++uW L)->wA Φ (tB L) ρ S Q
 | [],S,Q,q=>by
  show wA Φ .nil ρ S Q;rw[wA]
  rwa [show S++uW []=S from Kw S]at q
 | e::L,S,Q,q=>by
  show wA Φ (.cons (.tup #v[.c (.int e.1),.c (.int e.2.1)]) (.cons (.lst (qu e.2.2)) (tB L))) ρ S Q;dsimp only[wA,wE];refine rP (yo ?_);rw[Im,Kt];exact q
end
theorem mU {S:aa}{n b:HW}:∀(L:HK AY) (s:HW) (kvs:HK (T×W)),MustE S n b kvs->b<=s->(∀e∈L,tD n e=true)->(∀i e,L[i]?=ba e->S[s+i]?=ba (.lst (ae e.2.2)))->∃kvs',dy kvs (uV L s)=ba kvs'/\MustE S n b kvs'/\kvs'.length<=kvs.length+L.length
 | [],s,kvs,hm,hb,hL,hS=>#[kvs,by simp[uV,dy],hm,by simp]
 | e::L,s,kvs,hm,hb,hL,hS=>by
  have h1:=hL e (by simp)
  unfold tD at h1;rw[HV,IC]at h1;obtain⟨h2,h3,h4⟩:=Jl h1.1;obtain⟨kvs',k1,k2,k3⟩:=mU L (s+1) (eA kvs (bO e.1 e.2.1) (.ref s)) (hm.put h2 h3 hb (by have:=hS 0 e rfl; simpa using this) h4 (λw hw=>Jl (h1.2 w hw))) ∅ (λx hx=>hL x (by simp[hx])) (λi x hx=>by have:=hS (i+1) x (by simpa using hx); rw[show s+1+i=s+(i+1) by omega]; exact this)
  refine#[kvs',?_,k2,?_]
  ·simp only[uV,dy,iC]; exact k1
  ·have:=dj kvs (bO e.1 e.2.1) (.ref s);rw[JC]; omega
noncomputable def KB:HK (HK Ik):=[[1,0],[0,2,1],[0,1],[0,1,2]]
noncomputable def KindOk (S:aa)(b:HW)(w:W):Prop:=∃(bs:HK Ik) (q:HW) (kvs:HK (T×W)) (most:Ik),w=.tup [.tup (ae bs),.ref q,.int most]/\bs∈KB/\1<=most/\most<=3/\most*bs.length<=6/\S[q]?=ba (.dic kvs)/\b<=q/\kvs.length<=4/\MustE S bs.length b kvs
theorem KindOk.mono {S S':aa}{b:HW}{w:W}(h:KindOk S b w)(k1:∀(l:HW) (ws:HK Ik),b<=l->S[l]?=ba (.lst (ae ws))->S'[l]?=ba (.lst (ae ws)))(k2:∀(l:HW) (kvs:HK (T×W)),b<=l->S[l]?=ba (.dic kvs)->S'[l]?=ba (.dic kvs)):KindOk S' b w:=
 let ⟨bs,q,kvs,most,h1,h2,h3,h4,h5,h6,h7,h8,h9⟩:=h
 #[bs,q,kvs,most,h1,h2,h3,h4,h5,k2 _ _ h7 h6,h7,h8,h9.mono k1]
theorem KindOk.ka {S S':aa}{b:HW}{w:W}(h:KindOk S b w)(k:Ka S S'):KindOk S' b w:=h.mono (λl ws _ e=>k.get _ _ e) (λl ws _ e=>k.get _ _ e)
noncomputable def yp (bs:HK Ik)(L:HK AY)(most:Ik):E:=.tup #v[.tup (qu bs),.disp (tB L),.c (.int most)]
section
variable{Φ:Iv->FF}{ρ:Fm}{S:aa}
theorem ou (bs:HK Ik)(L:HK AY)(most:Ik){b:HW}{Q:QW}(hb:b<=S.length)(h1:bs∈KB)(h2:1<=most/\most<=3/\most*bs.length<=6)(hL:∀e∈L,tD bs.length e=true)(h4:L.length<=4)(k:∀w S',KindOk S' b w->Ka S S'->Q (w,S')) :
  wE Φ (yp bs L most) ρ S Q:=by
 unfold yp;dsimp only[wE,wA];refine rP (yo ?_);obtain⟨kvs,k1,k2,k3⟩:=mU (S:=S++[O.dic []]++uW L) (n:=bs.length) (b:=b) L (S.length+1) [] (λ_ h=>nomatch h) ∅ hL (λi e he=>by
  rw[KD (by simp),show S.length+1+i - (S++[O.dic []]).length=i by simp]
  simp[uW,he])
 have hat:(S++[O.dic []]++uW L)[S.length]?=ba (.dic []):=by
  rw[Je (by simp)]; exact ah
 refine#[hat,ag (show dy [] (uV L (S++[O.dic []]).length)=ba kvs by rw[Im]; exact k1) (k _ _ #[bs,S.length,kvs,most,rfl,h1,h2.1,h2.2.1,h2.2.2,bT hat,hb,?_,k2.set hat] #[λj o h=>?_,by simp])]
 ·simp only[Ke]at k3; omega
 ·have:j < S.length:=dY h;show((S++[O.dic []]++uW L).set S.length (O.dic kvs))[j]?=ba o;rw[b6 ∅,Je (by simp; omega)]
  exact aw h
structure Menu (S0 S:aa)(r t m:HW):Prop where
 at_t:∃xs:HK W,S[t]?=ba (.lst xs)/\xs.length=m/\∀x∈xs,KindOk S S0.length x
 pos:0 < m
 jA:m<=9
 fl:Fl S r
 kp:Kp r S0 S
 lt:S0.length<=t
 rlt:r < S0.length
theorem qv {S0 S S':aa}{r t m:HW}{w:W}(h:Menu S0 S r t m)(hw:KindOk S' S0.length w)(k:Ka S S')(hm:m < 9):∃xs,S'[t]?=ba (.lst xs)/\xs.length < sizeLine/\Menu S0 (S'.set t (.lst (xs++[w]))) r t (m+1):=by
 obtain⟨⟨xs,h1,h2,h3⟩,hp,hf,fl,kp,lt,rlt⟩:=h;have e:S'[t]?=ba (.lst xs):=k.get _ _ h1;have stay:∀x,KindOk S' S0.length x->KindOk (S'.set t (.lst (xs++[w]))) S0.length x:=λx hx=>hx.mono (λl ws hl el=>by
  by_cases hlt:t=l
  ·exfalso;subst hlt;rw[e]at el;injection el with el
   injection el with el
   match xs,h2,h3 with
   | [],h2,_=>simp at h2; omega
   | x::xs,_,h3=>
    obtain⟨bs,q,kvs,most,hx,_⟩:=h3 x (by simp)
    subst hx
    match ws with
    | []=>simp[ae]at el
    | w::ws=>simp[ae]at el
  ·rw[b6 hlt]; exact el) (λl kvs hl el=>by
  rw[b6 (by rintro rfl; rw[e]at el; cases el)]; exact el)
 refine#[xs,e,(by rw[Jf]; omega),#[xs++[w],bT e,by simp; omega,λx hx=>?_],∅,∅,(fl.ka k).own ∅,(kp.trans (k.kp r)).late lt,lt,rlt]
 rcases IY.mp hx with hx|hx
 ·exact stay x ((h3 x hx).ka k)
 ·rw[Ir.mp hx]; exact stay w hw
theorem qw (bs:HK Ik)(L:HK AY)(most:Ik){fuel:HW}{S0:aa}{r t m:HW}{x0:HU W}{K:Fm->aa->Prop}{Q:QO}(h:Menu S0 S r t m)(hm:m < 9)(h1:bs∈KB)(h2:1<=most/\most<=3/\most*bs.length<=6)(hL:∀e∈L,tD bs.length e=true)(h4:L.length<=4)(k:∀S',Menu S0 S' r t (m+1)->K [x0,ba (.ref t)] S') :
  wS Φ fuel (.ex (.me .append (.v 1) #v[yp bs L most])) [x0,ba (.ref t)] S K Q:=by
 dsimp only[wS,wE,wA,wV,wG];obtain⟨xs,e1,e2,e3⟩:=h.at_t;refine#[dX e1,ou bs L most (Jh h.lt (Lp (dY e1))) h1 h2 hL h4 λw S' k1 k2=>?_]
 obtain⟨xs',f1,f2,f3⟩:=qv h k1 k2 hm;exact ag (xL f1 f2) (k _ f3)
theorem lG {defs:HK (Iv×Df)}{fuel d:HW}{r:HW}{Q:QW}(G:Gen defs)(hf:Fl S r)(k:∀w S',KindOk S' S.length w->Fl S' r->Kp r S S'->Q (w,S')):wO (bD (aq defs fuel (d+2)) "_law_laying_kind" 1 [.ref r] S) Q:=by
 refine aN G.laying_kind rfl rfl λQ' hR=>?_
 replace k:∀w S',KindOk S' S.length w->Fl S' r->Kp r S S'->Q' (.rt w,S'):=λz S' a b c=>hR _ _ (k z S' a b c)
 clear hR;show wZ _ _ bW [ba (.ref r),K3] S Q';have hrt:=hf.lt;unfold bW;refine bq λK hK=>?_
 refine Fu ?_;rw[wE,wA];refine ou [1,0] [(0,0,[0])] 3 (b:=S.length) (Ih _) #v[] #v[] #v[] #v[] λw1 S1 k1 a1=>?_
 rw[wA];refine ou [0,2,1] [(1,1,[1])] 2 (b:=S.length) a1.len #v[] #v[] #v[] #v[] λw2 S2 k2 a2=>?_
 have a12:=a1.trans a2;rw[wA];refine ou [0,1] [(1,1,[1])] 3 (b:=S.length) a12.len #v[] #v[] #v[] #v[] λw3 S3 k3 a3=>?_
 have a13:=a12.trans a3;rw[wA];refine hK _ _ ?_;clear hK K;have m3:Menu S (S3++[O.lst [w1,w2,w3]]) r S3.length 3:=by
  refine#[#[[w1,w2,w3],ah,rfl,λx hx=>?_],#v[],#v[],(hf.ka a13).ka .push,(a13.trans .push).kp r,a13.len,hrt]
  rcases IE.mp hx with rfl|hx
  ·exact(k1.ka (a2.trans a3)).ka .push
  ·rcases IE.mp hx with rfl|hx
   ·exact(k2.ka a3).ka .push
   ·rw[Ir.mp hx];exact k3.ka .push
 dsimp only[Iq];clear k1 k2 k3 a1 a2 a3 a12 a13;generalize S3.length=t at m3;generalize S3++[O.lst [w1,w2,w3]]=S3' at m3;refine bq λK hK=>qw [0,1] [(1,1,[1]),(0,0,[1])] 3 m3 #v[] #v[] #v[] #v[] #v[] λS4 m4=>hK _ _ ?_
 refine bq λK hK=>qw [0,1] [(1,1,[])] 1 m4 #v[] #v[] #v[] #v[] #v[] λS5 m5=>hK _ _ ?_
 refine bq λK hK=>qw [0,2,1] [(0,0,[0]),(0,1,[1]),(1,0,[1]),(1,1,[1])] 2 m5 #v[] #v[] #v[] #v[] #v[] λS6 m6=>hK _ _ ?_
 refine bq λK hK=>?_
 dsimp only[wS,wE,wA,wV,wG];obtain⟨xs,e1,e2,e3⟩:=m6.at_t;obtain⟨xs',f1,f2,m7⟩:=qv (S':=S6++[O.dic []]) (w:=.tup [.tup (ae [1,0]),.ref S6.length,.int 3]) m6 #[[1,0],S6.length,[],3,rfl,#v[],#v[],#v[],#v[],ah,m6.kp.len,#v[],λ_ h=>(nomatch h)] .push #v[]
 refine#[dX e1,ag (xL f1 f2) (hK _ _ ?_)];refine bq λK hK=>qw [0,1,2] [(2,2,[2]),(1,2,[1]),(2,1,[1]),(1,1,[1,2])] 2 m7 #v[] #v[] #v[] #v[] #v[] λS8 m8=>hK _ _ ?_
 refine bq λK hK=>qw [0,1,2] [(0,0,[0,1])] 2 m8 #v[] #v[] #v[] #v[] #v[] λS9 m9=>hK _ _ ?_
 refine st ?_;dsimp only[wS,wE,wA,wV,wG];refine aX (d:=d) G.pick m9.fl #v[] #v[] λv S10 v0 v9 f10 k10=>?_
 obtain⟨xs,g1,g2,g3⟩:=m9.at_t;have hlt:=m9.lt;have hv:v.toNat < xs.length:=∅
 exact iu (k10.get _ _ ∅ g1) v0 (Ic hv) (k _ _ ((g3 _ (Jg hv)).mono (λl ws hl e=>k10.get _ _ ∅ e) (λl ws hl e=>k10.get _ _ ∅ e)) f10 (m9.kp.trans k10))
end
noncomputable def qx (bs:HK Ik):HK (HK Ik):=if bs=[0,1,2]then[[0,1,2],[0,2,1],[1,0,2],[1,2,0],[2,0,1],[2,1,0]]else if bs.length=2 then[[0,1],[1,0]]else[[0,1,2],[0,2,1],[2,0,1],[2,1,0]]
noncomputable def gD (bs nm:HK Ik):HW->HK Ik
 | 0=>IW bs.length 0
 | k+1=>(gD bs nm k).set (nm.getD k 0).toNat (nm.getD (bs.getD k 0).toNat 0)
theorem ja (bs nm:HK Ik):∀k,(gD bs nm k).length=bs.length
 | 0=>by simp[gD]
 | k+1=>by simp[gD,ja bs nm k]
theorem AZ:∀bs∈KB,∀nm∈qx bs,nm.length=bs.length/\(∀x∈nm,0<=x/\x < (bs.length:Ik))/\(∀x∈bs,0<=x/\x < (bs.length:Ik))/\GoodB (gD bs nm bs.length):=by
 unfold GoodB;decide +kernel
theorem yq:∀bs∈KB,(bs.length=2\/bs.length=3)/\0 < (qx bs).length/\(qx bs).length < 10:=by decide
section
variable{Φ:Iv->FF}{fuel:HW}{ρ:Fm}{S:aa}{K:Fm->aa->Prop}{Q:QO}
theorem A6 {tg:Tg}{e:E}{b:Ss}(r:HW)(kvs:HK (T×W))(I:HW->Fm->aa->Prop)(oe:d8 e=true)(ok:io b=true)(he:wE Φ e ρ S λp=>p.1=.ref r/\p.2[r]?=ba (.dic kvs)/\I 0 ρ (p.2.set r (.frd kvs)))
  (hstep:∀(i:HW) (p:T×W) (ρ:Fm) (S:aa),kvs[i]?=ba p->I i ρ S->wO (iM tg p.1.w ρ S) λq=>yQ Φ fuel b q.1 q.2 (I (i+1)) Q) (hend:∀ρ S,I kvs.length ρ S->K ρ S):Wp (gk Φ fuel (.loop tg (.seq e) b) ρ S) (sX K Q):=by
 obtain⟨w,S1,e1,rfl,e2,h0⟩:=cz oe he;refine kJ (mi:=.its (kvs.map λp=>p.1.w)) (S1:=S1.set r (.frd kvs)) (xs:=kvs.map λp=>p.1.w) I ok (by simp only[ly,fm,e1,nY e2,da e2]) (λ_ _ _ _=>rfl) rfl h0 (λi w ρ S hw hI=>?_) λρ S hI=>hend ρ S (by rwa [HN]at hI)
 rw[HY,HS]at hw;obtain⟨p,hp,rfl⟩:=hw;exact hstep i p ρ S hp hI
end
section
variable{defs:HK (Iv×Df)}{fuel d:HW}{S:aa}{r:HW}{Q:QW}
theorem Fz {i n:HW}{x:W}(h:S[i]?=ba (.lst [x]))(hn:n<=1000)(q:Q (.ref S.length,S++[.lst (IW n x)])):wO (fB .mul (.ref i) (.int (n:Ik)) S) Q:=by
 refine ag ?_ q;have:n<=sizeLine:=jA hn;simp only[fB,vP,eh h];rw[Ix #[∅,∅,by simpa using this]]
 unfold lB;simp[this]
theorem mV {q:HW}{kvs:HK (T×W)}{u v:Ik}{w:W}(h:jn S q=ba kvs)(hg:cx kvs (bO u v)=ba w):qJ (.ref q) (.tup [.int u,.int v]) S=ba (w,S):=by
 have hk:gf (.tup [.int u,.int v])=ba (bO u v):=iC;simp only[qJ,h,hk,hg,IZ]
theorem yr {q:HW}{kvs:HK (T×W)}{u v:Ik}{w:W}(h:S[q]?=ba (.dic kvs))(hl:kvs.length < sizeLine):ic (.ref q) (.tup [.int u,.int v]) w S=ba (S.set q (.dic (eA kvs (bO u v) w))):=by
 have hk:gf (.tup [.int u,.int v])=ba (bO u v):=iC;simp only[ic,nH,h,hk];rw[Ix hl]
theorem jb {xs:HK Ik}{x:Ik}(h0:0<=x)(h1:x.toNat < xs.length):(ae xs)[x.toNat]?=ba (.int (xs.getD x.toNat 0)):=by
 unfold ae;rw[HY,au (d:=0) h1]; rfl
theorem fK {xs:HK Ik}{i:HW}(h:i < xs.length):xs.getD i 0∈xs:=Ip (au (d:=0) h)
theorem lH (G:Gen defs){Q:QO}{bs:HK Ik}{x0 x2:HU W}(hb:bs∈KB)
  (hk:∀(m s:HW) (S':aa),Ka S S'->S'[s]?=ba (.lst ((qx bs).map λnm=>W.tup (ae nm)))->S.length<=s->wZ (aq defs fuel (d+1)) fuel (dr 5 bE) [x0,ba (.tup (ae bs)),x2,ba (.int bs.length),ba (.ref m),ba (.ref s),K3,K3,K3,K3,K3,K3] S' Q) :
  wZ (aq defs fuel (d+1)) fuel bE [x0,ba (.tup (ae bs)),x2,K3,K3,K3,K3,K3,K3,K3,K3,K3] S Q:=by
 generalize hd5:dr 5 bE=bK at hk;unfold bE at hd5 ⊢;dsimp only[dr]at hd5;rw[hd5];clear hd5;refine bq λK hK=>?_
 dsimp only[wS,wE,wA,wV,wG,Iq];refine cN ?_;rw[show(ae bs).length=bs.length from HN ..]
 refine hK _ _ ?_;clear hK K;refine bq λK hK=>?_
 dsimp only[wS,wE,wA,wV,wG,Iq];have hm:(((S++[O.lst [.tup [.int 0]]])++[O.lst [.tup [.int 0,.int 1],.tup [.int 1,.int 0]]])++[O.lst [.ref S.length,.ref (S++[O.lst [.tup [.int 0]]]).length]])[((S++[O.lst [.tup [.int 0]]])++[O.lst [.tup [.int 0,.int 1],.tup [.int 1,.int 0]]]).length]?=ba (.lst [.ref S.length,.ref (S++[O.lst [.tup [.int 0]]]).length]):=ah;refine hK _ _ ?_;clear hK K;generalize hS1:S++[O.lst [.tup [.int 0]]]=S1 at hm ⊢;generalize hS2:S1++[O.lst [.tup [.int 0,.int 1],.tup [.int 1,.int 0]]]=S2 at hm ⊢;generalize hS3:S2++[O.lst [.ref S.length,.ref S1.length]]=S3 at hm ⊢;have l1:S1.length=S.length+1:=by rw[<- hS1]; simp
 have l2:S2.length=S1.length+1:=by rw[<- hS2]; simp
 have l3:S3.length=S2.length+1:=by rw[<- hS3]; simp
 have kS2:Ka S S2:=by rw[<- hS2,<- hS1]; exact Ka.push.trans .push
 refine bq λK hK=>?_
 dsimp only[wS,wE,wA,wV,wG,Iq];refine#[dX hm,kK (aw hm) (by decide:2 < 1000) (hK _ _ ?_)]
 clear hK K;generalize hS5:(S3++[O.lst [.tup [.int 0,.int 1,.int 2],.tup [.int 0,.int 2,.int 1],.tup [.int 2,.int 0,.int 1],.tup [.int 2,.int 1,.int 0]]]).set S2.length (.lst ([.ref S.length,.ref S1.length]++[.ref S3.length]))=S5;have k5:Ka S S5:=by
  rw[<- hS5,<- hS3];exact Ka.late (kS2.trans (Ka.push.trans .push)) ∅
 have m5:S5[S2.length]?=ba (.lst [.ref S.length,.ref S1.length,.ref S3.length]):=by
  rw[<- hS5]; exact bT (aw hm)
 have p5:S5[S1.length]?=ba (.lst [.tup [.int 0,.int 1],.tup [.int 1,.int 0]]):=by
  rw[<- hS5,b6 ∅,<- hS3,<- hS2]
  exact aw (aw ah)
 have t5:S5[S3.length]?=ba (.lst [.tup [.int 0,.int 1,.int 2],.tup [.int 0,.int 2,.int 1],.tup [.int 2,.int 0,.int 1],.tup [.int 2,.int 1,.int 0]]):=by
  rw[<- hS5,b6 ∅]
  exact ah
 have h1:S.length<=S1.length:=∅
 have h3:S.length<=S3.length:=∅
 clear hS1 hS2 hS3 hS5 hm l1 l2 l3 kS2;refine bq λK hK=>?_
 dsimp only[wS,wE,wA,wV,wG,Iq,BG,aU];have hb':bs=[1,0]\/bs=[0,2,1]\/bs=[0,1]\/bs=[0,1,2]:=by simpa [KB]using hb
 rcases hb' with rfl|rfl|rfl|rfl
 ·refine d4 (i:=1) m5 rfl (hK _ _ (bq λK hK=>cY (λQ q=>q) (hK _ _ (hk _ _ _ k5 p5 h1))))
 ·refine d4 (i:=2) m5 rfl (hK _ _ (bq λK hK=>cY (λQ q=>q) (hK _ _ (hk _ _ _ k5 t5 h3))))
 ·refine d4 (i:=1) m5 rfl (hK _ _ (bq λK hK=>cY (λQ q=>q) (hK _ _ (hk _ _ _ k5 p5 h1))))
 ·refine d4 (i:=2) m5 rfl (hK _ _ (bq λK hK=>qg (λQ q=>q) λQ2 hn _=>?_))
  refine st ?_;dsimp only[wS,wE,wA,wV,wG,Iq];exact og (d:=d) G (dv (hn _ _ (hK _ _ (hk _ _ _ (k5.trans .push) ah k5.len))))
theorem rQ (G:Gen defs){S0:aa}{bs:HK Ik}{q:HW}{kvs:HK (T×W)}(hb:bs∈KB)(hf:Fl S r)(hr:r < S0.length)(kp:Kp r S0 S)(hq:S[q]?=ba (.dic kvs))(hq0:S0.length<=q)(h4:kvs.length<=4)(hm:MustE S bs.length S0.length kvs)
  (k:∀(bs':HK Ik) (q':HW) (kvs':HK (T×W)) S',GoodB bs'->bs'.length=bs.length->S'[q']?=ba (.dic kvs')->S0.length<=q'->MustE S' bs.length S0.length kvs'->Fl S' r->Kp r S0 S'->Q (.tup [.tup (ae bs'),.ref q'],S')) :
  wO (bD (aq defs fuel (d+2)) "_law_numbered" 3 [.ref r,.tup (ae bs),.ref q] S) Q:=by
 refine aN G.numbered rfl rfl λQ' hR=>?_
 replace k:∀(bs':HK Ik) (q':HW) (kvs':HK (T×W)) S',GoodB bs'->bs'.length=bs.length->S'[q']?=ba (.dic kvs')->S0.length<=q'->MustE S' bs.length S0.length kvs'->Fl S' r->Kp r S0 S'->Q' (.rt (.tup [.tup (ae bs'),.ref q']),S'):=λa b c e f g h i j l m=>hR _ _ (k a b c e f g h i j l m)
 clear hR;refine lH (d:=d) G hb ?_;intro m s S1 k1 e1 hs;dsimp only[dr,bE];have hrt:=hf.lt;obtain⟨hb1,hb2,hb3⟩:=yq bs hb;refine bq λK hK=>?_
 dsimp only[wS,wE,wA,wV,wG,Iq];refine fJ e1 ?_;rw[HN];refine aX (d:=d) G.pick (hf.ka k1) ∅ ∅ λv S2 v0 v1 f2 k2=>?_
 obtain⟨nm,hnmm,enm⟩:=kN (f:=λnm=>W.tup (ae nm)) (xs:=qx bs) (i:=v.toNat) ∅
 obtain⟨n1,n2,n3,n4⟩:=AZ bs hb nm hnmm;refine iu (k2.get _ _ ∅ e1) v0 enm (hK _ _ ?_)
 clear hK K;refine bq λK hK=>?_
 dsimp only[wS,wE,wA,wV,wG,Iq];refine Fz ah ∅ (hK _ _ ?_)
 clear hK K;generalize hS4:S2++[O.lst [.int 0]]=S4;have k24:Ka S2 S4:=hS4 ▸ .push;have f4:Fl S4 r:=f2.ka k24;have kp4:Kp r S0 S4:=(kp.trans (k1.kp r)).trans (k2.trans (k24.kp r));have q4:S4[q]?=ba (.dic kvs):=k24.get _ _ (k2.get _ _ ∅ (k1.get _ _ hq))
 have m4:MustE S4 bs.length S0.length kvs:=((hm.ka k1).kp hr k2).ka k24;clear hS4 k24 hm hq f2 k2 k1 e1 enm hf;refine bq λK hK=>?_
 refine dG (bs.length:Ik) (λk ρ S'=>(∃x8,ρ=[ba (.ref r),ba (.tup (ae bs)),ba (.ref q),ba (.int bs.length),ba (.ref m),ba (.ref s),ba (.tup (ae nm)),ba (.ref S4.length),x8,K3,K3,K3])/\S'[S4.length]?=ba (.lst (ae (gD bs nm k)))/\Ka S4 S') rfl rfl ∅ #[rfl,#[_,rfl],?_,.push] ?_ ?_
 ·rw[ah]; simp[gD,ae]
 ·rintro i ρ S5 hi ⟨⟨x8,rfl⟩,e5,k5⟩ Q2 hn _;clear hK k;have hi':i < bs.length:=∅
  have hi1:i < nm.length:=∅
  have c:=n3 _ (fK hi');have c2:=n2 _ (fK hi1);refine st ?_;dsimp only[wS,wE,wA,wV,wG,Iq];refine aA (IH i) (jb (IH i) hi') (aA c.1 (jb c.1 (by rw[Iu]; omega)) (aA (IH i) (jb (IH i) hi1) ?_))
  rw[Iu];refine ag (BJ e5 c2.1 (by rw[show(ae (gD bs nm i)).length=_ from HN ..,ja]; omega)) (dv (hn _ _ #[#[_,rfl],?_,k5.late (Ih _)]))
  rw[bT e5];unfold ae;rw[gD,List.map_set]
 ·rintro ρ S5 ⟨⟨x8,rfl⟩,e5,k5⟩;rw[Iu]at e5;refine hK _ _ (st ?_);clear hK K;dsimp only[wS,wE,Iq];have f5:Fl S5 r:=f4.ka k5;have q5:S5[q]?=ba (.dic kvs):=k5.get _ _ q4;have m5:MustE S5 bs.length S0.length kvs:=m4.ka k5;have kp5:Kp r S0 S5:=kp4.trans (k5.kp r);have hq5:=dY q5;have ht5:=dY e5;have hqt:q≠S4.length:=by rintro rfl; rw[e5]at q5; cases q5
  have hn9:(bs.length:Ik)<=3:=∅
  have hr5:=f5.lt;clear k5 m4 q4 f4;refine bq λK hK=>?_
  refine A6 q kvs (λk ρ S'=>(∃x10 x11,ρ=[ba (.ref r),ba (.tup (ae bs)),ba (.ref q),ba (.int bs.length),ba (.ref m),ba (.ref s),ba (.tup (ae nm)),ba (.ref S4.length),x8,ba (.ref S5.length),x10,x11])/\S'[q]?=ba (.frd kvs)/\MustE S' bs.length S0.length kvs/\S'[S4.length]?=ba (.lst (ae (gD bs nm bs.length)))/\(∃kvs',S'[S5.length]?=ba (.dic kvs')/\kvs'.length<=k/\MustE S' bs.length S0.length kvs')/\Fl S' r/\Kp r S0 S') rfl rfl #[rfl,aw q5,#[K3,K3,rfl],bT (aw q5),(m5.ka .push).set (aw q5),?_,#[[],?_,Ih _,λ_ h=>(nomatch h)],(f5.ka .push).own ∅,(kp5.trans .push).late hq0] ?_ ?_
  ·rw[b6 hqt]; exact aw e5
  ·rw[b6 ∅]; exact ah
  ·rintro i p ρ S6 hp ⟨⟨x10,x11,rfl⟩,q6,m6,t6,⟨kvs',o6,l6,mm6⟩,f6,kp6⟩;clear hK k;have hpm:=Ip hp;have hil:=(HZ.mp hp).1;obtain⟨u,v',l,ws,rfl,hu,hv',hl,hws,hl3,hw3⟩:=m6 p hpm;obtain⟨g,hg⟩:=AX hpm;obtain⟨u2,v2,l2,ws2,he2,_,_,hl2,hws2,hl32,hw32⟩:=m6 _ (qt hg);injection he2 with _ he2
   subst he2;have hul:u.toNat < nm.length:=∅
   have hvl:v'.toNat < nm.length:=∅
   refine ag (show iM (.tp [10,11]) (bO u v',W.ref l).1.w [ba (.ref r),ba (.tup (ae bs)),ba (.ref q),ba (.int bs.length),ba (.ref m),ba (.ref s),ba (.tup (ae nm)),ba (.ref S4.length),x8,ba (.ref S5.length),x10,x11] S6=ba ([ba (.ref r),ba (.tup (ae bs)),ba (.ref q),ba (.int bs.length),ba (.ref m),ba (.ref s),ba (.tup (ae nm)),ba (.ref S4.length),x8,ba (.ref S5.length),ba (.int u),ba (.int v')],S6)from rfl) λQ2 hn _=>?_
   refine st ?_;dsimp only[wS,wE,wA,wV,wG,Iq];refine sZ l2 (ae ws2) (λi zs ρ2 S7=>(∃a1,ρ2=[K3,a1,ba (.tup (ae nm))])/\zs=ae ((ws2.take i).map λw=>nm.getD w.toNat 0)/\S7=S6) rfl rfl rfl ?_ ?_ ?_ ?_
   ·dsimp only[wE,wA,wV,wG];exact ag (mV (AL q6) hg) #[rfl,#[_,rfl],rfl,rfl]
   ·rintro i zs ρ2 S7 ⟨_,_,rfl⟩;exact hws2
   ·rintro i w zs ρ2 S7 hw ⟨⟨a1,rfl⟩,rfl,rfl⟩;unfold ae at hw;rw[HY,HS]at hw;obtain⟨x,hx,rfl⟩:=hw;obtain⟨x0,x1⟩:=hw32 x (Ip hx);have hxl:x.toNat < nm.length:=∅
    refine ag (show iM (.nm 1) (.int x) [K3,a1,ba (.tup (ae nm))] S7=ba ([K3,ba (.int x),ba (.tup (ae nm))],S7)from rfl) ?_
    dsimp only[ju,wC,wE,wA,wV,wG];refine#[λ_=>aA x0 (jb x0 hxl) #[#[_,rfl],?_,rfl],λz=>by cases z]
    rw[Jd,hx];simp[ae]
   ·rintro zs ρ2 S7 ⟨_,rfl,rfl⟩;rw[show(ae ws2).length=ws2.length from HN ..,Jy]
    refine#[jA (by simp[ae]; omega),aA hu.1 (jb hu.1 hul) (aA hv'.1 (jb hv'.1 hvl) ?_)]
    refine ag (yr (aw o6) (by rw[Jf]; omega)) (dv (hn _ _ #[#[_,_,rfl],?_,(m6.ka .push).set (aw o6),?_,#[_,bT (aw o6),?_,?_],(f6.ka .push).own ∅,(kp6.trans .push).late kp5.len]))
    ·rw[b6 ∅]; exact aw q6
    ·rw[b6 ∅]; exact aw t6
    ·exact Jh (dj ..) (L4 l6)
    ·refine((mm6.ka .push).put (n2 _ (fK hul)) (n2 _ (fK hvl)) kp6.len ah (by simp; omega) ?_).set (aw o6)
     intro w hw;obtain⟨x,hx,rfl⟩:=II.mp hw;obtain⟨x0,x1⟩:=hw32 x hx;exact n2 _ (fK ∅)
  ·rintro ρ S6 ⟨⟨x10,x11,rfl⟩,q6,m6,t6,⟨kvs',o6,l6,mm6⟩,f6,kp6⟩;refine hK _ _ (st ?_);dsimp only[wS,wE,wA,wV,wG];exact dt t6 (k _ _ kvs' _ n4 (ja _ _ _) o6 kp5.len mm6 f6 kp6)
end
noncomputable def uX (x y z:Ik):HK (T×W):=[(bO 1 0,.int x),(bO 2 0,.int y),(bO 2 1,.int z)]
noncomputable def A7 (x y z a b c:Ik):HW->HK (T×W)
 | 0=>uX x y z
 | 1=>uX x y z++[(bO 0 1,.int a)]
 | 2=>uX x y z++[(bO 0 1,.int a),(bO 0 2,.int b)]
 | _=>uX x y z++[(bO 0 1,.int a),(bO 0 2,.int b),(bO 1 2,.int c)]
theorem Du {n x y z a b c:Ik}(hx:0<=x/\x < n)(hy:0<=y/\y < n)(hz:0<=z/\z < n)(ha:0<=a/\a < n)(hb:0<=b/\b < n)(hc:0<=c/\c < n):∀i j:HW,i < 3->j < 3->i≠j->∃p:Ik,cx (A7 x y z a b c 3) (bO i j)=ba (.int p)/\0<=p/\p < n:=by
 intro i j hi hj hij
 match i,j,hi,hj,hij with
 | 0,0,_,_,h=>exact absurd rfl h
 | 0,1,_,_,_=>exact#[a,by rfl,ha]
 | 0,2,_,_,_=>exact#[b,by rfl,hb]
 | 1,0,_,_,_=>exact#[x,by rfl,hx]
 | 1,1,_,_,h=>exact absurd rfl h
 | 1,2,_,_,_=>exact#[c,by rfl,hc]
 | 2,0,_,_,_=>exact#[y,by rfl,hy]
 | 2,1,_,_,_=>exact#[z,by rfl,hz]
 | 2,2,_,_,h=>exact absurd rfl h
theorem qz:∀t∈br,t.length=3/\t.getD 0 0 < 3/\t.getD 1 0 < 3/\t.getD 2 0 < 3/\t.getD 0 0≠t.getD 1 0/\t.getD 1 0≠t.getD 2 0/\t.getD 0 0≠t.getD 2 0:=by decide
theorem yt {t:HK HW}(h:t∈br):∃i j k:HW,t=[i,j,k]/\i < 3/\j < 3/\k < 3/\i≠j/\j≠k/\i≠k:=by
 obtain⟨h1,h2⟩:=qz t h
 match t,h1,h2 with
 | [i,j,k],_,h2=>exact#[i,j,k,rfl,h2]
section
variable{defs:HK (Iv×Df)}{fuel d:HW}{S:aa}{r:HW}{Q:QW}
theorem yu {l:HW}{f:Ik}{ws:HK Ik}(h:S[l]?=ba (.lst (ae ws))):∃b,eR .notin (.int f) (.ref l) S=ba (.bl b,S):=by
 have hf:(cK (.int f)&&(ae ws).all cK)=true:=by
  simp only[cK,L8,IC];intro x hx;obtain⟨z,_,rfl⟩:=II.mp hx;rfl
 refine#[!(ae ws).any λz=>zG z (.int f),?_]
 simp only[eR,nX h,j6,EA,CB,ff,aT h,hf,Kb,IZ]
theorem Dv {q:HW}{kvs:HK (T×W)}(h:S[q]?=ba (.dic kvs)):tyOk "dict" S (.ref q)=true:=by simp[tyOk,da h]
theorem Ba {q:HW}{kvs:HK (T×W)}(h:S[q]?=ba (.dic kvs))(k:Q (.ref S.length,S++[.lst (kvs.map λp=>p.1.w)])):wO (Bi.list.fn [.ref q] S) Q:=by
 refine ag ?_ k;have h1:uk S q=K3:=by simp[uk,h]
 have h2:jm [.ref q] S=K3:=by simp[jm,h1,g7,ff,nY h]
 simp only[Bi.fn,AC,h2,mz,da h]
theorem yv (G:Gen defs){bs:HK Ik}{q b0:HW}{kvs:HK (T×W)}{x y z:Ik}(hb:GoodB bs)(hx:0<=x/\x < bs.length)(hy:0<=y/\y < bs.length)(hz:0<=z/\z < bs.length)(hq:S[q]?=ba (.dic kvs))(hm:MustE S bs.length b0 kvs)
  (k:∀b S',Ka S S'->Q (.bl b,S')):wO (bD (aq defs fuel (d+2)) "_law_breaks" 5 [.tup (ae bs),.ref q,.int x,.int y,.int z] S) Q:=by
 refine aN G.breaks rfl rfl λQ' hR=>?_
 replace k:∀b S',Ka S S'->Q' (.rt (.bl b),S'):=λa b c=>hR _ _ (k a b c)
 clear hR;show wZ _ _ dI [ba (.tup (ae bs)),ba (.ref q),ba (.int x),ba (.int y),ba (.int z),K3,K3,K3,K3,K3] S Q';obtain⟨a,ha1,ha⟩:=hb.rng x.toNat ∅
 obtain⟨b,hb1,hb2⟩:=hb.rng y.toNat ∅
 obtain⟨c,hc1,hc⟩:=hb.rng z.toNat ∅
 have hqt:=dY hq;unfold dI;refine bq λK hK=>?_
 dsimp only[wS,wE,wA,wV,wG,Iq];refine#[ah,ag (show dy [] [.tup [.int 1,.int 0],.int x,.tup [.int 2,.int 0],.int y,.tup [.int 2,.int 1],.int z]=ba (uX x y z)from rfl) (hK _ _ ?_)]
 clear hK K;have e1:((S++[O.dic []]).set S.length (.dic (uX x y z)))[S.length]?=ba (.dic (uX x y z)):=bT ah;have k1:Ka S ((S++[O.dic []]).set S.length (.dic (uX x y z))):=Ka.push.late (Ih _);have l1:((S++[O.dic []]).set S.length (.dic (uX x y z))).length=S.length+1:=by simp
 generalize(S++[O.dic []]).set S.length (.dic (uX x y z))=S1 at e1 k1 l1 ⊢;refine bq λK hK=>?_
 refine kS rfl rfl ?_;dsimp only[wE,wA,wV,wG];refine Ba e1 #[S1.length,[du 1 0,du 2 0,du 2 1],(λk ρ S'=>(∃x6,ρ=[ba (.tup (ae bs)),ba (.ref q),ba (.int x),ba (.int y),ba (.int z),ba (.ref S.length),x6,K3,K3,K3])/\S'[S.length]?=ba (.dic (A7 x y z a b c k))/\S'[S1.length]?=ba (.lst [du 1 0,du 2 0,du 2 1])/\Ka S S'),rfl,#[#[_,rfl],aw e1,ah,k1.trans .push],λi ρ S' h=>h.2.2.1,?_,?_]
 ·have step:∀(u v f g:Ik) (kv kv':HK (T×W)) (S':aa) (i:HW),cx kv (bO u v)=ba (.int f)->0<=f->bs[f.toNat]?=ba g->kv.length < 10->eA kv (bO v u) (.int g)=kv'->A7 x y z a b c (i+1)=kv'->∀x6:HU W,S'[S.length]?=ba (.dic kv)->S'[S1.length]?=ba (.lst [du 1 0,du 2 0,du 2 1])->Ka S S'->
    wO (iM (.nm 6) (du u v) [ba (.tup (ae bs)),ba (.ref q),ba (.int x),ba (.int y),ba (.int z),ba (.ref S.length),x6,K3,K3,K3] S') λp=>yQ (aq defs fuel (d+1)) fuel #v[.put (.v 5) (.tup #v[.ix (.v 6) (.c (.int 1)),.ix (.v 6) (.c (.int 0))]) (.ix (.v 0) (.ix (.v 5) (.v 6)))] p.1 p.2 (λρ S'=>(∃x6,ρ=[ba (.tup (ae bs)),ba (.ref q),ba (.int x),ba (.int y),ba (.int z),ba (.ref S.length),x6,K3,K3,K3])/\S'[S.length]?=ba (.dic (A7 x y z a b c (i+1)))/\S'[S1.length]?=ba (.lst [du 1 0,du 2 0,du 2 1])/\Ka S S') Q':=by
   clear hK k;intro u v f g kv kv' S' i h1 h2 h3 h4 h5 h6 x6 e e' k;refine ag (show iM (.nm 6) (du u v) [ba (.tup (ae bs)),ba (.ref q),ba (.int x),ba (.int y),ba (.int z),ba (.ref S.length),x6,K3,K3,K3] S'=ba ([ba (.tup (ae bs)),ba (.ref q),ba (.int x),ba (.int y),ba (.int z),ba (.ref S.length),ba (du u v),K3,K3,K3],S')from rfl) λQ2 hn _=>?_
   refine st ?_;dsimp only[wS,wE,wA,wV,wG];refine ag (mV (da e) h1) (aA h2 (w:=.int g) (by unfold ae; rw[HY,h3]; rfl) (aA #v[] rfl (aA #v[] rfl ?_)))
   refine ag (yr e (by rw[Jf]; omega)) (dv (hn _ _ #[#[_,rfl],?_,?_,k.late (Ih _)]))
   ·rw[bT e,h5,h6]
   ·rw[b6 ∅]; exact e'
  rintro i w ρ S2 hw ⟨⟨x6,rfl⟩,e2,l2,k2⟩
  match i,hw,e2 with
  | 0,hw,e2=>cases hw; exact step 1 0 x a _ _ S2 0 (by rfl) hx.1 ha1 (by simp[A7,uX]) (by rfl) (by rfl) x6 e2 l2 k2
  | 1,hw,e2=>cases hw; exact step 2 0 y b _ _ S2 1 (by rfl) hy.1 hb1 (by simp[A7,uX]) (by rfl) (by rfl) x6 e2 l2 k2
  | 2,hw,e2=>cases hw; exact step 2 1 z c _ _ S2 2 (by rfl) hz.1 hc1 (by simp[A7,uX]) (by rfl) (by rfl) x6 e2 l2 k2
  | n+3,hw,_=>simp at hw
 ·rintro ρ S2 ⟨⟨x6,rfl⟩,e2,l2,k2⟩;have hv:=Du hx hy hz ha hb2 hc;have e2:S2[S.length]?=ba (.dic (A7 x y z a b c 3)):=e2;refine hK _ _ ?_;clear hK K;have hlt2:=dY e2;refine bq λK hK=>?_
  refine kS rfl rfl ?_;dsimp only[wE,wA,wV,wG];refine og (d:=d) G #[S2.length,br.map (λt=>W.tup (am t)),(λk ρ S'=>(∃x7 x8 x9,ρ=[ba (.tup (ae bs)),ba (.ref q),ba (.int x),ba (.int y),ba (.int z),ba (.ref S.length),x6,x7,x8,x9])/\S'[S.length]?=ba (.dic (A7 x y z a b c 3))/\S'[S2.length]?=ba (.lst (br.map (λt=>W.tup (am t))))/\Ka S S'),rfl,#[#[_,_,_,rfl],aw e2,ah,k2.trans .push],λi ρ S' h=>h.2.2.1,?_,?_]
  ·rintro i w ρ S3 hw ⟨⟨x7,x8,x9,rfl⟩,e3,l3,k3⟩;clear hK;rw[HY,HS]at hw;obtain⟨t,ht,rfl⟩:=hw;obtain⟨i1,j1,h1,rfl,hi1,hj1,hh1,n1,n2,n3⟩:=yt (Ip ht);obtain⟨p1,g1,r1⟩:=hv i1 j1 hi1 hj1 n1;obtain⟨p2,g2,r2⟩:=hv j1 h1 hj1 hh1 n2;obtain⟨p3,g3,r3⟩:=hv i1 h1 hi1 hh1 n3;have q3:=k3.get _ _ hq;refine ag (show iM (.tp [7,8,9]) (W.tup (am [i1,j1,h1])) [ba (.tup (ae bs)),ba (.ref q),ba (.int x),ba (.int y),ba (.int z),ba (.ref S.length),x6,x7,x8,x9] S3=ba ([ba (.tup (ae bs)),ba (.ref q),ba (.int x),ba (.int y),ba (.int z),ba (.ref S.length),x6,ba (.int i1),ba (.int j1),ba (.int h1)],S3)from rfl) λQ2 hn hr=>?_
   refine bq λK hK=>?_
   dsimp only[wS,wT,wE,wA,wV,wG];refine ag (mV (da e3) g3) #[Dv q3,ag (mV (da e3) g1) (ag (mV (da e3) g2) (ag (mV (da e3) g3) ?_))];have hget:Me.get.fn (.ref q) [.tup [.int p1,.int p2],.ref S3.length] (S3++[O.lst [.int p3]])=ba ((cx kvs (bO p1 p2)).getD (.ref S3.length),S3++[O.lst [.int p3]]):=by
    have hk:gf (.tup [.int p1,.int p2])=ba (bO p1 p2):=iC;simp only[Me.fn,si,da (aw q3),hk]
   refine ag hget ?_;have hres:∃(l:HW) (ws:HK Ik),(cx kvs (bO p1 p2)).getD (.ref S3.length)=.ref l/\(S3++[O.lst [.int p3]])[l]?=ba (.lst (ae ws)):=by
    cases hg:cx kvs (bO p1 p2)with
    | none=>exact#[S3.length,[p3],rfl,ah]
    | some g=>
     obtain⟨u,v,l,ws,he,_,_,_,hl,_⟩:=(hm.ka k3) _ (qt hg);injection he with _ he
     subst he;exact#[l,ws,rfl,aw hl]
   obtain⟨l,ws,hl1,hl2⟩:=hres;dsimp only;rw[hl1];obtain⟨kb,hkb⟩:=yu (f:=p3) hl2;refine ag hkb ?_;dsimp only[wB];refine aO (Q0:=Q2) (λ_ Q3 _ hr3=>st (hr3 _ _ (hr _ _ (k _ _ (k3.trans .push))))) λ_ Q3 hn3 _=>dv (hn3 _ _ (hK _ _ (dv (hn _ _ #[#[_,_,_,rfl],aw e3,aw l3,k3.trans .push]))))
  ·rintro ρ S3 ⟨⟨x7,x8,x9,rfl⟩,e3,l3,k3⟩;exact hK _ _ (st (k _ _ k3))
end
theorem FB {a n:HW}{m0 m1 m2 x y z:Ik}(h0:0<=m0/\m0 < a)(h1:0<=m1/\m1 < a)(h2:0<=m2/\m2 < a)(hx:0<=x/\x < n)(hy:0<=y/\y < n)(hz:0<=z/\z < n):GoodW a n [(m0,[]),(m1,[x]),(m2,[y,z])]:=by
 refine#[λk p h=>?_,λk p h=>?_,λk p h=>?_] <;> match k,h with
 | 0,h=>cases h; first|exact h0|rfl|(intro w hw; cases hw)
 | 1,h=>cases h; first|exact h1|rfl|(intro w hw; rw[Ir.mp hw]; exact hx)
 | 2,h=>cases h; first|exact h2|rfl|(intro w hw; rcases IE.mp hw with e|hw <;> first|exact e ▸ hy|(rw[Ir.mp hw]; exact hz))
 | n+3,h=>simp at h
theorem Dw {Φ:Iv->FF}{ρ:Fm}{S:aa}{i n:HW}{Q:QW}(hv:∀Q:W->Prop,Q (.int n)->wV ρ i Q)(hn:n<=3)(k:∀j:Ik,0<=j->j<=27->j=(n:Ik)*n*n->Q (.int j,S)):wE Φ (.op .mul (.op .mul (.v i) (.v i)) (.v i)) ρ S Q:=by
 have b1 : -(2 ^ 64) < (n:Ik):=∅
 have b2:(n:Ik) < 2 ^ 64:=∅
 have hc:(n:Ik)*n*n<=27/\0<=(n:Ik)*n*n:=by rcases(show n=0\/n=1\/n=2\/n=3 by omega)with h|h|h|h <;> rw[h] <;> decide
 dsimp only[wE];have em:∀m:Ik,fB .mul (.int m) (.int n) S=ba (.int (m*n),S):=λm=>qf b1 b2
 generalize fB .mul=B at em ⊢;refine hv _ ?_;refine hv _ ?_;refine ag (em _) ?_;refine hv _ ?_;refine ag (em _) ?_;have:=k _ hc.2 hc.1 rfl;exact this
theorem yw {Φ:Iv->FF}{fuel:HW}{ρ:Fm}{S:aa}{K:Fm->aa->Prop}{Q:QO}{i0 i n:HW}{b:Ss}(hv:∀Q:W->Prop,Q (.int n)->wV ρ i Q)(hn:n<=3)(ok:io b=true)
  (h:∀j:Ik,0<=j->j<=27->j=(n:Ik)*n*n->∃I:HW->Fm->aa->Prop,I 0 ρ S/\(∀(i:HW) (ρ:Fm) (S:aa),(i:Ik) < j->I i ρ S->yQ Φ fuel b (ρ.set i0 (ba (.int i))) S (I (i+1)) Q)/\∀ρ S,I j.toNat ρ S->K ρ S) :
  Wp (gk Φ fuel (.loop (.nm i0) (.rng #v[.op .mul (.op .mul (.v i) (.v i)) (.v i)]) b) ρ S) (sX K Q):=
 have hw:=Dw (Φ:=Φ) (S:=S) (Q:=λp=>∃(j:Ik) (I:HW->Fm->aa->Prop),p.1=.int j/\(-(2 ^ 62)<=j/\j < 2 ^ 62)/\I 0 ρ p.2/\(∀(i:HW) (ρ:Fm) (S:aa),(i:Ik) < j->I i ρ S->yQ Φ fuel b (ρ.set i0 (ba (.int i))) S (I (i+1)) Q)/\∀ρ S,I j.toNat ρ S->K ρ S) hv hn λj j0 j27 e=>let ⟨I,h0,h1,h2⟩:=h j j0 j27 e; #[j,I,rfl,∅,h0,h1,h2]
 iB rfl ok hw
section
variable{defs:HK (Iv×Df)}{fuel d:HW}{S:aa}{r:HW}{Q:QW}
theorem yy (hfu:20 < fuel)(G:Gen defs)(hf:Fl S r)(k:∀w S',d6 w->Fl S' r->Kp r S S'->Q (w,S')):wO (bD (aq defs fuel (d+7)) "_law_laying_rule" 1 [.ref r] S) Q:=by
 refine aN G.laying_rule rfl rfl λQ' hR=>?_
 replace k:∀w S',d6 w->Fl S' r->Kp r S S'->Q' (.rt w,S'):=λz S' a b c=>hR _ _ (k z S' a b c)
 clear hR;show wZ _ _ bX [ba (.ref r),K3,K3,K3,K3,K3,K3,K3,K3,K3,K3,K3,K3,K3,K3] S Q';unfold bX;refine bq λK hK=>?_
 dsimp only[wS,wE,wA,wV,wG,Iq];refine aX (d:=d+5) G.pick hf #v[] #v[] λv S1 v0 v7 f1 k1=>hK _ _ ?_
 clear hK K;refine bq λK hK=>?_
 dsimp only[wS,wT,wE,wV,wG,im,aU,wB];refine aO (Q0:=Q') (λ_ Q2 _ hr=>?_) (λ_ Q2 hn _=>dv (hn _ _ (hK _ _ ?_)))
 ·refine st ?_;dsimp only[wS,wE,wA,wV,wG];exact qr (d:=d) hfu G f1 λw S2 a b c=>hr _ _ (k w S2 a b (k1.trans c))
 clear hK K hn;refine bq λK hK=>?_
 dsimp only[wS,wT,wE,wV,wG,im,aU,wB];refine aO (Q0:=Q') (λ_ Q2 _ hr=>?_) (λ_ Q2 hn _=>dv (hn _ _ (hK _ _ ?_)))
 ·refine st ?_;dsimp only[wS,wE,wA,wV,wG];exact uU (d:=d) hfu G f1 λw S2 a b c=>hr _ _ (k w S2 a b (k1.trans c))
 clear hK K hn;have hr1:=f1.lt;refine bq λK hK=>?_
 dsimp only[wS,wE,wA,wV,wG];refine lG (d:=d+4) G f1 λw2 S2 hw2 f2 k2=>?_
 obtain⟨bs0,q0,kvs0,most,rfl,hbs0,m1,m3,m6,hq0,hq0l,h40,hm0⟩:=hw2;dsimp only[wU];refine ag (show dS [2,3,4] [.tup (ae bs0),.ref q0,.int most] [ba (.ref r),ba (.int v),K3,K3,K3,K3,K3,K3,K3,K3,K3,K3,K3,K3,K3]=ba [ba (.ref r),ba (.int v),ba (.tup (ae bs0)),ba (.ref q0),ba (.int most),K3,K3,K3,K3,K3,K3,K3,K3,K3,K3]from rfl) (hK _ _ ?_)
 clear hK K;refine bq λK hK=>?_
 dsimp only[wS,wE,wA,wV,wG,Iq];refine aX (d:=d+5) G.pick f2 ∅ ∅ λv3 S3 v30 v3m f3 k3=>?_
 dsimp only[cX,aU];obtain⟨a,ea⟩ : ∃a:HW,1+v3=a:=#[(1+v3).toNat,∅]
 rw[ea];refine hK _ _ ?_;clear hK K;refine bq λK hK=>?_
 dsimp only[wS,wE,wA,wV,wG];refine rQ (d:=d+4) G (S0:=S1) hbs0 f3 hr1 (k2.trans k3) (k3.get _ _ ∅ hq0) hq0l h40 (hm0.kp hr1 k3) λbs q kvs S4 hb hbl hq hql hm f4 k4=>?_
 dsimp only[wU];refine ag (show dS [2,3] [.tup (ae bs),.ref q] [ba (.ref r),ba (.int v),ba (.tup (ae bs0)),ba (.ref q0),ba (.int most),ba (.int a),K3,K3,K3,K3,K3,K3,K3,K3,K3]=ba [ba (.ref r),ba (.int v),ba (.tup (ae bs)),ba (.ref q),ba (.int most),ba (.int a),K3,K3,K3,K3,K3,K3,K3,K3,K3]from rfl) (hK _ _ ?_)
 clear hK K;rw[<- hbl]at hm m6;have hn:bs.length=2\/bs.length=3:=by rw[hbl]; exact(yq bs0 hbs0).1
 have hsz:SizeOk a bs:=#[∅,hb,by
  have h1:(a:Ik)*bs.length<=most*bs.length:=Int.mul_le_mul_of_nonneg_right ∅ ∅
  exact_mod_cast Int.le_trans h1 m6,∅]
 clear m6 hm0 hq0 hq0l h40 hbl hbs0 k2 k3 f2 f3;refine bq λK hK=>?_
 dsimp only[wS,wE,wA,wV,wG,Iq];refine eZ (d:=d+1) hfu G f4 ∅ ∅ λms ns S5 hml hnl hnm f5 k5=>hK _ _ ?_
 clear hK K;have kk:Kp r S S5:=k1.trans (k4.trans k5);have hrt:=f5.lt;have hq5:S5[q]?=ba (.dic kvs):=k5.get _ _ ∅ hq
 have hm5:MustE S5 bs.length S1.length kvs:=hm.kp hr1 k5;have hqn:q < S5.length:=dY hq5;clear k1 k4 k5 f4 hm hq hql f1;refine st ?_;dsimp only[wS,wE,Iq];refine bq λK hK=>?_
 dsimp only[wS,wE,wA,wV,wG,Iq];refine cN ?_;rw[show(ae bs).length=bs.length from HN ..]
 refine hK _ _ ?_;clear hK K;refine bq λK hK=>?_
 refine yw (n:=bs.length) (λQ q=>q) ∅ rfl λj j0 j27 hj=>?_
 refine#[(λ_ ρ S'=>(∃x9 x10 x11 x12 x13 x14,ρ=[ba (.ref r),ba (.int v),ba (.tup (ae bs)),ba (.ref q),ba (.int most),ba (.int a),ba (dC ms ns bs []),ba (.ref S5.length),ba (.int bs.length),x9,x10,x11,x12,x13,x14])/\(∃kvs fs,S'[S5.length]?=ba (.dic kvs)/\FigD (bg a bs) kvs fs)/\S'[q]?=ba (.dic kvs)/\MustE S' bs.length S1.length kvs/\Fl S' r/\Kp r S S'),#[#[_,_,_,_,_,_,rfl],#[[],[],ah,.nil],aw hq5,hm5.ka .push,f5.ka .push,kk.trans .push],?_,?_]
 ·rintro i ρ S6 hi ⟨⟨x9,x10,x11,x12,x13,x14,rfl⟩,⟨kvd,fs,e6,hd⟩,hq6,hm6,f6,k6⟩ Q2 hn2 _;clear hK k;have hnp:(0:Ik) < bs.length:=∅
  have hnb:(bs.length:Ik) < 1073741824:=∅
  have y1:0<=(i:Ik) % bs.length/\(i:Ik) % bs.length < bs.length:=#[KL _ ∅,KF _ hnp]
  have y2:0<=(i:Ik) / bs.length % bs.length/\(i:Ik) / bs.length % bs.length < bs.length:=#[KL _ ∅,KF _ hnp]
  have y3:0<=(i:Ik) / bs.length / bs.length/\(i:Ik) / bs.length / bs.length < bs.length:=by
   rcases hn with h|h <;> rw[h]at hj ⊢ <;> omega
  refine bq λK hK=>?_
  dsimp only[wS,wE,wA,wV,wG,Iq];refine ag (ik hnp) (ag (gO hnp hnb) (ag (ik hnp) ?_));dsimp only[w2];refine hK _ _ ?_;clear hK K;refine bq λK hK=>?_
  dsimp only[wS,wE,wA,wV,wG,Iq];refine ag (gO hnp hnb) (ag (gO hnp hnb) (hK _ _ ?_));clear hK K;dsimp only;generalize(i:Ik) % bs.length=z1 at y1 ⊢;generalize(i:Ik) / bs.length % bs.length=z2 at y2 ⊢;generalize(i:Ik) / bs.length / bs.length=z3 at y3 ⊢;refine bq λK hK=>?_
  dsimp only[wS,wT,wA,wE,wV,wG];refine yv (d:=d+4) G hb y1 y2 y3 hq6 hm6 λb S7 k7=>?_
  dsimp only[gc,aU];refine aO (Q0:=Q2) (λ_ Q3 hn3 _=>?_) (λ_ Q3 hn3 _=>dv (hn3 _ _ (hK _ _ (dv (hn2 _ _ #[#[_,_,_,_,_,_,rfl],#[kvd,fs,k7.get _ _ e6,hd],k7.get _ _ hq6,hm6.ka k7,f6.ka k7,k6.trans (k7.kp r)])))))
  refine bq λK3 hK3=>?_
  refine kS rfl rfl ?_;dsimp only[wE,wA,wV,wG];have h56:S5.length < S6.length:=dY e6;have h67:=k7.len;refine ym (d:=d+5) G (a:=a) ∅ λt ts S8 e8 ht ht7 k8=>?_
  refine#[t,ts.map oo,(λ_ ρ S'=>(∃x9 x13 x14,ρ=[ba (.ref r),ba (.int v),ba (.tup (ae bs)),ba (.ref q),ba (.int most),ba (.int a),ba (dC ms ns bs []),ba (.ref S5.length),ba (.int bs.length),x9,ba (.int z1),ba (.int z2),ba (.int z3),x13,x14])/\(∃kvs fs,S'[S5.length]?=ba (.dic kvs)/\FigD (bg a bs) kvs fs)/\S'[q]?=ba (.dic kvs)/\MustE S' bs.length S1.length kvs/\S'[t]?=ba (.lst (ts.map oo))/\Fl S' r/\Kp r S S'),rfl,#[#[_,_,_,rfl],#[kvd,fs,k8.get _ _ (k7.get _ _ e6),hd],k8.get _ _ (k7.get _ _ hq6),(hm6.ka k7).ka k8,e8,(f6.ka k7).ka k8,k6.trans ((k7.trans k8).kp r)],λi ρ S' h=>h.2.2.2.2.1,?_,?_]
  ·rintro j w ρ S9 hw ⟨⟨x9,x13,x14,rfl⟩,⟨kvd,fs,e9,hd⟩,hq9,hm9,ht9,f9,k9⟩;clear hK3 hn3 hK hn2;rw[HY,HS]at hw;obtain⟨⟨tr1,tr2,tr3⟩,htr,rfl⟩:=hw;obtain⟨t1,t2,t3⟩:=ht _ (Ip htr);refine ag (show iM (.nm 13) (oo (tr1,tr2,tr3)) [ba (.ref r),ba (.int v),ba (.tup (ae bs)),ba (.ref q),ba (.int most),ba (.int a),ba (dC ms ns bs []),ba (.ref S5.length),ba (.int bs.length),x9,ba (.int z1),ba (.int z2),ba (.int z3),x13,x14] S9=ba ([ba (.ref r),ba (.int v),ba (.tup (ae bs)),ba (.ref q),ba (.int most),ba (.int a),ba (dC ms ns bs []),ba (.ref S5.length),ba (.int bs.length),x9,ba (.int z1),ba (.int z2),ba (.int z3),ba (oo (tr1,tr2,tr3)),x14],S9)from rfl) λQ4 hn4 _=>?_
   have hu:GoodW a bs.length [(tr1,[]),(tr2,[z1]),(tr3,[z2,z3])]:=FB t1 t2 t3 y1 y2 y3;refine bq λK hK=>?_
   dsimp only[wS,wE,wA,wV,wG,Iq];refine aA #v[] rfl (aA #v[] rfl (hK _ _ ?_))
   clear hK K;refine st ?_;dsimp only[wS,wE,wA,wV,wG];refine aA #v[] rfl (ag (rL (ir rfl)) ?_)
   refine iz (d:=d+3) (m0:=.tup (ms.map W.str)) (b0:=.tup []) (u:=[(tr1,[]),(tr2,[z1]),(tr3,[z2,z3])]) G hb hnl hu rfl λS10 k10=>?_
   have e10:=k10.get _ _ e9;exact yh e10 hd hsz hu rfl λo ho=>dv (hn4 _ _ #[#[_,_,_,rfl],ho,by rw[b6 ∅]; exact k10.get _ _ hq9,(hm9.ka k10).set e10,by rw[b6 ∅]; exact k10.get _ _ ht9,(f9.ka k10).own hrt,(k9.trans (k10.kp r)).late kk.len])
  ·rintro ρ S9 ⟨⟨x9,x13,x14,rfl⟩,hdd,hq9,hm9,ht9,f9,k9⟩;exact hK3 _ _ (dv (hn3 _ _ (hK _ _ (dv (hn2 _ _ #[#[_,_,_,_,_,_,rfl],hdd,hq9,hm9,f9,k9])))))
 ·rintro ρ S6 ⟨⟨x9,x10,x11,x12,x13,x14,rfl⟩,⟨kvd,fs,e6,hd⟩,hq6,hm6,f6,k6⟩;refine hK _ _ (st ?_);dsimp only[wS,wE,wA,wV,wG];exact yg (Q:=λp=>Q' (.rt p.1,p.2)) e6 hd hsz hml hnl hnm λw S8 hw k8=>k w S8 hw (f6.ka k8) (k6.trans (k8.kp r))
end
section
variable{defs:HK (Iv×Df)}{fuel d:HW}{S:aa}{r:HW}{Q:QW}
end
noncomputable def Tr:HW->W->Prop
 | _,.int _=>OT
 | _,.str _=>OT
 | n+1,.tup xs=>xs.length<=1000/\∀x∈xs,Tr n x
 | _,_=>JF
theorem mW:∀n:HW,gK (IW n (.bl true))=ba (IW n true)
 | 0=>rfl
 | n+1=>by rw[JT,gK,mW n]; rfl
theorem Bb (n:HW):(IW n true).all id=true:=by
 rw[IC];intro x hx;rw[(List.mem_replicate.mp hx).2]; rfl
section
variable{defs:HK (Iv×Df)}{fuel:HW}
theorem ow (hg:Is defs ("_law_alike" : Iv) 2 2 b7):∀(n d:HW) (w:W) (S:aa) (Q:QW),Tr n w->(∀S',Ka S S'->Q (.bl true,S'))->wO (bD (aq defs fuel (d+n+1)) "_law_alike" 2 [w,w] S) Q:=by
 intro n
 induction n with
 | zero=>
  intro d w S Q hw k;refine aN hg rfl rfl λQ' hR=>?_
  replace k:=hR _ _ (k S .refl);clear hR;show wZ _ _ b7 [ba w,ba w] S Q';dsimp only[b7];cases w with
  | int x=>
   refine bq λK hK=>cY (λQ q=>q) (hK _ _ ?_)
   refine bq λK hK=>cY (λQ q=>#[λz=>(by cases z),λ_=>q]) (hK _ _ ?_)
   refine bq λK hK=>qg (λQ q=>q) λQ2 _ hr=>st ?_
   dsimp only[wS,wE,wV,wG];refine ag (show xm S (.int x) "int" = ba true from rfl) #[λ_=>?_,λz=>by cases z]
   dsimp only[im,aU];rw[Jj];exact hr _ _ k
  | str x=>
   refine bq λK hK=>cY (λQ q=>q) (hK _ _ ?_)
   refine bq λK hK=>cY (λQ q=>#[λz=>(by cases z),λ_=>q]) (hK _ _ ?_)
   refine bq λK hK=>cY (λQ q=>q) (hK _ _ ?_)
   refine bq λK hK=>qg (λQ q=>q) λQ2 _ hr=>st ?_
   dsimp only[wS,wE,wV,wG];refine ag (show xm S (.str x) "str" = ba true from rfl) #[λ_=>?_,λz=>by cases z]
   dsimp only[BH,aU];rw[Jj];exact hr _ _ k
  | _=>exact hw.elim
 | succ n ih=>
  intro d w S Q hw k;refine aN hg rfl rfl λQ' hR=>?_
  replace k:∀S',Ka S S'->Q' (.rt (.bl true),S'):=λS' a=>hR _ _ (k S' a)
  clear hR;show wZ _ _ b7 [ba w,ba w] S Q';dsimp only[b7];cases w with
  | int x=>
   refine bq λK hK=>cY (λQ q=>q) (hK _ _ ?_)
   refine bq λK hK=>cY (λQ q=>#[λz=>(by cases z),λ_=>q]) (hK _ _ ?_)
   refine bq λK hK=>qg (λQ q=>q) λQ2 _ hr=>st ?_
   dsimp only[wS,wE,wV,wG];refine ag (show xm S (.int x) "int" = ba true from rfl) #[λ_=>?_,λz=>by cases z]
   dsimp only[im,aU];rw[Jj];exact hr _ _ (k _ .refl)
  | str x=>
   refine bq λK hK=>cY (λQ q=>q) (hK _ _ ?_)
   refine bq λK hK=>cY (λQ q=>#[λz=>(by cases z),λ_=>q]) (hK _ _ ?_)
   refine bq λK hK=>cY (λQ q=>q) (hK _ _ ?_)
   refine bq λK hK=>qg (λQ q=>q) λQ2 _ hr=>st ?_
   dsimp only[wS,wE,wV,wG];refine ag (show xm S (.str x) "str" = ba true from rfl) #[λ_=>?_,λz=>by cases z]
   dsimp only[BH,aU];rw[Jj];exact hr _ _ (k _ .refl)
  | tup xs=>
   obtain⟨hl,hx⟩:=hw;refine bq λK hK=>cY (λQ q=>q) (hK _ _ ?_)
   refine bq λK hK=>cY (λQ q=>#[λz=>(by cases z),λ_=>q]) (hK _ _ ?_)
   refine bq λK hK=>cY (λQ q=>q) (hK _ _ ?_)
   refine bq λK hK=>cY (λQ q=>q) (hK _ _ ?_)
   refine bq λK hK=>cY (λQ q=>#[λz=>(by cases z),λ_=>q]) (hK _ _ ?_)
   refine st ?_;dsimp only[wS,wE,wA,wV,wG];refine cN (cN ?_);dsimp only[im,aU,wB];rw[Jj];refine#[λ_=>?_,λz=>by cases z]
   refine en (xs.length:Ik) (λi ys ρ2 S2=>(∃a1,ρ2=[K3,a1,ba (.tup xs),ba (.tup xs)])/\ys=IW i (.bl true)/\Ka S S2) rfl rfl rfl ∅ ?_ ?_ ?_
   ·dsimp only[wE,wA,wV,wG];exact cN #[rfl,#[K3,rfl],rfl,.refl]
   ·rintro i ys ρ2 S2 hi ⟨⟨a1,rfl⟩,rfl,k2⟩;have hi':i < xs.length:=∅
    dsimp only[ju,wC,wE,wA,wV,wG,Iq];refine#[λ_=>aA (IH i) (by rw[Iu]; exact Ic hi') (aA (IH i) (by rw[Iu]; exact Ic hi') (ih d _ _ _ (hx _ (Jg hi')) λS3 k3=>#[#[_,rfl],?_,k2.trans k3])),λz=>by cases z]
    rw[List.replicate_succ']
   ·rintro ys ρ2 S2 ⟨_,rfl,k2⟩;rw[Iu];refine#[jA (by rw[NA]; exact hl),ag (a:=(.bl true,S2++[.lst (IW xs.length (.bl true))])) ?_ (k _ (k2.trans .push))]
    simp only[Bi.fn,CD,aT ah,mW,IZ,Bb]
  | _=>exact hw.elim
end
noncomputable def tF:Ss:=
 #v[.ite (.cmp .gt (.v 2) (.v 3)) #v[.ret (.ix (.ix (.ix (.v 1) (.v 2)) (.c (.int 1))) (.v 3))] .nil,.ret (.ix (.ix (.ix (.v 0) (.c (.int 1))) (.ix (.ix (.ix (.v 1) (.v 3)) (.c (.int 1))) (.v 2))) (.c (.int 1)))]
noncomputable def kU:Ss:=
 #v[.ret (.bi .tuple #v[.comp (.own "point_over" 4 #v[.v 4,.v 5,.sl (.v 3) .no (.yes (.v 1)),.v 2]) (.tp [1,2]) (.enu #v[.v 2]) .nil [K3,K3,K3,ba 2,ba 0,ba 1]])]
noncomputable def dL:Ss:=
 #v[.ret (.tup #v[.ix (.ix (.v 1) (.v 3)) (.c (.int 0)),.bi .tuple #v[.comp (.own "way" 4 #v[.v 3,.v 4,.v 2,.v 1]) (.nm 1) (.seq (.v 2)) .nil [K3,K3,ba 3,ba 0,ba 1]]])]
noncomputable def bF:Ss:=
 #v[.set 3 (.bi .list #v[.bi .range #v[.v 1]]),.set 4 (.lst .nil),.whl (.cmp .lt (.bi .len #v[.v 4]) (.v 2)) #v[.ex (.me .append (.v 4) #v[.me .pop (.v 3) #v[.own "_law_pick" 2 #v[.v 0,.bi .len #v[.v 3]]]])],.ret (.bi .tuple #v[.v 4])]
noncomputable def cg:Ss:=
 #v[.set 2 (.lst #v[.tup .nil]),.loop (.nm 3) (.rng #v[.v 1]) #v[.set 2 (.comp (.op .add (.ix (.v 3) (.op .fdiv (.v 1) (.v 2))) (.tup #v[.op .mod (.v 1) (.v 2)])) (.nm 1) (.rng #v[.op .mul (.bi .len #v[.v 2]) (.v 0)]) .nil [K3,K3,ba 0,ba 2])],.ret (.v 2)]
noncomputable def cR:Ss:=
 #v[.set 2 (.lst #v[.tup .nil]),.loop (.nm 3) (.rng #v[.v 1]) #v[.set 4 (.lst .nil),.loop (.nm 5) (.rng #v[.bi .len #v[.ix (.v 0) (.c (.int 0))]]) #v[.ex (.me .extend (.v 4) #v[.comp (.tup #v[.v 2,.v 1]) (.nm 1) (.seq (.own "_law_digits" 2 #v[.bi .len #v[.ix (.v 0) (.c (.int 1))],.v 3])) .nil [K3,K3,ba 5]])],.set 2 (.comp (.op .add (.ix (.v 3) (.op .fdiv (.v 1) (.bi .len #v[.v 2]))) (.tup #v[.ix (.v 2) (.op .mod (.v 1) (.bi .len #v[.v 2]))])) (.nm 1) (.rng #v[.op .mul (.bi .len #v[.v 2]) (.bi .len #v[.v 4])]) .nil [K3,K3,ba 4,ba 2])],.ret (.v 2)]
section
variable{defs:HK (Iv×Df)}{fuel d:HW}{S:aa}{r:HW}{Q:QW}
theorem yz {Φ:Iv->FF}{m0 b0:W}{ns:HK Iv}{bs:HK Ik}{a:HW}{u:Wd}{i j:HW}{Q:QO}(hb:GoodB bs)(hl:ns.length=bs.length)(hu:GoodW a bs.length u)(hi:i < u.length)(hj:j < u.length)(hij:i≠j)(k:Q (.rt (.int (b8 bs u i j)),S)) :
  wZ Φ fuel tF [ba (.tup [m0,.tup (IJ bN ns bs),b0]),ba (bu u),ba (.int i),ba (.int j)] S Q:=by
 have hpi:=au (d:=(0,[])) hi;have hpj:=au (d:=(0,[])) hj;unfold b8 at k;dsimp only[tF];refine bq λK hK=>?_
 dsimp only[wS,wT,wE,wV,wG,Fi,wO,wB,bu];refine aO (Q0:=Q) (λh Q2 _ hr=>?_) (λh Q2 hn _=>?_)
 ·have hji:j < i:=by have:=Jl h; omega
  rw[Ix hji]at k;have hw:j < (u.getD i (0,[])).2.length:=by rw[hu.len i _ hpi]; exact hji
  refine st ?_;dsimp only[wS,wE,wV,wG];refine aA (IH i) (kQ hi) (aA #v[] rfl (aA (IH j) ?_ (hr _ _ k)))
  rw[Iu,HY,au (d:=0) hw]; rfl
 ·have hji:¬ j < i:=by have:=LL h; omega
  rw[IK hji]at k;refine dv (hn _ _ (hK _ _ ?_));clear hn hK;have hw:i < (u.getD j (0,[])).2.length:=by rw[hu.len j _ hpj]; omega
  have hg:=au (d:=0) hw;obtain⟨g1,g2⟩:=hu.way j _ hpj _ (Ip hg);obtain⟨b,hb1,hb2,hb3⟩:=hb.rng ((u.getD j (0,[])).2.getD i 0).toNat ∅
  have hn:((u.getD j (0,[])).2.getD i 0).toNat < ns.length:=∅
  rw[getD_some hb1]at k;refine st ?_;dsimp only[wS,wE,wV,wG];refine aA #v[] rfl (aA (IH j) (kQ hj) (aA #v[] rfl (aA (IH i) ?_ (aA g1 (n8 (Ic hn) hb1) (aA #v[] rfl k)))))
  rw[Iu,HY,hg]; rfl
structure Parts (defs:HK (Iv×Df)):Prop where
 way:Is defs ("way" : Iv) 4 4 tF
 over:Is defs ("point_over" : Iv) 4 4 dL
theorem FC (P:Parts defs){m0 b0:W}{ns:HK Iv}{bs:HK Ik}{a:HW}{u:Wd}{i j:HW}(hb:GoodB bs)(hl:ns.length=bs.length)(hu:GoodW a bs.length u)(hi:i < u.length)(hj:j < u.length)(hij:i≠j)(k:Q (.int (b8 bs u i j),S)) :
  wO (bD (aq defs fuel (d+1)) "way" 4 [.tup [m0,.tup (IJ bN ns bs),b0],bu u,.int i,.int j] S) Q:=
 aN P.way rfl rfl λQ' hR=>yz hb hl hu hi hj hij (hR _ _ k)
theorem Dx (P:Parts defs){m0 b0:W}{ns:HK Iv}{bs:HK Ik}{a:HW}{u:Wd}{ps:HK HW}{i:HW}(hb:GoodB bs)(hl:ns.length=bs.length)(hu:GoodW a bs.length u)(hps:∀p∈ps,p < u.length/\i≠p)(hi:i < u.length)(hsz:ps.length<=1000)(k:∀S',Ka S S'->Q (lz ((u.getD i (0,[])).1,ps.map λq=>b8 bs u i q),S')) :
  wO (bD (aq defs fuel (d+2)) "point_over" 4 [.tup [m0,.tup (IJ bN ns bs),b0],bu u,.tup (am ps),.int i] S) Q:=by
 refine aN P.over rfl rfl λQ' hR=>?_
 replace k:∀S',Ka S S'->Q' (.rt (lz ((u.getD i (0,[])).1,ps.map λq=>b8 bs u i q)),S'):=λS' a=>hR _ _ (k S' a)
 clear hR;show wZ _ _ dL [ba (.tup [m0,.tup (IJ bN ns bs),b0]),ba (bu u),ba (.tup (am ps)),ba (.int i)] S Q';generalize hR0:W.tup [m0,.tup (IJ bN ns bs),b0]=R;dsimp only[dL];refine st ?_;dsimp only[wS,wE,wA,wV,wG];refine aA (IH i) (kQ hi) (aA #v[] rfl ?_)
 refine sY (am ps) (λj ys ρ2 S2=>(∃a1,ρ2=[K3,a1,ba (.int i),ba R,ba (bu u)])/\ys=(ps.take j).map (λq=>W.int (b8 bs u i q))/\Ka S S2) rfl rfl rfl #[rfl,#[K3,rfl],rfl,.refl] ?_ ?_
 ·rintro j w ys ρ2 S2 hw ⟨⟨a1,rfl⟩,rfl,k2⟩;unfold am at hw;rw[HY,HS]at hw;obtain⟨q,hq,rfl⟩:=hw;obtain⟨hqu,hqi⟩:=hps q (Ip hq);refine ag (show iM (.nm 1) (.int (q:Ik)) [K3,a1,ba (.int i),ba R,ba (bu u)] S2=ba ([K3,ba (.int (q:Ik)),ba (.int i),ba R,ba (bu u)],S2)from rfl) ?_
  dsimp only[ju,wC,wE,wA,wV,wG];subst hR0;refine#[λ_=>FC (d:=d) P hb hl hu hi hqu hqi #[#[_,rfl],?_,k2],λz=>by cases z]
  rw[Jd,hq];simp
 ·rintro ys ρ2 S2 ⟨_,rfl,k2⟩;rw[show(am ps).length=ps.length from HN ..,Jy]
  refine#[jA (by rw[HN]; exact hsz),dt ah ?_]
  have:=k _ (k2.trans (Ka.push (o:=O.lst (ps.map λq=>W.int (b8 bs u i q)))))
  unfold lz at this;rw[Km]at this;exact this
theorem FD (P:Parts defs)(hp:Is defs ("part" : Iv) 3 3 kU){m0 b0:W}{ns:HK Iv}{bs:HK Ik}{a:HW}{u:Wd}{ps:HK HW}(hb:GoodB bs)(hl:ns.length=bs.length)(hu:GoodW a bs.length u)(hps:∀p∈ps,p < u.length)(hnd:ps.Nodup)(hsz:ps.length<=1000)(k:∀S',Ka S S'->Q (bu (ar bs u ps),S')) :
  wO (bD (aq defs fuel (d+3)) "part" 3 [.tup [m0,.tup (IJ bN ns bs),b0],bu u,.tup (am ps)] S) Q:=by
 refine aN hp rfl rfl λQ' hR=>?_
 replace k:∀S',Ka S S'->Q' (.rt (bu (ar bs u ps)),S'):=λS' a=>hR _ _ (k S' a)
 clear hR;show wZ _ _ kU [ba (.tup [m0,.tup (IJ bN ns bs),b0]),ba (bu u),ba (.tup (am ps))] S Q';generalize hR0:W.tup [m0,.tup (IJ bN ns bs),b0]=R;dsimp only[kU];refine st ?_;dsimp only[wS,wE,wA];refine AM (am ps) (λj ys ρ2 S2=>(∃a1 a2,ρ2=[K3,a1,a2,ba (.tup (am ps)),ba R,ba (bu u)])/\ys=((ar bs u ps).take j).map lz/\Ka S S2) rfl rfl rfl #[rfl,#[K3,K3,rfl],rfl,.refl] ?_ ?_
 ·rintro j w ys ρ2 S2 hw ⟨⟨a1,a2,rfl⟩,rfl,k2⟩;unfold am at hw;rw[HY,HS]at hw;obtain⟨q,hq,rfl⟩:=hw;have hj:j < ps.length:=(HZ.mp hq).1;have eq:q=ps[j]:=(HZ.mp hq).2.symm;refine ag (show iM (.tp [1,2]) (.tup [.int (j:Ik),.int (q:Ik)]) [K3,a1,a2,ba (.tup (am ps)),ba R,ba (bu u)] S2=ba ([K3,ba (.int (j:Ik)),ba (.int (q:Ik)),ba (.tup (am ps)),ba R,ba (bu u)],S2)from rfl) ?_
  dsimp only[ju,wC,wE,wA,wP,wV,wG,wN];refine#[λ_=>ag (a:=(.tup (am (ps.take j)),S2)) ?_ ?_,λz=>by cases z]
  ·simp only[ve,iw];unfold am;rw[L9]
  ·subst hR0;refine Dx (d:=d) P hb hl hu (λp hp=>#[hps p (J8 hp),?_]) (hps q (Ip hq)) (by rw[Jp]; omega) λS3 k3=>#[#[_,_,rfl],?_,k2.trans k3]
   ·obtain⟨m,hm,e⟩:=J7.mp hp;rw[Jp]at hm;rw[Lf]at e;rw[eq,<- e];intro z;have:=(Ki hnd).mp z;omega
   ·have ep:(ar bs u ps)[j]?=ba ((u.getD q (0,[])).1,(ps.take j).map λq'=>b8 bs u q q'):=by
     unfold ar;rw[HY,JU hj,IZ,getD_some hq]
    rw[Jd,ep];simp
 ·rintro ys ρ2 S2 ⟨_,rfl,k2⟩;rw[show(am ps).length=ps.length from HN ..,<- bM bs u ps,Jy]
  exact#[jA (by rw[HN,bM]; exact hsz),dt ah (k _ (k2.trans .push))]
end
section
variable{S:aa}{Q:QW}
theorem qA:∀(xs:HK HW) (i:HW),(am xs).eraseIdx i=am (xs.eraseIdx i)
 | [],i=>by cases i <;> rfl
 | x::xs,0=>rfl
 | x::xs,i+1=>by
  show W.int (x:HW)::(am xs).eraseIdx i=W.int (x:HW)::am (xs.eraseIdx i);rw[qA xs i]
theorem mX (n:HW):zM 0 ((n:Ik) - 0).toNat=am (IN n):=by
 unfold zM am;rw[show((n:Ik) - 0).toNat=n by omega]
 exact JV λk _=>by rw[Nk]
theorem Bc {i n:HW}(h:S[i]?=ba (.rng 0 n))(hn:n<=1000)(q:Q (.ref S.length,S++[.lst (am (IN n))])):wO (Bi.list.fn [.ref i] S) Q:=by
 refine ag ?_ q;have h1:uk S i=ba (0,(n:Ik)):=by simp[uk,h]
 have h2:jm [.ref i] S=ba (.ref S.length,S++[.lst (am (IN n))]):=by
  simp only[jm,h1];rw[Ix #[∅,∅,∅,∅,by rw[Jf]; omega],mX]
 simp only[Bi.fn,AC,h2]
theorem uY {Φ:Iv->FF}{fuel:HW}{ρ:Fm}{K:Fm->aa->Prop}{Q:QO}{i j n:HW}{m:Ik}(hm:m=n)(hv:∀Q:W->Prop,Q (.int m)->wV ρ i Q)(hn:n<=1000)(k:∀(t:HW) (S':aa),t=S.length+1->S'=S++[O.rng 0 n]++[.lst (am (IN n))]->K (ρ.set j (ba (.ref t))) S') :
  wS Φ fuel (.set j (.bi .list #v[.bi .range #v[.v i]])) ρ S K Q:=by
 have e:Bi.range.fn [.int m] S=ba (.ref S.length,S++[.rng 0 m]):=by
  simp only[Bi.fn,kh];rw[Ix #[∅,∅]]
 have h:wO (Bi.list.fn [.ref S.length] (S++[O.rng 0 m])) λp=>K (ρ.set j (ba p.1)) p.2:=by
  subst hm;exact Bc ah hn (k _ _ (by simp) rfl)
 have g:wO (Bi.range.fn [.int m] S) λp=>wO (Bi.list.fn [p.1] p.2) λp=>K (ρ.set j (ba p.1)) p.2:=by
  rw[e];exact h
 dsimp only[wS,wE,wA];exact hv _ g
theorem FH {t:HW}{xs:HK W}{v:Ik}{w:W}(h:S[t]?=ba (.lst xs))(h0:0<=v)(hw:xs[v.toNat]?=ba w)(hl:xs.length<=1000)(q:Q (w,S.set t (.lst (xs.eraseIdx v.toNat)))):wO (Me.pop.fn (.ref t) [.int v] S) Q:=by
 refine ag ?_ q;have hv:=(HZ.mp hw).1;have hs:seqIndex? v xs.length=ba v.toNat:=by
  unfold seqIndex?;rw[IK (show ¬ v < 0 by omega)]
  exact Ix (by rw[HV]; exact#[JY h0,JY ∅])
 simp only[Me.fn,zL,eh h];rw[Ix #[∅,∅]]
 simp only[hs,hw]
end
section
variable{defs:HK (Iv×Df)}{fuel d:HW}{S:aa}{r:HW}{Q:QW}
theorem tH (G:Gen defs)(hg:Is defs ("_law_drawn_points" : Iv) 3 5 bF){many size:HW}(hf:Fl S r)(hm:many<=900)(hs:size<=many)(hfu:size < fuel)(k:∀(ps:HK HW) S',ps.length=size->ps.Nodup->(∀p∈ps,p < many)->Fl S' r->Kp r S S'->Q (.tup (am ps),S')) :
  wO (bD (aq defs fuel (d+2)) "_law_drawn_points" 3 [.ref r,.int many,.int size] S) Q:=by
 refine aN hg rfl rfl λQ' hR=>?_
 replace k:∀(ps:HK HW) S',ps.length=size->ps.Nodup->(∀p∈ps,p < many)->Fl S' r->Kp r S S'->Q' (.rt (.tup (am ps)),S'):=λa b c e f g h=>hR _ _ (k a b c e f g h)
 clear hR;show wZ _ _ bF [ba (.ref r),ba (.int many),ba (.int size),K3,K3] S Q';have hrt:=hf.lt;dsimp only[bF];refine bq λK hK=>?_
 generalize hM:(many:Ik)=M at hK ⊢;refine uY hM.symm (λQ q=>q) ∅ λt S1 ht hS1=>hK _ _ ?_
 clear hK K;subst hM;dsimp only[Iq];have e1:S1[t]?=ba (.lst (am (IN many))):=by
  rw[hS1,show t=(S++[O.rng 0 many]).length by rw[ht]; simp]; exact ah
 have l1:S.length < t:=∅
 have f1:Fl S1 r:=by rw[hS1]; exact(hf.ka .push).ka .push
 have k1:Kp r S S1:=by rw[hS1]; exact Kp.push.trans .push
 have l2:=dY e1;clear hS1 ht;refine st ?_;dsimp only[wS,wE,wA,Iq];refine bq λK hK=>?_
 have nl:∀xs:HK HW,(am xs).length=xs.length:=λxs=>HN ..
 refine BN (λm ρ S'=>ρ=[ba (.ref r),ba (.int many),ba (.int size),ba (.ref t),ba (.ref S1.length)]/\∃ls ps:HK HW,S'[t]?=ba (.lst (am ls))/\S'[S1.length]?=ba (.lst (am ps))/\(ls++ps).Nodup/\(∀p∈ls++ps,p < many)/\ls.length+ps.length=many/\ps.length+m=size/\Fl S' r/\Kp r S S') size rfl rfl hfu #[rfl,IN many,[],aw e1,ah,by rw[Kw]; exact M8,λp hp=>by rw[Kw]at hp; exact Ji.mp hp,by simp,by simp,f1.ka .push,k1.trans .push] ?_
 rintro m ρ S2 ⟨rfl,ls,ps,e2,e3,nd,lt,hl,hsz,f2,k2⟩;dsimp only[wT,wE,wA,wV,wG];refine fJ e3 ?_;rw[nl];dsimp only[AJ,aU,wB];refine#[λh=>?_,λh=>?_]
 ·have h:(ps.length:Ik) < size:=Jl h;refine#[m - 1,∅,λQ2 hn _=>?_]
  clear hK k;refine st ?_;dsimp only[wS,wE,wA,wV,wG];refine#[dX e3,dX e2,fJ e2 ?_];rw[nl];refine aX (d:=d) G.pick f2 ∅ ∅ λv S3 v0 v1 f3 k3=>?_
  have e2':=k3.get _ _ ∅ e2
  have e3':=k3.get _ _ ∅ e3
  have hv:v.toNat < ls.length:=∅
  refine FH e2' v0 (iy (Ic hv)) (by rw[nl]; omega) ?_
  have e3s:(S3.set t (.lst ((am ls).eraseIdx v.toNat)))[S1.length]?=ba (.lst (am ps)):=by rw[b6 ∅]; exact e3'
  refine kK e3s (by rw[nl]; omega) (dv (hn _ _ #[rfl,ls.eraseIdx v.toNat,ps++[ls[v.toNat]],?_,?_,?_,?_,?_,?_,(f3.own ∅).own ∅,((k2.trans k3).late ∅).late (by have:=k1.len; omega)]))
  ·rw[b6 ∅,bT e2']
   rw[qA]
  ·rw[bT e3s];unfold am;rw[Jz]; rfl
  ·have hp:(ls.eraseIdx v.toNat++(ps++[ls[v.toNat]])).Perm (ls++ps):=by
    have h1:(ls[v.toNat]::ls.eraseIdx v.toNat).Perm ls:=g9 hv;have h2:(ls.eraseIdx v.toNat++(ps++[ls[v.toNat]])).Perm (ls[v.toNat]::(ls.eraseIdx v.toNat++ps)):=by
     rw[<- Kt]; exact List.perm_append_singleton _ _
    exact h2.trans ((h1.append_right ps))
   exact hp.nodup_iff.mpr nd
  ·intro p hp;refine lt p ?_;rcases IY.mp hp with h|h
   ·exact J3 _ (List.mem_of_mem_eraseIdx h)
   ·rcases IY.mp h with h|h
    ·exact IL _ h
    ·rw[Ir.mp h]; exact J3 _ (Jg hv)
  ·rw[Lk hv,Im,Kh]; omega
  ·rw[Im,Kh]; omega
 ·have h:¬ (ps.length:Ik) < size:=LL h;refine hK _ _ (st ?_);dsimp only[wS,wE,wA,wV,wG];exact dt e3 (k ps _ ∅ (MV.mp nd).2.1 (λp hp=>lt p (IL _ hp)) f2 k2)
end
noncomputable def bY (n:HW):HW->HK (HK Ik)
 | 0=>[[]]
 | k+1=>(IN ((bY n k).length*n)).map λi=>(bY n k).getD (i / n) []++[((i % n:HW):Ik)]
noncomputable def cb (a n k:HW):HK Pt:=(IN a).flatMap λ(m:HW)=>(bY n k).map λds=>(((m:HW):Ik),ds)
noncomputable def cG (a n:HW):HW->HK Wd
 | 0=>[[]]
 | k+1=>(IN ((cG a n k).length*(cb a n k).length)).map λi=>(cG a n k).getD (i / (cb a n k).length) []++[(cb a n k).getD (i % (cb a n k).length) (0,[])]
theorem Bd {n k:HW}{ds:HK Ik}:ds∈bY n k->ds.length<=k:=by
 induction k generalizing ds with
 | zero=>intro h; cases Ir.mp h; exact Ih _
 | succ k ih=>
  intro h;obtain⟨i,hi,rfl⟩:=II.mp h;have hi:=Ji.mp hi;have hn:0 < n:=by
   rcases MG n with h|h
   ·rw[h,Nl]at hi; omega
   ·exact h
  have hlt:i / n < (bY n k).length:=Kr (by rw[Lr]; exact hi)
  have:=ih (Ip (au (d:=[]) hlt));rw[Im,Kh]; omega
theorem BP {Φ:Iv->FF}{ρ:Fm}{S:aa}{a b:E}{x y:Ik}{Q:QW}(ha:∀Q:QW,Q (.int x,S)->wE Φ a ρ S Q)(hb:∀Q:QW,Q (.int y,S)->wE Φ b ρ S Q)(h1 : -(2 ^ 64) < y)(h2:y < 2 ^ 64)(q:Q (.int (x*y),S)):wE Φ (.op .mul a b) ρ S Q:=by
 have em:fB .mul (.int x) (.int y) S=ba (.int (x*y),S):=qf h1 h2;rw[wE];refine ha _ ?_;refine hb _ ?_;dsimp only;rw[em];exact q
theorem gR {n:HW}:∀k:HW,(bY n k).length=n ^ k
 | 0=>rfl
 | k+1=>by rw[bY,HN,Jb,gR k,Nat.pow_succ]
theorem yA {n k:HW}(hn:n<=3)(hk:k<=5):(bY n k).length<=243/\(k<=4->(bY n k).length<=81):=by
 rw[gR];exact#[Jh (N4 hn k) (NS (n:=3) #v[] hk),λh=>Jh (N4 hn k) (NS (n:=3) #v[] h)]
section
variable{defs:HK (Iv×Df)}{fuel d:HW}{S:aa}{r:HW}{Q:QW}
theorem yB (hg:Is defs ("_law_digits" : Iv) 2 4 cg){n k:HW}(hn1:1<=n)(hn3:n<=3)(hk5:k<=5)(kk:∀(q:HW) (S':aa),S'[q]?=ba (.lst ((bY n k).map λds=>.tup (ae ds)))->S.length<=q->Ka S S'->Q (.ref q,S')) :
  wO (bD (aq defs fuel (d+1)) "_law_digits" 2 [.int n,.int k] S) Q:=by
 refine aN hg rfl rfl λQ' hR=>?_
 replace kk:∀(q:HW) (S':aa),S'[q]?=ba (.lst ((bY n k).map λds=>.tup (ae ds)))->S.length<=q->Ka S S'->Q' (.rt (.ref q),S'):=λa b c e f=>hR _ _ (kk a b c e f)
 clear hR;show wZ _ _ cg [ba (.int n),ba (.int k),K3,K3] S Q';dsimp only[cg];refine st ?_;dsimp only[wS,wE,wA,Iq];refine bq λK hK=>?_
 refine dG (k:Ik) (λi ρ S'=>∃(q:HW) (a3:HU W),ρ=[ba (.int n),ba (.int k),ba (.ref q),a3]/\S'[q]?=ba (.lst ((bY n i).map λds=>.tup (ae ds)))/\S.length<=q/\Ka S S') rfl rfl ∅ #[rfl,_,_,rfl,ah,Ih _,.push] ?_ ?_
 ·rintro i ρ S1 hi ⟨q,a3,rfl,e1,hq,k1⟩ Q2 hn _;clear hK kk;obtain⟨b9,b3⟩:=yA (n:=n) (k:=i) hn3 ∅
  have b3:=b3 ∅
  have hP:(bY n i).length*n<=243:=Nat.mul_le_mul b3 hn3;have hPz:(((bY n i).length:Ik)*(n:Ik))=(((bY n i).length*n:HW):Ik):=(Nr ..).symm;refine st ?_;dsimp only[wS,wE,Iq];refine en ((((bY n i).length*n:HW)):Ik) (λj ys ρ2 S2=>(∃a1,ρ2=[K3,a1,ba (.int n),ba (.ref q)])/\ys=((bY n (i+1)).take j).map (λds=>.tup (ae ds))/\S2=S1) rfl rfl rfl ∅ ?_ ?_ ?_
  ·refine BP (x:=(bY n i).length) (y:=n) (λQ q=>?_) (λQ q=>q) ∅ ∅ #[by rw[hPz],#[K3,rfl],rfl,rfl]
   dsimp only[wE,wA,wV,wG];refine fJ e1 ?_;rw[HN];exact q
  ·rintro j ys ρ2 S2 hj ⟨⟨a1,rfl⟩,rfl,rfl⟩;have hj':j < (bY n i).length*n:=∅
   have hlt:j / n < (bY n i).length:=Kr (by rw[Lr]; exact hj')
   have hg:=au (d:=[]) hlt;have hdl:=Bd (Ip hg);dsimp only[ju,wC,wE,wA,wV,wG,Iq];refine#[λ_=>ag (gO ∅ ∅) ?_,λz=>by cases z]
   refine iu e1 (w:=.tup (ae ((bY n i).getD (j / n) []))) (Mh ∅ ∅) (by rw[show((j:Ik) / (n:Ik)).toNat=j / n from rfl,HY,hg]; rfl) ?_
   refine ag (ik ∅) (ag (rL (jA (by rw[Im,show(ae ((bY n i).getD (j / n) [])).length=((bY n i).getD (j / n) []).length from HN ..]; show _+1<=1000; omega))) #[#[_,rfl],?_,rfl])
   have ed:(bY n (i+1))[j]?=ba ((bY n i).getD (j / n) []++[((j % n:HW):Ik)]):=by
    rw[bY,HY,JU hj']; rfl
   rw[Jd,ed];simp[ae]
  ·rintro ys ρ2 S2 ⟨_,rfl,rfl⟩;have hl:(bY n (i+1)).length=(bY n i).length*n:=by rw[bY,HN,Jb]
   rw[Iu,<- hl,Jy];refine#[jA (by rw[HN,hl]; omega),dv (hn _ _ #[_,_,rfl,ah,k1.len,k1.trans .push])]
 ·rintro ρ S1 ⟨q,a3,rfl,e1,hq,k1⟩;exact hK _ _ (st (kk q S1 (by rw[Iu]at e1; exact e1) hq k1))
end
theorem Be {a n k:HW}{u:Wd}:u∈cG a n k->u.length<=k:=by
 induction k generalizing u with
 | zero=>intro h; cases Ir.mp h; exact Ih _
 | succ k ih=>
  intro h;obtain⟨i,hi,rfl⟩:=II.mp h;have hi:=Ji.mp hi;have hlt:i / (cb a n k).length < (cG a n k).length:=Kr (by rw[Lr]; exact hi)
  have:=ih (Ip (au (d:=[]) hlt));rw[Im,Kh]; omega
theorem kW {a n k:HW}:(cb a n k).length=a*n ^ k:=by
 unfold cb
 induction a with
 | zero=>simp
 | succ a ih=>rw[Mj,N5,Im,ih]; simp[gR,Qf]
theorem d7 {a n:HW}(k:HW):(cG a n (k+1)).length=(cG a n k).length*(cb a n k).length:=by rw[cG,HN,Jb]
theorem qB {a n k:HW}(ha1:1<=a)(ha:a<=3)(hn1:1<=n)(hn:n<=3)(han:a*n<=6)(hk:k<=2):1<=(cb a n k).length/\(cb a n k).length<=27/\(cG a n k).length*(cb a n k).length<=216:=by
 have w0:(cG a n 0).length=1:=rfl;have w1:=d7 (a:=a) (n:=n) 0;have w2:=d7 (a:=a) (n:=n) 1;simp only[kW]at w1 w2 ⊢;rcases(show k=0\/k=1\/k=2 by omega)with rfl|rfl|rfl <;> rcases(show a=1\/a=2\/a=3 by omega)with rfl|rfl|rfl <;> rcases(show n=1\/n=2\/n=3 by omega)with rfl|rfl|rfl <;> simp_all
theorem kX {Φ:Iv->FF}{ρ:Fm}{S:aa}{elt e:E}{tg:Tg}{cs:Es}{cap:HK (HU HW)}{Q:QW}(oi:d8 e=true)(oe:d8 elt=true)(oc:oO cs=true)(he:wE Φ e ρ S λp=>∃(t:HW) (xs:HK W) (I:HW->HK W->Fm->aa->Prop),p.1=.ref t/\I 0 [] (eT cap ρ) p.2/\(∀i ys ρ S,I i ys ρ S->S[t]?=ba (.lst xs))/\
  (∀(i:HW) (w:W) (ys:HK W) (ρ:Fm) (S:aa),xs[i]?=ba w->I i ys ρ S->wO (iM tg w ρ S) λq=>ju Φ elt cs q.1 q.2 (λy=>I (i+1) (ys++[y])) (I (i+1) ys))/\
  ∀ys ρ S,I xs.length ys ρ S->ys.length<=sizeLine/\Q (.ref S.length,S++[.lst ys])):Wp (aG Φ (.comp elt tg (.seq e) cs cap) ρ S) Q:=by
 obtain⟨w,S1,e1,t,xs,I,rfl,h0,hat,hstep,hend⟩:=cz oi he;exact i6 (mi:=.live t) (S1:=S1) I oe oc (by simp only[ly,fm,e1,aT (hat _ _ _ _ h0)]) (λi ys ρ S h=>by simp only[MI.at,aT (hat _ _ _ _ h)]) (by simp only[MI.len,aT (hat _ _ _ _ h0),IZ]) h0 hstep hend
section
variable{defs:HK (Iv×Df)}{fuel d:HW}{S:aa}{r:HW}{Q:QW}
theorem FJ {t l:HW}{xs ys:HK W}(h:S[t]?=ba (.lst xs))(h2:S[l]?=ba (.lst ys))(hl:xs.length+ys.length<=1000)(q:Q (.non,S.set t (.lst (xs++ys)))):wO (Me.extend.fn (.ref t) [.ref l] S) Q:=by
 refine ag ?_ q;simp only[Me.fn,jP,eh h,eh h2];rw[Ix (jA hl)]
theorem yC (hd:Is defs ("_law_digits" : Iv) 2 4 cg)(hg:Is defs ("_law_worlds" : Iv) 2 6 cR){a n:HW}{M N:HK W}{b0:W}(hM:M.length=a)(hN:N.length=n)(ha1:1<=a)(ha3:a<=3)(hn1:1<=n)(hn3:n<=3)(han:a*n<=6)
  (kk:∀(q:HW) (S':aa),S'[q]?=ba (.lst ((cG a n 3).map bu))->S.length<=q->Ka S S'->Q (.ref q,S')) :
  wO (bD (aq defs fuel (d+2)) "_law_worlds" 2 [.tup [.tup M,.tup N,b0],.int 3] S) Q:=by
 refine aN hg rfl rfl λQ' hR=>?_
 replace kk:∀(q:HW) (S':aa),S'[q]?=ba (.lst ((cG a n 3).map bu))->S.length<=q->Ka S S'->Q' (.rt (.ref q),S'):=λa b c e f=>hR _ _ (kk a b c e f)
 clear hR;show wZ _ _ cR [ba (.tup [.tup M,.tup N,b0]),ba (.int 3),K3,K3,K3,K3] S Q';generalize hR0:W.tup [.tup M,.tup N,b0]=R;dsimp only[cR];refine st ?_;dsimp only[wS,wE,wA,Iq];refine bq λK hK=>?_
 refine dG 3 (λi ρ S'=>∃(q:HW) (a3 a4 a5:HU W),ρ=[ba R,ba (.int 3),ba (.ref q),a3,a4,a5]/\S'[q]?=ba (.lst ((cG a n i).map bu))/\S.length<=q/\Ka S S') rfl rfl #v[] #[rfl,_,_,_,_,rfl,ah,Ih _,.push] ?_ ?_
 ·rintro i ρ S1 hi ⟨q,a3,a4,a5,rfl,e1,hq,k1⟩ Q2 hn _;clear hK kk;have hi2:i<=2:=∅
  obtain⟨p1,p27,hP⟩:=qB (k:=i) ha1 ha3 hn1 hn3 han hi2;have hq1:=dY e1;refine st ?_;dsimp only[wS,wE,wA,Iq];refine bq λK hK=>?_
  refine iB rfl rfl ?_;dsimp only[wE,wA,wV,wG];subst hR0;refine aA #v[] rfl (cN ?_)
  rw[hM];refine#[(a:Ik),λm ρ S'=>∃a5,ρ=[ba (.tup [.tup M,.tup N,b0]),ba (.int 3),ba (.ref q),ba (.int i),ba (.ref S1.length),a5]/\S'[S1.length]?=ba (.lst ((cb m n i).map lz))/\S'[q]?=ba (.lst ((cG a n i).map bu))/\Ka S S',rfl,∅,#[a5,rfl,ah,aw e1,k1.trans .push],?_,?_]
  ·rintro m ρ S2 hm ⟨a5,rfl,e2,e2q,k2⟩ Q3 hn3' _;clear hK hn;have hS12:=dY e2;refine st ?_;dsimp only[wS,wE,wA,wV,wG,Iq];refine#[dX e2,?_];refine kX rfl rfl rfl ?_;dsimp only[wE,wA,wV,wG];refine aA #v[] rfl (cN ?_)
   rw[hN];refine yB (d:=d) hd hn1 hn3 ∅ λl S3 e3 hl k3=>?_
   refine#[l,(bY n i).map λds=>.tup (ae ds),λj ys ρ2 S4=>(∃a1,ρ2=[K3,a1,ba (.int m)])/\ys=((bY n i).take j).map (λds=>lz ((m:Ik),ds))/\S4=S3,rfl,#[#[K3,rfl],rfl,rfl],λj ys ρ2 S4 h=>by rw[h.2.2]; exact e3,?_,?_]
   ·rintro j w ys ρ2 S4 hw ⟨⟨a1,rfl⟩,rfl,rfl⟩;rw[HY,HS]at hw;obtain⟨ds,hds,rfl⟩:=hw;refine ag (show iM (.nm 1) (.tup (ae ds)) [K3,a1,ba (.int m)] S4=ba ([K3,ba (.tup (ae ds)),ba (.int m)],S4)from rfl) ?_
    refine#[λ_=>#[#[_,rfl],?_,rfl],λz=>by cases z]
    rw[Jd,hds];simp[lz,ae]
   ·rintro ys ρ2 S4 ⟨_,rfl,rfl⟩;rw[show((bY n i).map λds=>W.tup (ae ds)).length=(bY n i).length from HN ..,Jy]
    have hdl:=(yA (n:=n) (k:=i) hn3 ∅).1
    have e2':=aw (u:=O.lst ((bY n i).map λds=>lz ((m:Ik),ds))) (k3.get _ _ e2)
    have hpm:(cb m n i).length<=27:=by
     rw[kW]at p27 ⊢;exact Jh (Nat.mul_le_mul_right _ ∅) p27
    refine#[jA (by rw[HN]; omega),FJ e2' ah (by rw[HN,HN]; omega) (dv (hn3' _ _ #[_,rfl,?_,?_,((k2.trans k3).trans .push).late k1.len]))]
    ·rw[bT e2'];unfold cb;rw[Mj,N5,Jz];simp
    ·rw[b6 ∅]; exact aw (k3.get _ _ e2q)
  ·rintro ρ S2 ⟨a5,rfl,e2,e2q,k2⟩;rw[Iu]at e2;refine hK _ _ ?_;clear hK K;have hPz:(((cG a n i).length:Ik)*((cb a n i).length:Ik))=(((cG a n i).length*(cb a n i).length:HW):Ik):=(Nr ..).symm;refine st ?_;dsimp only[wS,wE,Iq];refine en (((cG a n i).length*(cb a n i).length:HW):Ik) (λj ys ρ2 S3=>(∃a1,ρ2=[K3,a1,ba (.ref S1.length),ba (.ref q)])/\ys=((cG a n (i+1)).take j).map bu/\S3=S2) rfl rfl rfl ∅ ?_ ?_ ?_
   ·refine BP (x:=(cG a n i).length) (y:=(cb a n i).length) (λQ q'=>?_) (λQ q'=>?_) ∅ ∅ #[by rw[hPz],#[K3,rfl],rfl,rfl]
    ·dsimp only[wE,wA,wV,wG];refine fJ e2q ?_;rw[HN];exact q'
    ·dsimp only[wE,wA,wV,wG];refine fJ e2 ?_;rw[HN];exact q'
   ·rintro j ys ρ2 S3 hj ⟨⟨a1,rfl⟩,rfl,rfl⟩;have hj':j < (cG a n i).length*(cb a n i).length:=∅
    have hlt:j / (cb a n i).length < (cG a n i).length:=Kr (by rw[Lr]; exact hj')
    have hg:=au (d:=[]) hlt;have hwl:=Be (Ip hg);have hmod:j % (cb a n i).length < (cb a n i).length:=Nh _ p1;have hp:=au (d:=(0,[])) hmod;dsimp only[ju,wC,wE,wA,wV,wG,Iq];refine#[λ_=>fJ e2 ?_,λz=>by cases z]
    rw[HN];refine ag (gO ∅ ∅) ?_
    refine iu e2q (w:=bu ((cG a n i).getD (j / (cb a n i).length) [])) (Mh ∅ ∅) (by rw[show((j:Ik) / ((cb a n i).length:Ik)).toNat=j / (cb a n i).length from rfl,HY,hg]; rfl) (fJ e2 ?_)
    rw[HN];refine ag (ik ∅) (iu e2 (w:=lz ((cb a n i).getD (j % (cb a n i).length) (0,[]))) (KL _ ∅) (by rw[show((j:Ik) % ((cb a n i).length:Ik)).toNat=j % (cb a n i).length from rfl,HY,hp]; rfl) ?_)
    refine ag (rL (jA (by rw[Im,HN]; show _+1<=1000; omega))) #[#[_,rfl],?_,rfl]
    have ed:(cG a n (i+1))[j]?=ba ((cG a n i).getD (j / (cb a n i).length) []++[(cb a n i).getD (j % (cb a n i).length) (0,[])]):=by
     rw[cG,HY,JU hj']; rfl
    rw[Jd,ed];simp[bu]
   ·rintro ys ρ2 S3 ⟨_,rfl,rfl⟩;rw[Iu,<- d7,Jy];exact#[jA (by rw[HN,d7]; omega),dv (hn _ _ #[_,_,_,_,rfl,ah,k2.len,k2.trans .push])]
 ·rintro ρ S1 ⟨q,a3,a4,a5,rfl,e1,hq,k1⟩;exact hK _ _ (st (kk q S1 e1 hq k1))
end
noncomputable def dA (a:HW)(bs:HK Ik):HK Wd:=(cG a bs.length 3).map (jB bs)
noncomputable def ce (a:HW)(bs:HK Ik):IF:=match jp ((dA a bs).map dg)with
 | some ks=>decide ks.Nodup && !ks.isEmpty
 | none=>false
theorem Hg:ce 1 [0]=true/\ce 2 [0]=true/\ce 3 [0]=true:=by decide +kernel
theorem F2:ce 1 [0,1]=true/\ce 2 [0,1]=true/\ce 1 [1,0]=true/\ce 2 [1,0]=true:=by decide +kernel
theorem Hh:ce 1 [0,1,2]=true/\ce 1 [1,0,2]=true/\ce 1 [0,2,1]=true:=by decide +kernel
theorem Hi:ce 3 [0,1]=true:=by decide +kernel
theorem Hj:ce 3 [1,0]=true:=by decide +kernel
theorem Hk:ce 2 [0,1,2]=true:=by decide +kernel
theorem Hl:ce 2 [1,0,2]=true:=by decide +kernel
theorem Hm:ce 2 [0,2,1]=true:=by decide +kernel
noncomputable def tJ (bs:HK Ik)(v:Wd)(ps:HK HW)(i:HW):Pt:=((v.getD i (0,[])).1,ps.map λq=>b8 bs v i q)
theorem uZ (bs:HK Ik)(v:Wd)(o:HK HW)(p:HW):ar bs v (o++[p])=ar bs v o++[tJ bs v o p]:=by
 unfold ar tJ;rw[Im,Kh,Mj,Jz];congr 1
 ·refine JV λk hk=>?_
  have hk:=Ji.mp hk;rw[show(o++[p]).getD k 0=o.getD k 0 by simp[Je hk],List.take_append_of_le_length ∅]
 ·simp
theorem rR {xs:HK Ik}{k:HW}(h:xs.length=k):(IN k).map (λq=>xs.getD q 0)=xs:=by
 apply K2
 ·simp[h]
 ·intro i h1 h2; simp[h2]
theorem u4 {bs:HK Ik}{a n:HW}{u:Wd}{k:HW}(hu:GoodW a n u)(hk:k < u.length):tJ bs u (IN k) k=u.getD k (0,[]):=by
 unfold tJ;have hl:=hu.len k _ (au (d:=(0,[])) hk);have e:((IN k).map λq=>b8 bs u k q)=(u.getD k (0,[])).2:=by
  refine Eq.trans (JV λq hq=>?_) (rR hl)
  have hq:=Ji.mp hq;unfold b8;rw[Ix hq]
 rw[e]
section
variable{defs:HK (Iv×Df)}{fuel d:HW}{S:aa}{Q:QW}
theorem Dy {n:HW}(h:n<=1000000):n<=sizeLine:=by rw[Jf]; omega
end
theorem u5 {Φ:Iv->FF}{ρ:Fm}{S:aa}{e:E}{n:HW}{m:Ik}{Q:QW}(hm:m=n)(he:∀Q:QW,Q (.int m,S)->wE Φ e ρ S Q)(hn:n<=1000)(k:∀S',Ka S S'->Q (.tup (am (IN n)),S')):wE Φ (.bi .tuple #v[.bi .range #v[e]]) ρ S Q:=by
 have e1:Bi.range.fn [.int m] S=ba (.ref S.length,S++[.rng 0 m]):=by
  simp only[Bi.fn,kh];rw[Ix #[∅,∅]]
 have e2:Bi.tuple.fn [.ref S.length] (S++[.rng 0 m])=ba (.tup (am (IN n)),S++[.rng 0 m]):=by
  have h1:uk (S++[.rng 0 m]) S.length=ba (0,m):=by simp[uk]
  simp only[Bi.fn,iV,h1];rw[Ix #[∅,∅,∅,∅,by rw[Jf]; omega],hm,mX]
 have g:wO (Bi.range.fn [.int m] S) λp=>wO (Bi.tuple.fn [p.1] p.2) Q:=by
  rw[e1];show wO (Bi.tuple.fn [.ref S.length] (S++[.rng 0 m])) Q;rw[e2];exact k _ .push
 rw[wE,wA];rw[wE,wA];exact he _ g
section
variable{defs:HK (Iv×Df)}{fuel d:HW}{S:aa}{Q:QW}
end
section
variable{defs:HK (Iv×Df)}{fuel d:HW}{S:aa}{Q:QW}
end
section
variable{defs:HK (Iv×Df)}{fuel d:HW}{S:aa}{Q:QW}
end
theorem Bf {a:HW}{bs:HK Ik}(h:SizeOk a bs):ce a bs=true:=by
 obtain⟨h0,hb,hm,h3⟩:=h;have ha:a=1\/a=2\/a=3:=∅
 rcases hb with rfl|rfl|rfl|rfl|rfl|rfl <;> rcases ha with rfl|rfl|rfl
 ·exact Hg.1
 ·exact Hg.2.1
 ·exact Hg.2.2
 ·exact F2.1
 ·exact F2.2.1
 ·exact Hi
 ·exact F2.2.2.1
 ·exact F2.2.2.2
 ·exact Hj
 ·exact Hh.1
 ·exact Hk
 ·exact absurd hm #v[]
 ·exact Hh.2.1
 ·exact Hl
 ·exact absurd hm #v[]
 ·exact Hh.2.2
 ·exact Hm
 ·exact absurd hm #v[]
theorem qC:∀ {us vs:HK Wd},us.map dg=vs.map dg->us=vs
 | [],[],_=>rfl
 | [],_::_,h=>by cases h
 | _::_,[],h=>by cases h
 | x::xs,y::ys,h=>by
  simp only[JH,Q9]at h;rw[on h.1,qC h.2]
theorem qD:∀xs:HK Ik,cW (xs.map T.int)=true
 | []=>rfl
 | _::xs=>qD xs
theorem tK:∀u:Wd,cW (u.map n0)=true
 | []=>rfl
 | p::u=>by
  simp only[JH,cW,HV];refine#[?_,tK u];simp[n0,eP,cW,qD]
theorem yD (u:Wd):eP (dg u)=true:=tK u
theorem BQ:∀ {ks:HK T} {L:HK Wd},(∀k∈ks,k∈L.map dg)->∃us:HK Wd,ks=us.map dg/\∀u∈us,u∈L
 | [],_,_=>#[[],rfl,λ_ h=>nomatch h]
 | k::ks,L,h=>by
  obtain⟨u,hu,rfl⟩:=II.mp (h k (.head _));obtain⟨us,rfl,h2⟩:=BQ λk hk=>h k (.tail _ hk)
  exact#[u::us,rfl,λv hv=>(IE.mp hv).elim (λe=>e ▸ hu) (h2 v)]
theorem jv:∀ {us:HK Wd},(us.map dg).Nodup->us.Nodup
 | [],_=>.nil
 | u::us,h=>by
  rw[JH,KI]at h;exact KI.mpr #[λz=>h.1 (II.mpr #[u,z,rfl]),jv h.2]
theorem Dz {n k:HW}{ds:HK Ik}:ds∈bY n k->ds.length=k/\∀w∈ds,0<=w/\w < (n:Ik):=by
 induction k generalizing ds with
 | zero=>intro h; cases Ir.mp h; exact#[rfl,λw hw=>nomatch hw]
 | succ k ih=>
  intro h;obtain⟨i,hi,rfl⟩:=II.mp h;have hi:=Ji.mp hi;have hn:0 < n:=by
   rcases MG n with h|h
   ·rw[h,Nl]at hi; omega
   ·exact h
  have hlt:i / n < (bY n k).length:=Kr (by rw[Lr]; exact hi)
  obtain⟨h1,h2⟩:=ih (Ip (au (d:=[]) hlt));refine#[by rw[Im,h1]; rfl,λw hw=>?_]
  rcases IY.mp hw with h|h
  ·exact h2 w h
  ·rw[Ir.mp h];have:=Nh i hn;omega
theorem qE {a n k:HW}{u:Wd}:u∈cG a n k->GoodW a n u/\u.length=k:=by
 induction k generalizing u with
 | zero=>intro h; cases Ir.mp h; exact#[.nil,rfl]
 | succ k ih=>
  intro h;obtain⟨i,hi,rfl⟩:=II.mp h;have hi:=Ji.mp hi;have hpos:0 < (cb a n k).length:=by
   rcases MG (cb a n k).length with h|h
   ·rw[h,Nl]at hi; omega
   ·exact h
  have hlt:i / (cb a n k).length < (cG a n k).length:=Kr (by rw[Lr]; exact hi)
  obtain⟨h1,h2⟩:=ih (Ip (au (d:=[]) hlt));have hp:=Ip (au (d:=(0,[])) (Nh i hpos));obtain⟨m,hm,hp⟩:=O6.mp hp;obtain⟨ds,hds,e⟩:=II.mp hp;obtain⟨g1,g2⟩:=Dz hds;have hm:=Ji.mp hm;rw[<- e];exact#[h1.snoc #[∅,∅] (by rw[g1,h2]) g2,by rw[Im,h2]; rfl]
theorem Bg {a:HW}{bs:HK Ik}(h:SizeOk a bs):∃us:HK Wd,jp ((dA a bs).map dg)=ba (us.map dg)/\us.Nodup/\us.length < 64/\(∀u∈us,u∈bg a bs)/\dA a bs≠[]:=by
 have p:=Bf h;unfold ce at p;split at p
 ·rename_i ks hk;simp only[HV,Iw]at p;have hm0:=wF hk;obtain⟨us,rfl,hm⟩:=BQ (L:=bg a bs) λk hk=>by
   obtain⟨f,hf,rfl⟩:=II.mp (hm0 k hk);obtain⟨u,hu,rfl⟩:=II.mp hf;obtain⟨g1,g2⟩:=qE hu;exact II.mpr #[_,tz g1 g2,rfl]
  have nd:=jv p.1;refine#[us,hk,nd,Oq (i8 us _ nd hm) (om h),hm,λz=>?_]
  rw[z]at hk;have e:ba (us.map dg)=ba []:=hk.symm;rw[Jt e]at p;exact absurd p.2 #v[]
 ·cases p
theorem qF {us:HK Wd}(h:us.Nodup):Nice (us.map dg):=by
 refine#[λx hx=>?_,i9 us,?_]
 ·obtain⟨u,_,rfl⟩:=II.mp hx;exact yD u
 ·rw[MH,LZ];exact h.imp λhne e=>hne (on e)
theorem jc {us:HK Wd}:(cO us).map dg=ef (us.map dg):=by
 unfold cO ef;rw[qk (d:=[])]
theorem u6 {us vs:HK Wd}(h:us.Nodup)(hs:vs.Sublist (cO us)):cO vs=vs:=by
 apply qC;rw[jc];refine wD (qF h) ?_;rw[<- jc];exact hs.map _
noncomputable def dh:Ss:=
 #v[.ret (.bi .sorted #v[.bi .set #v[.comp (.own "_law_figure" 2 #v[.v 2,.v 1]) (.nm 1) (.seq (.own "_law_worlds" 2 #v[.v 0,.c (.int 3)])) .nil [K3,K3,ba 0]]])]
noncomputable def cw:Ss:=
 #v[.set 1 (.own "_law_pick" 2 #v[.v 0,.c (.int 4)]),.ite (.cmp .eq (.v 1) (.c (.int 0))) #v[.ret (.own "_law_laying_rule" 1 #v[.v 0])] .nil,.ite (.cmp .lt (.v 1) (.c (.int 3))) #v[.ret (.own "_law_any_rule" 1 #v[.v 0])] .nil,.asg [2,3] (.own "_law_sizes" 1 #v[.v 0]),.set 4 (.own "_law_rule_of" 4 #v[.v 0,.v 2,.own "_law_backs" 2 #v[.v 0,.v 3],.tup .nil]),.ret (.tup #v[.ix (.v 4) (.c (.int 0)),.ix (.v 4) (.c (.int 1)),.bi .tuple #v[.comp (.v 1) (.nm 1) (.seq (.own "_law_figures" 1 #v[.v 4])) #v[.cmp .eq (.own "_law_pick" 2 #v[.v 2,.c (.int 3)]) (.c (.int 0))] [K3,K3,ba 0]]])]
section
variable{defs:HK (Iv×Df)}{fuel d:HW}{S:aa}{r:HW}{Q:QW}
theorem DA {l:HW}{us ks:HK Wd}(h:S[l]?=ba (.lst (us.map bu)))(hne:us≠[])(hk:jp (us.map dg)=ba (ks.map dg))(q:Q (.ref S.length,S++[.stt (ks.map dg)])):wO (Bi.set.fn [.ref l] S) Q:=by
 refine ag ?_ q;have e2:kz [.ref l] S=ba (.ref S.length,S++[.stt (ks.map dg)]):=by
  simp only[kz,aT h,xV];rw[Ix,hk]
  ·rfl
  ·rw[IC];intro x hx;obtain⟨u,_,rfl⟩:=II.mp hx;have:=kP u;have kl:aF=6:=rfl;simp only[wH,yD,L8,HV,Iw];exact#[rfl,∅]
 exact e2
theorem Bh {l:HW}{us:HK Wd}(h:S[l]?=ba (.stt (us.map dg)))(h64:us.length < 64)(hnd:us.Nodup)(hne:∀u∈us,u≠[])(q:Q (.ref S.length,S++[.lst ((cO us).map bu)])):wO (Bi.sorted.fn [.ref l] S) Q:=by
 refine ag ?_ q;have hr:DN S l=ba (us.map dg):=by simp[DN,h]
 have N:=qF hnd;have ok:kA (us.map dg)=true:=by
  simp only[kA,gJ,HV,Iw,J0,HN];refine#[#[#[IC.mpr N.num,N.lt],N.nd],#[#[h64,by have:=fZ us; unfold cu; omega],.inr #[xY us hne,N.lt]]]
 have e1:cL [.ref l] S=ba (.ref S.length,S++[.lst ((cO us).map bu)]):=by
  simp only[cL,hr];rw[Ix ok,<- jc,rM]
 show AC cL eS [.ref l] S=_;unfold AC;simp only[e1]
structure Full (defs:HK (Iv×Df)):Prop where
 digits:Is defs ("_law_digits" : Iv) 2 4 cg
 worlds:Is defs ("_law_worlds" : Iv) 2 6 cR
 figures:Is defs ("_law_figures" : Iv) 1 1 dh
 full:Is defs ("_law_full_rule" : Iv) 1 5 cw
theorem u7 (G:Gen defs)(F:Full defs){ms ns:HK Iv}{a:HW}{bs:HK Ik}{b0:W}(hs:SizeOk a bs)(hml:ms.length=a)(hnl:ns.length=bs.length)
  (k:∀(us:HK Wd) (q:HW) (S':aa),us.Nodup->us.length < 64->(∀u∈us,u∈bg a bs)->S'[q]?=ba (.lst ((cO us).map bu))->S.length<=q->Ka S S'->Q (.ref q,S')) :
  wO (bD (aq defs fuel (d+4)) "_law_figures" 1 [.tup [.tup (ms.map W.str),.tup (IJ bN ns bs),b0]] S) Q:=by
 refine aN F.figures rfl rfl λQ' hR=>?_
 replace k:∀(us:HK Wd) (q:HW) (S':aa),us.Nodup->us.length < 64->(∀u∈us,u∈bg a bs)->S'[q]?=ba (.lst ((cO us).map bu))->S.length<=q->Ka S S'->Q' (.rt (.ref q),S'):=λa b c e f g h i j=>hR _ _ (k a b c e f g h i j)
 clear hR;obtain⟨us,hk,hnd,h64,hmem,hne⟩:=Bg hs;have hb3:=hs.n3;have hpos:=hs.pos;have h3:=hs.a3;have hmost:=hs.most;show wZ _ _ dh [ba (.tup [.tup (ms.map W.str),.tup (IJ bN ns bs),b0])] S Q';generalize hB:W.tup [.tup (ms.map W.str),.tup (IJ bN ns bs),b0]=R;dsimp only[dh];refine st ?_;dsimp only[wS,wE,wA,wV,wG];refine kX rfl rfl rfl ?_;dsimp only[wE,wA,wV,wG];subst hB;refine yC (d:=d+1) F.digits F.worlds (a:=a) (n:=bs.length) (by rw[HN,hml]) (by rw[Mo,hnl]; omega) hpos h3 hb3.1 hb3.2 hmost λl S1 e1 hl k1=>?_
 generalize hB:W.tup [.tup (ms.map W.str),.tup (IJ bN ns bs),b0]=R;refine#[l,(cG a bs.length 3).map bu,λj ys ρ2 S2=>(∃a1,ρ2=[K3,a1,ba R])/\ys=((dA a bs).take j).map bu/\S2[l]?=ba (.lst ((cG a bs.length 3).map bu))/\Ka S S2,rfl,#[#[K3,rfl],rfl,e1,k1],λj ys ρ2 S2 h=>h.2.2.1,?_,?_]
 ·rintro j w ys ρ2 S2 hw ⟨⟨a1,rfl⟩,rfl,e2,k2⟩;rw[HY,HS]at hw;obtain⟨u,hu,rfl⟩:=hw;obtain⟨gu,hu3⟩:=qE (Ip hu);refine ag (show iM (.nm 1) (bu u) [K3,a1,ba R] S2=ba ([K3,ba (bu u),ba R],S2)from rfl) ?_
  dsimp only[ju,wC,wE,wA,wV,wG];subst hB;refine#[λ_=>iz (d:=d) G hs.good hnl gu hu3 λS3 k3=>#[#[_,rfl],?_,k3.get _ _ e2,k2.trans k3],λz=>by cases z]
  have:(dA a bs)[j]?=ba (jB bs u):=by unfold dA; rw[HY,hu]; rfl
  rw[Jd,this];simp
 ·rintro ys ρ2 S2 ⟨_,rfl,e2,k2⟩;have hfl:(dA a bs).length=((cG a bs.length 3).map bu).length:=by unfold dA; rw[HN,HN]
  rw[<- hfl,Jy];have hl216:(dA a bs).length<=216:=by
   unfold dA;rw[HN,d7];exact(qB (k:=2) hpos h3 hb3.1 hb3.2 hmost #v[]).2.2
  refine#[Dy (by rw[HN]; omega),DA ah hne hk (Bh ah h64 hnd (λu hu=>qo (hmem u hu)) ?_)]
  have kk:=((k2.trans (Ka.push (o:=O.lst ((dA a bs).map bu)))).trans (Ka.push (o:=O.stt (us.map dg)))).trans (Ka.push (o:=O.lst ((cO us).map bu)));exact k us _ _ hnd h64 hmem ah (((k2.trans (Ka.push (o:=O.lst ((dA a bs).map bu)))).trans (Ka.push (o:=O.stt (us.map dg)))).len) kk
theorem DB (hfu:20 < fuel)(G:Gen defs)(F:Full defs)(hf:Fl S r)(k:∀w S',d6 w->Fl S' r->Kp r S S'->Q (w,S')):wO (bD (aq defs fuel (d+8)) "_law_full_rule" 1 [.ref r] S) Q:=by
 refine aN F.full rfl rfl λQ' hR=>?_
 replace k:∀w S',d6 w->Fl S' r->Kp r S S'->Q' (.rt w,S'):=λz S' a b c=>hR _ _ (k z S' a b c)
 clear hR;show wZ _ _ cw [ba (.ref r),K3,K3,K3,K3] S Q';dsimp only[cw];refine bq λK hK=>?_
 dsimp only[wS,wE,wA,wV,wG,Iq];refine aX (d:=d+6) G.pick hf #v[] #v[] λv S1 v0 v7 f1 k1=>hK _ _ ?_
 clear hK K;refine bq λK hK=>?_
 dsimp only[wS,wT,wE,wV,wG,im,aU,wB];refine aO (Q0:=Q') (λ_ Q2 _ hr=>?_) (λ_ Q2 hn _=>dv (hn _ _ (hK _ _ ?_)))
 ·refine st ?_;dsimp only[wS,wE,wA,wV,wG];exact yy (d:=d) hfu G f1 λw S2 hw f2 k2=>hr _ _ (k w S2 hw f2 (k1.trans k2))
 clear hK K hn;refine bq λK hK=>?_
 dsimp only[wS,wT,wE,wV,wG,AJ,aU,wB];refine aO (Q0:=Q') (λ_ Q2 _ hr=>?_) (λ_ Q2 hn _=>dv (hn _ _ (hK _ _ ?_)))
 ·refine st ?_;dsimp only[wS,wE,wA,wV,wG];exact rO (d:=d+1) hfu G f1 λw S2 hw f2 k2=>hr _ _ (k w S2 hw f2 (k1.trans k2))
 clear hK K hn;refine bq λK hK=>?_
 dsimp only[wS,wE,wA,wV,wG];refine oh (d:=d+5) G f1 λa n S2 a1 a3 n1 n3 an f2 k2=>?_
 dsimp only[wU];refine ag (show dS [2,3] [.int a,.int n] [ba (.ref r),ba (.int v),K3,K3,K3]=ba [ba (.ref r),ba (.int v),ba (.int a),ba (.int n),K3]from rfl) (hK _ _ ?_)
 clear hK K;refine bq λK hK=>?_
 dsimp only[wS,wE,wA,wV,wG,Iq];refine ol (d:=d+5) G f2 n1 n3 λbs S3 hb hbl f3 k3=>?_
 have hsz:SizeOk a bs:=#[∅,hb,by rw[hbl]; exact an,a3]
 refine eZ (d:=d+2) hfu G f3 a3 ∅ λms ns S4 hml hnl hnm f4 k4=>hK _ _ ?_
 clear hK K;have k14:Kp r S S4:=k1.trans (k2.trans (k3.trans k4));clear k1 k2 k3 k4;refine st ?_;dsimp only[wS,wE,wA,wV,wG];refine aA #v[] rfl (aA #v[] rfl ?_)
 refine kX rfl rfl rfl ?_;dsimp only[wE,wA,wV,wG];refine u7 (d:=d+3) G F hsz hml hnl λus q S5 hnd h64 hmem e5 hq k5=>?_
 have f5:=f4.ka k5;have hrq:r < q:=IG f4.lt hq;refine#[q,(cO us).map bu,λj ys ρ2 S6=>(∃a1,ρ2=[K3,a1,ba (.ref r)])/\(∃vs:HK Wd,ys=vs.map bu/\vs.Sublist ((cO us).take j))/\S6[q]?=ba (.lst ((cO us).map bu))/\Fl S6 r/\Kp r S S6,rfl,#[#[K3,rfl],#[[],rfl,by simp],e5,f5,k14.trans (k5.kp r)],λj ys ρ2 S6 h=>h.2.2.1,?_,?_]
 ·rintro j w ys ρ2 S6 hw ⟨⟨a1,rfl⟩,⟨vs,rfl,hsub⟩,e6,f6,k6⟩;rw[HY,HS]at hw;obtain⟨u,hu,rfl⟩:=hw;refine ag (show iM (.nm 1) (bu u) [K3,a1,ba (.ref r)] S6=ba ([K3,ba (bu u),ba (.ref r)],S6)from rfl) ?_
  dsimp only[ju,wC,wE,wA,wV,wG];refine aX (d:=d+6) G.pick f6 #v[] #v[] λv S7 _ _ f7 k7=>?_
  dsimp only[im,aU,wB];have e7:=k7.get _ _ ∅ e6
  refine#[λ_=>#[#[_,rfl],#[vs++[u],by rw[Jz]; rfl,?_],e7,f7,k6.trans k7],λ_=>#[#[_,rfl],#[vs,rfl,?_],e7,f7,k6.trans k7]]
  ·rw[Jd,hu];exact hsub.append (QV _)
  ·rw[Jd];exact hsub.trans (List.sublist_append_left _ _)
 ·rintro ys ρ2 S6 ⟨_,⟨vs,rfl,hsub⟩,e6,f6,k6⟩;rw[HN,Jy]at hsub;have pu:(cO us).Perm us:=eG;have hvl:vs.length<=us.length:=by rw[<- pu.length_eq]; exact hsub.length_le
  have hvs:=u6 hnd hsub;refine#[Dy (by rw[HN]; omega),dt ah (k _ _ #[a,bs,ms,ns,vs,by rw[hvs]; rfl,hsz,hml,hnl,hnm,hsub.nodup (pu.nodup_iff.mpr hnd),λg hg=>hmem g (pu.mem_iff.mp (hsub.subset hg))] (f6.ka .push) (k6.trans .push))]
end
section
variable{Φ:Iv->FF}{ρ:Fm}{S:aa}
theorem yE {α:Type}{elt:E}{it:Ie}{cs:Es}{cap:HK (HU HW)}{mi:MI}{S1:aa}{Q:QW}(L:HK α)(f:α->W)(p:α->IF)(g:α->W)(R:Fm)(oe:d8 elt=true)(oc:oO cs=true)(hc:eT cap ρ=K3::K3::R)(hl:L.length<=1000000)(hi:ly Φ it ρ S=ba (mi,S1))(k1:Ka S S1)(hat:∀i S',Ka S1 S'->mi.at S' i=ba (L.map f)[i]?)(hn:mi.len S1=ba (L.map f).length)
  (hstep:∀x∈L,∀S',Ka S S'->ju Φ elt cs (K3::ba (f x)::R) S' (λy _ S2=>p x=true/\y=g x/\Ka S' S2) (λ_ S2=>p x=false/\Ka S' S2))
  (k:∀S',Ka S S'->Q (.ref S'.length,S'++[.lst ((L.filter p).map g)])):Wp (aG Φ (.comp elt (.nm 1) it cs cap) ρ S) Q:=by
 rw[xI];refine#[_,hi,_,hn,?_];refine(dF (xs:=L.map f) (Q:=λq=>q.1.length<=sizeLine/\Q (.ref q.2.length,q.2++[.lst q.1])) (λi ys ρ' S'=>(∃a1,ρ'=K3::a1::R)/\ys=((L.take i).filter p).map g/\Ka S1 S') (λi ys ρ' S' h=>hat i S' h.2.2) (λi w ys ρ' S' hw h=>?_) (λys ρ' S' h=>?_) (L.map f).length 0 [] _ S1 ∅ #[#[K3,hc],rfl,.refl]).mono λq hq=>by simpa using hq
 ·obtain⟨⟨a1,rfl⟩,rfl,k2⟩:=h;rw[HY,HS]at hw;obtain⟨x,hx,rfl⟩:=hw;refine G3.mpr ?_;refine(BO oc (hstep x (Ip hx) S' (k1.trans k2))).mono λc hc=>#[λz=>(bx elt oe (hc.1 z)).mono λy hy=>#[#[_,rfl],?_,k2.trans hy.2.2],λz=>#[#[_,rfl],?_,k2.trans (hc.2 z).2]]
  ·rw[Jd,hx,Ot,show(P7 (ba x)).filter p=[x]from List.filter_cons_of_pos hy.1,Jz,hy.2.1]; rfl
  ·rw[Jd,hx,Ot,show(P7 (ba x)).filter p=[]from List.filter_cons_of_neg (by rw[(hc.2 z).1]; exact IA),Kw]
 ·obtain⟨_,rfl,k2⟩:=h;dsimp only;rw[show(L.map f).length=L.length from HN ..,Jy]
  refine#[Dy ?_,k S' (k1.trans k2)];rw[HN];exact Jh (List.length_filter_le _ _) hl
theorem DC {α:Type}{elt e:E}{cs:Es}{cap:HK (HU HW)}{Q:QW}(L:HK α)(f:α->W)(p:α->IF)(g:α->W)(R:Fm)(oi:d8 e=true)(oe:d8 elt=true)(oc:oO cs=true)(hc:eT cap ρ=K3::K3::R)(hl:L.length<=1000000)
  (he:wE Φ e ρ S λq=>∃t,q.1=.ref t/\q.2[t]?=ba (.lst (L.map f))/\Ka S q.2)
  (hstep:∀x∈L,∀S',Ka S S'->ju Φ elt cs (K3::ba (f x)::R) S' (λy _ S2=>p x=true/\y=g x/\Ka S' S2) (λ_ S2=>p x=false/\Ka S' S2))
  (k:∀S',Ka S S'->Q (.ref S'.length,S'++[.lst ((L.filter p).map g)])):Wp (aG Φ (.comp elt (.nm 1) (.seq e) cs cap) ρ S) Q:=by
 obtain⟨w,S1,e1,t,rfl,ht,k1⟩:=cz oi he;exact yE (mi:=.live t) L f p g R oe oc hc hl (by simp only[ly,fm,e1,aT ht]) k1 (λi S' h=>by simp only[MI.at,aT (h.get _ _ ht)]) (by simp only[MI.len,aT ht,IZ]) hstep k
theorem DD {α:Type}{elt e:E}{cs:Es}{cap:HK (HU HW)}{Q:QW}(L:HK α)(f:α->W)(p:α->IF)(g:α->W)(R:Fm)(oi:d8 e=true)(oe:d8 elt=true)(oc:oO cs=true)(hc:eT cap ρ=K3::K3::R)(hl:L.length<=1000000)
  (he:wE Φ e ρ S λq=>q.1=.tup (L.map f)/\Ka S q.2)
  (hstep:∀x∈L,∀S',Ka S S'->ju Φ elt cs (K3::ba (f x)::R) S' (λy _ S2=>p x=true/\y=g x/\Ka S' S2) (λ_ S2=>p x=false/\Ka S' S2))
  (k:∀S',Ka S S'->Q (.ref S'.length,S'++[.lst ((L.filter p).map g)])):Wp (aG Φ (.comp elt (.nm 1) (.seq e) cs cap) ρ S) Q:=by
 obtain⟨w,S1,e1,rfl,k1⟩:=cz oi he;exact yE (mi:=.its (L.map f)) L f p g R oe oc hc hl (by simp only[ly,fm,e1]) k1 (λ_ _ _=>rfl) rfl hstep k
theorem qG {α:Type}(L:HK α):L.filter (λ_=>true)=L:=List.filter_eq_self.mpr λ_ _=>rfl
end
theorem DE {bs:HK Ik}{a:HW}{v:Wd}{i j:HW}(hb:GoodB bs)(hv:GoodW a bs.length v)(hi:i < v.length)(hj:j < v.length)(hij:i≠j):0<=b8 bs v i j/\b8 bs v i j < (bs.length:Ik):=by
 unfold b8
 by_cases h:j < i
 ·rw[Ix h];have hp:=au (d:=(0,[])) hi;have hw:j < (v.getD i (0,[])).2.length:=by rw[hv.len i _ hp]; exact h
  exact hv.way i _ hp _ (Ip (au (d:=0) hw))
 ·rw[IK h];have hp:=au (d:=(0,[])) hj;have hw:i < (v.getD j (0,[])).2.length:=by rw[hv.len j _ hp]; omega
  obtain⟨g1,g2⟩:=hv.way j _ hp _ (Ip (au (d:=0) hw));exact(hb.at g1 g2).2
theorem mY {bs:HK Ik}{a:HW}{v:Wd}{ps:HK HW}(hb:GoodB bs)(hv:GoodW a bs.length v)(hps:∀p∈ps,p < v.length)(hnd:ps.Nodup):GoodW a bs.length (ar bs v ps):=by
 have at':∀(k:HW) (q:Pt),(ar bs v ps)[k]?=ba q->∃hk:k < ps.length,q=((v.getD ps[k] (0,[])).1,(ps.take k).map λj=>b8 bs v ps[k] j):=λk q e=>by
  have hk:k < ps.length:=by
   have:=(HZ.mp e).1;rw[bM]at this; exact this
  refine#[hk,?_];unfold ar at e;rw[HY,JU hk,IZ,show ps.getD k 0=ps[k] by simp[hk]]at e
  exact(Jt e).symm
 refine#[λk q e=>?_,λk q e=>?_,λk q e=>?_]
 ·obtain⟨hk,rfl⟩:=at' k q e;have:=hv.mark _ _ (au (d:=(0,[])) (hps _ (Jg hk)));exact this
 ·obtain⟨hk,rfl⟩:=at' k q e;dsimp only;rw[HN,Jp]; omega
 ·obtain⟨hk,rfl⟩:=at' k q e;intro w hw;obtain⟨j,hj,rfl⟩:=II.mp hw;have hjm:=J8 hj;refine DE hb hv (hps _ (Jg hk)) (hps _ hjm) λe=>?_
  obtain⟨m,hm,e2⟩:=J7.mp hj;rw[Jp]at hm;rw[Lf]at e2;have:=(Ki hnd).mp (e.trans e2.symm);omega
section
variable{defs:HK (Iv×Df)}{fuel d:HW}{S:aa}{Q:QW}
theorem DF (hd:Is defs ("_law_flow" : Iv) 1 1 d0){ns:HK Ik}{u:HW}(hu:S[u]?=ba (.fro (ns.map W.int)))(k:∀r S',Ka S S'->Fl S' r->Q (.ref r,S')) :
  wO (bD (aq defs fuel (d+1)) "_law_flow" 1 [.ref u] S) Q:=by
 refine aN hd rfl rfl λQ' hR=>?_
 show wZ _ _ d0 [ba (.ref u)] S Q';dsimp only[d0];refine st ?_;dsimp only[wS,wE,wA,wV,wG];have e:Bi.list.fn [.ref u] S=ba (.ref S.length,S++[.lst (ns.map W.int)]):=by
  have h1:uk S u=K3:=by simp[uk,hu]
  simp only[Bi.fn,AC,jm,h1,g7,ff,AK hu]
 refine ag e (hR _ _ (k _ _ (Ka.push.trans .push) #[S.length,ns,0,0,1,0,?_,?_,?_,#v[],#v[],#v[],#v[]]))
 ·exact ah
 ·exact aw ah
 ·simp
end
structure Ord (n:HW)(o:HK HW):Prop where
 nd:o.Nodup
 lt:∀p∈o,p < n
theorem ga {bs:HK Ik}{u:Wd}{o:HK HW}{i:HW}(hi:i < o.length):(ar bs u o).getD i (0,[])=((u.getD (o.getD i 0) (0,[])).1,(o.take i).map λj=>b8 bs u (o.getD i 0) j):=by
 unfold ar;rw[Lo,HY,JU hi]; rfl
theorem qH {bs:HK Ik}{u:Wd}{o:HK HW}{i j:HW}(hi:i < o.length)(hj:j < i):((ar bs u o).getD i (0,[])).2.getD j 0=b8 bs u (o.getD i 0) (o.getD j 0):=by
 rw[ga hi];dsimp only;rw[Lo,HY,MX hj,au (d:=0) (show j < o.length by omega)]; rfl
theorem yF {bs:HK Ik}{a:HW}{u:Wd}{o:HK HW}{i j:HW}(hb:GoodB bs)(hu:GoodW a bs.length u)(hO:Ord u.length o)(hi:i < o.length)(hj:j < o.length)(hij:i≠j):b8 bs (ar bs u o) i j=b8 bs u (o.getD i 0) (o.getD j 0):=by
 have gi:=au (d:=0) hi;have gj:=au (d:=0) hj;have li:=hO.lt _ (Ip gi);have lj:=hO.lt _ (Ip gj);have ne:o.getD i 0≠o.getD j 0:=λe=>by
  have h1:o[i]=o.getD i 0:=by simp[hi]
  have h2:o[j]=o.getD j 0:=by simp[hj]
  exact hij ((Ki hO.nd).mp (by rw[h1,h2,e]))
 by_cases h:j < i
 ·have:b8 bs (ar bs u o) i j=((ar bs u o).getD i (0,[])).2.getD j 0:=by unfold b8; rw[Ix h]
  rw[this,qH hi h]
 ·have:b8 bs (ar bs u o) i j=bs.getD (((ar bs u o).getD j (0,[])).2.getD i 0).toNat 0:=by unfold b8; rw[IK h]
  rw[this,qH hj ∅]
  generalize o.getD i 0=x at *
  generalize o.getD j 0=y at *
  unfold b8
  by_cases h2:x < y
  ·rw[Ix h2,IK ∅]
  ·rw[IK h2,Ix ∅]
   have hp:=au (d:=(0,[])) li;have hw:y < (u.getD x (0,[])).2.length:=by rw[hu.len x _ hp]; omega
   obtain⟨w0,w1⟩:=hu.way x _ hp _ (Ip (au (d:=0) hw));have:=hb.inv ((u.getD x (0,[])).2.getD y 0).toNat ∅
   rw[this]; omega
theorem u8 {bs:HK Ik}{a:HW}{u:Wd}{o p:HK HW}(hb:GoodB bs)(hu:GoodW a bs.length u)(hO:Ord u.length o)(hP:Ord o.length p):ar bs (ar bs u o) p=ar bs u (p.map λi=>o.getD i 0):=by
 refine K2 (by rw[bM,bM,HN]) λk h1 h2=>?_
 rw[bM]at h1;have e1:=ga (bs:=bs) (u:=ar bs u o) (o:=p) h1;have e2:=ga (bs:=bs) (u:=u) (o:=p.map λi=>o.getD i 0) (i:=k) (by rw[HN]; exact h1)
 have hk:p.getD k 0 < o.length:=hP.lt _ (Ip (au (d:=0) h1));have ek:(p.map λi=>o.getD i 0).getD k 0=o.getD (p.getD k 0) 0:=by
  rw[Lo,HY,au (d:=0) h1]; rfl
 rw[ek]at e2;rw[ga hk]at e1;have f:∀(v:Wd) (hv:k < v.length),v[k]=v.getD k (0,[]):=λv hv=>by simp[hv]
 rw[f _ (by rw[bM]; exact h1),f _ h2,e1,e2]
 congr 1;rw[<- L9,Km];refine JV λj hj=>?_
 obtain⟨m,hm,rfl⟩:=J7.mp hj;rw[Jp]at hm;rw[Lf];have hpm:p[m]=p.getD m 0:=by simp[show m < p.length by omega]
 rw[hpm];refine yF hb hu hO hk (hP.lt _ (Ip (au (d:=0) (show m < p.length by omega)))) λe=>?_
 have h3:p[k]=p.getD k 0:=by simp[h1]
 have:=(Ki hP.nd).mp (h3.trans (e.trans hpm.symm));omega
theorem yG {n:HW}{o p:HK HW}(h:Ord n o)(hp:Ord o.length p):Ord n (p.map λi=>o.getD i 0):=by
 have g:∀i,i < o.length->o[i]?=ba (o.getD i 0):=λi hi=>au hi
 refine#[?_,λq hq=>?_]
 ·rw[MH,LZ];refine hp.nd.imp_of_mem λ{a b} ha hb hab e=>hab ?_
  have h1:=hp.lt a ha;have h2:=hp.lt b hb;have e1:o[a]=o.getD a 0:=by simp[h1]
  have e2:o[b]=o.getD b 0:=by simp[h2]
  exact(Ki h.nd).mp (by rw[e1,e2,e])
 ·obtain⟨i,hi,rfl⟩:=II.mp hq;exact h.lt _ (Ip (g i (hp.lt i hi)))
noncomputable def jW:Ss:=
 #v[.set 1 (.own "_law_flow" 1 #v[.v 0]),.set 2 (.own "_law_full_rule" 1 #v[.v 1]),.set 3 (.own "_law_pick" 2 #v[.v 1,.c (.int 9)]),.ite (.cmp .eq (.own "_law_pick" 2 #v[.v 1,.c (.int 8)]) (.c (.int 0))) #v[.set 3 (.own "_law_pick" 2 #v[.v 1,.c (.int 31)])] .nil,.set 4 (.own "_law_any_world" 3 #v[.v 1,.v 2,.v 3]),.set 5 (.own "_law_drawn_points" 3 #v[.v 1,.v 3,.own "_law_pick" 2 #v[.v 1,.op .add (.v 3) (.c (.int 1))]]),.set 6 (.own "part" 3 #v[.v 2,.v 4,.v 5]),.ite (.not (.own "_law_alike" 2 #v[.v 6,.own "_law_part" 3 #v[.v 2,.v 4,.v 5]])) #v[.ret (.c (.bl false))] .nil,.set 7 (.own "_law_drawn_points" 3 #v[.v 1,.bi .len #v[.v 5],.own "_law_pick" 2 #v[.v 1,.op .add (.bi .len #v[.v 5]) (.c (.int 1))]]),.ite (.not (.own "_law_alike" 2 #v[.own "part" 3 #v[.v 2,.v 6,.v 7],.own "_law_part" 3 #v[.v 2,.v 4,.comp (.ix (.v 2) (.v 1)) (.nm 1) (.seq (.v 7)) .nil [K3,K3,ba 5]]])) #v[.ret (.c (.bl false))] .nil,.ret (.and (.own "_law_alike" 2 #v[.own "part" 3 #v[.v 2,.v 4,.bi .tuple #v[.bi .range #v[.v 3]]],.v 4]) (.own "_law_alike" 2 #v[.own "part" 3 #v[.v 2,.v 4,.v 5],.v 6]))]
structure Lw11 (defs:HK (Iv×Df)):Prop where
 gen:Gen defs
 full:Full defs
 parts:Parts defs
 part:Is defs ("part" : Iv) 3 3 kU
 flow:Is defs ("_law_flow" : Iv) 1 1 d0
 world:Is defs ("_law_any_world" : Iv) 3 6 bS
 alike:Is defs ("_law_alike" : Iv) 2 2 b7
 drawn:Is defs ("_law_drawn_points" : Iv) 3 5 bF
 law:Is defs ("law" : Iv) 1 8 jW
theorem yH {a n:HW}{u:Wd}(hu:GoodW a n u)(hl:u.length<=1000):Tr 3 (bu u):=by
 refine#[by rw[HN]; exact hl,λx hx=>?_]
 obtain⟨p,hp,rfl⟩:=II.mp hx;obtain⟨k,hk,e⟩:=J7.mp hp;have hpl:=hu.len k p (by rw[Ic hk,e])
 refine#[L1 rfl,λy hy=>?_]
 simp only[IE,Js,KP]at hy;rcases hy with rfl|rfl
 ·trivial
 ·refine#[by rw[HN]; omega,λz hz=>?_]
  obtain⟨w,_,rfl⟩:=II.mp hz;trivial
theorem mZ {bs:HK Ik}{a n:HW}{u:Wd}(hu:GoodW a n u):∀k,k<=u.length->ar bs u (IN k)=u.take k
 | 0,_=>by simp[ar]
 | k+1,h=>by
  rw[Mj,uZ,mZ hu k ∅,u4 hu ∅,Jd,au (d:=(0,[])) ∅]; rfl
section
variable{defs:HK (Iv×Df)}{fuel d:HW}{S:aa}{Q:QW}
theorem Bj (G:Gen defs){m0 b0:W}{ns:HK Iv}{bs:HK Ik}{a l:HW}{u:Wd}{ps:HK HW}(hb:GoodB bs)(hl:ns.length=bs.length)(hu:GoodW a bs.length u)(hps:∀p∈ps,p < u.length)(hnd:ps.Nodup)(hsz:ps.length < 1000)(el:S[l]?=ba (.lst (am ps)))(k:∀S',Ka S S'->Q (bu (ar bs u ps),S')) :
  wO (bD (aq defs fuel (d+2)) "_law_part" 3 [.tup [m0,.tup (IJ bN ns bs),b0],bu u,.ref l] S) Q:=by
 refine aN G.part rfl rfl λQ' hR=>?_
 replace k:∀S',Ka S S'->Q' (.rt (bu (ar bs u ps)),S'):=λS' a=>hR _ _ (k S' a)
 clear hR;show wZ _ _ c8 [ba (.tup [m0,.tup (IJ bN ns bs),b0]),ba (bu u),ba (.ref l),K3,K3,K3] S Q';generalize hR0:W.tup [m0,.tup (IJ bN ns bs),b0]=R;have hlS:=dY el;dsimp only[c8];refine st ?_;dsimp only[wS,wE,wA,Iq];refine bq λK hK=>?_
 have nl:(am ps).length=ps.length:=HN ..;refine dG (ps.length:Ik) (λk ρ S'=>(∃a4 a5,ρ=[ba R,ba (bu u),ba (.ref l),ba (.ref S.length),a4,a5])/\S'[S.length]?=ba (.lst (((ar bs u ps).take k).map lz))/\S'[l]?=ba (.lst (am ps))/\Ka S S') rfl rfl ∅ ?_ ?_ ?_
 ·dsimp only[wE,wA,wV,wG];refine fJ (aw el) ?_;rw[nl];exact#[rfl,#[K3,K3,rfl],ah,aw el,.push]
 ·rintro i ρ S1 hi ⟨⟨a4,a5,rfl⟩,e1,l1,k1⟩ Q2 hn _;clear hK;have hi':i < ps.length:=∅
  have hp:ps[i]?=ba ps[i]:=Ic hi';have hpu:ps[i] < u.length:=hps _ (Jg hi');dsimp only[Iq];refine st ?_;dsimp only[wS,wE,wV,wG,Iq];refine d4 l1 (iy hp) ?_;refine st ?_;dsimp only[wS,wE,wA,wV,wG,Iq];refine#[dX e1,aA (IH _) (kQ hpu) (aA #v[] rfl ?_)]
  refine DC (ps.take i) (λ(q:HW)=>W.int (q:Ik)) (λ_=>true) (λq=>W.int (b8 bs u ps[i] q)) [ba (.int ps[i]),ba R,ba (bu u)] rfl rfl rfl rfl (by rw[Jp]; omega) ?_ (λq hq S2 k2=>?_) λS2 k2=>?_
  ·dsimp only[wE,wP,wV,wG,wN];refine ag (a:=(.ref S1.length,S1++[.lst (am (ps.take i))])) ?_ #[_,rfl,ah,.push];simp only[ve,aT l1,iw];unfold am;rw[L9]
  ·dsimp only[ju,wC,wE,wA,wV,wG];subst hR0;have hqm:=J8 hq;refine#[λ_=>mR (d:=d) G hb hl hu hpu (hps _ hqm) (λe=>?_) #[rfl,rfl,.refl],λz=>by cases z]
   obtain⟨j,hj,ej⟩:=J7.mp hq;rw[Jp]at hj;rw[Lf]at ej;have:=(Ki hnd).mp (ej.trans e.symm);omega
  ·rw[qG];refine dt ah ?_;have e2:=aw (u:=O.lst ((ps.take i).map λq=>W.int (b8 bs u ps[i] q))) (k2.get _ _ e1)
   have l2:=aw (u:=O.lst ((ps.take i).map λq=>W.int (b8 bs u ps[i] q))) (k2.get _ _ l1)
   refine kK e2 (by rw[HN,Jp]; omega) (dv (hn _ _ #[#[_,_,rfl],?_,?_,((k1.trans k2).trans .push).late (Ih _)]))
   ·rw[bT e2];have ep:(ar bs u ps)[i]?=ba ((u.getD ps[i] (0,[])).1,(ps.take i).map λq=>b8 bs u ps[i] q):=by
     unfold ar;rw[HY,JU hi',IZ,getD_some hp]
    rw[Jd,ep];simp[lz,MU]
   ·rw[b6 ∅]; exact l2
 ·rintro ρ S1 ⟨⟨a4,a5,rfl⟩,e1,_,k1⟩;rw[Iu,<- bM bs u ps,Jy]at e1;refine hK _ _ (st ?_);dsimp only[wS,wE,wA,wV,wG];exact dt e1 (k _ k1)
theorem FK {Q:QO}{ρ:Fm}{R x y v:W}{z:Ik}{n:HW}(hz:z=n)(hn:n<=1000)(h2:∀P:W->Prop,P R->wV ρ 2 P)(h3:∀P:W->Prop,P (.int z)->wV ρ 3 P)(h4:∀P:W->Prop,P x->wV ρ 4 P)(h5:∀P:W->Prop,P y->wV ρ 5 P)(h6:∀P:W->Prop,P v->wV ρ 6 P){K:Fm->aa->Prop}
  (p1:∀S (Q:QW),(∀S',Q (x,S'))->wO (bD (aq defs fuel (d+8)) "part" 3 [R,x,.tup (am (IN n))] S) Q)
  (p2:∀S (Q:QW),(∀S',Q (v,S'))->wO (bD (aq defs fuel (d+8)) "part" 3 [R,x,y] S) Q)
  (a1:∀S (Q:QW),(∀S',Q (.bl true,S'))->wO (bD (aq defs fuel (d+8)) "_law_alike" 2 [x,x] S) Q)
  (a2:∀S (Q:QW),(∀S',Q (.bl true,S'))->wO (bD (aq defs fuel (d+8)) "_law_alike" 2 [v,v] S) Q)
  (k:∀S',Q (.rt (.bl true),S')) :
  wS (aq defs fuel (d+8)) fuel (.ret (.and (.own "_law_alike" 2 #v[.own "part" 3 #v[.v 2,.v 4,.bi .tuple #v[.bi .range #v[.v 3]]],.v 4]) (.own "_law_alike" 2 #v[.own "part" 3 #v[.v 2,.v 4,.v 5],.v 6]))) ρ S K Q:=by
 have hx:∀Q:QW,(∀S',Ka S S'->Q (.tup (am (IN n)),S'))->wE (aq defs fuel (d+8)) (.bi .tuple #v[.bi .range #v[.v 3]]) ρ S Q:=λQ h=>u5 hz (λQ q=>h3 _ q) hn h
 generalize E.bi .tuple #v[.bi .range #v[.v 3]]=c at hx ⊢;dsimp only[wS,wE,wA];refine h2 _ (h4 _ (hx _ λS1 _=>?_))
 dsimp only;refine p1 S1 _ λS2=>h4 _ ?_
 dsimp only;refine a1 S2 _ λS3=>?_
 dsimp only[wB];refine#[λ_=>h2 _ (h4 _ (h5 _ ?_)),λz=>by cases z]
 refine p2 S3 _ λS4=>h6 _ ?_
 exact a2 S4 _ λS5=>k S5
end
section
variable{defs:HK (Iv×Df)}{fuel d:HW}
theorem yI (hfu:50 < fuel)(L:Lw11 defs){zs:HK Ik}:∃S',aq defs fuel (d+9) "law" [.ref 0] [.fro (zs.map W.int)]=ba (.bl true,S'):=by
 suffices h:wO (bD (aq defs fuel (d+9)) "law" 1 [.ref 0] [.fro (zs.map W.int)]) (λp=>p.1=.bl true) by
  obtain⟨⟨v,S'⟩,e,q⟩:=cp h;cases(show v=.bl true from q)
  exact#[S',e]
 have G:=L.gen;refine aN L.law rfl rfl λQ' hR=>?_
 show wZ _ _ jW [ba (.ref 0),K3,K3,K3,K3,K3,K3,K3] [.fro (zs.map W.int)] Q';unfold jW;refine bq λK hK=>?_
 dsimp only[wS,wE,wA,wV,wG,Iq];refine DF (d:=d+7) L.flow (ns:=zs) rfl λr S1 _ f1=>hK _ _ ?_
 clear hK K;refine bq λK hK=>?_
 dsimp only[wS,wE,wA,wV,wG,Iq];refine DB (d:=d) ∅ G L.full f1 λw S2 hw f2 _=>hK _ _ ?_
 clear hK K f1;obtain⟨a,bs,ms,ns,gs,rfl,hr⟩:=hw;have hb:=hr.size.good;have hnl:=hr.nl;have hml:=hr.ml;have hpos:=hr.size.pos;have ha3:=hr.size.a3;clear hr;unfold dC;generalize W.tup ((cO gs).map bu)=b0;clear gs;refine bq λK hK=>?_
 dsimp only[wS,wE,wA,wV,wG,Iq];refine aX (d:=d+7) G.pick f2 #v[] #v[] λv S3 v0 v1 f3 _=>hK _ _ ?_
 clear hK K f2;refine bq λK hK=>?_
 have tl:∀(n:HW) (S4:aa),n<=30->Fl S4 r->K [ba (.ref 0),ba (.ref r),ba (.tup [.tup (ms.map W.str),.tup (IJ bN ns bs),b0]),ba (.int (n:Ik)),K3,K3,K3,K3] S4:=by
  intro n S4 hn f4;refine hK _ _ ?_;clear hK K f3 v0 v1;refine bq λK hK=>?_
  dsimp only[wS,wE,wA,wV,wG,Iq];refine ql (d:=d+6) G L.world f4 hpos ha3 hb hml hnl ∅ λu S5 hul hu f5 _=>hK _ _ ?_
  clear hK K f4;have al:∀(v:Wd) (S:aa) (Q:QW),GoodW a bs.length v->v.length<=30->(∀S',Q (.bl true,S'))->wO (bD (aq defs fuel (d+8)) "_law_alike" 2 [bu v,bu v] S) Q:=λv S Q h1 h2 h3=>ow L.alike 3 (d+4) _ _ _ (yH h1 ∅) λS2 _=>h3 S2
  have pt:∀(v:Wd) (ps:HK HW) (S:aa) (Q:QW),GoodW a bs.length v->Ord v.length ps->ps.length<=30->(∀S',Ka S S'->Q (bu (ar bs v ps),S'))->wO (bD (aq defs fuel (d+8)) "part" 3 [.tup [.tup (ms.map W.str),.tup (IJ bN ns bs),b0],bu v,.tup (am ps)] S) Q:=λv ps S Q h1 h2 h3 h4=>FD (d:=d+5) L.parts L.part hb hnl h1 h2.lt h2.nd ∅ h4
  refine bq λK hK=>?_
  dsimp only[wS,wE,wA,wV,wG,Iq];refine ag cX ?_;refine aX (d:=d+7) G.pick f5 ∅ ∅ λm S6 m0 m1 f6 _=>?_
  obtain⟨m,rfl⟩ : ∃k:HW,m=k:=#[m.toNat,∅]
  refine tH (d:=d+6) G L.drawn (many:=n) (size:=m) f6 ∅ ∅ ∅ λps S7 hpl hnd hps f7 _=>hK _ _ ?_
  clear hK K f5 f6 m0 m1;have hO:Ord u.length ps:=#[hnd,λp hp=>by have:=hps p hp; omega]
  have hp30:ps.length<=30:=by
   have:=i8 ps (IN n) hnd λp hp=>Ji.mpr (hps p hp)
   rw[Jb]at this;omega
  have gp:GoodW a bs.length (ar bs u ps):=mY hb hu hO.lt hnd;have lp:(ar bs u ps).length=ps.length:=bM ..;refine bq λK hK=>?_
  dsimp only[wS,wE,wA,wV,wG,Iq];refine pt u ps _ _ hu hO hp30 λS8 k8=>hK _ _ ?_
  clear hK K;have f8:=f7.ka k8;refine bq λK hK=>?_
  dsimp only[wS,wT,wE,wA,wV,wG];refine x5 (d:=d+6) G hb hnl hu hO.lt hnd ∅ λS9 k9=>?_
  refine ow L.alike 3 (d+4) _ _ _ (yH gp ∅) λS10 k10=>?_
  refine ag (show gc S10 (.bl true)=ba true from rfl) ?_
  refine aO (Q0:=Q') (λz=>by cases z) (λ_ Q2 hn2 _=>dv (hn2 _ _ (hK _ _ ?_)))
  clear hn2 hK K;have f10:=(f8.ka k9).ka k10;have nl:(am ps).length=ps.length:=HN ..;clear f7 f8 k9 k10 k8;refine bq λK hK=>?_
  dsimp only[wS,wE,wA,wV,wG,Iq];refine cN (cN (ag cX ?_));rw[nl];refine aX (d:=d+7) G.pick f10 ∅ ∅ λm S11 m0 m1 DR _=>?_
  obtain⟨m,rfl⟩ : ∃k:HW,m=k:=#[m.toNat,∅]
  refine tH (d:=d+6) G L.drawn (many:=ps.length) (size:=m) DR ∅ ∅ ∅ λqs S12 hql hqd hqs _ _=>hK _ _ ?_
  clear hK K f10 DR m0 m1;have hP:Ord ps.length qs:=#[hqd,hqs];have hq30:qs.length<=30:=by
   have:=i8 qs (IN ps.length) hqd λp hp=>Ji.mpr (hqs p hp)
   rw[Jb]at this;omega
  have hC:=yG hO hP;have gq:GoodW a bs.length (ar bs u (qs.map λi=>ps.getD i 0)):=mY hb hu hC.lt hC.nd
  refine bq λK hK=>?_
  dsimp only[wS,wT,wE,wA,wV,wG];refine pt (ar bs u ps) qs _ _ gp (by rw[lp]; exact hP) hq30 λS13 _=>?_
  rw[u8 hb hu hO hP];refine DD qs (λ(q:HW)=>W.int (q:Ik)) (λ_=>true) (λq=>W.int ((ps.getD q 0:HW):Ik)) [ba (.tup (am ps))] rfl rfl rfl rfl ∅ #[rfl,.refl] (λq hq S14 k14=>?_) λS14 k14=>?_
  ·dsimp only[ju,wC,wE,wV,wG];exact#[λ_=>aA (IH q) (by rw[Iu]; exact iy (au (d:=0) (hqs q hq))) #[rfl,rfl,.refl],λz=>by cases z]
  rw[qG];refine Bj (d:=d+6) (ps:=qs.map λi=>ps.getD i 0) G hb hnl hu hC.lt hC.nd (by rw[HN]; omega) (by unfold am; rw[Km]; exact ah) λS15 _=>?_
  refine ow L.alike 3 (d+4) _ _ _ (yH gq (by rw[bM,HN]; omega)) λS16 _=>?_
  refine ag (show gc S16 (.bl true)=ba true from rfl) ?_
  refine aO (Q0:=Q') (λz=>by cases z) (λ_ Q2 hn2 _=>dv (hn2 _ _ (hK _ _ ?_)))
  clear hn2 hK K;generalize hρ:[ba (W.ref 0),ba (.ref r),ba (.tup [.tup (ms.map W.str),.tup (IJ bN ns bs),b0]),ba (.int (n:Ik)),ba (bu u),ba (.tup (am ps)),ba (bu (ar bs u ps)),ba (.tup (am qs))]=ρ0;have v2:∀P:W->Prop,P (.tup [.tup (ms.map W.str),.tup (IJ bN ns bs),b0])->wV ρ0 2 P:=λP h=>by rw[<- hρ]; exact h
  have v3:∀z:Ik,z=n->∀P:W->Prop,P (.int z)->wV ρ0 3 P:=λz hz P h=>by rw[<- hρ]; subst hz; exact h
  have v4:∀P:W->Prop,P (bu u)->wV ρ0 4 P:=λP h=>by rw[<- hρ]; exact h
  have v5:∀P:W->Prop,P (.tup (am ps))->wV ρ0 5 P:=λP h=>by rw[<- hρ]; exact h
  have v6:∀P:W->Prop,P (bu (ar bs u ps))->wV ρ0 6 P:=λP h=>by rw[<- hρ]; exact h
  clear hρ;obtain⟨z,hz⟩ : ∃z:Ik,z=n:=#[_,rfl];refine st ?_;refine FK (R:=.tup [.tup (ms.map W.str),.tup (IJ bN ns bs),b0]) (x:=bu u) (y:=.tup (am ps)) (v:=bu (ar bs u ps)) (z:=z) (n:=n) hz ∅ v2 (v3 z hz) v4 v5 v6 (λS Q h=>?_) (λS Q h=>pt u ps S Q hu hO hp30 λS' _=>h S') (λS Q h=>al u S Q hu ∅ h) (λS Q h=>al (ar bs u ps) S Q gp ∅ h) λS'=>hR _ _ rfl
  refine pt u (IN n) S Q hu #[M8,λp hp=>by have:=Ji.mp hp; omega] (by rw[Jb]; omega) λS' _=>?_
  rw[mZ hu n ∅,K9 ∅]
  exact h S'
 dsimp only[wS,wT,wE,wA,wV,wG];refine aX (d:=d+7) G.pick f3 #v[] #v[] λv2 S5 _ _ f5 _=>?_
 obtain⟨n,rfl⟩ : ∃n:HW,v=n:=#[v.toNat,∅]
 dsimp only[im,aU,wB];refine aO (Q0:=Q') (λ_ Q2 hn2 _=>?_) (λ_ Q2 hn2 _=>dv (hn2 _ _ (tl n S5 ∅ f5)))
 refine st ?_;dsimp only[wS,wE,wA,wV,wG,Iq];refine aX (d:=d+7) G.pick f5 #v[] #v[] λv3 S6 u0 u1 f6 _=>?_
 obtain⟨n3,rfl⟩ : ∃n:HW,v3=n:=#[v3.toNat,∅]
 exact dv (hn2 _ _ (tl n3 S6 ∅ f6))
end
noncomputable def aj (i:HW):KQ:=PySem.Challenge.pw_layworld_k11_parts_told.main.body.getD i (.Pass #[0,0,0,0])
noncomputable def gE:Df:=#[["rule","world","i","j"],["rule","world","i","j"],tF]
noncomputable def eD:Df:=#[["rule","world","points"],["rule","world","points"],kU]
noncomputable def bh:Df:=#[["rule","world","ahead","point"],["rule","world","ahead","point"],dL]
noncomputable def bz:Df:=#[["_law_script"],["_law_script"],d0]
noncomputable def bA:Df:=#[["_law_flow_here","_law_many"],["_law_flow_here","_law_many","_law_cell","_law_digit"],cC]
noncomputable def aP:Df:=#[["_law_flow_here","_law_many"],["_law_flow_here","_law_many"],db]
noncomputable def bB:Df:=#[["_law_flow_here","_law_stem"],["_law_flow_here","_law_stem","_law_near"],eX]
noncomputable def bj:Df:=#[["_law_flow_here","_law_many"],["_law_flow_here","_law_many","_law_stem","_law_names_here","_law_k","_law_name_here","_law_spare"],cF]
noncomputable def aQ:Df:=#[["_law_rule","_law_world","_law_i","_law_j"],["_law_rule","_law_world","_law_i","_law_j"],dc]
noncomputable def bC:Df:=#[["_law_rule","_law_world","_law_points"],["_law_rule","_law_world","_law_points","_law_told","_law_k","_law_i"],c8]
noncomputable def bm:Df:=#[[],[],fI]
noncomputable def aY:Df:=#[["_law_rule","_law_three"],["_law_rule","_law_three"],dH]
noncomputable def bn:Df:=#[["_law_flow_here","_law_many"],["_law_flow_here","_law_many","_law_menu"],eu]
noncomputable def aR:Df:=#[["_law_flow_here","_law_marks","_law_backs_here","_law_barred"],["_law_flow_here","_law_marks","_law_backs_here","_law_barred","_law_names_here","_law_ways"],de]
noncomputable def aE:Df:=#[["_law_flow_here","_law_marks","_law_ways"],["_law_flow_here","_law_marks","_law_ways","_law_told","_law_k"],cf]
noncomputable def bo:Df:=#[["_law_flow_here"],["_law_flow_here","_law_menu"],ev]
noncomputable def aL:Df:=#[["_law_flow_here"],["_law_flow_here","_law_marks","_law_ways","_law_rule","_law_barred","_law_k"],cM]
noncomputable def aB:Df:=#[["_law_flow_here"],["_law_flow_here","_law_menu"],bW]
noncomputable def aZ:Df:=#[["_law_backs_here","_law_must","_law_to_one","_law_to_two","_law_between_here"],["_law_backs_here","_law_must","_law_to_one","_law_to_two","_law_between_here","_law_to","_law_pair","_law_x","_law_y","_law_z"],dI]
noncomputable def aM:Df:=#[["_law_flow_here","_law_backs_here","_law_must"],["_law_flow_here","_law_backs_here","_law_must","_law_many","_law_menu","_law_some","_law_numbers","_law_told","_law_k","_law_other","_law_u","_law_v"],bE]
noncomputable def aC:Df:=#[["_law_flow_here"],["_law_flow_here","_law_form","_law_backs_here","_law_must","_law_most","_law_marks","_law_rule","_law_barred","_law_many","_law_at","_law_one","_law_two","_law_between_here","_law_some","_law_first"],bX]
noncomputable def a7:Df:=#[["_law_marks"],["_law_marks","_law_told","_law_i","_law_j"],dJ]
noncomputable def aH:Df:=#[["_law_flow_here"],["_law_flow_here","_law_marks","_law_ways","_law_rule","_law_k","_law_own","_law_free","_law_barred","_law_three"],cv]
noncomputable def ay:Df:=#[["_law_flow_here"],["_law_flow_here","_law_marks","_law_barred"],bQ]
noncomputable def aI:Df:=#[["_law_flow_here","_law_rule","_law_many"],["_law_flow_here","_law_rule","_law_many","_law_told","_law_k","_law_mark"],bS]
noncomputable def bp:Df:=#[["_law_found","_law_due"],["_law_found","_law_due"],b7]
noncomputable def a9:Df:=#[["_law_many","_law_size"],["_law_many","_law_size","_law_told","_law_k"],cg]
noncomputable def bc:Df:=#[["_law_rule","_law_size"],["_law_rule","_law_size","_law_told","_law_k","_law_points","_law_mark"],cR]
noncomputable def aS:Df:=#[["_law_rule"],["_law_rule"],dh]
noncomputable def aJ:Df:=#[["_law_flow_here"],["_law_flow_here","_law_form","_law_marks","_law_many","_law_rule"],cw]
noncomputable def az:Df:=#[["_law_flow_here","_law_many","_law_size"],["_law_flow_here","_law_many","_law_size","_law_left","_law_told"],bF]
noncomputable def gF:Df:=#[["_law_script"],["_law_script","_law_flow_here","_law_rule","_law_size","_law_world","_law_points","_law_found","_law_some"],jW]
noncomputable def jw:HK (Iv×Df):=[(("way" : Iv),gE),(("part" : Iv),eD),(("point_over" : Iv),bh),(("_law_flow" : Iv),bz),(("_law_pick" : Iv),bA),(("_law_letters" : Iv),aP),(("_law_name" : Iv),bB),(("_law_names" : Iv),bj),(("_law_between" : Iv),aQ),(("_law_part" : Iv),bC),(("_law_turns" : Iv),bm),(("_law_figure" : Iv),aY),(("_law_backs" : Iv),bn),(("_law_rule_of" : Iv),aR),(("_law_free_three" : Iv),aE),(("_law_sizes" : Iv),bo),(("_law_any_rule" : Iv),aL),(("_law_laying_kind" : Iv),aB),(("_law_breaks" : Iv),aZ),(("_law_numbered" : Iv),aM),(("_law_laying_rule" : Iv),aC),(("_law_rising" : Iv),a7),(("_law_free_rule" : Iv),aH),(("_law_one_way_rule" : Iv),ay),(("_law_any_world" : Iv),aI),(("_law_alike" : Iv),bp),(("_law_digits" : Iv),a9),(("_law_worlds" : Iv),bc),(("_law_figures" : Iv),aS),(("_law_full_rule" : Iv),aJ),(("_law_drawn_points" : Iv),az),(("law" : Iv),gF)]
noncomputable def Bk:HK (Iv×HW):=[(("way" : Iv),4),(("part" : Iv),3),(("point_over" : Iv),4),(("_law_flow" : Iv),1),(("_law_pick" : Iv),2),(("_law_letters" : Iv),2),(("_law_name" : Iv),2),(("_law_names" : Iv),2),(("_law_between" : Iv),4),(("_law_part" : Iv),3),(("_law_turns" : Iv),0),(("_law_figure" : Iv),2),(("_law_backs" : Iv),2),(("_law_rule_of" : Iv),4),(("_law_free_three" : Iv),3),(("_law_sizes" : Iv),1),(("_law_any_rule" : Iv),1),(("_law_laying_kind" : Iv),1),(("_law_breaks" : Iv),5),(("_law_numbered" : Iv),3),(("_law_laying_rule" : Iv),1),(("_law_rising" : Iv),1),(("_law_free_rule" : Iv),1),(("_law_one_way_rule" : Iv),1),(("_law_any_world" : Iv),3),(("_law_alike" : Iv),2),(("_law_digits" : Iv),2),(("_law_worlds" : Iv),2),(("_law_figures" : Iv),1),(("_law_full_rule" : Iv),1),(("_law_drawn_points" : Iv),3),(("law" : Iv),1)]
noncomputable def DG:HK Iv:=["range","len","list","tuple","int","set","sorted","isinstance","bool","str","all","min","enumerate"]
noncomputable def fq:Md:=#[Bk,DG]
theorem DH:bZ fq (aj 1) gE:=by rfl
theorem DI:FnScope gE.N gE.ps (af (aj 1)):=#[rfl,rfl,rfl,by decide +kernel,rfl,by decide +kernel,by decide +kernel]
theorem Bl:bZ fq (aj 3) eD:=by rfl
theorem Bm:FnScope eD.N eD.ps (af (aj 3)):=#[rfl,rfl,rfl,by decide +kernel,rfl,by decide +kernel,by decide +kernel]
theorem lI:bZ fq (aj 4) bh:=by rfl
theorem lJ:FnScope bh.N bh.ps (af (aj 4)):=#[rfl,rfl,rfl,by decide +kernel,rfl,by decide +kernel,by decide +kernel]
theorem ox:bZ fq (aj 6) bz:=by rfl
theorem oy:FnScope bz.N bz.ps (af (aj 6)):=#[rfl,rfl,rfl,by decide +kernel,rfl,by decide +kernel,by decide +kernel]
theorem oz:bZ fq (aj 7) bA:=by rfl
theorem oA:FnScope bA.N bA.ps (af (aj 7)):=#[rfl,rfl,rfl,by decide +kernel,rfl,by decide +kernel,by decide +kernel]
theorem jC:bZ fq (aj 8) aP:=by rfl
theorem jD:FnScope aP.N aP.ps (af (aj 8)):=#[rfl,rfl,rfl,by decide +kernel,rfl,by decide +kernel,by decide +kernel]
theorem oB:bZ fq (aj 9) bB:=by rfl
theorem oE:FnScope bB.N bB.ps (af (aj 9)):=#[rfl,rfl,rfl,by decide +kernel,rfl,by decide +kernel,by decide +kernel]
theorem lK:bZ fq (aj 10) bj:=by rfl
theorem lL:FnScope bj.N bj.ps (af (aj 10)):=#[rfl,rfl,rfl,by decide +kernel,rfl,by decide +kernel,by decide +kernel]
theorem jE:bZ fq (aj 11) aQ:=by rfl
theorem jF:FnScope aQ.N aQ.ps (af (aj 11)):=#[rfl,rfl,rfl,by decide +kernel,rfl,by decide +kernel,by decide +kernel]
theorem oF:bZ fq (aj 12) bC:=by rfl
theorem oG:FnScope bC.N bC.ps (af (aj 12)):=#[rfl,rfl,rfl,by decide +kernel,rfl,by decide +kernel,by decide +kernel]
theorem lM:bZ fq (aj 13) bm:=by rfl
theorem lN:FnScope bm.N bm.ps (af (aj 13)):=#[rfl,rfl,rfl,by decide +kernel,rfl,by decide +kernel,by decide +kernel]
theorem kY:bZ fq (aj 14) aY:=by rfl
theorem kZ:FnScope aY.N aY.ps (af (aj 14)):=#[rfl,rfl,rfl,by decide +kernel,rfl,by decide +kernel,by decide +kernel]
theorem lO:bZ fq (aj 15) bn:=by rfl
theorem lP:FnScope bn.N bn.ps (af (aj 15)):=#[rfl,rfl,rfl,by decide +kernel,rfl,by decide +kernel,by decide +kernel]
theorem jG:bZ fq (aj 16) aR:=by rfl
theorem jH:FnScope aR.N aR.ps (af (aj 16)):=#[rfl,rfl,rfl,by decide +kernel,rfl,by decide +kernel,by decide +kernel]
theorem gS:bZ fq (aj 17) aE:=by rfl
theorem gT:FnScope aE.N aE.ps (af (aj 17)):=#[rfl,rfl,rfl,by decide +kernel,rfl,by decide +kernel,by decide +kernel]
theorem lQ:bZ fq (aj 18) bo:=by rfl
theorem lR:FnScope bo.N bo.ps (af (aj 18)):=#[rfl,rfl,rfl,by decide +kernel,rfl,by decide +kernel,by decide +kernel]
theorem jd:bZ fq (aj 19) aL:=by rfl
theorem je:FnScope aL.N aL.ps (af (aj 19)):=#[rfl,rfl,rfl,by decide +kernel,rfl,by decide +kernel,by decide +kernel]
theorem gl:bZ fq (aj 20) aB:=by rfl
theorem gm:FnScope aB.N aB.ps (af (aj 20)):=#[rfl,rfl,rfl,by decide +kernel,rfl,by decide +kernel,by decide +kernel]
theorem la:bZ fq (aj 21) aZ:=by rfl
theorem lb:FnScope aZ.N aZ.ps (af (aj 21)):=#[rfl,rfl,rfl,by decide +kernel,rfl,by decide +kernel,by decide +kernel]
theorem jf:bZ fq (aj 22) aM:=by rfl
theorem jg:FnScope aM.N aM.ps (af (aj 22)):=#[rfl,rfl,rfl,by decide +kernel,rfl,by decide +kernel,by decide +kernel]
theorem gn:bZ fq (aj 23) aC:=by rfl
theorem gr:FnScope aC.N aC.ps (af (aj 23)):=#[rfl,rfl,rfl,by decide +kernel,rfl,by decide +kernel,by decide +kernel]
theorem lc:bZ fq (aj 24) a7:=by rfl
theorem lf:FnScope a7.N a7.ps (af (aj 24)):=#[rfl,rfl,rfl,by decide +kernel,rfl,by decide +kernel,by decide +kernel]
theorem iD:bZ fq (aj 25) aH:=by rfl
theorem iE:FnScope aH.N aH.ps (af (aj 25)):=#[rfl,rfl,rfl,by decide +kernel,rfl,by decide +kernel,by decide +kernel]
theorem fL:bZ fq (aj 26) ay:=by rfl
theorem fM:FnScope ay.N ay.ps (af (aj 26)):=#[rfl,rfl,rfl,by decide +kernel,rfl,by decide +kernel,by decide +kernel]
theorem iF:bZ fq (aj 27) aI:=by rfl
theorem iG:FnScope aI.N aI.ps (af (aj 27)):=#[rfl,rfl,rfl,by decide +kernel,rfl,by decide +kernel,by decide +kernel]
theorem lS:bZ fq (aj 28) bp:=by rfl
theorem lT:FnScope bp.N bp.ps (af (aj 28)):=#[rfl,rfl,rfl,by decide +kernel,rfl,by decide +kernel,by decide +kernel]
theorem lg:bZ fq (aj 29) a9:=by rfl
theorem lh:FnScope a9.N a9.ps (af (aj 29)):=#[rfl,rfl,rfl,by decide +kernel,rfl,by decide +kernel,by decide +kernel]
theorem ll:bZ fq (aj 30) bc:=by rfl
theorem lm:FnScope bc.N bc.ps (af (aj 30)):=#[rfl,rfl,rfl,by decide +kernel,rfl,by decide +kernel,by decide +kernel]
theorem jI:bZ fq (aj 31) aS:=by rfl
theorem jJ:FnScope aS.N aS.ps (af (aj 31)):=#[rfl,rfl,rfl,by decide +kernel,rfl,by decide +kernel,by decide +kernel]
theorem iH:bZ fq (aj 32) aJ:=by rfl
theorem iI:FnScope aJ.N aJ.ps (af (aj 32)):=#[rfl,rfl,rfl,by decide +kernel,rfl,by decide +kernel,by decide +kernel]
theorem fN:bZ fq (aj 33) az:=by rfl
theorem fO:FnScope az.N az.ps (af (aj 33)):=#[rfl,rfl,rfl,by decide +kernel,rfl,by decide +kernel,by decide +kernel]
theorem yJ:bZ fq (aj 34) gF:=by rfl
theorem yK:FnScope gF.N gF.ps (af (aj 34)):=#[rfl,rfl,rfl,by decide +kernel,rfl,by decide +kernel,by decide +kernel]
theorem ak {α:Type}{x y:Iv}{n m:α}{L:HK (Iv×α)}(h:((y,m)::L).lookup x=ba n):(x=y/\n=m)\/L.lookup x=ba n:=by
 rw[J9]at h;split at h
 ·rename_i e;cases h;exact .inl #[eq_of_beq e,rfl]
 ·exact .inr h
theorem FL:Lw11 jw:=#[#[#[bA,rfl,rfl,rfl,rfl],#[aP,rfl,rfl,rfl,rfl],#[bB,rfl,rfl,rfl,rfl],#[bj,rfl,rfl,rfl,rfl],#[aQ,rfl,rfl,rfl,rfl],#[bC,rfl,rfl,rfl,rfl],#[bm,rfl,rfl,rfl,rfl],#[aY,rfl,rfl,rfl,rfl],#[bn,rfl,rfl,rfl,rfl],#[aR,rfl,rfl,rfl,rfl],#[aE,rfl,rfl,rfl,rfl],#[bo,rfl,rfl,rfl,rfl],#[aL,rfl,rfl,rfl,rfl],#[aB,rfl,rfl,rfl,rfl],#[aZ,rfl,rfl,rfl,rfl],#[aM,rfl,rfl,rfl,rfl],#[aC,rfl,rfl,rfl,rfl],#[a7,rfl,rfl,rfl,rfl],#[aH,rfl,rfl,rfl,rfl],#[ay,rfl,rfl,rfl,rfl]],#[#[a9,rfl,rfl,rfl,rfl],#[bc,rfl,rfl,rfl,rfl],#[aS,rfl,rfl,rfl,rfl],#[aJ,rfl,rfl,rfl,rfl]],#[#[gE,rfl,rfl,rfl,rfl],#[bh,rfl,rfl,rfl,rfl]],#[eD,rfl,rfl,rfl,rfl],#[bz,rfl,rfl,rfl,rfl],#[aI,rfl,rfl,rfl,rfl],#[bp,rfl,rfl,rfl,rfl],#[az,rfl,rfl,rfl,rfl],#[gF,rfl,rfl,rfl,rfl]]
noncomputable def BD (x:Iv)(st:KQ)(df:Df):Prop:=∀(kV doc pm:HM) (an:HU HX) (cdv ct:HM) (us:HK HM),us.length=df.ps.length->bindArgs (Kk x x (dD st) (cH st) (af st) .none kV doc pm an cdv ct) #[us,[]]=pure (df.ps.zip us)
theorem HH {us:HK HM}(h:us.length=0):us=[]:=match us,h with|[],_=>rfl
theorem yL {us:HK HM}(h:us.length=1):∃a,us=[a]:=match us,h with|[a],_=>#[a,rfl]
theorem Bn {us:HK HM}(h:us.length=2):∃a b,us=[a,b]:=match us,h with|[a,b],_=>#[a,b,rfl]
theorem DS {us:HK HM}(h:us.length=3):∃a b c,us=[a,b,c]:=match us,h with|[a,b,c],_=>#[a,b,c,rfl]
theorem F3 {us:HK HM}(h:us.length=4):∃a b c d,us=[a,b,c,d]:=match us,h with|[a,b,c,d],_=>#[a,b,c,d,rfl]
theorem HI {us:HK HM}(h:us.length=5):∃a b c d e,us=[a,b,c,d,e]:=match us,h with|[a,b,c,d,e],_=>#[a,b,c,d,e,rfl]
theorem DJ:BD "way" (aj 1) gE:=λ_ _ _ _ _ _ us h=>by
 obtain⟨x0,x1,x2,x3,rfl⟩:=F3 h;rfl
theorem Bo:BD "part" (aj 3) eD:=λ_ _ _ _ _ _ us h=>by
 obtain⟨x0,x1,x2,rfl⟩:=DS h;rfl
theorem lU:BD "point_over" (aj 4) bh:=λ_ _ _ _ _ _ us h=>by
 obtain⟨x0,x1,x2,x3,rfl⟩:=F3 h;rfl
theorem oH:BD "_law_flow" (aj 6) bz:=λ_ _ _ _ _ _ us h=>by
 obtain⟨x0,rfl⟩:=yL h;rfl
theorem oJ:BD "_law_pick" (aj 7) bA:=λ_ _ _ _ _ _ us h=>by
 obtain⟨x0,x1,rfl⟩:=Bn h;rfl
theorem jK:BD "_law_letters" (aj 8) aP:=λ_ _ _ _ _ _ us h=>by
 obtain⟨x0,x1,rfl⟩:=Bn h;rfl
theorem oK:BD "_law_name" (aj 9) bB:=λ_ _ _ _ _ _ us h=>by
 obtain⟨x0,x1,rfl⟩:=Bn h;rfl
theorem lV:BD "_law_names" (aj 10) bj:=λ_ _ _ _ _ _ us h=>by
 obtain⟨x0,x1,rfl⟩:=Bn h;rfl
theorem jL:BD "_law_between" (aj 11) aQ:=λ_ _ _ _ _ _ us h=>by
 obtain⟨x0,x1,x2,x3,rfl⟩:=F3 h;rfl
theorem oM:BD "_law_part" (aj 12) bC:=λ_ _ _ _ _ _ us h=>by
 obtain⟨x0,x1,x2,rfl⟩:=DS h;rfl
theorem lW:BD "_law_turns" (aj 13) bm:=λ_ _ _ _ _ _ us h=>by
 obtain rfl:=HH h;rfl
theorem ln:BD "_law_figure" (aj 14) aY:=λ_ _ _ _ _ _ us h=>by
 obtain⟨x0,x1,rfl⟩:=Bn h;rfl
theorem lX:BD "_law_backs" (aj 15) bn:=λ_ _ _ _ _ _ us h=>by
 obtain⟨x0,x1,rfl⟩:=Bn h;rfl
theorem jM:BD "_law_rule_of" (aj 16) aR:=λ_ _ _ _ _ _ us h=>by
 obtain⟨x0,x1,x2,x3,rfl⟩:=F3 h;rfl
theorem gU:BD "_law_free_three" (aj 17) aE:=λ_ _ _ _ _ _ us h=>by
 obtain⟨x0,x1,x2,rfl⟩:=DS h;rfl
theorem lY:BD "_law_sizes" (aj 18) bo:=λ_ _ _ _ _ _ us h=>by
 obtain⟨x0,rfl⟩:=yL h;rfl
theorem jh:BD "_law_any_rule" (aj 19) aL:=λ_ _ _ _ _ _ us h=>by
 obtain⟨x0,rfl⟩:=yL h;rfl
theorem gv:BD "_law_laying_kind" (aj 20) aB:=λ_ _ _ _ _ _ us h=>by
 obtain⟨x0,rfl⟩:=yL h;rfl
theorem lq:BD "_law_breaks" (aj 21) aZ:=λ_ _ _ _ _ _ us h=>by
 obtain⟨x0,x1,x2,x3,x4,rfl⟩:=HI h;rfl
theorem ji:BD "_law_numbered" (aj 22) aM:=λ_ _ _ _ _ _ us h=>by
 obtain⟨x0,x1,x2,rfl⟩:=DS h;rfl
theorem gw:BD "_law_laying_rule" (aj 23) aC:=λ_ _ _ _ _ _ us h=>by
 obtain⟨x0,rfl⟩:=yL h;rfl
theorem lr:BD "_law_rising" (aj 24) a7:=λ_ _ _ _ _ _ us h=>by
 obtain⟨x0,rfl⟩:=yL h;rfl
theorem iJ:BD "_law_free_rule" (aj 25) aH:=λ_ _ _ _ _ _ us h=>by
 obtain⟨x0,rfl⟩:=yL h;rfl
theorem fP:BD "_law_one_way_rule" (aj 26) ay:=λ_ _ _ _ _ _ us h=>by
 obtain⟨x0,rfl⟩:=yL h;rfl
theorem iK:BD "_law_any_world" (aj 27) aI:=λ_ _ _ _ _ _ us h=>by
 obtain⟨x0,x1,x2,rfl⟩:=DS h;rfl
theorem lZ:BD "_law_alike" (aj 28) bp:=λ_ _ _ _ _ _ us h=>by
 obtain⟨x0,x1,rfl⟩:=Bn h;rfl
theorem lu:BD "_law_digits" (aj 29) a9:=λ_ _ _ _ _ _ us h=>by
 obtain⟨x0,x1,rfl⟩:=Bn h;rfl
theorem lv:BD "_law_worlds" (aj 30) bc:=λ_ _ _ _ _ _ us h=>by
 obtain⟨x0,x1,rfl⟩:=Bn h;rfl
theorem jN:BD "_law_figures" (aj 31) aS:=λ_ _ _ _ _ _ us h=>by
 obtain⟨x0,rfl⟩:=yL h;rfl
theorem iL:BD "_law_full_rule" (aj 32) aJ:=λ_ _ _ _ _ _ us h=>by
 obtain⟨x0,rfl⟩:=yL h;rfl
theorem fQ:BD "_law_drawn_points" (aj 33) az:=λ_ _ _ _ _ _ us h=>by
 obtain⟨x0,x1,x2,rfl⟩:=DS h;rfl
theorem DK:BD "law" (aj 34) gF:=λ_ _ _ _ _ _ us h=>by
 obtain⟨x0,rfl⟩:=yL h;rfl
section
variable{P:IM}{w:IU}{K:Ig}{mg:Iv->HU HM}{base:Jc}
noncomputable def ap (K:Ig)(mg:Iv->HU HM)(x:Iv)(st:KQ)(df:Df):Prop:=∃(f:HX) (fd:KC),Fun K x x st f fd/\mg x=ba (.ref f)/\JP K (.ref f)=true/\Binds K fd df.ps []
theorem yM {h:Jc}{x:Iv}{st:KQ}{df:Df}{f:HX}{oc:HM}{od an:HU HX}{osl:ID (HU HM)}{kV doc pm cdv ct:HM}(X:K.In h)(G:h.Ns mainGlobals mg)
  (b:BD x st df)
  (a:JL K mainGlobals x=ba (ba (.ref f))) (l:K.lookup f=ba #[oc,od,.func (Kk x x (dD st) (cH st) (af st) .none kV doc pm an cdv ct),osl]) (c:Li K cdv x=true) (k:JP K (.ref f)=true):ap K mg x st df:=
 have F:=vM (st:=st) l c k
 #[f,_,F,P8 X G a,k,F.binds b]
theorem yN {fuel:HW}(hb:MdOk w K mg fq)(D:∀x n,Bk.lookup x=ba n->∃st df,jw.lookup x=ba df/\df.ps.length=n/\FnScope df.N df.ps (af st)/\bZ fq st df/\ap K mg x st df):∀d,BA P w K mg base fq jw fuel d
 | 0=>λf n h=>by
  obtain⟨st,df,h1,h2,h3,h4,fa,fd,F,m,kp,b⟩:=D f n h;refine#[fa,fd,df.ps,#[λvs H Q E z=>?_,λA outer s H args us vs Q E hr he hbd hv z=>?_],m,kp,b]
  all_goals
   obtain⟨_,_,_,_,_,_,_,_,z,_⟩:=z;cases z
 | d+1=>λf n h=>by
  obtain⟨st,df,h1,h2,h3,h4,fa,fd,F,m,kp,b⟩:=D f n h;refine#[fa,fd,df.ps,?_,m,kp,b];rw[<- h2];exact BB F h3 h1 h4 hb (yN hb D d)
theorem FM (D1:ap K mg "way" (aj 1) gE)(D3:ap K mg "part" (aj 3) eD)(D4:ap K mg "point_over" (aj 4) bh)(D6:ap K mg "_law_flow" (aj 6) bz)(D7:ap K mg "_law_pick" (aj 7) bA)(D8:ap K mg "_law_letters" (aj 8) aP)(D9:ap K mg "_law_name" (aj 9) bB)(D10:ap K mg "_law_names" (aj 10) bj)(D11:ap K mg "_law_between" (aj 11) aQ)(D12:ap K mg "_law_part" (aj 12) bC)(D13:ap K mg "_law_turns" (aj 13) bm)(D14:ap K mg "_law_figure" (aj 14) aY)(D15:ap K mg "_law_backs" (aj 15) bn)(D16:ap K mg "_law_rule_of" (aj 16) aR)(D17:ap K mg "_law_free_three" (aj 17) aE)(D18:ap K mg "_law_sizes" (aj 18) bo)(D19:ap K mg "_law_any_rule" (aj 19) aL)(D20:ap K mg "_law_laying_kind" (aj 20) aB)(D21:ap K mg "_law_breaks" (aj 21) aZ)(D22:ap K mg "_law_numbered" (aj 22) aM)(D23:ap K mg "_law_laying_rule" (aj 23) aC)(D24:ap K mg "_law_rising" (aj 24) a7)(D25:ap K mg "_law_free_rule" (aj 25) aH)(D26:ap K mg "_law_one_way_rule" (aj 26) ay)(D27:ap K mg "_law_any_world" (aj 27) aI)(D28:ap K mg "_law_alike" (aj 28) bp)(D29:ap K mg "_law_digits" (aj 29) a9)(D30:ap K mg "_law_worlds" (aj 30) bc)(D31:ap K mg "_law_figures" (aj 31) aS)(D32:ap K mg "_law_full_rule" (aj 32) aJ)(D33:ap K mg "_law_drawn_points" (aj 33) az)(D34:ap K mg "law" (aj 34) gF):∀x n,Bk.lookup x=ba n->∃st df,jw.lookup x=ba df/\df.ps.length=n/\FnScope df.N df.ps (af st)/\bZ fq st df/\ap K mg x st df:=by
 intro x n h;unfold Bk at h;rcases ak h with⟨rfl,rfl⟩|h
 ·exact#[aj 1,gE,by rfl,rfl,DI,DH,D1]
 rcases ak h with⟨rfl,rfl⟩|h
 ·exact#[aj 3,eD,by rfl,rfl,Bm,Bl,D3]
 rcases ak h with⟨rfl,rfl⟩|h
 ·exact#[aj 4,bh,by rfl,rfl,lJ,lI,D4]
 rcases ak h with⟨rfl,rfl⟩|h
 ·exact#[aj 6,bz,by rfl,rfl,oy,ox,D6]
 rcases ak h with⟨rfl,rfl⟩|h
 ·exact#[aj 7,bA,by rfl,rfl,oA,oz,D7]
 rcases ak h with⟨rfl,rfl⟩|h
 ·exact#[aj 8,aP,by rfl,rfl,jD,jC,D8]
 rcases ak h with⟨rfl,rfl⟩|h
 ·exact#[aj 9,bB,by rfl,rfl,oE,oB,D9]
 rcases ak h with⟨rfl,rfl⟩|h
 ·exact#[aj 10,bj,by rfl,rfl,lL,lK,D10]
 rcases ak h with⟨rfl,rfl⟩|h
 ·exact#[aj 11,aQ,by rfl,rfl,jF,jE,D11]
 rcases ak h with⟨rfl,rfl⟩|h
 ·exact#[aj 12,bC,by rfl,rfl,oG,oF,D12]
 rcases ak h with⟨rfl,rfl⟩|h
 ·exact#[aj 13,bm,by rfl,rfl,lN,lM,D13]
 rcases ak h with⟨rfl,rfl⟩|h
 ·exact#[aj 14,aY,by rfl,rfl,kZ,kY,D14]
 rcases ak h with⟨rfl,rfl⟩|h
 ·exact#[aj 15,bn,by rfl,rfl,lP,lO,D15]
 rcases ak h with⟨rfl,rfl⟩|h
 ·exact#[aj 16,aR,by rfl,rfl,jH,jG,D16]
 rcases ak h with⟨rfl,rfl⟩|h
 ·exact#[aj 17,aE,by rfl,rfl,gT,gS,D17]
 rcases ak h with⟨rfl,rfl⟩|h
 ·exact#[aj 18,bo,by rfl,rfl,lR,lQ,D18]
 rcases ak h with⟨rfl,rfl⟩|h
 ·exact#[aj 19,aL,by rfl,rfl,je,jd,D19]
 rcases ak h with⟨rfl,rfl⟩|h
 ·exact#[aj 20,aB,by rfl,rfl,gm,gl,D20]
 rcases ak h with⟨rfl,rfl⟩|h
 ·exact#[aj 21,aZ,by rfl,rfl,lb,la,D21]
 rcases ak h with⟨rfl,rfl⟩|h
 ·exact#[aj 22,aM,by rfl,rfl,jg,jf,D22]
 rcases ak h with⟨rfl,rfl⟩|h
 ·exact#[aj 23,aC,by rfl,rfl,gr,gn,D23]
 rcases ak h with⟨rfl,rfl⟩|h
 ·exact#[aj 24,a7,by rfl,rfl,lf,lc,D24]
 rcases ak h with⟨rfl,rfl⟩|h
 ·exact#[aj 25,aH,by rfl,rfl,iE,iD,D25]
 rcases ak h with⟨rfl,rfl⟩|h
 ·exact#[aj 26,ay,by rfl,rfl,fM,fL,D26]
 rcases ak h with⟨rfl,rfl⟩|h
 ·exact#[aj 27,aI,by rfl,rfl,iG,iF,D27]
 rcases ak h with⟨rfl,rfl⟩|h
 ·exact#[aj 28,bp,by rfl,rfl,lT,lS,D28]
 rcases ak h with⟨rfl,rfl⟩|h
 ·exact#[aj 29,a9,by rfl,rfl,lh,lg,D29]
 rcases ak h with⟨rfl,rfl⟩|h
 ·exact#[aj 30,bc,by rfl,rfl,lm,ll,D30]
 rcases ak h with⟨rfl,rfl⟩|h
 ·exact#[aj 31,aS,by rfl,rfl,jJ,jI,D31]
 rcases ak h with⟨rfl,rfl⟩|h
 ·exact#[aj 32,aJ,by rfl,rfl,iI,iH,D32]
 rcases ak h with⟨rfl,rfl⟩|h
 ·exact#[aj 33,az,by rfl,rfl,fO,fN,D33]
 rcases ak h with⟨rfl,rfl⟩|h
 ·exact#[aj 34,gF,by rfl,rfl,yK,yJ,D34]
 cases h
theorem FN {h:Jc}(X:K.In h)(G:h.Ns mainGlobals mg)(z0:JL K mainGlobals "range" = ba K3)(z1:JL K mainGlobals "len" = ba K3)(z2:JL K mainGlobals "list" = ba K3)(z3:JL K mainGlobals "tuple" = ba K3)(z4:JL K mainGlobals "int" = ba K3)(z5:JL K mainGlobals "set" = ba K3)(z6:JL K mainGlobals "sorted" = ba K3)(z7:JL K mainGlobals "isinstance" = ba K3)(z8:JL K mainGlobals "bool" = ba K3)(z9:JL K mainGlobals "str" = ba K3)(z10:JL K mainGlobals "all" = ba K3)(z11:JL K mainGlobals "min" = ba K3)(z12:JL K mainGlobals "enumerate" = ba K3):MdOk w K mg fq:=by
 refine#[?_];show ∀y∈DG,mg y=K3;intro y hy;unfold DG at hy;simp only[IE,Js,KP]at hy;rcases hy with rfl|rfl|rfl|rfl|rfl|rfl|rfl|rfl|rfl|rfl|rfl|rfl|rfl
 ·exact Jv X G z0
 ·exact Jv X G z1
 ·exact Jv X G z2
 ·exact Jv X G z3
 ·exact Jv X G z4
 ·exact Jv X G z5
 ·exact Jv X G z6
 ·exact Jv X G z7
 ·exact Jv X G z8
 ·exact Jv X G z9
 ·exact Jv X G z10
 ·exact Jv X G z11
 ·exact Jv X G z12
end
theorem DL {l:Nq}{w:IU}{K:Ig}{h:Jc}{mg:Iv->HU HM}{fa f:HX}(X:K.In h)(G:h.Ns mainGlobals mg)(hfa:mg "law" = ba (.ref fa))(hb:MdOk w K mg fq)
  (D1:ap K mg "way" (aj 1) gE) (D3:ap K mg "part" (aj 3) eD) (D4:ap K mg "point_over" (aj 4) bh) (D6:ap K mg "_law_flow" (aj 6) bz) (D7:ap K mg "_law_pick" (aj 7) bA) (D8:ap K mg "_law_letters" (aj 8) aP) (D9:ap K mg "_law_name" (aj 9) bB) (D10:ap K mg "_law_names" (aj 10) bj) (D11:ap K mg "_law_between" (aj 11) aQ) (D12:ap K mg "_law_part" (aj 12) bC) (D13:ap K mg "_law_turns" (aj 13) bm) (D14:ap K mg "_law_figure" (aj 14) aY) (D15:ap K mg "_law_backs" (aj 15) bn) (D16:ap K mg "_law_rule_of" (aj 16) aR) (D17:ap K mg "_law_free_three" (aj 17) aE) (D18:ap K mg "_law_sizes" (aj 18) bo) (D19:ap K mg "_law_any_rule" (aj 19) aL) (D20:ap K mg "_law_laying_kind" (aj 20) aB) (D21:ap K mg "_law_breaks" (aj 21) aZ) (D22:ap K mg "_law_numbered" (aj 22) aM) (D23:ap K mg "_law_laying_rule" (aj 23) aC) (D24:ap K mg "_law_rising" (aj 24) a7) (D25:ap K mg "_law_free_rule" (aj 25) aH) (D26:ap K mg "_law_one_way_rule" (aj 26) ay) (D27:ap K mg "_law_any_world" (aj 27) aI) (D28:ap K mg "_law_alike" (aj 28) bp) (D29:ap K mg "_law_digits" (aj 29) a9) (D30:ap K mg "_law_worlds" (aj 30) bc) (D31:ap K mg "_law_figures" (aj 31) aS) (D32:ap K mg "_law_full_rule" (aj 32) aJ) (D33:ap K mg "_law_drawn_points" (aj 33) az)
  {oc:HM} {od an:HU HX} {osl:ID (HU HM)} {kV doc pm cdv ct:HM} (a:JL K mainGlobals "law" = ba (ba (.ref f))) (l':K.lookup f=ba #[oc,od,.func (Kk "law" "law" (dD (aj 34)) (cH (aj 34)) (af (aj 34)) .none kV doc pm an cdv ct),osl]) (c:Li K cdv "law" = true) (k:JP K (.ref f)=true) :
  ∃fd:KC,(∀(s:HQ) (v:HM),OA s fd #[[v],[]] [("_law_script",v)])/\∀base:Jc,K.In base->base.Ns mainGlobals mg->FnOk l.prog w K mg base vc 9 fa fd ["_law_script"] (xg w K 1 (aq jw 100 9 "law")):=by
 have e:=hfa.symm.trans (P8 X G a);cases e;have D34:ap K mg "law" (aj 34) gF:=yM X G DK a l' c k;have F:=vM (st:=aj 34) l' c k;exact#[Kk "law" "law" (dD (aj 34)) (cH (aj 34)) (af (aj 34)) .none kV doc pm an cdv ct,λs v=>.of_eq rfl,λbase _ _=>BB (df:=gF) F yK (by rfl) yJ hb (yN hb (FM D1 D3 D4 D6 D7 D8 D9 D10 D11 D12 D13 D14 D15 D16 D17 D18 D19 D20 D21 D22 D23 D24 D25 D26 D27 D28 D29 D30 D31 D32 D33 D34) 8)]
theorem Hn {l:Nq}{q:IM}{loose:HK Iv}{XP:(Iv->HU HM)->Jc->Prop}{YP:IU->Jc->Prop}{d:DefRec}{K:Pw->Ig}(hn:l.most=ba 63)(hdf:d.params.defaults=[])
  (hY:∀(w:IU) (h:Jc),YP w h->(K w.params).In h)
  (F:∀(w:IU) (mg:Iv->HU HM) (fa:HX) (h:Jc),(K w.params).In h->h.Ns mainGlobals mg->mg d.name=ba (.ref fa)->
   ∃fd:KC,(∀(s:HQ) (u:HM),OA s fd #[[u],[]] [("_law_script",u)])/\∀base:Jc,(K w.params).In base->base.Ns mainGlobals mg->FnOk l.prog w (K w.params) mg base vc 9 fa fd ["_law_script"] (xg w (K w.params) 1 (aq jw 100 9 "law"))) :
  PY q loose XP YP l.row.toRowW d [] (λf vs=>Px f vs):=
 L2.zt (n:=63) (k:=9) (x:="_law_script") (CX:=λ_=>vc) (sp:=λw=>xg w (K w.params) 1 (aq jw 100 9 "law")) hn #v[] hdf #[rfl,#v[],#v[]] hY F
  (λw H a ns hl hO hS=>C9 (yI (defs:=jw) (fuel:=100) (d:=0) #v[] FL) hO hS) λ_ _ _ _ _ z=>z
end Mi
open PySem PySem.W PyProof.Rows L2
set_option maxHeartbeats 0
namespace Mi
section
noncomputable def pw:IM:=Nm
noncomputable def ge (P:Pw)(n:Iv)(t:HW)(v:HM):Ku:=#[PyData.keyHash P n,.str n t,v]
noncomputable def kd (a:HW)(es:HK Ku)(n:HW):HX×JR:=(a,#[.type "dict",K3,.dict es.toArray n,#[]])
noncomputable def kt (a:HW)(c:HM)(vs:HK HM)(n:HW):HX×JR:=(a,#[c,K3,.seq vs.toArray n,#[]])
noncomputable def kc (a:HW)(vs:HK HM):HX×JR:=(a,#[.type "code",K3,.fields vs.toArray,#[]])
noncomputable def kf (a:HW)(st:KQ)(n:Iv)(pm cd:HM):HX×JR:=(a,#[.type "function",K3,.func (Kk n n (dD st) (cH st) (af st) .none .none .none pm K3 cd .none),#[]])
noncomputable def K0 (P:Pw):Ig:=[kd 3 [ge P "__name__" 165 (.str "law_layworld_k11_parts_told" 213),ge P "__doc__" 166 .none,ge P "__package__" 167 .none,ge P "__loader__" 168 (.builtin "__main__.__loader__#opaque"),ge P "__spec__" 169 .none,ge P "__annotations__" 170 (.ref 6),ge P "__builtins__" 171 (.ref 4),ge P "__file__" 173 (.str "/claim/cut.py" 172),ge P "__cached__" 174 .none,ge P "way" 198 (.ref 21),ge P "part" 206 (.ref 26),ge P "point_over" 212 (.ref 31),ge P "_law_flow" 221 (.ref 38),ge P "_law_pick" 231 (.ref 45),ge P "_law_letters" 237 (.ref 50),ge P "_law_name" 246 (.ref 57),ge P "_law_names" 259 (.ref 64),ge P "_law_between" 269 (.ref 71),ge P "_law_part" 275 (.ref 76),ge P "_law_turns" 281 (.ref 83),ge P "_law_figure" 287 (.ref 88),ge P "_law_backs" 296 (.ref 95),ge P "_law_rule_of" 302 (.ref 100),ge P "_law_free_three" 308 (.ref 105),ge P "_law_sizes" 316 (.ref 112),ge P "_law_any_rule" 328 (.ref 119),ge P "_law_laying_kind" 336 (.ref 126),ge P "_law_breaks" 352 (.ref 133),ge P "_law_numbered" 358 (.ref 138),ge P "_law_laying_rule" 379 (.ref 145),ge P "_law_rising" 385 (.ref 150),ge P "_law_free_rule" 391 (.ref 155),ge P "_law_one_way_rule" 397 (.ref 160),ge P "_law_any_world" 403 (.ref 165),ge P "_law_alike" 409 (.ref 170),ge P "_law_digits" 415 (.ref 175),ge P "_law_worlds" 421 (.ref 180),ge P "_law_figures" 427 (.ref 185),ge P "_law_full_rule" 433 (.ref 190),ge P "_law_drawn_points" 444 (.ref 197),ge P "law" 450 (.ref 202)] 41,
 kc 20 [(.str "way" 189),(.str "way" 190),(.str "/claim/cut.py" 191),(.int 2 0),(.int 4 0),(.int 0 0),(.int 0 0),(.int 3 0),(.ref 15),(.bool true),(.int 181 0),(.ref 16),.none,(.ref 17),(.ref 18),(.ref 19),(.int 196 0),(.int 2 0),(.str "/claim/cut.py" 197)],
 kf 21 (aj 1) "way" (.str "layworld.worlds" 187) (.ref 20),
 kc 25 [(.str "part" 201),(.str "part" 202),(.str "/claim/cut.py" 203),(.int 7 0),(.int 3 0),(.int 0 0),(.int 0 0),(.int 3 0),(.ref 22),(.bool true),(.int 181 0),(.ref 23),.none,.none,.none,(.ref 24),(.int 204 0),(.int 7 0),(.str "/claim/cut.py" 205)],
 kf 26 (aj 3) "part" (.str "layworld.parts" 199) (.ref 25),
 kc 30 [(.str "point_over" 207),(.str "point_over" 208),(.str "/claim/cut.py" 209),(.int 9 0),(.int 4 0),(.int 0 0),(.int 0 0),(.int 3 0),(.ref 27),(.bool true),(.int 181 0),(.ref 28),.none,.none,.none,(.ref 29),(.int 210 0),(.int 9 0),(.str "/claim/cut.py" 211)],
 kf 31 (aj 4) "point_over" (.str "layworld.parts" 199) (.ref 30),
 kc 37 [(.str "_law_flow" 215),(.str "_law_flow" 216),(.str "/claim/cut.py" 217),(.int 12 0),(.int 1 0),(.int 0 0),(.int 0 0),(.int 3 0),(.ref 32),(.bool true),(.int 181 0),(.ref 33),.none,(.ref 34),(.ref 35),(.ref 36),(.int 219 0),(.int 12 0),(.str "/claim/cut.py" 220)],
 kf 38 (aj 6) "_law_flow" (.str "law_layworld_k11_parts_told" 213) (.ref 37),
 kc 44 [(.str "_law_pick" 222),(.str "_law_pick" 223),(.str "/claim/cut.py" 224),(.int 14 0),(.int 2 0),(.int 0 0),(.int 0 0),(.int 3 0),(.ref 39),(.bool true),(.int 181 0),(.ref 40),.none,(.ref 41),(.ref 42),(.ref 43),(.int 229 0),(.int 14 0),(.str "/claim/cut.py" 230)],
 kf 45 (aj 7) "_law_pick" (.str "law_layworld_k11_parts_told" 213) (.ref 44),
 kc 49 [(.str "_law_letters" 232),(.str "_law_letters" 233),(.str "/claim/cut.py" 234),(.int 29 0),(.int 2 0),(.int 0 0),(.int 0 0),(.int 3 0),(.ref 46),(.bool true),(.int 181 0),(.ref 47),.none,.none,.none,(.ref 48),(.int 235 0),(.int 29 0),(.str "/claim/cut.py" 236)],
 kf 50 (aj 8) "_law_letters" (.str "law_layworld_k11_parts_told" 213) (.ref 49),
 kc 56 [(.str "_law_name" 238),(.str "_law_name" 239),(.str "/claim/cut.py" 240),(.int 31 0),(.int 2 0),(.int 0 0),(.int 0 0),(.int 3 0),(.ref 51),(.bool true),(.int 181 0),(.ref 52),.none,(.ref 53),(.ref 54),(.ref 55),(.int 244 0),(.int 31 0),(.str "/claim/cut.py" 245)],
 kf 57 (aj 9) "_law_name" (.str "law_layworld_k11_parts_told" 213) (.ref 56),
 kc 63 [(.str "_law_names" 247),(.str "_law_names" 248),(.str "/claim/cut.py" 249),(.int 39 0),(.int 2 0),(.int 0 0),(.int 0 0),(.int 3 0),(.ref 58),(.bool true),(.int 181 0),(.ref 59),.none,(.ref 60),(.ref 61),(.ref 62),(.int 257 0),(.int 39 0),(.str "/claim/cut.py" 258)],
 kf 64 (aj 10) "_law_names" (.str "law_layworld_k11_parts_told" 213) (.ref 63),
 kc 70 [(.str "_law_between" 260),(.str "_law_between" 261),(.str "/claim/cut.py" 262),(.int 52 0),(.int 4 0),(.int 0 0),(.int 0 0),(.int 3 0),(.ref 65),(.bool true),(.int 181 0),(.ref 66),.none,(.ref 67),(.ref 68),(.ref 69),(.int 267 0),(.int 52 0),(.str "/claim/cut.py" 268)],
 kf 71 (aj 11) "_law_between" (.str "law_layworld_k11_parts_told" 213) (.ref 70),
 kc 75 [(.str "_law_part" 270),(.str "_law_part" 271),(.str "/claim/cut.py" 272),(.int 56 0),(.int 3 0),(.int 0 0),(.int 0 0),(.int 3 0),(.ref 72),(.bool true),(.int 181 0),(.ref 73),.none,.none,.none,(.ref 74),(.int 273 0),(.int 56 0),(.str "/claim/cut.py" 274)],
 kf 76 (aj 12) "_law_part" (.str "law_layworld_k11_parts_told" 213) (.ref 75),
 kc 82 [(.str "_law_turns" 276),(.str "_law_turns" 277),(.str "/claim/cut.py" 278),(.int 62 0),(.int 0 0),(.int 0 0),(.int 0 0),(.int 3 0),(.ref 77),(.bool true),(.int 181 0),(.ref 78),.none,(.ref 79),(.ref 80),(.ref 81),(.int 279 0),(.int 62 0),(.str "/claim/cut.py" 280)],
 kf 83 (aj 13) "_law_turns" (.str "law_layworld_k11_parts_told" 213) (.ref 82),
 kc 87 [(.str "_law_figure" 282),(.str "_law_figure" 283),(.str "/claim/cut.py" 284),(.int 64 0),(.int 2 0),(.int 0 0),(.int 0 0),(.int 3 0),(.ref 84),(.bool true),(.int 181 0),(.ref 85),.none,.none,.none,(.ref 86),(.int 285 0),(.int 64 0),(.str "/claim/cut.py" 286)],
 kf 88 (aj 14) "_law_figure" (.str "law_layworld_k11_parts_told" 213) (.ref 87),
 kc 94 [(.str "_law_backs" 288),(.str "_law_backs" 289),(.str "/claim/cut.py" 290),(.int 66 0),(.int 2 0),(.int 0 0),(.int 0 0),(.int 3 0),(.ref 89),(.bool true),(.int 181 0),(.ref 90),.none,(.ref 91),(.ref 92),(.ref 93),(.int 294 0),(.int 66 0),(.str "/claim/cut.py" 295)],
 kf 95 (aj 15) "_law_backs" (.str "law_layworld_k11_parts_told" 213) (.ref 94),
 kc 99 [(.str "_law_rule_of" 297),(.str "_law_rule_of" 298),(.str "/claim/cut.py" 299),(.int 69 0),(.int 4 0),(.int 0 0),(.int 0 0),(.int 3 0),(.ref 96),(.bool true),(.int 181 0),(.ref 97),.none,.none,.none,(.ref 98),(.int 300 0),(.int 69 0),(.str "/claim/cut.py" 301)],
 kf 100 (aj 16) "_law_rule_of" (.str "law_layworld_k11_parts_told" 213) (.ref 99),
 kc 104 [(.str "_law_free_three" 303),(.str "_law_free_three" 304),(.str "/claim/cut.py" 305),(.int 73 0),(.int 3 0),(.int 0 0),(.int 0 0),(.int 3 0),(.ref 101),(.bool true),(.int 181 0),(.ref 102),.none,.none,.none,(.ref 103),(.int 306 0),(.int 73 0),(.str "/claim/cut.py" 307)],
 kf 105 (aj 17) "_law_free_three" (.str "law_layworld_k11_parts_told" 213) (.ref 104),
 kc 111 [(.str "_law_sizes" 309),(.str "_law_sizes" 310),(.str "/claim/cut.py" 311),(.int 78 0),(.int 1 0),(.int 0 0),(.int 0 0),(.int 3 0),(.ref 106),(.bool true),(.int 181 0),(.ref 107),.none,(.ref 108),(.ref 109),(.ref 110),(.int 314 0),(.int 78 0),(.str "/claim/cut.py" 315)],
 kf 112 (aj 18) "_law_sizes" (.str "law_layworld_k11_parts_told" 213) (.ref 111),
 kc 118 [(.str "_law_any_rule" 317),(.str "_law_any_rule" 318),(.str "/claim/cut.py" 319),(.int 81 0),(.int 1 0),(.int 0 0),(.int 0 0),(.int 3 0),(.ref 113),(.bool true),(.int 181 0),(.ref 114),.none,(.ref 115),(.ref 116),(.ref 117),(.int 326 0),(.int 81 0),(.str "/claim/cut.py" 327)],
 kf 119 (aj 19) "_law_any_rule" (.str "law_layworld_k11_parts_told" 213) (.ref 118),
 kc 125 [(.str "_law_laying_kind" 329),(.str "_law_laying_kind" 330),(.str "/claim/cut.py" 331),(.int 88 0),(.int 1 0),(.int 0 0),(.int 0 0),(.int 3 0),(.ref 120),(.bool true),(.int 181 0),(.ref 121),.none,(.ref 122),(.ref 123),(.ref 124),(.int 334 0),(.int 88 0),(.str "/claim/cut.py" 335)],
 kf 126 (aj 20) "_law_laying_kind" (.str "law_layworld_k11_parts_told" 213) (.ref 125),
 kc 132 [(.str "_law_breaks" 337),(.str "_law_breaks" 338),(.str "/claim/cut.py" 339),(.int 97 0),(.int 5 0),(.int 0 0),(.int 0 0),(.int 3 0),(.ref 127),(.bool true),(.int 181 0),(.ref 128),.none,(.ref 129),(.ref 130),(.ref 131),(.int 350 0),(.int 97 0),(.str "/claim/cut.py" 351)],
 kf 133 (aj 21) "_law_breaks" (.str "law_layworld_k11_parts_told" 213) (.ref 132),
 kc 137 [(.str "_law_numbered" 353),(.str "_law_numbered" 354),(.str "/claim/cut.py" 355),(.int 105 0),(.int 3 0),(.int 0 0),(.int 0 0),(.int 3 0),(.ref 134),(.bool true),(.int 181 0),(.ref 135),.none,.none,.none,(.ref 136),(.int 356 0),(.int 105 0),(.str "/claim/cut.py" 357)],
 kf 138 (aj 22) "_law_numbered" (.str "law_layworld_k11_parts_told" 213) (.ref 137),
 kc 144 [(.str "_law_laying_rule" 359),(.str "_law_laying_rule" 360),(.str "/claim/cut.py" 361),(.int 120 0),(.int 1 0),(.int 0 0),(.int 0 0),(.int 3 0),(.ref 139),(.bool true),(.int 181 0),(.ref 140),.none,(.ref 141),(.ref 142),(.ref 143),(.int 377 0),(.int 120 0),(.str "/claim/cut.py" 378)],
 kf 145 (aj 23) "_law_laying_rule" (.str "law_layworld_k11_parts_told" 213) (.ref 144),
 kc 149 [(.str "_law_rising" 380),(.str "_law_rising" 381),(.str "/claim/cut.py" 382),(.int 140 0),(.int 1 0),(.int 0 0),(.int 0 0),(.int 3 0),(.ref 146),(.bool true),(.int 181 0),(.ref 147),.none,.none,.none,(.ref 148),(.int 383 0),(.int 140 0),(.str "/claim/cut.py" 384)],
 kf 150 (aj 24) "_law_rising" (.str "law_layworld_k11_parts_told" 213) (.ref 149),
 kc 154 [(.str "_law_free_rule" 386),(.str "_law_free_rule" 387),(.str "/claim/cut.py" 388),(.int 146 0),(.int 1 0),(.int 0 0),(.int 0 0),(.int 3 0),(.ref 151),(.bool true),(.int 181 0),(.ref 152),.none,.none,.none,(.ref 153),(.int 389 0),(.int 146 0),(.str "/claim/cut.py" 390)],
 kf 155 (aj 25) "_law_free_rule" (.str "law_layworld_k11_parts_told" 213) (.ref 154),
 kc 159 [(.str "_law_one_way_rule" 392),(.str "_law_one_way_rule" 393),(.str "/claim/cut.py" 394),(.int 159 0),(.int 1 0),(.int 0 0),(.int 0 0),(.int 3 0),(.ref 156),(.bool true),(.int 181 0),(.ref 157),.none,.none,.none,(.ref 158),(.int 395 0),(.int 159 0),(.str "/claim/cut.py" 396)],
 kf 160 (aj 26) "_law_one_way_rule" (.str "law_layworld_k11_parts_told" 213) (.ref 159),
 kc 164 [(.str "_law_any_world" 398),(.str "_law_any_world" 399),(.str "/claim/cut.py" 400),(.int 163 0),(.int 3 0),(.int 0 0),(.int 0 0),(.int 3 0),(.ref 161),(.bool true),(.int 181 0),(.ref 162),.none,.none,.none,(.ref 163),(.int 401 0),(.int 163 0),(.str "/claim/cut.py" 402)],
 kf 165 (aj 27) "_law_any_world" (.str "law_layworld_k11_parts_told" 213) (.ref 164),
 kc 169 [(.str "_law_alike" 404),(.str "_law_alike" 405),(.str "/claim/cut.py" 406),(.int 169 0),(.int 2 0),(.int 0 0),(.int 0 0),(.int 3 0),(.ref 166),(.bool true),(.int 181 0),(.ref 167),.none,.none,.none,(.ref 168),(.int 407 0),(.int 169 0),(.str "/claim/cut.py" 408)],
 kf 170 (aj 28) "_law_alike" (.str "law_layworld_k11_parts_told" 213) (.ref 169),
 kc 174 [(.str "_law_digits" 410),(.str "_law_digits" 411),(.str "/claim/cut.py" 412),(.int 181 0),(.int 2 0),(.int 0 0),(.int 0 0),(.int 3 0),(.ref 171),(.bool true),(.int 181 0),(.ref 172),.none,.none,.none,(.ref 173),(.int 413 0),(.int 181 0),(.str "/claim/cut.py" 414)],
 kf 175 (aj 29) "_law_digits" (.str "law_layworld_k11_parts_told" 213) (.ref 174),
 kc 179 [(.str "_law_worlds" 416),(.str "_law_worlds" 417),(.str "/claim/cut.py" 418),(.int 186 0),(.int 2 0),(.int 0 0),(.int 0 0),(.int 3 0),(.ref 176),(.bool true),(.int 181 0),(.ref 177),.none,.none,.none,(.ref 178),(.int 419 0),(.int 186 0),(.str "/claim/cut.py" 420)],
 kf 180 (aj 30) "_law_worlds" (.str "law_layworld_k11_parts_told" 213) (.ref 179),
 kc 184 [(.str "_law_figures" 422),(.str "_law_figures" 423),(.str "/claim/cut.py" 424),(.int 194 0),(.int 1 0),(.int 0 0),(.int 0 0),(.int 3 0),(.ref 181),(.bool true),(.int 181 0),(.ref 182),.none,.none,.none,(.ref 183),(.int 425 0),(.int 194 0),(.str "/claim/cut.py" 426)],
 kf 185 (aj 31) "_law_figures" (.str "law_layworld_k11_parts_told" 213) (.ref 184),
 kc 189 [(.str "_law_full_rule" 428),(.str "_law_full_rule" 429),(.str "/claim/cut.py" 430),(.int 196 0),(.int 1 0),(.int 0 0),(.int 0 0),(.int 3 0),(.ref 186),(.bool true),(.int 181 0),(.ref 187),.none,.none,.none,(.ref 188),(.int 431 0),(.int 196 0),(.str "/claim/cut.py" 432)],
 kf 190 (aj 32) "_law_full_rule" (.str "law_layworld_k11_parts_told" 213) (.ref 189),
 kc 196 [(.str "_law_drawn_points" 434),(.str "_law_drawn_points" 435),(.str "/claim/cut.py" 436),(.int 205 0),(.int 3 0),(.int 0 0),(.int 0 0),(.int 3 0),(.ref 191),(.bool true),(.int 181 0),(.ref 192),.none,(.ref 193),(.ref 194),(.ref 195),(.int 442 0),(.int 205 0),(.str "/claim/cut.py" 443)],
 kf 197 (aj 33) "_law_drawn_points" (.str "law_layworld_k11_parts_told" 213) (.ref 196),
 kc 201 [(.str "law" 445),(.str "law" 446),(.str "/claim/cut.py" 447),(.int 211 0),(.int 1 0),(.int 0 0),(.int 0 0),(.int 3 0),(.ref 198),(.bool true),(.int 181 0),(.ref 199),.none,.none,.none,(.ref 200),(.int 448 0),(.int 211 0),(.str "/claim/cut.py" 449)],
 kf 202 (aj 34) "law" (.str "law_layworld_k11_parts_told" 213) (.ref 201)]
noncomputable def Hx:HK HW:=[3,20,21,25,26,30,31,37,38,44,45,49,50,56,57,63,64,70,71,75,76,82,83,87,88,94,95,99,100,104,105,111,112,118,119,125,126,132,133,137,138,144,145,149,150,154,155,159,160,164,165,169,170,174,175,179,180,184,185,189,190,196,197,201,202]
noncomputable def vq:IM:={ pw with main:={ pw.main with body:=[aj 34] } }
noncomputable def lo:HK Iv:=[("way" : Iv),("part" : Iv),("point_over" : Iv),("_law_flow" : Iv),("_law_pick" : Iv),("_law_letters" : Iv),("_law_name" : Iv),("_law_names" : Iv),("_law_between" : Iv),("_law_part" : Iv),("_law_turns" : Iv),("_law_figure" : Iv),("_law_backs" : Iv),("_law_rule_of" : Iv),("_law_free_three" : Iv),("_law_sizes" : Iv),("_law_any_rule" : Iv),("_law_laying_kind" : Iv),("_law_breaks" : Iv),("_law_numbered" : Iv),("_law_laying_rule" : Iv),("_law_rising" : Iv),("_law_free_rule" : Iv),("_law_one_way_rule" : Iv),("_law_any_world" : Iv),("_law_alike" : Iv),("_law_digits" : Iv),("_law_worlds" : Iv),("_law_figures" : Iv),("_law_full_rule" : Iv),("_law_drawn_points" : Iv)]
theorem aV {K:Ig}{h:Jc}{mg:Iv->HU HM}{x:Iv}{st:KQ}{df:Df}(a:HW)(pm cd:HM)(X:K.In h)(G:h.Ns mainGlobals mg)
  (b:BD x st df)
  (e:JL K mainGlobals x=ba (ba (.ref a))) (l:K.lookup a=ba (kf a st x pm cd).2) (c:Li K cd x=true) (k:JP K (.ref a)=true):ap K mg x st df:=yM X G b e l c k
theorem eK:∀P,Hx=(K0 P).map (·.1):=λ_=>by kernel_rfl
noncomputable def hk:PySem.W.Hook:=PySem.W.kHook K0 Hx eK
theorem hl:PySem.W.LeftO pw vq lo (λs=>Qn vq [] s&&P9 [] s) hk.obs hk.val 2032:=λw=>by kernel_rfl
end
end Mi
theorem PySem.Challenge.cw_layworld_k11_parts_told_holds : PySem.Challenge.rw_layworld_k11_parts_told.Holds := by
 w_on
 refine PySem.W.holds_law (by kernel_rfl) (λsaid=>?_)
 refine PySem.W.holds_open (q:=Mi.vq) (loose:=Mi.lo) (Xt:=λs=>Qn Mi.vq [] s&&P9 [] s) (XP:=PySem.W.XL Mi.vq []) (Yf:=Mi.hk.obs) (Ya:=Mi.hk.val) (YP:=Mi.hk.says) (N:=2032) Mi.hl Mi.hk.of Mi.hk.keeps (λs e=>PySem.W.xl_of s (NT.mp e).1) Q5 (by rfl) (by rfl) (by rfl) (λs e=>PySem.W.recFacts_of (NT.mp e).2) (by rfl) said (by decide +kernel) #[rfl,rfl,rfl,rfl,rfl,by decide +kernel] ?hw ?hc
 case hw=>w_witness2
 case hc=>
 refine Mi.Hn (l:=Nn) (K:=Mi.K0) rfl rfl (λw h Y=>PySem.W.kIn_of Y) ?F
 case F=>
  intro w mg fa h KX G hmg;exact Mi.DL KX G hmg (Mi.FN KX G (by kernel_rfl) (by kernel_rfl) (by kernel_rfl) (by kernel_rfl) (by kernel_rfl) (by kernel_rfl) (by kernel_rfl) (by kernel_rfl) (by kernel_rfl) (by kernel_rfl) (by kernel_rfl) (by kernel_rfl) (by kernel_rfl))
   (Mi.aV 21 (.str "layworld.worlds" 187) (.ref 20) (x:="way") (st:=Mi.aj 1) (df:=Mi.gE) KX G Mi.DJ (by kernel_rfl) (by kernel_rfl) (by kernel_rfl) (by kernel_rfl))
   (Mi.aV 26 (.str "layworld.parts" 199) (.ref 25) (x:="part") (st:=Mi.aj 3) (df:=Mi.eD) KX G Mi.Bo (by kernel_rfl) (by kernel_rfl) (by kernel_rfl) (by kernel_rfl))
   (Mi.aV 31 (.str "layworld.parts" 199) (.ref 30) (x:="point_over") (st:=Mi.aj 4) (df:=Mi.bh) KX G Mi.lU (by kernel_rfl) (by kernel_rfl) (by kernel_rfl) (by kernel_rfl))
   (Mi.aV 38 (.str "law_layworld_k11_parts_told" 213) (.ref 37) (x:="_law_flow") (st:=Mi.aj 6) (df:=Mi.bz) KX G Mi.oH (by kernel_rfl) (by kernel_rfl) (by kernel_rfl) (by kernel_rfl))
   (Mi.aV 45 (.str "law_layworld_k11_parts_told" 213) (.ref 44) (x:="_law_pick") (st:=Mi.aj 7) (df:=Mi.bA) KX G Mi.oJ (by kernel_rfl) (by kernel_rfl) (by kernel_rfl) (by kernel_rfl))
   (Mi.aV 50 (.str "law_layworld_k11_parts_told" 213) (.ref 49) (x:="_law_letters") (st:=Mi.aj 8) (df:=Mi.aP) KX G Mi.jK (by kernel_rfl) (by kernel_rfl) (by kernel_rfl) (by kernel_rfl))
   (Mi.aV 57 (.str "law_layworld_k11_parts_told" 213) (.ref 56) (x:="_law_name") (st:=Mi.aj 9) (df:=Mi.bB) KX G Mi.oK (by kernel_rfl) (by kernel_rfl) (by kernel_rfl) (by kernel_rfl))
   (Mi.aV 64 (.str "law_layworld_k11_parts_told" 213) (.ref 63) (x:="_law_names") (st:=Mi.aj 10) (df:=Mi.bj) KX G Mi.lV (by kernel_rfl) (by kernel_rfl) (by kernel_rfl) (by kernel_rfl))
   (Mi.aV 71 (.str "law_layworld_k11_parts_told" 213) (.ref 70) (x:="_law_between") (st:=Mi.aj 11) (df:=Mi.aQ) KX G Mi.jL (by kernel_rfl) (by kernel_rfl) (by kernel_rfl) (by kernel_rfl))
   (Mi.aV 76 (.str "law_layworld_k11_parts_told" 213) (.ref 75) (x:="_law_part") (st:=Mi.aj 12) (df:=Mi.bC) KX G Mi.oM (by kernel_rfl) (by kernel_rfl) (by kernel_rfl) (by kernel_rfl))
   (Mi.aV 83 (.str "law_layworld_k11_parts_told" 213) (.ref 82) (x:="_law_turns") (st:=Mi.aj 13) (df:=Mi.bm) KX G Mi.lW (by kernel_rfl) (by kernel_rfl) (by kernel_rfl) (by kernel_rfl))
   (Mi.aV 88 (.str "law_layworld_k11_parts_told" 213) (.ref 87) (x:="_law_figure") (st:=Mi.aj 14) (df:=Mi.aY) KX G Mi.ln (by kernel_rfl) (by kernel_rfl) (by kernel_rfl) (by kernel_rfl))
   (Mi.aV 95 (.str "law_layworld_k11_parts_told" 213) (.ref 94) (x:="_law_backs") (st:=Mi.aj 15) (df:=Mi.bn) KX G Mi.lX (by kernel_rfl) (by kernel_rfl) (by kernel_rfl) (by kernel_rfl))
   (Mi.aV 100 (.str "law_layworld_k11_parts_told" 213) (.ref 99) (x:="_law_rule_of") (st:=Mi.aj 16) (df:=Mi.aR) KX G Mi.jM (by kernel_rfl) (by kernel_rfl) (by kernel_rfl) (by kernel_rfl))
   (Mi.aV 105 (.str "law_layworld_k11_parts_told" 213) (.ref 104) (x:="_law_free_three") (st:=Mi.aj 17) (df:=Mi.aE) KX G Mi.gU (by kernel_rfl) (by kernel_rfl) (by kernel_rfl) (by kernel_rfl))
   (Mi.aV 112 (.str "law_layworld_k11_parts_told" 213) (.ref 111) (x:="_law_sizes") (st:=Mi.aj 18) (df:=Mi.bo) KX G Mi.lY (by kernel_rfl) (by kernel_rfl) (by kernel_rfl) (by kernel_rfl))
   (Mi.aV 119 (.str "law_layworld_k11_parts_told" 213) (.ref 118) (x:="_law_any_rule") (st:=Mi.aj 19) (df:=Mi.aL) KX G Mi.jh (by kernel_rfl) (by kernel_rfl) (by kernel_rfl) (by kernel_rfl))
   (Mi.aV 126 (.str "law_layworld_k11_parts_told" 213) (.ref 125) (x:="_law_laying_kind") (st:=Mi.aj 20) (df:=Mi.aB) KX G Mi.gv (by kernel_rfl) (by kernel_rfl) (by kernel_rfl) (by kernel_rfl))
   (Mi.aV 133 (.str "law_layworld_k11_parts_told" 213) (.ref 132) (x:="_law_breaks") (st:=Mi.aj 21) (df:=Mi.aZ) KX G Mi.lq (by kernel_rfl) (by kernel_rfl) (by kernel_rfl) (by kernel_rfl))
   (Mi.aV 138 (.str "law_layworld_k11_parts_told" 213) (.ref 137) (x:="_law_numbered") (st:=Mi.aj 22) (df:=Mi.aM) KX G Mi.ji (by kernel_rfl) (by kernel_rfl) (by kernel_rfl) (by kernel_rfl))
   (Mi.aV 145 (.str "law_layworld_k11_parts_told" 213) (.ref 144) (x:="_law_laying_rule") (st:=Mi.aj 23) (df:=Mi.aC) KX G Mi.gw (by kernel_rfl) (by kernel_rfl) (by kernel_rfl) (by kernel_rfl))
   (Mi.aV 150 (.str "law_layworld_k11_parts_told" 213) (.ref 149) (x:="_law_rising") (st:=Mi.aj 24) (df:=Mi.a7) KX G Mi.lr (by kernel_rfl) (by kernel_rfl) (by kernel_rfl) (by kernel_rfl))
   (Mi.aV 155 (.str "law_layworld_k11_parts_told" 213) (.ref 154) (x:="_law_free_rule") (st:=Mi.aj 25) (df:=Mi.aH) KX G Mi.iJ (by kernel_rfl) (by kernel_rfl) (by kernel_rfl) (by kernel_rfl))
   (Mi.aV 160 (.str "law_layworld_k11_parts_told" 213) (.ref 159) (x:="_law_one_way_rule") (st:=Mi.aj 26) (df:=Mi.ay) KX G Mi.fP (by kernel_rfl) (by kernel_rfl) (by kernel_rfl) (by kernel_rfl))
   (Mi.aV 165 (.str "law_layworld_k11_parts_told" 213) (.ref 164) (x:="_law_any_world") (st:=Mi.aj 27) (df:=Mi.aI) KX G Mi.iK (by kernel_rfl) (by kernel_rfl) (by kernel_rfl) (by kernel_rfl))
   (Mi.aV 170 (.str "law_layworld_k11_parts_told" 213) (.ref 169) (x:="_law_alike") (st:=Mi.aj 28) (df:=Mi.bp) KX G Mi.lZ (by kernel_rfl) (by kernel_rfl) (by kernel_rfl) (by kernel_rfl))
   (Mi.aV 175 (.str "law_layworld_k11_parts_told" 213) (.ref 174) (x:="_law_digits") (st:=Mi.aj 29) (df:=Mi.a9) KX G Mi.lu (by kernel_rfl) (by kernel_rfl) (by kernel_rfl) (by kernel_rfl))
   (Mi.aV 180 (.str "law_layworld_k11_parts_told" 213) (.ref 179) (x:="_law_worlds") (st:=Mi.aj 30) (df:=Mi.bc) KX G Mi.lv (by kernel_rfl) (by kernel_rfl) (by kernel_rfl) (by kernel_rfl))
   (Mi.aV 185 (.str "law_layworld_k11_parts_told" 213) (.ref 184) (x:="_law_figures") (st:=Mi.aj 31) (df:=Mi.aS) KX G Mi.jN (by kernel_rfl) (by kernel_rfl) (by kernel_rfl) (by kernel_rfl))
   (Mi.aV 190 (.str "law_layworld_k11_parts_told" 213) (.ref 189) (x:="_law_full_rule") (st:=Mi.aj 32) (df:=Mi.aJ) KX G Mi.iL (by kernel_rfl) (by kernel_rfl) (by kernel_rfl) (by kernel_rfl))
   (Mi.aV 197 (.str "law_layworld_k11_parts_told" 213) (.ref 196) (x:="_law_drawn_points") (st:=Mi.aj 33) (df:=Mi.az) KX G Mi.fQ (by kernel_rfl) (by kernel_rfl) (by kernel_rfl) (by kernel_rfl))
   (f:=202) (oc:=.type "function") (od:=K3) (an:=K3) (osl:=#[]) (kV:=.none) (doc:=.none) (pm:=(.str "law_layworld_k11_parts_told" 213)) (cdv:=(.ref 201)) (ct:=.none) (by kernel_rfl) (by kernel_rfl) (by kernel_rfl) (by kernel_rfl)
