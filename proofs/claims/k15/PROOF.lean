import PyProof.Rows.All
import Wide.All
import OpenK.AllK
import Wide.FinOn
import Lean
import PyProof.EqAt
import PyProof.EqKinds
import PyProof.TupleCall
import KE.KDictList
import PyProof.SetKind
import PyProof.IsRules
import KE.KSortTup
import PyProof.ZipIter
import PyProof.Draws
import PyProof.EnumMake
import PyProof.WalksEnum
import PySem.Challenge.RW_layworld_k15_wishes_told
noncomputable section
open Option renaming some→ba,none→gV
local macro_rules|`(#v[])=>`((by decide))|`(#v[$x:term])=>`(.cons $x .nil)|`(#v[$x:term,$y:term,*])=>`(.cons $x #v[$y,*])
local macro_rules|`(#[$x:term])=>`(⟨$x⟩)|`(#[$x:term,$y:term,*])=>`(⟨$x,$y,*⟩)
local macro_rules|`(∅)=>`((by omega))
open _root_ renaming List→Kr,Option→Kz,Nat→KC,Int→KO,decide_eq_true_eq→K5,if_pos→La,Bool→Lf,Array→Lg,if_neg→Li,decide_eq_false→Lm,of_decide_eq_true→LH,beq_self_eq_true→LK,if_false→L4,False→L7,String→L8,if_true→Mt,of_decide_eq_false→MQ,decide_eq_true→MW,or_false→Nb,DecidableEq→NM,beq_eq_false_iff_ne→OS,decide_eq_false_iff_not→PM,forall_congr'→QS,True→Rg,bne_self_eq_false→Ry,decide_true→R3,decide_false→To,not_or→T7,dif_pos→Uc,Unit→Ut
open PySem renaming wpAny_bind→Ks,Value→Ku,Shared→Kx,wpAny_pure→Ky,Addr→KF,Str→KZ,Expr→Lb,Program→Lk,Around→Lr,World→Lz,wpAny_newObj_type→LA,sizeLine_eq→LD,Heap→LI,wpAny_holding→LQ,wpAny_callSpecial?_slot→LS,wpAny_call_entry→LU,codeAny_builtin→LW,SetTable→L1,wpAny_setState_of→L6,Obj→Mp,wpAny_mono→Mz,NameKind→MC,plainId_quiet→ME,wpAny_field→MV,wpAny_seqItems→MX,wpAny_typeNameOfWhole_keyiter→MZ,wpAny_truthy_bool→M1,DictEntry→M2,Spec→M8,Pos→M9,FuncData→Na,wpAny_passesOwn→Ng,Stmt→No,wpAny_typeNameOf_keyiter→Nr,mem_of_lookup→Nt,wpAny_askSetting→Nx,wpAny_typeOf→ND,wpAny_ite_split→NF,Scope→NJ,Builtin→NK,wpAny_forIn_list→NV,wpAny_isInstance→NW,wpAny_updateSeq→Oa,wpAny_Call_Name_kw→Ob,wpAny_of_eq→Og,codeAny_mono→Ol,wpAny_runValue→Os,wpAny_pyIter_list→Ov,wpAny_dictEntries→Ow,wpAny_standAt→OG,wpAny_attempt→OH,wpAny_letGo→OL,wpAny_loadPart'→OO,wpAny_setEntries_of→OT,IsPart→O2,call_meets→O4,wpAny_fieldsOf→O7,wpAny_setField→Pb,wpAny_tryCatch→Pc,wpAny_pyIter_slot→Po,wpAny_newList→PC,wpAny_comprehension_free→PD,noFill_tuple_add→PH,Paired→PQ,wpAny_rule→PU,wpAny_load→PV,ItemsOf→P1,wpAny_execs_nil→P4,codeAny_of_tree→P8,wpAny_specialOf→P9,wpAny_dictEpoch→Qb,builtinLookup_eq_fast→Qg,wpAny_isSame_ref_self→Qi,wpAny_isOneOf_keyiter→Ql,GenState→Qo,isSubtype_stop→Qq,wpAny_newTuple→Qr,wpAny_pyIter_keyiter→Qv,PassesOwn→QG,rangeSize_one→QN,seq_tuple_add→QP,wpAny_handled→QR,sub_set_self→Q1,wpAny_setField_rec→Q6,wpAny_pyIter_tuple→Rc,Env→Ri,wpAny_assign_Name→Rj,Operator→Rl,BindsTo→Rm,concat_meets→Rn,wpAny_sequenceKey→Ro,seqIndex_neg→Rp,list_append→Rq,wpAny_setEpoch_of→Ru,wpAny_pyIter_enum→RC,wpAny_pyHash_int→RG,wpAny_pyHash_str→RH,Result→RJ,seqIndex_of→RY,wpAny_throw→RZ,Walks→R0,wpAny_mkInt→R1,typeLookup_type→R8,Keyword→Sg,wpAny_Name→Si,wpAny_bindName→Sj,typeIs_int→Sl,fitsIndex_both→So,Params→Sr,call→Su,isSubtype_type→Sx,entryFor_alias→Sy,intBits_le_64→SK,evalPart_none→SM,call_list_seq→SN,small_one→Td,CmpOp→Te,call_range_1→Tj,Sem→Tz,IsRangeIter→TB,wpAny_alloc→TL,BoolOp→T8,IsEnum→T9,IsRange→Ud,Fin→Uh,Drawn→Ur,Model→Us,Tok→UB
open List renaming length_map→Kt,getElem?_map→KD,length_append→KG,getElem?_eq_getElem→KI,getElem?_eq_some_iff→KJ,set→KP,size_toArray→KR,mem_singleton→KS,mem_of_getElem?→KY,all_eq_true→K2,zipWith→K4,mem_map→K6,range→K9,mem_cons→Le,map_append→Lh,take_add_one→Lj,mem_range→Ll,mem_append→Ln,replicate→Lo,mem_append_right→Lp,length_range→Ls,length_take→Ly,take_length→LC,getElem?_append_left→LF,length_cons→LJ,getElem_mem→LL,length_singleton→LO,not_mem_nil→LP,all_cons→LR,getElem?_eq_none_iff→LY,mem_cons_of_mem→LZ,map_cons→L0,mem_cons_self→L3,getD_eq_getElem?_getD→Ma,append_nil→Mf,flatMap_cons→Ml,replicate_succ→Mr,map_congr_left→Ms,append_assoc→Mu,lookup_cons→MD,getElem?_append_right→MG,getElem?_set→MH,map_map→MJ,length_zipWith→ML,flatMap_append→MM,length_nil→MN,filter_append→MR,mem_append_left→MU,mem_of_mem_take→MY,length_eq_zero_iff→M3,getElem?_range→M4,take_of_length_le→M6,any_cons→M7,length_filter_le→Nd,nodup_cons→Nh,flatten_cons→Nk,length_drop→Nv,foldlM_cons→NA,mem_flatMap→NC,zip_cons_cons→NE,find?_cons→NG,range_succ→NH,getElem?_eq_none→NI,mem_iff_getElem→NQ,mem_of_mem_drop→NT,pairwise_iff_getElem→N1,filterMap_cons→N2,mem_filter→N9,filter_cons_of_pos→Oi,filter_cons_of_neg→Oj,drop_of_length_le→Ou,length_replicate→Oy,getElem_inj→OB,ext_getElem→OE,map_take→OI,mem_filterMap→O1,length_eraseIdx_of_lt→O6,mem_eraseDups→Pe,extract_eq_take_drop→Ph,rel_of_pairwise_cons→Pi,ext_getElem?→Pp,pairwise_map→Pr,getElem_take→Ps,getElem?_take_of_lt→Px,getElem?_set_self→PR,map_nil→PY,range_succ_eq_map→PZ,of_mem_zip→P5,forIn_cons→Qa,find?_some→Qe,filter_nil→Qf,take_append_drop→Qn,getElem?_set_ne→Qp,drop_zero→Qt,nodup_nil→Qx,replicate_succ'→Qy,take_zero→QA,length_dropLast→QC,eraseDups_cons→QM,pairwise_cons→Rb,zip_nil_left→Rs,nodup_append→RD,filter_congr→RE,any_toArray→RQ,getElem_map→RT,isEmpty_iff→RW,nil_append→R7,foldr_cons→Sd,foldl→Sn,forIn_nil→SF,all_map→Tl,extract→Tt,length→TC,map→TM,Nodup→Ua
open Option renaming map_eq_some_iff→Kv,map_some→Lw,isSome_iff_exists→LM,map_eq_none_iff→Oq,getD_none→RL,getD_some→RV,map_map→Sz,toList→SZ
open PySem.Heap renaming get?_push_of_some→Kw,get?_push_size→KT,lt_size→K1,get?_update_other→LB,get?_update_self→Mj,SameBut→Mw,size_push→Ny,get?_update_ne→N3,ExtBut→Qu,size_update→RS
open Bool renaming and_eq_true→KA,false_ne_true→K8,false_eq_true→Ld,or_eq_true→Mx,not_true→Nq,not_eq_true'→NL,and_true→N5,true_and→N7,eq_iff_iff→OQ,and_false→O5,eq_false_iff→Pu,false_or→Pz,and_eq_false_iff→Qh,not_false→Qs,and_eq_true_iff→QD,or_false→QQ
open Nat renaming le_refl→KH,le_trans→KQ,le_of_ble_eq_true→KU,ne_of_lt→K7,lt_of_lt_of_le→Lc,ne_of_gt→Lx,lt_irrefl→Mg,lt_succ_self→Mh,zero_le→Mm,lt_of_le_of_lt→MA,le_of_lt→MF,div_lt_of_lt_mul→M0,le_succ→Nl,lt_succ_of_lt→Nm,le_succ_of_le→Nn,mul_comm→NU,succ_mul→Oo,lt_trans→Op,succ_le_succ→OD,pow_le_pow_right→OM,mul_le_mul_right→ON,pow_le_pow_left→OW,eq_zero_or_pos→Pf,le_add_right→PJ,mod_lt→P0,mul_zero→P3,mul_le_mul→Qz,not_lt→Q8,lt_or_gt_of_ne→Ra,zero_lt_of_lt→Rz,le_of_not_lt→RO,succ_ne_zero→RP,min_eq_right→RX,min_eq_left→Se,add_assoc→SV,add_comm→Tk,min_self→Tn,sub_zero→Tu,succ_pos→Tv,pow_succ→Tw,ble→UD
open Int renaming natCast_nonneg→KL,toNat_natCast→KN,ofNat_lt→MK,emod_lt_of_pos→Nc,emod_nonneg→Nj,zero_add→Ox,ediv_nonneg→OR,natCast_mul→P7,toNat_of_nonneg→QJ,toNat→Th
open PySem.W renaming Frag→KM,mg_none_of→LX,nsIn→Mc,keepIn→Mn,fnOf→MS,kia_one→Ni,kas_sort→NB,codeIn→NO,methodObj→Pk,cellsFrom_some→PX,OpenLaw→P6,kat_nil→Qd,KdlSrc→Qw,WalkO→SO,Looks→SY,mg_of→Tb,recOk→Tc,xlAt→Tx
open Array renaming length_toList→KW,getElem?_toList→L5,size_map→L9,getElem?_eq_some_iff→Mo,getElem?_eq_getElem→MP,map→Nz,mem_toList_iff→NR,toList_extract→NS,getD→Oc,forIn_toList→Od,mem_of_getElem?→Oz,getElem_toList→OJ,toList_append→OU,getElem?_map→O9,perm_iff_toList_perm→Pd,toList_push→Pn,toList_map→PL,append_assoc→QV,filterMap→R9,map_map→SW,toList→Ti
open PySem.Value renaming ref→Lq,none→LG,type→Mq,bool→NN,str→OA,int→PF
open PySem.SetTable renaming insertAt→Lu,below→Nw,grown→Ot,Probe→O8,sizeAbove→Pa,layClean→RA,fits→SR,sameMemory→T0,relaid→Um,laid→Uz
open Option.some renaming injEq→Lv,inj→LV
open PySem.Around renaming under_plainId→LN
open PySem.Obj renaming mapSeq→Mb,data_mapFields→Oe,isFreed_of_fields→Qm,cls_mapFields→Rw,mapFields→SX
open PySem.Builtin.List renaming listExtendWith→Mk,listTooLong→Np,listLengthHint→OX,listSameRef→Py,listFitsIndex→Sq
open PySem.Builtin.Tuple renaming tupleExact→Mv,tupleItemsOf→NP,tupleHashOf→NY,tupleCompareSizes→RF,tupleIsExact→Sv
open ForInStep renaming yield→My
open PySem.Builtin.Range renaming rangeSize→MB,small→OV
open PyProof.Rows renaming slot_tuple_getitem→MO,callWith_type1→M5,subscriptTail_builtinR→On,assignInOrder_cons→O0,AllBare→Pl,listUpdate_at→PB,SortKind→PK,get?_update_seq→Qc,entry_tuple_getitem→QI,lt_int→QK,args_tuple_getitem→QY,IsTup→Rh,assignInOrder_nil→Rk,listItems_at→Rx,callWith_builtin1→RK,seqEpoch_at→R4,entry_list_sort→Sc,IntsAre→Sh,slicePart_none→Sk,slot_list_sort→SC,args_list_sort→SD,tupleItemsOf_→SL,plain_sorted→Tp,entry_sorted→Tq,args_sorted1→Ts,kind_sorted→TN
open PySem.Str renaming ofString→MT,length→T4,join→Ux
open PySem.Builtin.Slice renaming slicePlaces→Nf,sliceAdjust→NX,sliceApplied→O3,slicePartIndex→R5,sliceFields→SG
open PySem.Heap.SameBut renaming update→Nu,refl→Rv
open PySem.Calls renaming call_function_entry→NZ,Name_function_global→OZ,Constant_str→QX
open PySem.F renaming args_tuple_add_2→N4,entry_tuple_add→Of,plainAttrs_list→Oh,slot_tuple_add→Om,slot_dict_get→Qj
open PySem.Builtin.SmallTypes renaming ownedTupleIsFree→N6,nextOf→Pj,ownedTupleHandOut→QL
open PySem.NameKind renaming free→N8,cell→UA
open PySem.SeqAt renaming EqAt→OC,notIn_listAt→QZ,in_tupleAt→RM,in_listAt→R6
open True renaming intro→OF
open PySem.Builtin.Dict_items renaming ownsTuple→OP
open PySem.Builtin.Builtins renaming bindParams→OY
open Classical renaming byContradiction→Pg,propDecidable→Tf
open PySem.SetTable.probe renaming go→Pq
open PySem.Paired renaming length→Pw
open PySem.Challenge renaming pw_layworld_k15_wishes_told→PN,rw_layworld_k15_wishes_told→PP
open PySem.Env renaming kindOf→P2
open PySem.Builtin.Dict renaming showsAll→Qk,dictSlotNone→SI,pendingCount→SJ
open Sum renaming inl→QE,inr→QF
open PySem.Expr renaming Name→QH
open PySem.SeqAt.EqAt renaming int_str→QT,str_int→QU,none_bool→TD,bool_none→TF,bool_bool→TH,none_int→TQ,none_str→TR,bool_int→TU,bool_str→TV,int_none→TW,int_bool→TX,str_none→TY,str_bool→TZ,int_int→T5,str_str→T6,same→Ul
open PUnit renaming unit→Q7
open PySem.Code renaming quiet_builtin→Q9
open PySem.ScopeKind renaming function→Re
open PySem.AutoListH renaming list___mul___list_int_3→Rf
open PySem.AutoSeq1 renaming list_extend_list_list_0→Rr,sub_tuple_tuple→SQ
open PySem.SetTable.below renaming go→Rt
open Function renaming comp_def→RB,comp→Ta
open PyProof.Rows.IsTup renaming new→RI
open PySem.IsL renaming update→RN
open PySem.Builtin.Frozenset renaming updateFrom→Sb,newClass→Sw,sizeOf→SS
open PySem.Walks renaming list→SA
open PySem.Builtin.Str renaming tooLong→SH,glued→Ue
open PySem.Moved renaming eq_with→SU
open PySem.MeetsSeq renaming list_pop_at→TJ
open PySem.Txt renaming join→TK,mul→UC
open PySem.Heap.IsSliceOf renaming new→T3
open List.Pairwise renaming nil→Ub
open List.Sublist renaming refl→Uf
open PySem.Flow renaming next→Ug
open PySem.W.Looks renaming ld→Ui
open List.Perm renaming nil_eq→Uj,swap→Uw,map→Uy
open PySem.W.XL renaming keeps→Uk
open PySem.PassesOwn renaming never→Uo
open List.cons renaming injEq→Uq
open Prod renaming ext→Uu
open Or renaming inr→Uv
set_option genSizeOf false
namespace ZZ.Lean
set_option Elab.async false
set_option linter.all false
set_option maxRecDepth 100000
namespace L2
open PySem PySem.Spec PyProof.Rows
noncomputable abbrev pI:=Sum KO KZ
noncomputable def DQ:pI->Ku->Lf
 | .inl k,v=>Value.isInt k v
 | .inr x,v=>Value.isStrOf x v
noncomputable def IJ (w:Lz):pI->KO
 | .inl k=>hashInt k
 | .inr x=>hashStr w x
theorem b7:∀ {k:pI} {v:Ku},DQ k v=true->(∃i t,k=QE i/\v=PF i t)\/(∃x t,k=QF x/\v=OA x t)
 | .inl i,v,h=>by
  obtain⟨t,e⟩:=Value.isInt_shape (k:=i) (v:=v) h;exact .inl #[i,t,rfl,e]
 | .inr x,v,h=>by
  obtain⟨t,e⟩:=Value.isStrOf_shape (x:=x) (v:=v) h;exact .inr #[x,t,rfl,e]
theorem En (a b:KO):decide ((QE a:pI)=QE b)=(a==b):=by
 by_cases e:a=b
 ·subst e; simp
 ·have h:¬ (QE a:pI)=QE b:=λq=>e (Sum.inl.inj q)
  rw[Lm h];exact(OS.mpr e).symm
theorem Eo (a b:KZ):decide ((QF a:pI)=QF b)=decide (a=b):=by
 by_cases e:a=b
 ·subst e; simp
 ·have h:¬ (QF a:pI)=QF b:=λq=>e (Sum.inr.inj q)
  rw[Lm h,Lm e]
theorem Er (a:KO)(b:KZ):decide ((QE a:pI)=QF b)=false:=Lm (λq=>nomatch q)
theorem Et (a:KZ)(b:KO):decide ((QF a:pI)=QE b)=false:=Lm (λq=>nomatch q)
noncomputable def pJ (prog:Lk)(w:Lz):PySem.KeyKind prog w pI where
 is:=DQ
 hash:=IJ w
 inj:=λv a b ha hb=>by
  rcases b7 ha with⟨i,t,rfl,rfl⟩|⟨x,t,rfl,rfl⟩
  ·rcases b7 hb with⟨j,u,rfl,e⟩|⟨y,u,rfl,e⟩
   ·injection e with e1 _; rw[e1]
   ·exact nomatch e
  ·rcases b7 hb with⟨j,u,rfl,e⟩|⟨y,u,rfl,e⟩
   ·exact nomatch e
   ·injection e with e1 _; rw[e1]
 byValue:=λk v h=>by
  rcases b7 h with⟨i,t,rfl,rfl⟩|⟨x,t,rfl,rfl⟩ <;> rfl
 pyHash:=λhv h=>by
  rcases b7 hv with⟨i,t,rfl,rfl⟩|⟨x,t,rfl,rfl⟩
  ·exact RG h
  ·exact RH h
 eqBool:=λhu hv h=>by
  rcases b7 hu with⟨i,t,rfl,rfl⟩|⟨x,t,rfl,rfl⟩
  ·rcases b7 hv with⟨j,u,rfl,rfl⟩|⟨y,u,rfl,rfl⟩
   ·rw[En]at h; exact wpAny_eqBool_int h
   ·rw[Er]at h; exact QT i t y u _ _ _ _ h
  ·rcases b7 hv with⟨j,u,rfl,rfl⟩|⟨y,u,rfl,rfl⟩
   ·rw[Et]at h; exact QU x t j u _ _ _ _ h
   ·rw[Eo]at h; exact wpAny_eqBool_str h
 «strs»:=λk x t v h=>by
  rcases b7 h with⟨i,u,rfl,e⟩|⟨y,u,rfl,e⟩
  ·exact nomatch e
  ·injection e with e1 _
   subst e1;cases v <;> rfl
inductive V where
 | non|bl (b:Lf)|int (i:KO)|str (x:KZ)|byt (b:Lg UInt8)|flt (b:UInt64)|ref (a:KF)|ty (n:L8)
 deriving NM
noncomputable def RelV:V->Ku->Prop
 | .non,u=>u=LG
 | .bl b,u=>u=NN b
 | .int i,u=>∃t,u=PF i t
 | .str x,u=>∃t,u=OA x t
 | .byt b,u=>∃t,u=Value.bytes b t
 | .flt b,u=>∃t,u=Value.float b t
 | .ref a,u=>u=Lq a
 | .ty n,u=>u=Mq n
noncomputable abbrev Vals:Kr V->Kr Ku->Prop:=PQ RelV
theorem Vals.length {xs:Kr V}{us:Kr Ku}(r:Vals xs us):xs.length=us.length:=Pw r
theorem Vals.get:∀ {xs:Kr V} {us:Kr Ku} {i:KC} {x:V},Vals xs us->xs[i]?=ba x->∃u,us[i]?=ba u/\RelV x u
 | _,_,_,_,.nil,e=>by simp at e
 | _,_,0,_,.cons r _,e=>by simp at e; subst e; exact#[_,rfl,r]
 | _,_,i+1,x,.cons _ t,e=>by
  obtain⟨u,h1,h2⟩:=Vals.get (i:=i) (x:=x) t (by simpa using e)
  exact#[u,by simpa using h1,h2]
theorem Vals.set {x:V}{u:Ku}(r:RelV x u):∀ {xs:Kr V} {us:Kr Ku} (i:KC),Vals xs us->Vals (xs.set i x) (us.set i u)
 | _,_,_,.nil=>.nil
 | _,_,0,.cons _ t=>.cons r t
 | _,_,i+1,.cons q t=>.cons q (Vals.set r i t)
theorem Vals.append:∀ {xs ys:Kr V} {us ws:Kr Ku},Vals xs us->Vals ys ws->Vals (xs++ys) (us++ws)
 | _,_,_,_,.nil,s=>s
 | _,_,_,_,.cons r t,s=>.cons r (Vals.append t s)
theorem Vals.take:∀ {xs:Kr V} {us:Kr Ku} (n:KC),Vals xs us->Vals (xs.take n) (us.take n)
 | _,_,0,_=>.nil
 | _,_,_+1,.nil=>.nil
 | _,_,n+1,.cons r t=>.cons r (Vals.take n t)
theorem Vals.drop:∀ {xs:Kr V} {us:Kr Ku} (n:KC),Vals xs us->Vals (xs.drop n) (us.drop n)
 | _,_,0,r=>r
 | _,_,_+1,.nil=>.nil
 | _,_,n+1,.cons _ t=>Vals.drop n t
noncomputable def Gw:Kz V->Kz Ku->Prop
 | some v,ba u=>RelV v u
 | none,gV=>Rg
 | _,_=>L7
noncomputable def KV {κ:Type}:Kr (κ×V)->Kr (κ×Ku)->Prop:=PQ λ(p:κ×V) (q:κ×Ku)=>p.1=q.1/\RelV p.2 q.2
noncomputable def kV:pI->V
 | .inl i=>.int i
 | .inr x=>.str x
inductive HO where
 | lst (xs:Kr V)
 | tup (xs:Kr V)
 | dK (kvs:Kr (pI×V))|dT (kvs:Kr (Kr pI×V))
 | set (S:KO->Lf) (n:KC)
 | ins (C dx:KF) (fs:Kr (KZ×V))
 | own (x:KF)
 | xd (fs:Kr (KZ×V))
 | met (f x:KF)
 | rng (lo hi:KO)
 | frz (o:Mp) (u:HO)
 | tbl (ps:Lg Ku)
 | ext (φ:LI->Prop)
noncomputable abbrev Hp:=KF->Kz HO
noncomputable def cv (H:Hp)(a:KF)(o:HO):Hp:=λb=>if b=a then ba o else H b
theorem bv {H:Hp}{a:KF}{o:HO}:cv H a o a=ba o:=by unfold cv; rw[La rfl]
theorem aO {H:Hp}{a b:KF}{o:HO}(h:b≠a):cv H a o b=H b:=by unfold cv; rw[Li h]
theorem eX {H:Hp}{a b:KF}{o:HO}(h:H a=ba o)(h':H b=gV):a≠b:=by
 intro e; subst e; rw[h]at h'; cases h'
section
variable (P:Lk) (w:Lz)
noncomputable def ObjOk (H:Hp)(h:LI)(a:KF):HO->Prop
 | .lst xs=>xs.length<=sizeLine/\∃(its:Kr Ku) (n:KC),Vals xs its/\h.get? a=ba { cls:=.type "list",data:=.seq its.toArray n }
 | .tup xs=>xs.length<=sizeLine/\∃its:Kr Ku,Vals xs its/\Rh h a its.toArray
 | .dK kvs=>kvs.length<=sizeLine/\(a==sysModules)=false/\∃vs,KV kvs vs/\h.DictOf (pJ P w) a vs
 | .dT kvs=>kvs.length<=sizeLine/\(a==sysModules)=false/\∃xs:Kr (Kr pI×KF×Ku),
   PQ (λ(p:Kr pI×V) (q:Kr pI×KF×Ku)=>p.1=q.1/\H q.2.1=ba (.tup (p.1.map kV))/\RelV p.2 q.2.2) kvs xs/\
   ∃o es ep,h.get? a=ba o/\o.ExactDict/\o.data=.dict es ep/\es.toList=xs.map (entryOfKey (tupleKind (pJ P w)))/\(xs.map (·.1)).Nodup
 | .set S n=>h.SetOf (intKind P w) a S n
 | .ins C dx fs=>H dx=ba (.own a)/\fs.length<=1000/\dx≠a/\h.get? a=ba (PySem.W.instObj C dx)/\
   ∃mA,h.Ns1 dx mA/\(∀f,Gw (fs.lookup f) (mA f))/\PySem.Within mA (fs.map (·.1))
 | .own _=>∃o,h.get? a=ba o
 | .xd fs=>∃mA,h.Ns1 a mA/\∀f,Gw (fs.lookup f) (mA f)
 | .rng lo hi=>∃t u v,h.get? a=ba { cls:=.type "range",data:=.fields [.int lo t,.int hi u,.int 1 v].toArray }
 | .frz o u=>h.get? a=ba o/\ObjOk H h a u
 | .tbl ps=>h.get? a=ba { cls:=.none,data:=.fields ps }
 | .met f x=>h.get? a=ba (Pk (.ref f) (.ref x))
 | .ext φ=>φ h/\(∃o,h.get? a=ba o)/\∀h1 h2:LI,φ h1->(∀o,h1.get? a=ba o->h2.get? a=ba o)->φ h2
noncomputable def HOk (H:Hp)(h:LI):Prop:=∀a o,H a=ba o->ObjOk P w H h a o
end
section
variable{P:Lk}{w:Lz}{H H':Hp}{h h':LI}{a:KF}{o:HO}
theorem ObjOk.lt (x:ObjOk P w H h a o):a < h.objs.size:=by
 cases o with
 | lst xs=>obtain⟨_,_,_,_,e⟩:=x; exact K1 e
 | tup xs=>obtain⟨_,_,_,p⟩:=x; exact p.lt
 | dK kvs=>obtain⟨_,_,_,_,o,_,_,e,_⟩:=x; exact K1 e
 | dT kvs=>obtain⟨_,_,_,_,o,_,_,e,_⟩:=x; exact K1 e
 | set S n=>obtain⟨o,_,_,_,e,_⟩:=x; exact K1 e
 | ins C dx fs=>obtain⟨_,_,_,e,_⟩:=x; exact K1 e
 | own y=>obtain⟨_,e⟩:=x; exact K1 e
 | xd fs=>obtain⟨_,⟨_,_,_,e,_⟩,_⟩:=x; exact K1 e
 | rng lo hi=>obtain⟨_,_,_,e⟩:=x; exact K1 e
 | frz ob u=>obtain⟨e,_⟩:=x; exact K1 e
 | tbl ps=>exact K1 (show h.get? a=ba _ from x)
 | met f y=>exact K1 (show h.get? a=ba _ from x)
 | ext φ=>obtain⟨_,⟨_,e⟩,_⟩:=x; exact K1 e
theorem Paired.mapP {α β:Type}{F G:α->β->Prop}:∀ {l₁:Kr α} {l₂:Kr β},PQ F l₁ l₂->(∀a b,F a b->G a b)->PQ G l₁ l₂
 | _,_,.nil,_=>.nil
 | _,_,.cons r t,f=>.cons (f _ _ r) (Paired.mapP t f)
theorem ObjOk.stay (x:ObjOk P w H h a o)(k:∀b u,(b=a\/H b=ba (.own a))->h.get? b=ba u->h'.get? b=ba u)
  (ho:∀b,H b=ba (.own a)->H' b=ba (.own a)) (ht:∀b xs,H b=ba (.tup xs)->H' b=ba (.tup xs)):ObjOk P w H' h' a o:=by
 induction o with
 | lst xs=>obtain⟨z,its,n,r,e⟩:=x; exact#[z,its,n,r,k _ _ (.inl rfl) e]
 | tup xs=>obtain⟨z,its,r,ob,e,c⟩:=x; exact#[z,its,r,ob,k _ _ (.inl rfl) e,c]
 | dK kvs=>obtain⟨z,y,vs,r,ob,es,ep,e,c⟩:=x; exact#[z,y,vs,r,ob,es,ep,k _ _ (.inl rfl) e,c]
 | dT kvs=>
  obtain⟨z,y,xs,r,ob,es,ep,e,c⟩:=x;exact#[z,y,xs,Paired.mapP r λp q z=>#[z.1,ht _ _ z.2.1,z.2.2],ob,es,ep,k _ _ (.inl rfl) e,c]
 | set S n=>obtain⟨ob,es,ep,t,e,c⟩:=x; exact#[ob,es,ep,t,k _ _ (.inl rfl) e,c]
 | ins C dx fs=>
  obtain⟨d,z,ne,e,mA,⟨od,es,ep,e2,c⟩,r⟩:=x;exact#[ho _ d,z,ne,k _ _ (.inl rfl) e,mA,#[od,es,ep,k _ _ (.inr d) e2,c],r]
 | own y=>obtain⟨ob,e⟩:=x; exact#[ob,k _ _ (.inl rfl) e]
 | xd fs=>obtain⟨mA,⟨od,es,ep,e,c⟩,r⟩:=x; exact#[mA,#[od,es,ep,k _ _ (.inl rfl) e,c],r]
 | rng lo hi=>obtain⟨t,u,v,e⟩:=x; exact#[t,u,v,k _ _ (.inl rfl) e]
 | frz ob u ih=>obtain⟨e,q⟩:=x; exact#[k _ _ (.inl rfl) e,ih q]
 | tbl ps=>
  have e:h.get? a=ba { cls:=.none,data:=.fields ps }:=x;show h'.get? a=ba { cls:=.none,data:=.fields ps };exact k a _ (.inl rfl) e
 | met f y=>
  have e:h.get? a=ba (Pk (.ref f) (.ref y)):=x;show h'.get? a=ba (Pk (.ref f) (.ref y));exact k a _ (.inl rfl) e
 | ext φ=>obtain⟨p,⟨o,e⟩,st⟩:=x; exact#[st _ _ p λo q=>k _ _ (.inl rfl) q,#[o,k _ _ (.inl rfl) e],st]
theorem HOk.lt (x:HOk P w H h)(e:H a=ba o):a < h.objs.size:=(x a o e).lt
theorem HOk.fresh (x:HOk P w H h)(e:h.objs.size<=a):H a=gV:=by
 cases q:H a with
 | none=>rfl
 | some u=>exact absurd (Lc (x.lt q) e) (Mg _)
theorem HOk.kept (x:HOk P w H h)(k:∀b u,h.get? b=ba u->h'.get? b=ba u):HOk P w H h':=λa o e=>
 (x a o e).stay (λb u _ q=>k b u q) (λ_ q=>q) λ_ _ q=>q
theorem HOk.laid (x:HOk P w H h)(k:∀b u,h.get? b=ba u->h'.get? b=ba u)(hp:h.objs.size<=a)(new:ObjOk P w (cv H a o) h' a o):HOk P w (cv H a o) h':=λb u e=>by
 have hn:=x.fresh hp
 by_cases hb:b=a
 ·subst hb; rw[bv]at e; cases e; exact new
 ·rw[aO hb]at e;exact(x b u e).stay (λc v _ q=>k c v q) (λc q=>by rw[aO (eX q hn)]; exact q) λc xs q=>by rw[aO (eX q hn)]; exact q
end
noncomputable def Rd (H:Hp)(a:KF)(u:HO):Prop:=H a=ba u\/∃o,H a=ba (.frz o u)
theorem Rd.ok {P:Lk}{w:Lz}{H:Hp}{h:LI}{a:KF}{u:HO}(r:Rd H a u)(x:HOk P w H h):ObjOk P w H h a u:=by
 rcases r with r|⟨o,r⟩
 ·exact x a u r
 ·obtain⟨_,q⟩:=x a _ r;exact q
noncomputable def Gx:Kz HO->Prop
 | some (.lst _)=>Rg
 | some (.dK _)=>Rg
 | some (.dT _)=>Rg
 | some (.set _ _)=>Rg
 | some (.ins _ _ _)=>Rg
 | some (.ext _)=>Rg
 | _=>L7
section
variable{P:Lk}{w:Lz}{H:Hp}{h h':LI}{x e:KF}{o':HO}
theorem HOk.write (ok:HOk P w H h)(mu:Gx (H x))(he:e=x\/H e=ba (.own x))(k:∀b u,b≠e->h.get? b=ba u->h'.get? b=ba u)(heo:∃u,h'.get? e=ba u)
  (new:ObjOk P w (cv H x o') h' x o'):HOk P w (cv H x o') h':=λb u q=>by
 have nown:∀c y,H c=ba (.own y)->c≠x:=λc y r z=>by subst z; rw[r]at mu; exact mu
 have ntup:∀c xs,H c=ba (.tup xs)->c≠x:=λc xs r z=>by subst z; rw[r]at mu; exact mu
 by_cases hb:b=x
 ·subst hb; rw[bv]at q; cases q; exact new
 ·rw[aO hb]at q
  by_cases hbe:b=e
  ·have q':H b=ba (.own x):=by
    rcases he with z|z
    ·exact absurd (hbe.trans z) hb
    ·rw[hbe]; exact z
   rw[q]at q'; cases q'
   obtain⟨v,hv⟩:=heo;exact#[v,by rw[hbe]; exact hv]
  ·refine(ok b u q).stay (λc v hc r=>k c v ?_ r) (λc r=>by rw[aO (nown c b r)]; exact r) λc xs r=>by rw[aO (ntup c xs r)]; exact r
   rcases hc with rfl|hc
   ·exact hbe
   ·rintro rfl;rcases he with z|z
    ·exact nown c b hc z
    ·rw[hc]at z; cases z; exact hb rfl
end
structure Un (fs ex:Kr KF)(H H':Hp)(h h':LI):Prop where
 keep:∀b o,h.get? b=ba o->H b=gV->b∉fs->b∉ex->h'.get? b=ba o
 slot:∀b o,h.get? b=ba o->H b=gV->b∈fs->b∉ex->∃sl,h'.get? b=ba { o with slots:=sl }
 free:∀b o,h.get? b=ba o->H b=gV->b∉ex->H' b=gV
 there:∀b o,h.get? b=ba o->b∉ex->∃o',h'.get? b=ba o'
 tups:∀b xs,H b=ba (.tup xs)->H' b=ba (.tup xs)
 frzs:∀b o u,H b=ba (.frz o u)->H' b=ba (.frz o u)
 tbls:∀b ps,H b=ba (.tbl ps)->∃more,H' b=ba (.tbl (ps++more))
section
variable{fs fs' ex ex':Kr KF}{H H1 H2:Hp}{h h1 h2 h':LI}{a x e:KF}{o:HO}
theorem Un.any (u:Un fs ex H H1 h h1){b:KF}{ob:Mp}(q:h.get? b=ba ob)(n:H b=gV)(hx:b∉ex):∃sl,h1.get? b=ba { ob with slots:=sl }:=by
 by_cases hb:b∈fs
 ·exact u.slot b ob q n hb hx
 ·exact#[ob.slots,u.keep b ob q n hb hx]
theorem Un.trans (a:Un fs ex H H1 h h1)(b:Un fs ex H1 H2 h1 h2):Un fs ex H H2 h h2 where
 keep:=λc ob q n hc hx=>b.keep c ob (a.keep c ob q n hc hx) (a.free c ob q n hx) hc hx
 slot:=λc ob q n hc hx=>by
  obtain⟨sl,e1⟩:=a.slot c ob q n hc hx;obtain⟨sl',e2⟩:=b.slot c _ e1 (a.free c ob q n hx) hc hx;exact#[sl',e2]
 free:=λc ob q n hx=>by
  obtain⟨o',e1⟩:=a.there c ob q hx;exact b.free c o' e1 (a.free c ob q n hx) hx
 there:=λc ob q hx=>by
  obtain⟨o',e1⟩:=a.there c ob q hx;exact b.there c o' e1 hx
 tups:=λc xs q=>b.tups c xs (a.tups c xs q)
 frzs:=λc ob xs q=>b.frzs c ob xs (a.frzs c ob xs q)
 tbls:=λc ps q=>by
  obtain⟨m1,e1⟩:=a.tbls c ps q;obtain⟨m2,e2⟩:=b.tbls c _ e1;exact#[m1++m2,by rw[e2,QV]]
theorem Un.kept (k:∀b u,h.get? b=ba u->h'.get? b=ba u):Un fs ex H H h h':=
 #[λb ob q _ _ _=>k b ob q,λb ob q _ _ _=>#[ob.slots,k b ob q],λ_ _ _ n _=>n,λb ob q _=>#[ob,k b ob q],λ_ _ q=>q,λ_ _ _ q=>q,λ_ ps q=>#[#[],by rw[q]; simp]]
theorem Un.refl:Un fs ex H H h h:=Un.kept λ_ _ q=>q
theorem Un.laid (k:∀b u,h.get? b=ba u->h'.get? b=ba u)(hp:h.objs.size<=a)(hn:H a=gV):Un fs ex H (cv H a o) h h' where
 keep:=λb u q _ _ _=>k b u q
 slot:=λb u q _ _ _=>#[u.slots,k b u q]
 free:=λb u q n _=>by rw[aO (K7 (Lc (K1 q) hp))]; exact n
 there:=λb u q _=>#[u,k b u q]
 tups:=λb xs q=>by rw[aO (eX q hn)]; exact q
 frzs:=λb u xs q=>by rw[aO (eX q hn)]; exact q
 tbls:=λb ps q=>#[#[],by rw[aO (eX q hn),q]; simp]
theorem Un.write (mu:Gx (H x))(he:e=x\/H e=ba (.own x))(k:∀b u,b≠e->h.get? b=ba u->h'.get? b=ba u)(heo:∃u,h'.get? e=ba u):Un fs ex H (cv H x o) h h':=by
 have hx:∀b,H b=gV->b≠x:=λb n z=>by subst z; rw[n]at mu; exact mu
 have hb:∀b,H b=gV->b≠e:=λb n z=>by
  subst z;rcases he with r|r
  ·exact hx b n r
  ·rw[n]at r; cases r
 have hm:∀b u,H b=ba u->¬ Gx (ba u)->b≠x:=λb u q nm z=>by subst z; rw[q]at mu; exact nm mu
 refine#[λb u q n _ _=>k b u (hb b n) q,λb u q n _ _=>#[u.slots,k b u (hb b n) q],λb u q n _=>by rw[aO (hx b n)]; exact n,λb u q _=>?_,
  λb xs q=>by rw[aO (hm b _ q λz=>z)]; exact q,λb u xs q=>by rw[aO (hm b _ q λz=>z)]; exact q,λb ps q=>#[#[],by rw[aO (hm b _ q λz=>z),q]; simp]]
 by_cases hbe:b=e
 ·subst hbe; exact heo
 ·exact#[u,k b u hbe q]
end
noncomputable def Iw (h:LI)(H:Hp):Kr KF:=(K9 h.objs.size).filter λa=>(H a).isSome
noncomputable def pK (h:LI)(H:Hp):LI:=PySem.W.hideAll h (Iw h H)
theorem wp (h:LI)(H:Hp):(pK h H).objs.size=h.objs.size:=PySem.W.hideAll_size _ _
theorem yj {h:LI}{H:Hp}{b:KF}{o:Mp}(e:h.get? b=ba o)(n:H b=gV):(pK h H).get? b=ba o:=
 PySem.W.hideAll_get _ e λhm=>by
  have q:(H b).isSome=true:=(N9.mp hm).2;rw[n]at q; simp at q
theorem BA {h:LI}{H:Hp}{b:KF}{o:Mp}(e:(pK h H).get? b=ba o):h.get? b=ba o/\H b=gV:=by
 have e':h.get? b=ba o:=PySem.W.of_hideAll (Iw h H) e;refine#[e',?_];cases q:H b with
 | none=>rfl
 | some x=>
  have hm:b∈Iw h H:=N9.mpr #[Ll.mpr (K1 e'),by simp[q]]
  have z:(pK h H).get? b=gV:=PySem.W.hideAll_none (Iw h H) hm;rw[z]at e; cases e
noncomputable def BB (g h:LI)(L:KF):Kr (KF×Mp):=(K9 h.objs.size).filterMap λa=>if a=L\/(g.get? a).isSome=true then gV else(h.get? a).map λo=>(a,o)
noncomputable def cf (g h:LI)(L d:KF):Kr (KF×Mp):=(BB g h L).filter λp=>decide (p.1≠d)
structure Mod (K:KM)(mg:KZ->Kz Ku)(base:LI):Prop where
 kin:K.In base
 glob:base.Ns mainGlobals mg
 blt:∃mb,base.Ns builtinsNs mb/\∀x:KZ,x≠"__name__"->mb x=bootBuiltins x
 nolimit:base.NoLimit
structure Cx where
 prog:Lk
 w:Lz
 K:KM
 mg:KZ->Kz Ku
 base:LI
 A:Lr
 N:Kr KZ
 s₀:Kx
 H₀:Hp
 env:Ri
 outer:Kr Ri
 stack:Kr Ri
 ex:Kr KF
 fn:KZ->Lf
 calm:Lf
 pn:Kr (KF×Mp)
 xe:Ku->Kx->Prop
noncomputable def tQ (l:Kr Ri):Kr KF:=l.filterMap (·.frame)
noncomputable abbrev Cx.fs (X:Cx):Kr KF:=tQ X.outer
noncomputable def Ix (sc:NJ)(x:KZ):Prop:=sc.names.lookup x=ba .local\/sc.names.lookup x=ba .cell\/sc.names.lookup x=ba .free
noncomputable def BC (sc:NJ)(x:KZ):Prop:=sc.names.lookup x=ba .local\/sc.names.lookup x=ba .cell
noncomputable def IK (env:Ri)(h:LI)(m:KZ->Kz Ku)(x:KZ)(u:Ku):Prop:=
 (env.kindOf x=ba .local/\m x=ba u)\/((env.kindOf x=ba .cell\/env.kindOf x=ba .free)/\∃c,env.cells.lookup x=ba c/\h.IsCell c (ba u))
structure Cx.Ok (X:Cx):Prop where
 mod:Mod X.K X.mg X.base
 kind:X.env.scope.kind=.function
 glob:X.env.globals=mainGlobals
 blt:X.env.builtins=builtinsNs
 above:X.s₀.heap.objs.size<=X.env.locals
 inj:∀x y c,X.env.cells.lookup x=ba c->X.env.cells.lookup y=ba c->x=y
 has:∀x,(X.env.kindOf x=ba .cell\/X.env.kindOf x=ba .free)->∃c,X.env.cells.lookup x=ba c
 cab:∀x c,X.fn x=true->X.env.cells.lookup x=ba c->X.s₀.heap.objs.size<=c
 hd:X.calm=true->X.A.handled=gV
 frames:X.A.frames=ba X.stack
 stk:X.stack=X.outer\/(X.stack=X.env::X.outer/\X.env.frame=ba X.env.locals)
 exf:∀b∈X.ex,b≠X.env.locals/\∀x c,X.env.cells.lookup x=ba c->c≠b
 bs:∀b o,X.base.get? b=ba o->X.s₀.heap.get? b=ba o/\X.H₀ b=gV
 bsz:X.base.objs.size<=X.s₀.heap.objs.size
 noex:∀b o,X.base.get? b=ba o->b∉X.ex
 exfs:∀b∈X.ex,b∉X.fs
 funs:X.s₀.heap.FunFrames X.base X.outer
 frf:∀b∈X.fs,X.H₀ b=gV
structure Inv (X:Cx)(pins:Kr (KF×Mp))(σ:Kr (Kz V))(H:Hp)(s:Kx):Prop where
 ok:X.Ok
 os:s.os=X.s₀.os
 bare:Pl s.gens
 base:Un X.fs X.ex X.H₀ H X.s₀.heap s.heap
 loc:∃m,s.heap.Ns X.env.locals m/\∀(i:KC) (x:KZ) (v:V),X.N[i]?=ba x->σ[i]?=ba (ba v)->Ix X.env.scope x->∃u,RelV v u/\IK X.env s.heap m x u
 cell:∀x c,X.env.cells.lookup x=ba c->∃v,s.heap.IsCell c v
 free:H X.env.locals=gV
 freeC:∀x c,X.env.cells.lookup x=ba c->H c=gV
 pin:∀p∈X.pn++pins,s.heap.get? p.1=ba p.2/\H p.1=gV/\p.1≠X.env.locals/\p.1∉X.fs/\∀v,p.2.data≠.cell v
 hok:HOk X.prog X.w H s.heap
 len:σ.length=X.N.length
section
variable{X:Cx}{pins:Kr (KF×Mp)}{σ:Kr (Kz V)}{H H':Hp}{s:Kx}{h':LI}
theorem Cx.Ok.nofr (ok:X.Ok){b:KF}{o:Mp}(e:X.base.get? b=ba o):b∉X.fs:=λhb=>by
 have:=(ok.funs.mem hb).1;rw[e]at this; cases this
theorem Inv.bs (I:Inv X pins σ H s):∀b o,X.base.get? b=ba o->s.heap.get? b=ba o/\H b=gV:=λb o e=>
 #[I.base.keep b o (I.ok.bs b o e).1 (I.ok.bs b o e).2 (I.ok.nofr e) (I.ok.noex b o e),I.base.free b o (I.ok.bs b o e).1 (I.ok.bs b o e).2 (I.ok.noex b o e)]
theorem Inv.bk (I:Inv X pins σ H s):∀b o,X.base.get? b=ba o->s.heap.get? b=ba o:=λb o e=>(I.bs b o e).1
theorem Inv.mod (I:Inv X pins σ H s):Mod X.K X.mg X.base:=I.ok.mod
theorem Inv.kIn (I:Inv X pins σ H s):X.K.In s.heap:=I.ok.mod.kin.keeps I.bk
theorem Inv.lt (I:Inv X pins σ H s):X.env.locals < s.heap.objs.size:=let ⟨_,hn,_⟩:=I.loc; hn.lt
theorem Inv.sz (I:Inv X pins σ H s):X.s₀.heap.objs.size<=s.heap.objs.size:=KQ I.ok.above (MF I.lt)
theorem Inv.nofs (I:Inv X pins σ H s){a:KF}(h:s.heap.objs.size<=a):a∉X.fs:=λhb=>by
 obtain⟨_,o,ho,_⟩:=I.ok.funs.mem hb;exact absurd (Lc (K1 ho) (KQ I.sz h)) (Mg _)
theorem Inv.cne (I:Inv X pins σ H s):∀x c,X.env.cells.lookup x=ba c->c≠X.env.locals:=λx c e z=>by
 obtain⟨v,o,ho,hd⟩:=I.cell x c e;obtain⟨m,⟨o',es,ep,ho',hd',_⟩,_⟩:=I.loc;rw[z,ho']at ho; cases ho; rw[hd']at hd; cases hd
theorem Inv.funs (I:Inv X pins σ H s):s.heap.FunFrames X.base X.outer:=by
 have all:∀(l:Kr Ri),(∀b∈tQ l,b∈X.fs)->X.s₀.heap.FunFrames X.base l->s.heap.FunFrames X.base l:=by
  intro l
  induction l with
  | nil=>intro _ _; trivial
  | cons env r ih=>
   intro hs hl;obtain⟨hk,⟨L,o,hf,hn,ho,hd⟩,hr⟩:=hl;have hL:L∈X.fs:=hs L (by unfold tQ; rw[N2,hf]; exact L3)
   obtain⟨sl,e⟩:=I.base.slot L o ho (I.ok.frf L hL) hL λz=>I.ok.exfs L z hL
   exact#[hk,#[L,_,hf,hn,e,hd],ih (λb hb=>hs b (by unfold tQ; rw[N2,hf]; exact LZ _ hb)) hr]
 exact all X.outer (λ_ hb=>hb) I.ok.funs
theorem Inv.stack (I:Inv X pins σ H s):s.heap.FunFrames X.base X.stack:=by
 rcases I.ok.stk with e|⟨e,hf⟩
 ·rw[e]; exact I.funs
 ·rw[e];obtain⟨m,hn,_⟩:=I.loc;refine .cons (by rw[I.ok.kind]; decide) hf hn ?_ I.funs
  exact Heap.get?_none_of_le (KQ I.ok.bsz I.ok.above)
theorem Inv.stkSub (I:Inv X pins σ H s):∀b∈tQ X.stack,b∈X.env.locals::X.fs:=λb hb=>by
 rcases I.ok.stk with e|⟨e,hf⟩
 ·rw[e]at hb; exact LZ _ hb
 ·rw[e]at hb;unfold tQ at hb;rw[N2,hf]at hb;exact hb
theorem Inv.stkFree (I:Inv X pins σ H s):∀b∈tQ X.stack,H b=gV:=λb hb=>by
 rcases Le.mp (I.stkSub b hb)with e|hb
 ·rw[e]; exact I.free
 ·obtain⟨_,o,ho,_⟩:=I.ok.funs.mem hb;exact I.base.free b o ho (I.ok.frf b hb) λz=>I.ok.exfs b z hb
theorem Inv.step {g':Lg Qo}{t':KC}{d':Ur}{ch:Kr KF}(I:Inv X pins σ H s)
  (hch:∀b∈ch,(b∈X.ex\/X.s₀.heap.objs.size<=b)/\b≠X.env.locals/\(∀x c,X.env.cells.lookup x=ba c->c≠b)/\∀p∈X.pn++pins,p.1≠b)
  (keep:∀b o,b≠X.env.locals->b∉X.fs->b∉ch->s.heap.get? b=ba o->H b=gV->h'.get? b=ba o)
  (slot:∀b o,b≠X.env.locals->b∈X.fs->b∉ch->s.heap.get? b=ba o->H b=gV->∃sl,h'.get? b=ba { o with slots:=sl }) (free:∀b o,b∉ch->s.heap.get? b=ba o->H b=gV->H' b=gV)
  (there:∀b o,b∉ch->s.heap.get? b=ba o->∃o',h'.get? b=ba o')
  (tups:∀b xs,H b=ba (.tup xs)->H' b=ba (.tup xs)) (frzs:∀b o u,H b=ba (.frz o u)->H' b=ba (.frz o u)) (tbls:∀b ps,H b=ba (.tbl ps)->∃more,H' b=ba (.tbl (ps++more)))
  (ns:∀m,s.heap.Ns X.env.locals m->h'.Ns X.env.locals m) (hok:HOk X.prog X.w H' h') (hg:Pl g') :
  Inv X pins σ H' { s with heap:=h',gens:=g',drawn:=d',toks:=t' }:=by
 have neL:∀b o,X.s₀.heap.get? b=ba o->b≠X.env.locals:=λb o e=>K7 (Lc (K1 e) I.ok.above)
 have neC:∀b o,X.s₀.heap.get? b=ba o->b∉X.ex->b∉ch:=λb o e hx hb=>by
  rcases(hch b hb).1 with z|z
  ·exact hx z
  ·exact absurd (Lc (K1 e) z) (Mg _)
 have cellK:∀x c,X.env.cells.lookup x=ba c->∀v,s.heap.IsCell c v->h'.IsCell c v:=λx c e v #[o,ho,hd]=>by
  have nch:c∉ch:=λz=>(hch c z).2.2.1 x c e rfl
  by_cases hc:c∈X.fs
  ·obtain⟨sl,q⟩:=slot c o (I.cne x c e) hc nch ho (I.freeC x c e);exact#[_,q,hd]
  ·exact#[o,keep c o (I.cne x c e) hc nch ho (I.freeC x c e),hd]
 refine#[I.ok,I.os,hg,#[λb o e n hb hx=>?_,λb o e n hb hx=>?_,λb o e n hx=>?_,λb o e hx=>?_,λb xs e=>tups b xs (I.base.tups b xs e),λb o xs e=>frzs b o xs (I.base.frzs b o xs e),λb ps e=>?_],?_,λx c e=>?_,?_,λx c e=>?_,λp hp=>?_,hok,I.len]
 ·exact keep b o (neL b o e) hb (neC b o e hx) (I.base.keep b o e n hb hx) (I.base.free b o e n hx)
 ·obtain⟨sl,e1⟩:=I.base.slot b o e n hb hx;obtain⟨sl',e2⟩:=slot b _ (neL b o e) hb (neC b o e hx) e1 (I.base.free b o e n hx);exact#[sl',e2]
 ·obtain⟨o',e1⟩:=I.base.there b o e hx;exact free b o' (neC b o e hx) e1 (I.base.free b o e n hx)
 ·obtain⟨o',e1⟩:=I.base.there b o e hx;exact there b o' (neC b o e hx) e1
 ·obtain⟨m1,e1⟩:=I.base.tbls b ps e;obtain⟨m2,e2⟩:=tbls b _ e1;exact#[m1++m2,by rw[e2,QV]]
 ·obtain⟨m,hn,hl⟩:=I.loc;refine#[m,ns m hn,λi x v e1 e2 e3=>?_]
  obtain⟨u,r,l⟩:=hl i x v e1 e2 e3;refine#[u,r,?_];rcases l with l|⟨k,c,e,z⟩
  ·exact .inl l
  ·exact .inr #[k,c,e,cellK x c e _ z]
 ·obtain⟨v,z⟩:=I.cell x c e;exact#[v,cellK x c e v z]
 ·obtain⟨m,⟨o,_,_,ho,_⟩,_⟩:=I.loc;exact free _ o (λz=>(hch _ z).2.1 rfl) ho I.free
 ·obtain⟨v,o,ho,hd⟩:=I.cell x c e;exact free c o (λz=>(hch c z).2.2.1 x c e rfl) ho (I.freeC x c e)
 ·obtain⟨e,n,ne,nf,d⟩:=I.pin p hp;have nch:p.1∉ch:=λz=>(hch p.1 z).2.2.2 p hp rfl
  exact#[keep p.1 p.2 ne nf nch e n,free p.1 p.2 nch e n,ne,nf,d]
theorem Inv.un {t':KC}(I:Inv X pins σ H s)(u:Un X.fs [] H H' s.heap h')(hok:HOk X.prog X.w H' h'):Inv X pins σ H' { s with heap:=h',toks:=t' }:=by
 obtain⟨m,⟨o,es,ep,ho,r⟩,_⟩:=id I.loc;obtain⟨sl,hL⟩:=u.any ho I.free (by simp)
 exact I.step (g':=s.gens) (d':=s.drawn) (ch:=[]) (λ_ z=>nomatch z) (λb o _ hb _ e n=>u.keep b o e n hb (by simp)) (λb o _ hb _ e n=>u.slot b o e n hb (by simp)) (λb o _ e n=>u.free b o e n (by simp)) (λb o _ e=>u.there b o e (by simp)) u.tups u.frzs u.tbls (λm' hm=>by
  obtain⟨o',es',ep',ho',r'⟩:=hm;rw[ho]at ho'; cases ho'
  exact#[_,es',ep',hL,r']) hok I.bare
theorem Inv.call {g':Lg Qo}{t':KC}{d':Ur}{ch:Kr KF}(I:Inv X pins σ H s)(u:Un (tQ X.stack) ch H H' s.heap h')(hok:HOk X.prog X.w H' h')(hg:Pl g')
  (hch:∀b∈ch,(b∈X.ex\/X.s₀.heap.objs.size<=b)/\b≠X.env.locals/\(∀x c,X.env.cells.lookup x=ba c->c≠b)/\∀p∈X.pn++pins,p.1≠b) :
  Inv X pins σ H' { s with heap:=h',gens:=g',drawn:=d',toks:=t' }:=by
 obtain⟨m,⟨o,es,ep,ho,r⟩,_⟩:=id I.loc;obtain⟨sl,hL⟩:=u.any ho I.free λz=>(hch _ z).2.1 rfl
 exact I.step (ch:=ch) hch (λb o hL hb hc e n=>u.keep b o e n (λz=>(Le.mp (I.stkSub b z)).elim hL hb) hc) (λb o _ _ hc e n=>u.any e n hc) (λb o hc e n=>u.free b o e n hc) (λb o hc e=>u.there b o e hc) u.tups u.frzs u.tbls (λm' hm=>by
  obtain⟨o',es',ep',ho',r'⟩:=hm;rw[ho]at ho'; cases ho'
  exact#[_,es',ep',hL,r']) hok hg
theorem Inv.turned {t':KC}{it:KF}(I:Inv X pins σ H s)(k:∀b o,b≠it->s.heap.get? b=ba o->h'.get? b=ba o)(hn:H it=gV)(hL:it≠X.env.locals)
  (h1:it∈X.ex\/X.s₀.heap.objs.size<=it) (h2:∀x c,X.env.cells.lookup x=ba c->c≠it) (h3:∀p∈X.pn++pins,p.1≠it):Inv X pins σ H { s with heap:=h',toks:=t' }:=by
 have nit:∀b u,H b=ba u->b≠it:=λb u e z=>by rw[z,hn]at e; cases e
 refine I.step (g':=s.gens) (d':=s.drawn) (ch:=[it]) (λb hb=>?_) (λb o _ _ hc e _=>k b o (λz=>hc (by simp[z])) e) (λb o _ _ hc e _=>#[o.slots,k b o (λz=>hc (by simp[z])) e]) (λ_ _ _ _ n=>n)
  (λb o hc e=>#[o,k b o (λz=>hc (by simp[z])) e]) (λ_ _ e=>e) (λ_ _ _ e=>e) (λb ps e=>#[#[],by rw[e]; simp]) (λm hm=>?_) (λb u e=>?_) I.bare
 ·have e:b=it:=by simpa using hb
  subst e;exact#[h1,hL,h2,h3]
 ·obtain⟨o,es,ep,ho,r⟩:=hm;exact#[o,es,ep,k _ o (Ne.symm hL) ho,r]
 ·refine(I.hok b u e).stay (λc v hc q=>k c v ?_ q) (λ_ q=>q) λ_ _ q=>q
  rcases hc with z|z
  ·rw[z]; exact nit b u e
  ·exact nit c _ z
theorem Inv.tok (I:Inv X pins σ H s)(t:KC):Inv X pins σ H { s with toks:=t }:=I.un (h':=s.heap) (t':=t) Un.refl I.hok
theorem Inv.kept {t':KC}(I:Inv X pins σ H s)(k:∀b u,s.heap.get? b=ba u->h'.get? b=ba u):Inv X pins σ H { s with heap:=h',toks:=t' }:=I.un (Un.kept k) (I.hok.kept k)
theorem Inv.laid {a:KF}{o:HO}{t':KC}(I:Inv X pins σ H s)(k:∀b u,s.heap.get? b=ba u->h'.get? b=ba u)(hp:s.heap.objs.size<=a)(new:ObjOk X.prog X.w (cv H a o) h' a o) :
  Inv X pins σ (cv H a o) { s with heap:=h',toks:=t' }:=I.un (Un.laid k hp (I.hok.fresh hp)) (I.hok.laid k hp new)
theorem Inv.write {x e:KF}{o:HO}{t':KC}(I:Inv X pins σ H s)(mu:Gx (H x))(he:e=x\/H e=ba (.own x))(k:∀b u,b≠e->s.heap.get? b=ba u->h'.get? b=ba u)(heo:∃u,h'.get? e=ba u)
  (new:ObjOk X.prog X.w (cv H x o) h' x o):Inv X pins σ (cv H x o) { s with heap:=h',toks:=t' }:=I.un (Un.write mu he k heo) (I.hok.write mu he k heo new)
theorem Inv.pins_of {pins':Kr (KF×Mp)}(I:Inv X pins σ H s)(h:∀p∈pins',s.heap.get? p.1=ba p.2/\H p.1=gV/\p.1≠X.env.locals/\p.1∉X.fs/\∀v,p.2.data≠.cell v):Inv X pins' σ H s:=
 #[I.ok,I.os,I.bare,I.base,I.loc,I.cell,I.free,I.freeC,λp hp=>(Ln.mp hp).elim (λz=>I.pin p (MU _ z)) (h p),I.hok,I.len]
theorem rg {N:Kr KZ}(hN:N.Nodup){i j:KC}{x:KZ}(a:N[i]?=ba x)(b:N[j]?=ba x):i=j:=by
 obtain⟨h1,e1⟩:=KJ.mp a;obtain⟨h2,e2⟩:=KJ.mp b;exact(OB hN).mp (e1.trans e2.symm)
theorem wq {M:Us}{A:Lr}{E:Ku->Kx->Prop}{i:KC}{x:KZ}{v:V}{u:Ku}{Q:Ut->Kx->Prop}(I:Inv X pins σ H s)(hN:X.N.Nodup)(hi:X.N[i]?=ba x)(hx:BC X.env.scope x)(r:RelV v u)
  (h:∀s',Inv X pins (σ.set i (ba v)) H s'->(∃a,Mw a s.heap s'.heap/\(a=X.env.locals\/X.env.cells.lookup x=ba a))->Q () s') (hf:X.fn x=true\/X.env.scope.names.lookup x=ba .local):wpAny M A (storeName X.env x u) Q E s:=by
 obtain⟨m,hn,hl⟩:=id I.loc;have hcls:(X.env.scope.kind==.class||(X.env.scope.kind==.module&&X.env.locals != X.env.globals))=false:=by rw[I.ok.kind]; rfl
 have hiσ:i < σ.length:=by rw[I.len]; exact(KJ.mp hi).1
 have cne:=I.cne;have tracked:∀ {a:KF} {h':LI},(∃o,s.heap.get? a=ba o/\H a=gV)->Mw a s.heap h'->HOk X.prog X.w H h':=λ{a h'} ha hs b ob e=>by
  obtain⟨_,_,hfree⟩:=ha;refine(I.hok b ob e).stay (λc w' hc q=>(hs.2 c ?_).trans q) (λ_ q=>q) λ_ _ q=>q
  rintro rfl;rcases hc with rfl|hc
  ·rw[hfree]at e; cases e
  ·rw[hfree]at hc; cases hc
 rcases hx with hk|hk
 ·refine wpAny_storeName_local hk hn (λh' hn' hs=>?_) hcls
  obtain⟨oL,_,_,hoL,_⟩:=id hn;refine h _ #[I.ok,I.os,I.bare,#[λb o e n hb hx=>?_,λb o e n hb hx=>?_,I.base.free,λb o e hx=>?_,I.base.tups,I.base.frzs,I.base.tbls],#[_,hn',λj y v' e1 e2 e3=>?_],λy c e=>?_,I.free,I.freeC,λp hp=>?_,tracked #[oL,hoL,I.free] hs,by simpa using I.len] #[_,hs,.inl rfl]
  ·exact(hs.2 b (K7 (Lc (K1 e) I.ok.above))).trans (I.base.keep b o e n hb hx)
  ·obtain⟨sl,e1⟩:=I.base.slot b o e n hb hx;exact#[sl,(hs.2 b (K7 (Lc (K1 e) I.ok.above))).trans e1]
  ·obtain⟨o',e1⟩:=I.base.there b o e hx;exact#[o',(hs.2 b (K7 (Lc (K1 e) I.ok.above))).trans e1]
  ·by_cases hj:j=i
   ·subst hj;rw[hi]at e1; cases e1
    rw[PR hiσ]at e2;cases e2;exact#[u,r,.inl #[hk,by simp]]
   ·rw[Qp (Ne.symm hj)]at e2;obtain⟨u',r',q⟩:=hl j y v' e1 e2 e3;refine#[u',r',?_];rcases q with⟨k,e⟩|⟨k,c,e,z⟩
    ·refine .inl #[k,?_];have:y≠x:=λe=>hj (rg hN e1 (e ▸ hi))
     simp[this,e]
    ·exact .inr #[k,c,e,z.sameBut hs (cne y c e)]
  ·obtain⟨w',z⟩:=I.cell y c e;exact#[w',z.sameBut hs (cne y c e)]
  ·obtain⟨e,n,ne,nf,d⟩:=I.pin p hp;exact#[(hs.2 p.1 ne).trans e,n,ne,nf,d]
 ·have hfn:X.fn x=true:=by
   rcases hf with z|z
   ·exact z
   ·rw[z]at hk; cases hk
  obtain⟨c,hc⟩:=I.ok.has x (.inl hk);obtain⟨w',z⟩:=I.cell x c hc;refine wpAny_storeName_cell I.ok.kind hk hc z (λh' hc' hs=>?_)
  obtain⟨oc,hoc,hocd⟩:=id z;refine h { s with heap:=h' } #[I.ok,I.os,I.bare,#[λb o e n hb hx=>?_,λb o e n hb hx=>?_,I.base.free,λb o e hx=>?_,I.base.tups,I.base.frzs,I.base.tbls],#[m,hn.sameBut hs (Ne.symm (cne x c hc)),λj y v' e1 e2 e3=>?_],λy c' e=>?_,I.free,I.freeC,λp hp=>?_,tracked #[oc,hoc,I.freeC x c hc] hs,by simpa using I.len] #[c,hs,.inr hc]
  ·exact(hs.2 b (K7 (Lc (K1 e) (I.ok.cab x c hfn hc)))).trans (I.base.keep b o e n hb hx)
  ·obtain⟨sl,e1⟩:=I.base.slot b o e n hb hx;exact#[sl,(hs.2 b (K7 (Lc (K1 e) (I.ok.cab x c hfn hc)))).trans e1]
  ·obtain⟨o',e1⟩:=I.base.there b o e hx;exact#[o',(hs.2 b (K7 (Lc (K1 e) (I.ok.cab x c hfn hc)))).trans e1]
  ·by_cases hj:j=i
   ·subst hj;rw[hi]at e1; cases e1
    rw[PR hiσ]at e2;cases e2;exact#[u,r,.inr #[.inl hk,c,hc,hc']]
   ·rw[Qp (Ne.symm hj)]at e2;obtain⟨u',r',q⟩:=hl j y v' e1 e2 e3;refine#[u',r',?_];rcases q with q|⟨k,c',e,z'⟩
    ·exact .inl q
    ·refine .inr #[k,c',e,z'.sameBut hs ?_];rintro rfl;exact hj (rg hN e1 (I.ok.inj _ _ _ e hc ▸ hi))
  ·by_cases hcc:c'=c
   ·subst hcc; exact#[_,hc']
   ·obtain⟨w2,z2⟩:=I.cell y c' e;exact#[w2,z2.sameBut hs hcc]
  ·obtain⟨e,n,ne,nf,d⟩:=I.pin p hp;refine#[(hs.2 p.1 ?_).trans e,n,ne,nf,d];intro q;rw[q,hoc]at e;have q':oc=p.2:=LV e;exact d w' (by rw[<- q']; exact hocd)
theorem jc {M:Us}{A:Lr}{E:Ku->Kx->Prop}{i:KC}{x:KZ}{v:V}{u:Ku}{Q:Ut->Kx->Prop}(I:Inv X pins σ H s)(hN:X.N.Nodup)(hi:X.N[i]?=ba x)(hx:BC X.env.scope x)(r:RelV v u)
  (h:∀s',Inv X pins (σ.set i (ba v)) H s'->Q () s') (hf:X.fn x=true\/X.env.scope.names.lookup x=ba .local):wpAny M A (storeName X.env x u) Q E s:=
 wq I hN hi hx r (λs' I' _=>h s' I') hf
theorem Inv.call' {s':Kx}{ch:Kr KF}(I:Inv X pins σ H s)(ho:s'.os=s.os)(u:Un (tQ X.stack) ch H H' s.heap s'.heap)(hok:HOk X.prog X.w H' s'.heap)(hg:Pl s'.gens)
  (hch:∀b∈ch,(b∈X.ex\/X.s₀.heap.objs.size<=b)/\b≠X.env.locals/\(∀x c,X.env.cells.lookup x=ba c->c≠b)/\∀p∈X.pn++pins,p.1≠b):Inv X pins σ H' s':=by
 obtain⟨h',g',d',t',o'⟩:=s';have e:o'=s.os:=ho;subst e;exact I.call (g':=g') (t':=t') (d':=d') u hok hg hch
end
noncomputable abbrev XK:=Ku->Kz KF->Hp->Prop
noncomputable abbrev St:=Kr (Kz V)
noncomputable abbrev VK:=V->Hp->Prop
noncomputable abbrev TE:=St->Hp->VK->Prop
noncomputable abbrev TT:=St->Hp->(Lf->Hp->Prop)->Prop
noncomputable abbrev TA:=St->Hp->(Kr V->Hp->Prop)->Prop
structure Ends where
 nx:St->Hp->Prop
 rt:VK
 bk:St->Hp->Prop:=λ_ _=>L7
 ct:St->Hp->Prop:=λ_ _=>L7
noncomputable abbrev TS:=Ends->St->Hp->Prop
noncomputable def EP (X:Cx)(pins:Kr (KF×Mp))(σ:St)(Q:VK)(u:Ku)(s':Kx):Prop:=∃v H',Inv X pins σ H' s'/\RelV v u/\Q v H'
noncomputable def TP (X:Cx)(pins:Kr (KF×Mp))(σ:St)(Q:Lf->Hp->Prop)(b:Lf)(s':Kx):Prop:=∃H',Inv X pins σ H' s'/\Q b H'
noncomputable def AP (X:Cx)(pins:Kr (KF×Mp))(σ:St)(Q:Kr V->Hp->Prop)(us:Kr Ku)(s':Kx):Prop:=∃vs H',Inv X pins σ H' s'/\Vals vs us/\Q vs H'
noncomputable def SP (X:Cx)(pins:Kr (KF×Mp))(D:Ends)(f:Flow)(s':Kx):Prop:=
 match f with
 | .next=>∃σ' H',Inv X pins σ' H' s'/\D.nx σ' H'
 | .brk=>∃σ' H',Inv X pins σ' H' s'/\D.bk σ' H'
 | .cont=>∃σ' H',Inv X pins σ' H' s'/\D.ct σ' H'
 | .ret u=>∃v σ' H',Inv X pins σ' H' s'/\RelV v u/\D.rt v H'
noncomputable def PE (X:Cx)(e:Lb)(t:TE):Prop:=
 ∀(pins:Kr (KF×Mp)) (s:Kx) (σ:St) (H:Hp) (Q:VK),Inv X pins σ H s->t σ H Q->wpAny (model X.prog X.w) X.A (eval e X.env) (EP X pins σ Q) X.xe s
noncomputable def PT (X:Cx)(e:Lb)(t:TT):Prop:=
 ∀(pins:Kr (KF×Mp)) (s:Kx) (σ:St) (H:Hp) (Q:Lf->Hp->Prop),Inv X pins σ H s->t σ H Q->wpAny (model X.prog X.w) X.A (isTrue e X.env (eval e X.env)) (TP X pins σ Q) X.xe s
noncomputable def PW (X:Cx)(e:Lb)(t:TT):Prop:=
 ∀(whole:Tz Ku) (pins:Kr (KF×Mp)) (s:Kx) (σ:St) (H:Hp) (Q:Lf->Hp->Prop),Inv X pins σ H s->t σ H Q->wpAny (model X.prog X.w) X.A (isTrue e X.env whole) (TP X pins σ Q) X.xe s
theorem PW.pt {X:Cx}{e:Lb}{t:TT}(h:PW X e t):PT X e t:=h _
noncomputable def PA (X:Cx)(es:Kr Lb)(t:TA):Prop:=
 ∀(pos:M9) (pins:Kr (KF×Mp)) (s:Kx) (σ:St) (H:Hp) (Q:Kr V->Hp->Prop),Inv X pins σ H s->t σ H Q->wpAny (model X.prog X.w) X.A (spliced (backTo pos (starEach es X.env))) (AP X pins σ Q) X.xe s
noncomputable def PS (X:Cx)(st:No)(t:TS):Prop:=
 ∀(pins:Kr (KF×Mp)) (s:Kx) (σ:St) (H:Hp) (D:Ends),Inv X pins σ H s->t D σ H->wpAny (model X.prog X.w) X.A (exec st X.env) (SP X pins D) X.xe s
noncomputable def PSs (X:Cx)(st:Kr No)(t:TS):Prop:=
 ∀(pins:Kr (KF×Mp)) (s:Kx) (σ:St) (H:Hp) (D:Ends),Inv X pins σ H s->t D σ H->wpAny (model X.prog X.w) X.A (execs st X.env) (SP X pins D) X.xe s
theorem ce {α:Type}{t:Tz α}{Q Q':α->Kx->Prop}{M:Us}{A:Lr}{E:Ku->Kx->Prop}{s:Kx}(h:wpAny M A t Q E s)(hQ:∀a s,Q a s->Q' a s):wpAny M A t Q' E s:=Mz h hQ λ_ _ x=>x
section
variable{X:Cx}
theorem Kq {a b:Lb}{ta tb:TE}(ha:PE X a ta)(hb:PE X b tb){pins:Kr (KF×Mp)}{s:Kx}{σ:St}{H:Hp}{R:V->V->Hp->Prop}(I:Inv X pins σ H s)(h:ta σ H λx H1=>tb σ H1 λy H2=>R x y H2)
  {α:Type} {Q:α->Kx->Prop} {f:Ku->Ku->Tz α}
  (hf:∀v u s2 x y H2,Inv X pins σ H2 s2->RelV x v->RelV y u->R x y H2->wpAny (model X.prog X.w) X.A (f v u) Q X.xe s2) :
  wpAny (model X.prog X.w) X.A (eval a X.env) (λv s₁=>wpAny (model X.prog X.w) X.A (eval b X.env) (λu s₂=>wpAny (model X.prog X.w) X.A (f v u) Q X.xe s₂) X.xe s₁) X.xe s:=by
 refine ce (ha pins s σ H _ I h) λv s1 #[x,H1,I1,r1,q1]=>?_
 refine ce (hb pins s1 σ H1 _ I1 q1) λu s2 #[y,H2,I2,r2,q2]=>?_
 exact hf v u s2 x y H2 I2 r1 r2 q2
noncomputable def Eu (i:KC):TE:=λσ H Q=>∃v,σ[i]?=ba (ba v)/\Q v H
noncomputable def tC (v:V):TE:=λ_ H Q=>Q v H
theorem yk {i:KC}{x:KZ}{pos:M9}(hN:X.N[i]?=ba x)(hv:Ix X.env.scope x)(hd:(x==("__debug__" : KZ))=false:=by decide)(hcd:(x==("__classdict__" : KZ))=false:=by decide):PE X (.Name x pos) (Eu i):=by
 intro pins s σ H Q I h;obtain⟨v,e,h⟩:=h;obtain⟨m,hn,hl⟩:=I.loc;obtain⟨u,r,l⟩:=hl i x v hN e hv;have fin:EP X pins σ Q u s:=#[v,H,I,r,h];rcases l with⟨hk,hm⟩|⟨hk,c,hc,hcell⟩
 ·exact Si (wpAny_loadName_local I.ok.kind hk hn hm fin) hd
 ·rcases hk with hk|hk
  ·exact Si (wpAny_loadName_cell I.ok.kind hk hc hcell fin) hd
  ·exact Si (wpAny_loadName_free I.ok.kind hk hc hcell fin hcd) hd
theorem ym {i j pos}:PE X (.Constant (.int i) j pos) (tC (.int i)):=λ_ _ _ H _ I h=>wpAny_Constant_int #[.int i,H,I.tok _,#[_,rfl],h]
theorem DR {b j pos}:PE X (.Constant (.bool b) j pos) (tC (.bl b)):=λ_ _ _ H _ I h=>Constant_bool #[.bl b,H,I,rfl,h]
theorem yn {j pos}:PE X (.Constant .none j pos) (tC .non):=λ_ _ _ H _ I h=>Constant_none #[.non,H,I,rfl,h]
theorem yo {x j pos}:PE X (.Constant (.str x) j pos) (tC (.str x)):=λ_ _ _ H _ I h=>QX #[.str x,H,I.tok _,#[_,rfl],h]
noncomputable def Gl (X:Cx)(x:KZ):Prop:=X.env.kindOf x=ba .globalImplicit
theorem uX {E:Ku->Kx->Prop}{pins:Kr (KF×Mp)}{s:Kx}{σ:St}{H:Hp}{x:KZ}{u:Ku}{pos:M9}{Q:Ku->Kx->Prop}(I:Inv X pins σ H s)(hg:Gl X x)(hm:X.mg x=ba u)(h:Q u s)
  (hd:(x==("__debug__" : KZ))=false:=by decide):wpAny (model X.prog X.w) X.A (eval (.Name x pos) X.env) Q E s:=
 OZ I.ok.kind hg (Calls.loadGlobal_global (by rw[I.ok.glob]; exact I.mod.glob.keeps I.bk) hm h) hd
theorem jK {E:Ku->Kx->Prop}{pins:Kr (KF×Mp)}{s:Kx}{σ:St}{H:Hp}{x:KZ}{u:Ku}{pos:M9}{Q:Ku->Kx->Prop}(I:Inv X pins σ H s)(hg:Gl X x)(hm:X.mg x=gV)(hv:bootBuiltins x=ba u)(h:Q u s)
  (hn:x≠"__name__":=by decide) (hd:(x==("__debug__" : KZ))=false:=by decide):wpAny (model X.prog X.w) X.A (eval (.Name x pos) X.env) Q E s:=by
 obtain⟨mb,h1,h2⟩:=I.mod.blt;exact OZ I.ok.kind hg (Calls.loadGlobal_builtin (by rw[I.ok.glob]; exact I.mod.glob.keeps I.bk) hm (by rw[I.ok.blt]; exact h1.keeps I.bk) ((h2 x hn).trans hv) h) hd
theorem BE {x:KZ}{v:V}{u:Ku}{pos:M9}(hg:Gl X x)(hm:X.mg x=gV)(hv:bootBuiltins x=ba u)(r:RelV v u)(hn:x≠"__name__":=by decide)(hd:(x==("__debug__" : KZ))=false:=by decide):PE X (.Name x pos) (tC v):=
 λ_ _ _ H _ I h=>jK I hg hm hv #[v,H,I,r,h] hn hd
variable{a b:Lb}{ta tb:TE}{pos:M9}
variable{tA tB':TT}{cf:Kr Lb}
noncomputable def Gy (t u:TT):TT:=λσ H Q=>t σ H λc H1=>if c=true then u σ H1 Q else Q false H1
noncomputable def J4 (t u:TT):TT:=λσ H Q=>t σ H λc H1=>if c=true then Q true H1 else u σ H1 Q
noncomputable def IL (t:TT):TT:=λσ H Q=>t σ H λc H1=>Q (!c) H1
theorem BF (ha:PT X a tA):PW X (.BoolOp .And [a] pos) tA:=by
 intro wh pins s σ H Q I h;refine isTrue_and (ce (ha pins s σ H Q I h) λc s1 e=>?_)
 cases c with
 | true=>exact isTrue_and_nil e
 | false=>exact e
theorem Ev (ha:PT X a tA):PW X (.BoolOp .Or [a] pos) tA:=by
 intro wh pins s σ H Q I h;refine isTrue_or (ce (ha pins s σ H Q I h) λc s1 e=>?_)
 cases c with
 | false=>exact isTrue_or_nil e
 | true=>exact e
theorem Ew (ha:PT X a tA)(hb:PW X (.BoolOp .And (b::cf) pos) tB'):PW X (.BoolOp .And (a::b::cf) pos) (Gy tA tB'):=by
 intro wh pins s σ H Q I h;refine isTrue_and (ce (ha pins s σ H _ I h) λc s1 #[H1,I1,q1]=>?_)
 cases c with
 | true=>exact hb wh pins s1 σ H1 Q I1 q1
 | false=>exact#[H1,I1,q1]
theorem Gz (ha:PT X a tA)(hb:PW X (.BoolOp .Or (b::cf) pos) tB'):PW X (.BoolOp .Or (a::b::cf) pos) (J4 tA tB'):=by
 intro wh pins s σ H Q I h;refine isTrue_or (ce (ha pins s σ H _ I h) λc s1 #[H1,I1,q1]=>?_)
 cases c with
 | true=>exact#[H1,I1,q1]
 | false=>exact hb wh pins s1 σ H1 Q I1 q1
theorem Ex (ha:PT X a tA):PT X (.UnaryOp .Not a pos) (IL tA):=by
 intro pins s σ H Q I h;exact isTrue_not (ha pins s σ H (λc H1=>Q (!c) H1) I h)
noncomputable def GB (ta tb:TE):TE:=λσ H Q=>ta σ H λx H1=>∃c,x=.bl c/\if c=true then tb σ H1 Q else Q (.bl false) H1
noncomputable def IM (ta tb:TE):TE:=λσ H Q=>ta σ H λx H1=>∃c,x=.bl c/\if c=true then Q (.bl true) H1 else tb σ H1 Q
noncomputable def GC (ta:TE):TE:=λσ H Q=>ta σ H λx H1=>∃c,x=.bl c/\Q (.bl (!c)) H1
theorem Ey {op}{t:TE}(h:PE X a t):PE X (.BoolOp op [a] pos) t:=λpins s σ H Q I hw=>BoolOp_one (h pins s σ H Q I hw)
theorem Ez (ha:PE X a ta)(hb:PE X (.BoolOp .And (b::cf) pos) tb):PE X (.BoolOp .And (a::b::cf) pos) (GB ta tb):=by
 intro pins s σ H Q I h;refine BoolOp_and (ce (ha pins s σ H _ I h) λv s1 #[x,H1,I1,r1,q1]=>?_)
 obtain⟨c,rfl,q1⟩:=q1;cases r1;refine M1 ?_;cases c with
 | true=>exact hb pins s1 σ H1 Q I1 q1
 | false=>exact#[.bl false,H1,I1,rfl,q1]
theorem GD (ha:PE X a ta)(hb:PE X (.BoolOp .Or (b::cf) pos) tb):PE X (.BoolOp .Or (a::b::cf) pos) (IM ta tb):=by
 intro pins s σ H Q I h;refine BoolOp_or (ce (ha pins s σ H _ I h) λv s1 #[x,H1,I1,r1,q1]=>?_)
 obtain⟨c,rfl,q1⟩:=q1;cases r1;refine M1 ?_;cases c with
 | false=>exact hb pins s1 σ H1 Q I1 q1
 | true=>exact#[.bl true,H1,I1,rfl,q1]
theorem EA (ha:PE X a ta):PE X (.UnaryOp .Not a pos) (GC ta):=by
 intro pins s σ H Q I h;refine UnaryOp_ (ce (ha pins s σ H _ I h) λv s1 #[x,H1,I1,r1,q1]=>?_)
 obtain⟨c,rfl,q1⟩:=q1;cases r1;exact not_of (M1 #[.bl (!c),H1,I1,rfl,q1])
noncomputable def Kd (t:TT)(ta tb:TE):TE:=λσ H Q=>t σ H λc H1=>if c=true then ta σ H1 Q else tb σ H1 Q
theorem yp {c:Lb}(hc:PT X c tA)(ha:PE X a ta)(hb:PE X b tb):PE X (.IfExp c a b pos) (Kd tA ta tb):=by
 intro pins s σ H Q I h;refine wpAny_IfExp (ce (hc pins s σ H _ I h) λd s1 #[H1,I1,q1]=>?_)
 cases d with
 | true=>exact ha pins s1 σ H1 Q I1 q1
 | false=>exact hb pins s1 σ H1 Q I1 q1
end
noncomputable def SqL (K:KM)(H:Hp)(a:KF)(xs:Kr V):Prop:=
 Rd H a (.lst xs)\/
  ∃(o:Mp) (its:Lg Ku) (n:KC),K.lookup a=ba o/\o.cls=.type "list"/\o.dict=gV/\o.data=.seq its n/\its.size<=sizeLine/\Vals xs its.toList
noncomputable def SqT (K:KM)(H:Hp)(a:KF)(xs:Kr V):Prop:=
 Rd H a (.tup xs)\/
  ∃(o:Mp) (its:Lg Ku) (n:KC),K.lookup a=ba o/\o.cls=.type "tuple"/\o.data=.seq its n/\its.size<=sizeLine/\Vals xs its.toList
noncomputable def IN:Ku->Kz V
 | .none=>ba .non
 | .bool b=>ba (.bl b)
 | .int i _=>ba (.int i)
 | .str x _=>ba (.str x)
 | .bytes b _=>ba (.byt b)
 | .float b _=>ba (.flt b)
 | .ref a=>ba (.ref a)
 | .type n=>ba (.ty n)
 | _=>gV
theorem RelV.abs {x:V}{u:Ku}(r:RelV x u):IN u=ba x:=by
 cases x with
 | non=>cases r; rfl
 | bl _=>cases r; rfl
 | int _=>obtain⟨t,rfl⟩:=r; rfl
 | str _=>obtain⟨t,rfl⟩:=r; rfl
 | byt _=>obtain⟨t,rfl⟩:=r; rfl
 | flt _=>obtain⟨t,rfl⟩:=r; rfl
 | ref _=>cases r; rfl
 | ty _=>cases r; rfl
theorem RelV.inj {x y:V}{u:Ku}(r:RelV x u)(q:RelV y u):x=y:=LV (r.abs.symm.trans q.abs)
theorem Vals.inj:∀ {xs ys:Kr V} {us:Kr Ku},Vals xs us->Vals ys us->xs=ys
 | _,_,_,.nil,.nil=>rfl
 | _,_,_,.cons r t,.cons r' t'=>by rw[r.inj r',Vals.inj t t']
section
variable{X:Cx}{pins:Kr (KF×Mp)}{σ:St}{H:Hp}{s:Kx}{a:KF}{xs ys:Kr V}
theorem SqL.of {K:KM}(h:H a=ba (.lst xs)):SqL K H a xs:=.inl (.inl h)
theorem SqT.of {K:KM}(h:H a=ba (.tup xs)):SqT K H a xs:=.inl (.inl h)
theorem Inv.list (I:Inv X pins σ H s)(h:SqL X.K H a xs):∃its:Kr Ku,Vals xs its/\PlainL s.heap a its.toArray/\xs.length<=sizeLine:=by
 rcases h with h|⟨o,its,n,hk,hc,hd,hs,hz,r⟩
 ·obtain⟨z,its,n,r,e⟩:=h.ok I.hok;exact#[its,r,#[_,n,e,rfl,rfl,rfl],z]
 ·refine#[its.toList,r,#[o,n,I.kIn a o hk,hc,hd,by simpa using hs],?_]
  have e:=r.length;simp only[KW]at e;omega
theorem Inv.tuple (I:Inv X pins σ H s)(h:SqT X.K H a xs):∃its:Kr Ku,Vals xs its/\Rh s.heap a its.toArray/\xs.length<=sizeLine:=by
 rcases h with h|⟨o,its,n,hk,hc,hs,hz,r⟩
 ·obtain⟨z,its,r,p⟩:=h.ok I.hok;exact#[its,r,p,z]
 ·refine#[its.toList,r,#[o,I.kIn a o hk,hc,n,by simpa using hs],?_]
  have e:=r.length;simp only[KW]at e;omega
theorem Inv.list_inj (I:Inv X pins σ H s)(h:SqL X.K H a xs)(h':SqL X.K H a ys):xs=ys:=by
 obtain⟨its,r,⟨o,n,e,_,_,d⟩,_⟩:=I.list h;obtain⟨its',r',⟨o',n',e',_,_,d'⟩,_⟩:=I.list h';rw[e]at e'; cases e'
 rw[d]at d';injection d' with d1 _
 have:its=its':=by simpa using congrArg Ti d1
 subst this;exact r.inj r'
theorem Inv.tuple_inj (I:Inv X pins σ H s)(h:SqT X.K H a xs)(h':SqT X.K H a ys):xs=ys:=by
 obtain⟨its,r,⟨o,e,_,n,d⟩,_⟩:=I.tuple h;obtain⟨its',r',⟨o',e',_,n',d'⟩,_⟩:=I.tuple h';rw[e]at e'; cases e'
 rw[d]at d';injection d' with d1 _
 have:its=its':=by simpa using congrArg Ti d1
 subst this;exact r.inj r'
end
noncomputable abbrev Cx.wish (X:Cx)(E:Ku->Kx->Prop):Cx:={ X with xe:=E }
noncomputable abbrev Cx.nox (X:Cx):Cx:=X.wish λ_ _=>L7
theorem Cx.Ok.wish {X:Cx}(ok:X.Ok)(E:Ku->Kx->Prop):(X.wish E).Ok:=
 #[ok.mod,ok.kind,ok.glob,ok.blt,ok.above,ok.inj,ok.has,ok.cab,ok.hd,ok.frames,ok.stk,ok.exf,ok.bs,ok.bsz,ok.noex,ok.exfs,ok.funs,ok.frf]
theorem Cx.Ok.unwish {X:Cx}{E:Ku->Kx->Prop}(ok:(X.wish E).Ok):X.Ok:=
 #[ok.mod,ok.kind,ok.glob,ok.blt,ok.above,ok.inj,ok.has,ok.cab,ok.hd,ok.frames,ok.stk,ok.exf,ok.bs,ok.bsz,ok.noex,ok.exfs,ok.funs,ok.frf]
section
variable{X:Cx}{pins:Kr (KF×Mp)}{σ:St}{H:Hp}{s:Kx}{E:Ku->Kx->Prop}
theorem Inv.wish (I:Inv X pins σ H s)(E:Ku->Kx->Prop):Inv (X.wish E) pins σ H s:=#[I.ok.wish E,I.os,I.bare,I.base,I.loc,I.cell,I.free,I.freeC,I.pin,I.hok,I.len]
theorem Inv.unwish (I:Inv (X.wish E) pins σ H s):Inv X pins σ H s:=#[I.ok.unwish,I.os,I.bare,I.base,I.loc,I.cell,I.free,I.freeC,I.pin,I.hok,I.len]
theorem SP.unwish {D:Ends}{f:Flow}{s':Kx}(h:SP (X.wish E) pins D f s'):SP X pins D f s':=by
 cases f with
 | next=>obtain⟨σ',H',I,q⟩:=h; exact#[σ',H',I.unwish,q]
 | brk=>obtain⟨σ',H',I,q⟩:=h; exact#[σ',H',I.unwish,q]
 | cont=>obtain⟨σ',H',I,q⟩:=h; exact#[σ',H',I.unwish,q]
 | ret u=>obtain⟨v,σ',H',I,r,q⟩:=h; exact#[v,σ',H',I.unwish,r,q]
theorem PSs.nox {st:Kr No}{t:TS}(h:PSs X.nox st t):PSs X st t:=λpins s σ H D I hw=>
 Mz (h pins s σ H D (I.wish _) hw) (λ_ _ q=>q.unwish) λ_ _ z=>L7.elim z
end
section
variable{X:Cx}{st:No}{cf:Kr No}{t u:TS}{e:Lb}{te:TE}{pos:M9}
noncomputable def yq:TS:=λD σ H=>D.nx σ H
noncomputable def IP (t u:TS):TS:=λD σ H=>t { D with nx:=u D } σ H
theorem BG:PSs X [] yq:=λ_ _ σ H _ I h=>P4 #[σ,H,I,h]
theorem yr (h1:PS X st t)(h2:PSs X cf u):PSs X (st::cf) (IP t u):=by
 intro pins s σ H D I h;refine wpAny_execs_cons (ce (h1 pins s σ H { D with nx:=u D } I h) λf s1 q=>?_)
 cases f with
 | next=>
  obtain⟨σ',H',I',q⟩:=q;exact h2 pins s1 σ' H' D I' q
 | ret v=>exact q
 | brk=>exact q
 | cont=>exact q
noncomputable def EB:TS:=λD σ H=>D.bk σ H
noncomputable def GF:TS:=λD σ H=>D.ct σ H
theorem BH:PS X (.Pass pos) yq:=λ_ _ σ H _ I h=>wpAny_Pass #[σ,H,I,h]
theorem yt:PS X (.Break pos) EB:=λ_ _ σ H _ I h=>wpAny_Break #[σ,H,I,h]
theorem rh:PS X (.Continue pos) GF:=λ_ _ σ H _ I h=>wpAny_Continue #[σ,H,I,h]
theorem Inv.quiet {pins:Kr (KF×Mp)}{σ:St}{H:Hp}{s:Kx}(I:Inv X pins σ H s):interactive X.env=false:=by simp[interactive,I.ok.kind]
theorem EC {x j pos pos'}:PS X (.Expr (.Constant (.str x) j pos) pos') yq:=λ_ s σ H _ I h=>wpAny_Expr (QX (show SP X _ _ .next { s with toks:=s.toks+1 } from#[σ,H,I.tok _,h])) I.quiet
noncomputable def GH (te:TE):TS:=λD σ H=>te σ H λ_ H1=>D.nx σ H1
theorem BI (he:PE X e te)(hs:swapsWith e gV pos.line X.env=pure false:=by rfl):PS X (.Expr e pos) (GH te):=by
 intro pins s σ H D I h;exact wpAny_Expr_any (ce (he pins s σ H _ I h) λv s1 #[x,H1,I1,r1,q1]=>#[σ,H1,I1,q1]) I.quiet hs
noncomputable def IQ (te:TE):TS:=λD σ H=>te σ H D.rt
theorem ED (he:PE X e te):PS X (.Return (ba e) pos) (IQ te):=by
 intro pins s σ H D I h;exact wpAny_Return_some (ce (he pins s σ H _ I h) λv s1 #[x,H1,I1,r1,q1]=>#[x,σ,H1,I1,r1,q1])
noncomputable def GJ:TS:=λD _ H=>D.rt .non H
theorem BJ:PS X (.Return gV pos) GJ:=λ_ _ σ H _ I h=>wpAny_Return_none #[.non,σ,H,I,rfl,h]
noncomputable def IR (c:TT)(t u:TS):TS:=λD σ H=>c σ H λb H1=>if b=true then t D σ H1 else u D σ H1
theorem GK {c:Lb}{a b:Kr No}{tc:TT}(hc:PT X c tc)(ha:PSs X a t)(hb:PSs X b u):PS X (.If c a b pos) (IR tc t u):=by
 intro pins s σ H D I h;refine wpAny_If (ce (hc pins s σ H _ I h) λd s1 #[H1,I1,q1]=>?_)
 cases d with
 | true=>exact ha pins s1 σ H1 D I1 q1
 | false=>exact hb pins s1 σ H1 D I1 q1
end
noncomputable abbrev TG:=V->St->Hp->(St->Hp->Prop)->Prop
noncomputable abbrev EE:=Kr V->St->Hp->(St->Hp->Prop)->Prop
noncomputable def PG (X:Cx)(target:Lb)(t:TG):Prop:=
 ∀(pins:Kr (KF×Mp)) (s:Kx) (σ:St) (H:Hp) (v:V) (u:Ku) (Q:St->Hp->Prop),Inv X pins σ H s->RelV v u->t v σ H Q->
  wpAny (model X.prog X.w) X.A (assign target X.env u) (λ_ s'=>∃σ' H',Inv X pins σ' H' s'/\Q σ' H') X.xe s
noncomputable def GL (X:Cx)(ts:Kr Lb)(t:EE):Prop:=
 ∀(pins:Kr (KF×Mp)) (s:Kx) (σ:St) (H:Hp) (vs:Kr V) (us:Kr Ku) (Q:St->Hp->Prop),Inv X pins σ H s->Vals vs us->t vs σ H Q->
  wpAny (model X.prog X.w) X.A (assignInOrder ((assignEach ts X.env).map (·.2)) us) (λ_ s'=>∃σ' H',Inv X pins σ' H' s'/\Q σ' H') X.xe s
noncomputable abbrev EF:=V->V->V->Hp->(Hp->Prop)->Prop
noncomputable def EG (X:Cx)(t:EF):Prop:=
 ∀(pins:Kr (KF×Mp)) (s:Kx) (σ:St) (H:Hp) (o i v:V) (ov iv u:Ku) (Q:Hp->Prop),Inv X pins σ H s->RelV o ov->RelV i iv->RelV v u->t o i v H Q->
  wpAny (model X.prog X.w) X.A (setItem ov iv u) (λ_ s'=>∃H',Inv X pins σ H' s'/\Q H') X.xe s
section
variable{X:Cx}{pos:M9}
noncomputable def GM (i:KC):TG:=λv σ H Q=>Q (σ.set i (ba v)) H
theorem uY {i:KC}{x:KZ}(hN:X.N.Nodup)(hi:X.N[i]?=ba x)(hx:BC X.env.scope x)(hf:X.fn x=true\/X.env.scope.names.lookup x=ba .local):PG X (.Name x pos) (GM i):=by
 intro pins s σ H v u Q I r h;exact Rj (jc I hN hi hx r (λs' I'=>#[_,H,I',h]) hf)
noncomputable def IS:EE:=λvs σ H Q=>vs=[]/\Q σ H
noncomputable def GN (t:TG)(u:EE):EE:=λvs σ H Q=>∃v r,vs=v::r/\t v σ H λσ' H'=>u r σ' H' Q
theorem BK:GL X [] IS:=by
 intro pins s σ H vs us Q I r h;obtain⟨e,h⟩:=h;subst e;cases r;exact Rk #[σ,H,I,h]
theorem yu {e:Lb}{es:Kr Lb}{t:TG}{u:EE}(h1:PG X e t)(h2:GL X es u)
  (hs:(assignEach (e::es) X.env).map (·.2)=assign e X.env::(assignEach es X.env).map (·.2):=by rfl):GL X (e::es) (GN t u):=by
 intro pins s σ H vs us Q I r h;obtain⟨v,vr,e1,h⟩:=h;subst e1;cases r with
 | cons r rr=>
  rw[hs];refine O0 (ce (h1 pins s σ H _ _ _ I r h) λ_ s1 #[σ1,H1,I1,q1]=>?_)
  exact h2 pins s1 σ1 H1 _ _ Q I1 rr q1
noncomputable def IT (K:KM)(n:KC)(t:EE):TG:=λv σ H Q=>∃a xs,v=.ref a/\SqT K H a xs/\xs.length=n/\t xs σ H Q
theorem EH {es:Kr Lb}{k:KC}{t:EE}{n:KC}(hc:X.calm=true)(h:GL X es t)
  (hn:(assignEach es X.env).length=n:=by rfl) (hst:(assignEach es X.env).findIdx? (·.1)=gV:=by rfl):PG X (.Tuple es k pos) (IT X.K n t):=by
 intro pins s σ H v u Q I r hw;obtain⟨a,xs,e1,hq,hl,hw⟩:=hw;subst e1;cases r;obtain⟨its,rv,ht,hz⟩:=I.tuple hq;refine assign_Tuple_tuple (I.ok.hd hc) ht (by simp[hn,<- hl,rv.length]) hst λh' hx=>?_
 have I1:Inv X pins σ H { s with heap:=h' }:=I.kept (t':=s.toks) λb o e=>hx b o (K7 (K1 e)) e
 exact h pins _ σ H xs _ Q I1 (by simpa using rv) hw
noncomputable def IU (to ti:TE)(t:EF):TG:=λv σ H Q=>to σ H λo H1=>ti σ H1 λi H2=>t o i v H2 λH3=>Q σ H3
theorem EI {o i:Lb}{to ti:TE}{t:EF}(ho:PE X o to)(hi:PE X i ti)(hs:EG X t)
  (ha:∀v,assign (.Subscript o i pos) X.env v=(do
   let ov <- holding [v] (eval o X.env)
   let iv <- holding [v,ov] (eval i X.env)
   standAt pos
   holding [v,ov,iv] (setItem ov iv v)
   release [v,ov,iv] []):=by intro _; rfl):PG X (.Subscript o i pos) (IU to ti t):=by
 intro pins s σ H v u Q I r h;rw[ha];refine Ks (LQ (ce (ho pins s σ H _ I h) λov s1 #[x,H1,I1,r1,q1]=>?_))
 refine Ks (LQ (ce (hi pins s1 σ H1 _ I1 q1) λiv s2 #[y,H2,I2,r2,q2]=>?_))
 refine Ks (OG (Ks (LQ (ce (hs pins s2 σ H2 x y v ov iv u _ I2 r1 r2 r q2) λ_ s3 #[H3,I3,q3]=>?_))))
 exact wpAny_release #[σ,H3,I3,q3]
noncomputable def IV (te:TE)(g:TG):TS:=λD σ H=>te σ H λx H1=>g x σ H1 D.nx
theorem EJ {tg e:Lb}{te:TE}{g:TG}(he:PE X e te)(hg:PG X tg g)(hs:swapsWithSole [tg] e pos.line X.env=pure false:=by rfl)(hw:swappedStores [tg] e X.env=pure gV:=by rfl)
  (h1:(assignEach [tg] X.env).map (·.2)=[assign tg X.env]:=by rfl):PS X (.Assign [tg] e pos) (IV te g):=by
 intro pins s σ H D I h;refine wpAny_Assign_stores (ce (he pins s σ H _ I h) λv s1 #[x,H1,I1,r1,q1]=>?_) hs hw
 rw[h1];exact ce (hg pins s1 σ H1 x v _ I1 r1 q1) λ_ s2 q=>q
noncomputable def IW (i j:KC)(ta:TA):TS:=λD σ H=>ta σ H λvs H1=>∃v w,vs=[v,w]/\D.nx ((σ.set i (ba v)).set j (ba w)) H1
theorem EK {i j:KC}{x y:KZ}{a b:Lb}{ta:TA}{px py pt:M9}{kt k2 pt2}(hc:X.calm=true)(hN:X.N.Nodup)(hi:X.N[i]?=ba x)(hj:X.N[j]?=ba y)(hij:i≠j)
  (hx:X.env.scope.names.lookup x=ba .local) (hy:X.env.scope.names.lookup y=ba .local) (ha:PA X [a,b] ta)
  (hw:swappedStores [.Tuple [.Name x px,.Name y py] kt pt] (.Tuple [a,b] k2 pt2) X.env=pure (ba [x,y]))
  (hs:swapsWithSole [.Tuple [.Name x px,.Name y py] kt pt] (.Tuple [a,b] k2 pt2) pos.line X.env=pure false:=by rfl) :
  PS X (.Assign [.Tuple [.Name x px,.Name y py] kt pt] (.Tuple [a,b] k2 pt2) pos) (IW i j ta):=by
 intro pins s σ H D I h;rw[exec_Assign_arm];refine Ks (OG ?_);rw[hs];refine Ks (Ky ?_);rw[Li #v[]]
 refine Ks (Tuple_ (ce (ha _ pins s σ H _ I h) λus s1 #[vs,H1,I1,r1,q1]=>?_))
 obtain⟨v,w,e1,q1⟩:=q1;subst e1;obtain⟨u1,u2,rfl,rv,rw'⟩ : ∃u1 u2,us=[u1,u2]/\RelV v u1/\RelV w u2:=by
  cases r1 with
  | cons p q=>
   cases q with
   | cons p' q'=>
    cases q';exact#[_,_,rfl,p,p']
 refine LA ?_ (by show 2<=sizeLine; decide)
 have I2:Inv X pins σ H1 { s1 with heap:=s1.heap.push { cls:=.type "tuple",data:=.seq [u1,u2].toArray } }:=I1.kept (t':=s1.toks) λb o e=>Kw _ e
 rw[hw];refine Ks (Ky ?_);show wpAny (model X.prog X.w) X.A (do rule "assign.swapped-stores"; let items <- unpackItems (.ref s1.heap.objs.size) 2 gV; assignInOrder [λv=>bindName X.env y v,λv=>bindName X.env x v] items.reverse; pure Ug) _ _ _
 refine Ks (PU (Ks (unpackItems_tuple (items:=[u1,u2].toArray) (I.ok.hd hc) (RI s1.heap _) λh' hx'=>?_)))
 have I3:=I2.kept (h':=h') (t':=s1.toks) λb o e=>hx' b o (K7 (K1 e)) e
 show wpAny _ _ (assignInOrder [λv=>bindName X.env y v,λv=>bindName X.env x v] [u2,u1] >>= λ_=>pure Ug) _ _ _
 refine Ks (O0 (Sj (jc I3 hN hj (.inl hy) rw' (λs2 I4=>?_) (.inr hy))))
 refine O0 (Sj (jc I4 hN hi (.inl hx) rv (λs3 I5=>Rk (Ky ?_)) (.inr hx)))
 rw[List.set_comm _ _ (Ne.symm hij)]at I5;exact#[_,H1,I5,q1]
end
section
variable{X:Cx}{pos:M9}
noncomputable def EL (c:TT)(tb:TS):TS:=λD σ H=>∃W:KC->St->Hp->Prop,(∃m,W m σ H)/\∀m σ H,W m σ H->
 c σ H λb H1=>if b=true then ∃N:St->Hp->Prop,(∀σ' H',N σ' H'->∃m',m' < m/\W m' σ' H')/\tb { D with nx:=N,ct:=N,bk:=D.nx } σ H1 else D.nx σ H1
theorem yv {c:Lb}{body:Kr No}{tc:TT}{tb:TS}(hp:QG (model X.prog X.w) X.A X.env X.xe)(hc:PT X c tc)(hb:PSs X body tb):PS X (.While c body [] pos) (EL tc tb):=by
 intro pins s σ H D I h;obtain⟨W,⟨m0,w0⟩,turn⟩:=h;refine wpAny_While (codeAny_whileLoop (λn s'=>∃σ' H',Inv X pins σ' H' s'/\W n σ' H') ?_ m0 #[σ,H,I,w0])
 rintro n s1 ⟨σ1,H1,I1,w1⟩;refine Ng hp (ce (hc pins s1 σ1 H1 _ I1 (turn n σ1 H1 w1)) λb s2 #[H2,I2,q2]=>?_)
 cases b with
 | true=>
  obtain⟨N,hN,q2⟩:=q2;rw[La rfl];refine Ng hp (ce (hb pins s2 σ1 H2 _ I2 q2) λf s3 q3=>?_)
  cases f with
  | next=>
   obtain⟨σ3,H3,I3,n3⟩:=q3;obtain⟨m',hm,w3⟩:=hN σ3 H3 n3;exact#[m',hm,σ3,H3,I3,w3]
  | cont=>
   obtain⟨σ3,H3,I3,n3⟩:=q3;obtain⟨m',hm,w3⟩:=hN σ3 H3 n3;exact#[m',hm,σ3,H3,I3,w3]
  | brk=>exact q3
  | ret v=>exact q3
 | false=>
  rw[Li K8];exact P4 #[σ1,H2,I2,q2]
end
structure It where
 go:KC->Hp->Prop
 yld:KC->Hp->V->Hp->Prop
 stop:KC->Hp->Prop
noncomputable def jL (X:Cx)(pins:Kr (KF×Mp))(H:Hp)(b:KF):Prop:=
 H b=gV/\b≠X.env.locals/\b∉X.fs/\(b∈X.ex\/X.s₀.heap.objs.size<=b)/\(∀x c,X.env.cells.lookup x=ba c->c≠b)/\∀p∈X.pn++pins,p.1≠b
theorem Inv.fpOk {X:Cx}{pins:Kr (KF×Mp)}{σ:St}{H H':Hp}{s:Kx}{b:KF}(I:Inv X pins σ H s)(hb:s.heap.objs.size<=b)(hn:H' b=gV):jL X pins H' b:=by
 refine#[hn,Lx (Lc I.lt hb),I.nofs hb,.inr (KQ I.sz hb),λx c e z=>?_,λp hp z=>?_]
 ·obtain⟨v,q⟩:=I.cell x c e;exact absurd (Lc q.lt (by rw[z]; exact hb)) (Mg _)
 ·exact absurd (Lc (K1 (I.pin p hp).1) (by rw[z]; exact hb)) (Mg _)
structure Turn (P:Lk)(w:Lz)(K:KM)(tg:Lb)(J:It)(fp:Kr KF)(it:KF)(tn:KC->LI->Prop):Prop where
 mem:it∈fp
 obj:∀i h,tn i h->∀b∈fp,∃o,h.get? b=ba o/\∀v,o.data≠.cell v
 keep:∀i h h',tn i h->(∀b∈fp,∀o,h.get? b=ba o->h'.get? b=ba o)->tn i h'
 item:∀(X:Cx),X.prog=P->X.w=w->X.K=K->X.calm=true->∀(i:KC) (pins:Kr (KF×Mp)) (s:Kx) (σ:St) (H:Hp) (E:Ku->Kx->Prop),Inv X pins σ H s->(∀b∈fp,jL X pins H b)->tn i s.heap->J.go i H->
  wpAny (model P w) X.A (pyNext (.ref it)) (λr s1=>∃u,r=ba u/\
   wpAny (model P w) X.A (letOwnedTupleGo tg (.ref it) u) (λ_ s2=>∃x H',Inv X pins σ H' s2/\RelV x u/\J.yld i H x H'/\tn (i+1) s2.heap/\∀b∈fp,H' b=gV) E s1) E s
 done:∀(X:Cx),X.prog=P->X.w=w->X.K=K->X.calm=true->∀(i:KC) (pins:Kr (KF×Mp)) (s:Kx) (σ:St) (H:Hp) (E:Ku->Kx->Prop),Inv X pins σ H s->(∀b∈fp,jL X pins H b)->tn i s.heap->J.stop i H->
  wpAny (model P w) X.A (pyNext (.ref it)) (λr s1=>r=gV/\Inv X pins σ H s1) E s
 self:∀(A:Lr) (i:KC) (s:Kx) (Q:Ku->Kx->Prop) (E:Ku->Kx->Prop),tn i s.heap->Q (.ref it) s->wpAny (model P w) A (pyIter (.ref it)) Q E s
noncomputable abbrev TI:=St->Hp->(It->Hp->Prop)->Prop
noncomputable def Iy (X:Cx)(pins:Kr (KF×Mp))(σ:St)(tg:Lb)(R:It->Hp->Prop)(itv:Ku)(s2:Kx):Prop:=
 ∃(it:KF) (fp:Kr KF) (tn:KC->LI->Prop) (J:It) (H':Hp),itv=.ref it/\Inv X pins σ H' s2/\Turn X.prog X.w X.K tg J fp it tn/\tn 0 s2.heap/\(∀b∈fp,jL X pins H' b)/\R J H'
noncomputable def PI (X:Cx)(tg iter:Lb)(wi:TI):Prop:=
 ∀(pins:Kr (KF×Mp)) (s:Kx) (σ:St) (H:Hp) (R:It->Hp->Prop),Inv X pins σ H s->wi σ H R->
  wpAny (model X.prog X.w) X.A (eval iter X.env) (λv s1=>wpAny (model X.prog X.w) X.A (pyIter v) (Iy X pins σ tg R) X.xe s1) X.xe s
theorem uZ {M:Us}{A:Lr}{E:Ku->Kx->Prop}{s:Kx}{tg:Lb}{it:KF}{u:Ku}{o:Mp}{n:L8}{vs:Lg Ku}{Q:Ut->Kx->Prop}(ho:s.heap.get? it=ba o)(hc:o.cls=.type n)(hd:o.data=.fields vs)
    (hn:["enumerate","zip","dict_itemiterator","dict_reverseitemiterator","odict_iterator","itertools.zip_longest","itertools.pairwise"].contains n=false) (hQ:Q () s):wpAny M A (letOwnedTupleGo tg (.ref it) u) Q E s:=by
  unfold letOwnedTupleGo;cases tg <;> first
    | exact Ky hQ
    | (cases u <;> first
        | exact Ky hQ
        | (refine Ks (PV ho ?_)
           rw[hc,hd];show wpAny M A (if (["enumerate","zip","dict_itemiterator","dict_reverseitemiterator","odict_iterator","itertools.zip_longest","itertools.pairwise"].contains n&&vs[0]?==ba (rawInt _))=true then _ else _) Q E s
           rw[Li (by intro h; rw[hn,Bool.false_and]at h; cases h)]
           exact Ky hQ))
noncomputable def IX (K:KM)(a:KF):It:=
 #[λi H=>∃xs x,SqL K H a xs/\xs[i]?=ba x,λi H x H'=>H'=H/\∀xs,SqL K H a xs->xs[i]?=ba x,λi H=>∃xs,SqL K H a xs/\xs.length<=i]
noncomputable def Go (K:KM)(a:KF):It:=
 #[λi H=>∃xs x,SqT K H a xs/\xs[i]?=ba x,λi H x H'=>H'=H/\∀xs,SqT K H a xs->xs[i]?=ba x,λi H=>∃xs,SqT K H a xs/\xs.length<=i]
noncomputable def GP (lo:KO)(n:KC):It:=#[λi _=>i < n,λi H x H'=>H'=H/\x=.int (lo+i),λi _=>n<=i]
theorem wt {P:Lk}{w:Lz}{K:KM}{tg:Lb}(a it:KF):Turn P w K tg (IX K a) [it] it (λi h=>h.IsListIter it a i) where
 mem:=by simp
 obj:=λi h st b hb=>by
  have e:b=it:=by simpa using hb
  subst e;obtain⟨o,e,c,d⟩:=st;exact#[o,e,λv z=>by rw[d]at z; cases z]
 keep:=λi h h' st k=>st.at λo e=>k it (by simp) o e
 item:=by
  intro X hP hw hK hc i pins s σ H E I hf st hg;subst hP hw hK;obtain⟨xs,x,hq,hx⟩:=hg;obtain⟨its,rv,p,hz⟩:=I.list hq;obtain⟨u,hu,ru⟩:=rv.get hx;obtain⟨f0,f1,f2,f3,f4,f5⟩:=hf it (by simp)
  refine wpAny_pyNext_list_item st p.isList (x:=u) (by simpa using hu) λh' st' sb=>?_
  have I1:Inv X pins σ H { s with heap:=h' }:=I.turned (t':=s.toks) (λb o hb e=>(sb.2 b hb).trans e) f0 f1 f3 f4 f5
  obtain⟨o,e,c,d⟩:=id st';exact#[u,rfl,uZ (s:={ s with heap:=h' }) e c d #v[] #[x,H,I1,ru,#[rfl,λys hy=>by rw[I.list_inj hy hq]; exact hx],st',λb hb=>(hf b hb).1]]
 done:=by
  intro X hP hw hK hc i pins s σ H E I hf st hg;subst hP hw hK;obtain⟨xs,hq,hx⟩:=hg;obtain⟨its,rv,p,hz⟩:=I.list hq;obtain⟨f0,f1,f2,f3,f4,f5⟩:=hf it (by simp)
  have hl:=rv.length;exact wpAny_pyNext_list_end (I.ok.hd hc) st p.isList (by simp; omega) λh' eb=>#[rfl,I.turned (t':=s.toks) (λb o hb e=>eb b o hb e) f0 f1 f3 f4 f5]
 self:=λ_ _ _ _ _ st h=>wpAny_pyIter_listiter st h
theorem tR {P:Lk}{w:Lz}{K:KM}{tg:Lb}(a it:KF):Turn P w K tg (Go K a) [it] it (λi h=>h.IsTupleIter it a i) where
 mem:=by simp
 obj:=λi h st b hb=>by
  have e:b=it:=by simpa using hb
  subst e;obtain⟨o,e,c,d⟩:=st;exact#[o,e,λv z=>by rw[d]at z; cases z]
 keep:=λi h h' st k=>st.at λo e=>k it (by simp) o e
 item:=by
  intro X hP hw hK hc i pins s σ H E I hf st hg;subst hP hw hK;obtain⟨xs,x,hq,hx⟩:=hg;obtain⟨its,rv,p,hz⟩:=I.tuple hq;obtain⟨u,hu,ru⟩:=rv.get hx;obtain⟨f0,f1,f2,f3,f4,f5⟩:=hf it (by simp)
  refine wpAny_pyNext_tuple_item st (show s.heap.IsTuple a its.toArray from p) (x:=u) (by simpa using hu) λh' st' sb=>?_
  have I1:Inv X pins σ H { s with heap:=h' }:=I.turned (t':=s.toks) (λb o hb e=>(sb.2 b hb).trans e) f0 f1 f3 f4 f5
  obtain⟨o,e,c,d⟩:=id st';exact#[u,rfl,uZ (s:={ s with heap:=h' }) e c d #v[] #[x,H,I1,ru,#[rfl,λys hy=>by rw[I.tuple_inj hy hq]; exact hx],st',λb hb=>(hf b hb).1]]
 done:=by
  intro X hP hw hK hc i pins s σ H E I hf st hg;subst hP hw hK;obtain⟨xs,hq,hx⟩:=hg;obtain⟨its,rv,p,hz⟩:=I.tuple hq;obtain⟨f0,f1,f2,f3,f4,f5⟩:=hf it (by simp)
  have hl:=rv.length;exact wpAny_pyNext_tuple_end (I.ok.hd hc) st (show s.heap.IsTuple a its.toArray from p) (by simp; omega) λh' eb=>#[rfl,I.turned (t':=s.toks) (λb o hb e=>eb b o hb e) f0 f1 f3 f4 f5]
 self:=λ_ _ _ _ _ st h=>wpAny_pyIter_tupleiter st h
theorem tU {P:Lk}{w:Lz}{K:KM}{tg:Lb}(it:KF)(lo:KO)(n:KC):Turn P w K tg (GP lo n) [it] it (λi h=>TB h it (lo+(i:KC)*1) ((n:KO) - (i:KC)) 1) where
 mem:=by simp
 obj:=λi h st b hb=>by
  have e:b=it:=by simpa using hb
  subst e;exact#[_,st,λv z=>by
   have z':Data.fields _=Data.cell v:=z;cases z']
 keep:=λi h h' st k=>k it (by simp) _ st
 item:=by
  intro X hP hw hK hc i pins s σ H E I hf st hg;subst hP hw hK;obtain⟨f0,f1,f2,f3,f4,f5⟩:=hf it (by simp)
  have W:=Walks.range (prog:=X.prog) (w:=X.w) (I.ok.hd hc) it lo 1 n;refine W.item i s _ _ hg st λv h' tk hv st' kk=>?_
  obtain⟨t,rfl⟩:=hv;have I1:Inv X pins σ H { s with heap:=h',toks:=tk }:=I.turned (λb o hb e=>kk b o (by simpa using hb) e) f0 f1 f3 f4 f5
  refine#[_,rfl,uZ (s:={ s with heap:=h',toks:=tk }) (n:="range_iterator") st' rfl rfl #v[] #[.int (lo+i),H,I1,#[t,?_],#[rfl,rfl],st',λb hb=>(hf b hb).1]]
  rw[Int.mul_one]
 done:=by
  intro X hP hw hK hc i pins s σ H E I hf st hg;subst hP hw hK;obtain⟨f0,f1,f2,f3,f4,f5⟩:=hf it (by simp)
  exact wpAny_pyNext_range_end (I.ok.hd hc) st (by have:n<=i:=hg; omega) λh' eb=>#[rfl,I.turned (t':=s.toks) (λb o hb e=>eb b o hb e) f0 f1 f3 f4 f5]
 self:=λ_ _ _ _ _ st h=>wpAny_pyIter_rangeiter st h
section
variable{X:Cx}{tg:Lb}
theorem rj {pins:Kr (KF×Mp)}{σ:St}{H:Hp}{s:Kx}{R:It->Hp->Prop}{E:Ku->Kx->Prop}{lo hi:KO}{t u v:UB}{tk:KC}(I:Inv X pins σ H s)(h1 : -(2 ^ 62)<=lo)(h2:lo < 2 ^ 62)(h3 : -(2 ^ 62)<=hi)(h4:hi < 2 ^ 62)
  (q:R (GP lo (hi - lo).toNat) H):wpAny (model X.prog X.w) X.A (pyIter (.ref s.heap.objs.size)) (Iy X pins σ tg R) E { s with heap:=s.heap.push { cls:=.type "range",data:=.fields [.int lo t,.int hi u,.int 1 v].toArray },toks:=tk }:=by
 refine wpAny_pyIter_range (IsRange.new ..) (Td h1 h2 h3 h4) ?_;have I1:Inv X pins σ H { s with heap:=s.heap.push { cls:=.type "range",data:=.fields [.int lo t,.int hi u,.int 1 v].toArray },toks:=tk }:=I.kept λb o e=>Kw _ e
 refine#[(s.heap.push { cls:=.type "range",data:=.fields [.int lo t,.int hi u,.int 1 v].toArray }).objs.size,[(s.heap.push { cls:=.type "range",data:=.fields [.int lo t,.int hi u,.int 1 v].toArray }).objs.size],_,_,H,rfl,
  I1.kept (t':=tk) λb o e=>Kw _ e,tU _ lo (hi - lo).toNat,?_,λb hb=>?_,q]
 ·have e1:lo+((0:KC):KO)*1=lo:=by simp
  have e2:(((hi - lo).toNat:KC):KO) - ((0:KC):KO)=MB lo hi 1:=by rw[QN]; split <;> omega
  show TB _ _ (lo+((0:KC):KO)*1) ((((hi - lo).toNat:KC):KO) - ((0:KC):KO)) 1;rw[e1,e2];exact KT _ rfl
 ·have e:b=(s.heap.push { cls:=.type "range",data:=.fields [.int lo t,.int hi u,.int 1 v].toArray }).objs.size:=by simpa using hb
  subst e;exact I1.fpOk (KH _) (I1.hok.fresh (KH _))
noncomputable def GQ (ta:TA):TI:=λσ H R=>ta σ H λvs H1=>∃j:KO,vs=[.int j]/\-(2 ^ 62)<=j/\j < 2 ^ 62/\R (GP 0 j.toNat) H1
noncomputable def iRng2 (ta:TA):TI:=λσ H R=>ta σ H λvs H1=>∃i j:KO,vs=[.int i,.int j]/\(-(2 ^ 62)<=i/\i < 2 ^ 62/\-(2 ^ 62)<=j/\j < 2 ^ 62)/\R (GP i (j - i).toNat) H1
theorem wu {a:Lb}{ta:TA}{p pos:M9}(hg:Gl X "range")(hm:X.mg "range" = gV)(ha:PA X [a] ta)(hs:starEach [a] X.env=[(false,eval a X.env)]:=by rfl):PI X tg (.Call (.Name "range" p) [a] [] pos) (GQ ta):=by
 intro pins s σ H R I h;refine Call_ (jK I hg hm boot_range (M5 (ce (ha pos pins s σ H _ I h) λus s1 #[vs,H1,I1,r1,q1]=>?_) hs rfl))
 obtain⟨j,e,q1,q2,q⟩:=q1;subst e;cases r1 with
 | cons r rr=>
  cases rr;obtain⟨t,rfl⟩:=r;exact Tj (rj I1 ∅ ∅ q1 q2 (by simpa using q))
theorem ww {a b:Lb}{ta:TA}{p pos:M9}(hg:Gl X "range")(hm:X.mg "range" = gV)(ha:PA X [a,b] ta)(hs:starEach [a,b] X.env=[(false,eval a X.env),(false,eval b X.env)]:=by rfl)(hs2:starEach [b] X.env=[(false,eval b X.env)]:=by rfl) :
  PI X tg (.Call (.Name "range" p) [a,b] [] pos) (iRng2 ta):=by
 intro pins s σ H R I h;refine Call_ (jK I hg hm boot_range (M5 (ce (ha pos pins s σ H _ I h) λus s1 #[vs,H1,I1,r1,q1]=>?_) (by rw[hs,hs2]) (by rw[hs2]; rfl)))
 obtain⟨i,j,e,⟨q1,q2,q3,q4⟩,q⟩:=q1;subst e;cases r1 with
 | cons r rr=>
  cases rr with
  | cons r' rr=>
   cases rr;obtain⟨t,rfl⟩:=r;obtain⟨t',rfl⟩:=r';exact call_range_2 (rj I1 q1 q2 q3 q4 q)
noncomputable def IY (wi:TI)(g:TG)(tb:TS):TS:=λD σ H=>wi σ H λJ H1=>∃W:KC->KC->St->Hp->Prop,(∃m,W 0 m σ H1)/\∀i m σ H,W i m σ H->
 (J.stop i H/\D.nx σ H)\/(J.go i H/\∃N:St->Hp->Prop,(∀σ' H',N σ' H'->∃m',m' < m/\W (i+1) m' σ' H')/\∀x H',J.yld i H x H'->g x σ H' λσ2 H2=>tb { D with nx:=N,ct:=N,bk:=D.nx } σ2 H2)
noncomputable def jM (fp:Kr KF)(h:LI):Kr (KF×Mp):=fp.filterMap λb=>(h.get? b).map λo=>(b,o)
theorem gh {fp:Kr KF}{h:LI}{b:KF}{o:Mp}(hb:b∈fp)(e:h.get? b=ba o):(b,o)∈jM fp h:=O1.mpr #[b,hb,by rw[e]; rfl]
theorem wx {fp:Kr KF}{h:LI}{p:KF×Mp}(hp:p∈jM fp h):p.1∈fp/\h.get? p.1=ba p.2:=by
 obtain⟨b,hb,e⟩:=O1.mp hp;cases q:h.get? b with
 | none=>rw[q]at e; cases e
 | some o=>
  rw[q]at e;have e':(b,o)=p:=LV e;subst e';exact#[hb,q]
theorem Inv.pinned {pins:Kr (KF×Mp)}{σ:St}{H:Hp}{s:Kx}{fp:Kr KF}(I:Inv X pins σ H s)(hf:∀b∈fp,jL X pins H b)(ho:∀b∈fp,∃o,s.heap.get? b=ba o/\∀v,o.data≠.cell v):Inv X (pins++jM fp s.heap) σ H s:=
 I.pins_of λp hp=>(Ln.mp hp).elim (λz=>I.pin p (Lp _ z)) λz=>by
  obtain⟨hb,e⟩:=wx z;obtain⟨f0,f1,f2,_⟩:=hf p.1 hb;obtain⟨o,e',d⟩:=ho p.1 hb;rw[e]at e'; cases e'
  exact#[e,f0,f1,f2,d]
theorem Inv.unpinned {pins pl:Kr (KF×Mp)}{σ:St}{H:Hp}{s:Kx}(I:Inv X (pins++pl) σ H s):Inv X pins σ H s:=I.pins_of λp hp=>I.pin p (Lp _ (MU _ hp))
theorem EM {iter:Lb}{body:Kr No}{wi:TI}{g:TG}{tb:TS}{pos:M9}(hp:QG (model X.prog X.w) X.A X.env X.xe)(hc:X.calm=true)(hi:PI X tg iter wi)(hg:PG X tg g)(hb:PSs X body tb)
  (hs:∀x,foldedSetIterable iter X.env x=pure x:=by intro _; rfl):PS X (.For tg iter body [] pos) (IY wi g tb):=by
 intro pins s σ H D I h;refine wpAny_For (ce (hi pins s σ H _ I h) λv s1 h1=>ce h1 λitv s2 h2=>?_) hs
 obtain⟨it,fp,tn,J,H2,e,I2,T,aW,f2,W,⟨m0,w0⟩,turn⟩:=h2;subst e;have stat:∀ {H':Hp},(∀b∈fp,H' b=gV)->∀b∈fp,jL X pins H' b:=λhn b hb=>#[hn b hb,(f2 b hb).2]
 refine codeAny_forLoop_any (λn s'=>∃i σ' H',Inv X pins σ' H' s'/\tn i s'.heap/\(∀b∈fp,H' b=gV)/\W i n σ' H') ?_ m0 #[0,σ,H2,I2,aW,λb hb=>(f2 b hb).1,w0]
 rintro n s3 ⟨i,σ3,H3,I3,st3,fr3,w3⟩;rcases turn i n σ3 H3 w3 with⟨stop,qn⟩|⟨go,N,hN,step⟩
 ·refine Ng hp (ce (T.done X rfl rfl rfl hc i pins s3 σ3 H3 X.xe I3 (stat fr3) st3 stop) λr s4 #[hr,I4]=>?_)
  subst hr;exact P4 #[σ3,H3,I4,qn]
 ·refine Ng hp (ce (T.item X rfl rfl rfl hc i pins s3 σ3 H3 X.xe I3 (stat fr3) st3 go) λr s4 #[u,hr,h4]=>?_)
  subst hr;refine Ng hp (ce h4 λ_ s5 #[x,H5,I5,r5,y5,st5,fr5]=>?_)
  have I5':=I5.pinned (stat fr5) (T.obj _ _ st5);refine Ng hp (ce (hg _ s5 σ3 H5 x u _ I5' r5 (step x H5 y5)) λ_ s6 #[σ6,H6,I6,q6]=>?_)
  refine Ng hp (ce (hb _ s6 σ6 H6 _ I6 q6) λf s7 q7=>?_)
  have again:∀ {σ7:St} {H7:Hp},Inv X (pins++jM fp s5.heap) σ7 H7 s7->N σ7 H7->∃m,m < n/\∃i σ' H',Inv X pins σ' H' s7/\tn i s7.heap/\(∀b∈fp,H' b=gV)/\W i m σ' H':=λ{σ7 H7} I7 n7=>by
   obtain⟨m',hm,w7⟩:=hN σ7 H7 n7;refine#[m',hm,i+1,σ7,H7,I7.unpinned,T.keep _ _ _ st5 λb hb o e=>(I7.pin (b,o) (Lp _ (Lp _ (gh hb e)))).1,λb hb=>?_,w7]
   obtain⟨o,e,d⟩:=T.obj _ _ st5 b hb;exact(I7.pin (b,o) (Lp _ (Lp _ (gh hb e)))).2.1
  cases f with
  | next=>obtain⟨σ7,H7,I7,n7⟩:=q7; exact again I7 n7
  | cont=>obtain⟨σ7,H7,I7,n7⟩:=q7; exact again I7 n7
  | brk=>obtain⟨σ7,H7,I7,q7⟩:=q7; exact#[σ7,H7,I7.unpinned,q7]
  | ret v=>obtain⟨x7,σ7,H7,I7,r7,q7⟩:=q7; exact#[x7,σ7,H7,I7.unpinned,r7,q7]
end
theorem for_tup {K:KM}{a:KF}{xs:Kr V}{g:TG}{tb:TS}{D:Ends}{σ:St}{H:Hp}(Pv:KC->St->Hp->Prop)(h0:Pv 0 σ H)(hl:∀i σ H,i<=xs.length->Pv i σ H->SqT K H a xs)
  (hs:∀i x σ H,xs[i]?=ba x->Pv i σ H->g x σ H λσ2 H2=>tb { D with nx:=Pv (i+1),ct:=Pv (i+1),bk:=D.nx } σ2 H2) (hd:∀σ H,Pv xs.length σ H->D.nx σ H) :
  ∃W:KC->KC->St->Hp->Prop,(∃m,W 0 m σ H)/\∀i m σ H,W i m σ H->
   ((Go K a).stop i H/\D.nx σ H)\/((Go K a).go i H/\∃N:St->Hp->Prop,(∀σ' H',N σ' H'->∃m',m' < m/\W (i+1) m' σ' H')/\∀x H',(Go K a).yld i H x H'->g x σ H' λσ2 H2=>tb { D with nx:=N,ct:=N,bk:=D.nx } σ2 H2):=by
 refine#[λi m σ H=>m=xs.length - i/\i<=xs.length/\Pv i σ H,#[xs.length,by simp,Mm _,h0],?_]
 rintro i m σ H ⟨rfl,hi,p⟩;have q:=hl i σ H hi p
 by_cases hlt:i < xs.length
 ·refine .inr #[#[xs,xs[i],q,by simp[hlt]],Pv (i+1),λσ' H' p'=>#[xs.length - (i+1),∅,rfl,hlt,p'],λx H' y=>?_]
  obtain⟨e,y⟩:=y;subst e;exact hs i x σ _ (y xs q) p
 ·have e:i=xs.length:=∅
  subst e;exact .inl #[#[xs,q,KH _],hd σ H p]
noncomputable abbrev R2:=V->V->Hp->VK->Prop
noncomputable def OpR (X:Cx)(f:Ku->Ku->Tz Ku)(r:R2):Prop:=
 ∀(pins:Kr (KF×Mp)) (s:Kx) (σ:St) (H:Hp) (x y:V) (v u:Ku) (Q:VK),Inv X pins σ H s->RelV x v->RelV y u->r x y H Q->
  wpAny (model X.prog X.w) X.A (f v u) (EP X pins σ Q) X.xe s
noncomputable def IZ (X:Cx)(f:Ku->Tz Ku)(r:V->Hp->VK->Prop):Prop:=
 ∀(pins:Kr (KF×Mp)) (s:Kx) (σ:St) (H:Hp) (x:V) (v:Ku) (Q:VK),Inv X pins σ H s->RelV x v->r x H Q->
  wpAny (model X.prog X.w) X.A (f v) (EP X pins σ Q) X.xe s
noncomputable def CallR (X:Cx)(f:Ku)(r:Kr V->Hp->VK->Prop):Prop:=
 ∀(pins:Kr (KF×Mp)) (s:Kx) (σ:St) (H:Hp) (xs:Kr V) (us:Kr Ku) (Q:VK),Inv X pins σ H s->Vals xs us->r xs H Q->
  wpAny (model X.prog X.w) X.A (call f us) (EP X pins σ Q) X.xe s
noncomputable def Ja (X:Cx)(r:V->Hp->(Lf->Hp->Prop)->Prop):Prop:=
 ∀(pins:Kr (KF×Mp)) (s:Kx) (σ:St) (H:Hp) (x:V) (v:Ku) (Q:Lf->Hp->Prop),Inv X pins σ H s->RelV x v->r x H Q->
  wpAny (model X.prog X.w) X.A (truthy v) (TP X pins σ Q) X.xe s
noncomputable def Iz (r:R2)(ta tb:TE):TE:=λσ H Q=>ta σ H λx H1=>tb σ H1 λy H2=>r x y H2 Q
noncomputable def Ke (r:V->Hp->VK->Prop)(ta:TE):TE:=λσ H Q=>ta σ H λx H1=>r x H1 Q
noncomputable def rI (C:KO->KO->Prop)(g:KO->KO->V):R2:=λx y H Q=>∃i j,x=.int i/\y=.int j/\C i j/\Q (g i j) H
noncomputable def DS (g:KO->KO->V):R2:=λx y H Q=>∃i j,x=.int i/\y=.int j/\Q (g i j) H
noncomputable def rU (g:KO->V):V->Hp->VK->Prop:=λx H Q=>∃i,x=.int i/\Q (g i) H
section
variable{X:Cx}{a b c:Lb}{ta tb tc:TE}{pos:M9}
theorem EN (ha:PE X a ta)(hb:PE X b tb){pins:Kr (KF×Mp)}{s:Kx}{σ:St}{H:Hp}{R:V->V->Hp->Prop}(I:Inv X pins σ H s)
  (h:ta σ H λx H1=>tb σ H1 λy H2=>R x y H2) {Q:Ku->Kx->Prop} {f:Ku->Ku->Tz Ku}
  (hf:∀v u s2 x y H2,Inv X pins σ H2 s2->RelV x v->RelV y u->R x y H2->wpAny (model X.prog X.w) X.A (f v u) Q X.xe s2) :
  wpAny (model X.prog X.w) X.A (eval a X.env) (λv s₁=>wpAny (model X.prog X.w) X.A (eval b X.env) (λu s₂=>wpAny (model X.prog X.w) X.A (f v u) Q X.xe s₂) X.xe s₁) X.xe s:=by
 refine ce (ha pins s σ H _ I h) λv s1 #[x,H1,I1,r1,q1]=>?_
 refine ce (hb pins s1 σ H1 _ I1 q1) λu s2 #[y,H2,I2,r2,q2]=>?_
 exact hf v u s2 x y H2 I2 r1 r2 q2
theorem GR {op:Rl}{r:R2}(ho:OpR X (binaryOp op) r)(ha:PE X a ta)(hb:PE X b tb):PE X (.BinOp a op b pos) (Iz r ta tb):=by
 intro pins s σ H Q I h;exact wpAny_BinOp (EN ha hb I h λv u s2 x y H2 I2 rx ry q=>ho pins s2 σ H2 x y v u Q I2 rx ry q)
theorem GU {op:UnaryOp}{r:V->Hp->VK->Prop}(ho:IZ X (unaryOp op) r)(ha:PE X a ta):PE X (.UnaryOp op a pos) (Ke r ta):=by
 intro pins s σ H Q I h;exact UnaryOp_ (ce (ha pins s σ H _ I h) λv s1 #[x,H1,I1,r1,q1]=>ho pins s1 σ H1 x v Q I1 r1 q1)
theorem IA {f:Ku->Ku->Tz Ku}{C:KO->KO->Prop}{g:KO->KO->KO}
  (rule:∀(i j:KO) (t u:UB) (s:Kx) (Q:Ku->Kx->Prop) (E:Ku->Kx->Prop),C i j->Q (.int (g i j) s.toks) { s with toks:=s.toks+1 }->wpAny (model X.prog X.w) X.A (f (.int i t) (.int j u)) Q E s) :
  OpR X f (rI C λi j=>.int (g i j)):=by
 intro pins s σ H x y v u Q I rx ry h;obtain⟨i,j,rfl,rfl,hc,q⟩:=h;obtain⟨t,rfl⟩:=rx;obtain⟨t',rfl⟩:=ry;exact rule i j t t' s _ _ hc #[.int (g i j),H,I.tok _,#[_,rfl],q]
theorem GV {f:Ku->Ku->Tz Ku}{g:KO->KO->KO}
  (rule:∀(i j:KO) (t u:UB) (s:Kx) (Q:Ku->Kx->Prop) (E:Ku->Kx->Prop),Q (.int (g i j) s.toks) { s with toks:=s.toks+1 }->wpAny (model X.prog X.w) X.A (f (.int i t) (.int j u)) Q E s) :
  OpR X f (DS λi j=>.int (g i j)):=by
 intro pins s σ H x y v u Q I rx ry h;obtain⟨i,j,rfl,rfl,q⟩:=h;obtain⟨t,rfl⟩:=rx;obtain⟨t',rfl⟩:=ry;exact rule i j t t' s _ _ #[.int (g i j),H,I.tok _,#[_,rfl],q]
theorem BL {f:Ku->Ku->Tz Ku}{g:KO->KO->Lf}
  (rule:∀(i j:KO) (t u:UB) (s:Kx) (Q:Ku->Kx->Prop) (E:Ku->Kx->Prop),Q (.bool (g i j)) s->wpAny (model X.prog X.w) X.A (f (.int i t) (.int j u)) Q E s) :
  OpR X f (DS λi j=>.bl (g i j)):=by
 intro pins s σ H x y v u Q I rx ry h;obtain⟨i,j,rfl,rfl,q⟩:=h;obtain⟨t,rfl⟩:=rx;obtain⟨t',rfl⟩:=ry;exact rule i j t t' s _ _ #[.bl (g i j),H,I,rfl,q]
noncomputable def Jb (i j:KO):Prop:=0 < j/\j < 1073741824
noncomputable def Jc (i j:KO):Prop:=0<=j/\j<=1000000/\i.natAbs < 2 ^ 64
noncomputable def CMul (i j:KO):Prop:=(-(2 ^ 64) < i/\i < 2 ^ 64)\/(-(2 ^ 64) < j/\j < 2 ^ 64)
theorem CMul.ok {i j:KO}(h:CMul i j):IntMulOk i j:=by
 rcases h with⟨h1,h2⟩|⟨h1,h2⟩
 ·exact .of_left (SK h1 h2)
 ·exact .of_right (SK h1 h2)
theorem EO:OpR X (binaryOp .Add) (DS λi j=>.int (i+j)):=GV λ_ _ _ _ _ _ _ q=>add_int q
theorem EQ:OpR X (binaryOp .Sub) (DS λi j=>.int (i - j)):=GV λ_ _ _ _ _ _ _ q=>sub_int q
theorem ER:OpR X (binaryOp .Mult) (rI CMul λi j=>.int (i*j)):=IA λ_ _ _ _ _ _ _ hc q=>mul_int q hc.ok
theorem BM:OpR X (binaryOp .FloorDiv) (rI Jb λi j=>.int (i / j)):=IA λi j _ _ _ _ _ hc q=>by
 have h1:(0:KO) < j:=hc.1;have h2:j < 1073741824:=hc.2;exact floordiv_int ∅ (by rw[Int.fdiv_eq_ediv_of_nonneg i ∅]; exact q) (.inl (PyProof.noPylong_small ∅))
theorem ES:OpR X (binaryOp .Mod) (rI (λ_ j=>0 < j) λi j=>.int (i % j)):=IA λi j _ _ _ _ _ hc q=>by
 have h1:(0:KO) < j:=hc;exact mod_int' ∅ (by rw[Int.fmod_eq_emod_of_nonneg i ∅]; exact q)
theorem ET:OpR X (binaryOp .Pow) (rI Jc λi j=>.int (i ^ j.toNat)):=IA λ_ _ _ _ _ _ _ hc q=>pow_int_small hc.1 hc.2.1 hc.2.2 q
theorem Kf {f:Ku->Tz Ku}{g:KO->KO}
  (rule:∀(i:KO) (t:UB) (s:Kx) (Q:Ku->Kx->Prop) (E:Ku->Kx->Prop),Q (.int (g i) s.toks) { s with toks:=s.toks+1 }->wpAny (model X.prog X.w) X.A (f (.int i t)) Q E s) :
  IZ X f (rU λi=>.int (g i)):=by
 intro pins s σ H x v Q I rx h;obtain⟨i,rfl,q⟩:=h;obtain⟨t,rfl⟩:=rx;exact rule i t s _ _ #[.int (g i),H,I.tok _,#[_,rfl],q]
theorem EU:IZ X (unaryOp .USub) (rU λi=>.int (-i)):=Kf λ_ _ _ _ _ q=>neg_int q
end
section
variable{X:Cx}{a b c:Lb}{ta tb tc:TE}{pos:M9}
theorem yw {pins:Kr (KF×Mp)}{σ:St}{H:Hp}{s:Kx}{Q:VK}{k k':Lf}(I:Inv X pins σ H s)(q:Q (.bl k) H)(e:k=k'):EP X pins σ Q (.bool k') s:=by
 subst e;exact#[.bl k,H,I,rfl,q]
theorem GX:OpR X (compareOp .Lt) (DS λi j=>.bl (decide (i < j))):=BL λ_ _ _ _ _ _ _ q=>lt_int q
theorem GY:OpR X (compareOp .LtE) (DS λi j=>.bl (decide (i<=j))):=BL λ_ _ _ _ _ _ _ q=>le_int q
theorem GZ:OpR X (compareOp .Gt) (DS λi j=>.bl (decide (j < i))):=BL λ_ _ _ _ _ _ _ q=>gt_int q
theorem G0:OpR X (compareOp .GtE) (DS λi j=>.bl (decide (j<=i))):=BL λ_ _ _ _ _ _ _ q=>ge_int q
theorem EV:OpR X (compareOp .Is) (λx y H Q=>y=.non/\Q (.bl (decide (x=.non))) H):=by
 intro pins s σ H x y v u Q I rx ry h;obtain⟨rfl,q⟩:=h;cases ry;refine is_none_gen (yw I q ?_);cases x <;> first
  | (cases rx; rfl)
  | (obtain⟨t,rfl⟩:=rx; rfl)
theorem BN:OpR X (compareOp .IsNot) (λx y H Q=>y=.non/\Q (.bl (!decide (x=.non))) H):=by
 intro pins s σ H x y v u Q I rx ry h;obtain⟨rfl,q⟩:=h;cases ry;refine isnot_none_gen (yw I q ?_);cases x <;> first
  | (cases rx; rfl)
  | (obtain⟨t,rfl⟩:=rx; rfl)
theorem BO {op:Te}{r:R2}(ho:OpR X (compareOp op) r)(ha:PE X a ta)(hb:PE X b tb)(hm:behindInMarks op b=false):PE X (.Compare a [op] [b] pos) (Iz r ta tb):=by
 intro pins s σ H Q I h;exact wpAny_Compare1 (EN ha hb I h λv u s2 x y H2 I2 rx ry q=>ho pins s2 σ H2 x y v u Q I2 rx ry q) hm
noncomputable def G1 (t:TE):TT:=λσ H Q=>t σ H λx H'=>∃k,x=.bl k/\Q k H'
theorem BP {op:Te}{r:R2}(ho:OpR X (compareOp op) r)(ha:PE X a ta)(hb:PE X b tb)(hm:behindInMarks op b=false):PT X (.Compare a [op] [b] pos) (G1 (Iz r ta tb)):=by
 intro pins s σ H Q I h;refine wpAny_isTrue_Compare1 (ce (ha pins s σ H _ I h) λv s1 #[x,H1,I1,r1,q1]=>ce (hb pins s1 σ H1 _ I1 q1) λu s2 #[y,H2,I2,r2,q2]=>
  ce (ho pins s2 σ H2 x y v u _ I2 r1 r2 q2) λc s3 #[z,H3,I3,r3,k,e,q3]=>?_) hm
 subst e;cases r3;exact M1 #[H3,I3,q3]
noncomputable def Jd (K:KM)(x:V)(H:Hp)(k:Lf):Prop:=
 match x with
 | .non=>k=false
 | .bl b=>k=b
 | .int i=>k=(i != 0)
 | .str y=>y.length<=sizeLine/\k=((y.length:KO) != 0)
 | .byt y=>y.size<=sizeLine/\k=((y.size:KO) != 0)
 | .ref p=>(∃xs,SqL K H p xs/\k = !xs.isEmpty)\/(∃xs,SqT K H p xs/\k = !xs.isEmpty)\/∃kvs,H p=ba (.dK kvs)/\k = !kvs.isEmpty
 | _=>L7
theorem tV {κ:Type}{kvs:Kr (κ×V)}{vs:Kr (κ×Ku)}(r:KV kvs vs):(!vs.isEmpty) = !kvs.isEmpty:=by
 cases r <;> rfl
theorem lP {xs:Kr V}{its:Kr Ku}(r:Vals xs its):(!its.toArray.isEmpty) = !xs.isEmpty:=by
 cases r <;> simp
theorem jN:(sizeLine:KC) < 2 ^ 63:=by rw[LD]; decide
theorem EW:Ja X (λx H Q=>∃k,Jd X.K x H k/\Q k H):=by
 intro pins s σ H x v Q I rx h;obtain⟨k,e,q⟩:=h;have hl:=jN;have hs:sizeLine=16777216:=LD;cases x with
 | non=>
  cases rx;have e':k=false:=e;subst e';exact truthy_none #[H,I,q]
 | bl b=>
  cases rx;have e':k=b:=e;subst e';exact M1 #[H,I,q]
 | int i=>
  obtain⟨t,rfl⟩:=rx;have e':k=(i != 0):=e;subst e';exact PySem.P.truthy_int #[H,I,q]
 | str y=>
  obtain⟨t,rfl⟩:=rx;obtain⟨hy,e'⟩ : y.length<=sizeLine/\k=((y.length:KO) != 0):=e;subst e';exact PySem.P.truthy_str ∅ #[H,I.tok _,q]
 | byt y=>
  obtain⟨t,rfl⟩:=rx;obtain⟨hy,e'⟩ : y.size<=sizeLine/\k=((y.size:KO) != 0):=e;subst e';exact PySem.W.truthy_bytes ∅ #[H,I.tok _,q]
 | ref p=>
  cases rx;have e':(∃xs,SqL X.K H p xs/\k = !xs.isEmpty)\/(∃xs,SqT X.K H p xs/\k = !xs.isEmpty)\/∃kvs,H p=ba (.dK kvs)/\k = !kvs.isEmpty:=e;rcases e' with⟨xs,hx,e'⟩|⟨xs,hx,e'⟩|⟨kvs,hx,e'⟩
  ·subst e';obtain⟨its,r,pl,hz⟩:=I.list hx;have hlen:=r.length;exact wpAny_truthy_list pl.isList (by simp only[KR]; omega) #[H,I.tok _,by rw[lP r]; exact q]
  ·subst e';obtain⟨its,r,pl,hz⟩:=I.tuple hx;have hlen:=r.length;exact truthy_tuple pl (by simp only[KR]; omega) #[H,I.tok _,by rw[lP r]; exact q]
  ·subst e';obtain⟨hz,hS,vs,r,m⟩ : kvs.length<=sizeLine/\(p==sysModules)=false/\∃vs,KV kvs vs/\s.heap.DictOf (pJ X.prog X.w) p vs:=I.hok p _ hx;have hlen:kvs.length=vs.length:=Pw r;exact wpAny_truthy_dict hS m ∅ #[H,I.tok _,by rw[tV r]; exact q]
 | _=>exact(show L7 from e).elim
theorem tW:OpR X (binaryOp .Add) (λx y H Q=>∃i j,x=.str i/\y=.str j/\i.length+j.length<=sizeLine/\Q (.str (i++j)) H):=by
 intro pins s σ H x y v u Q I rx ry h;obtain⟨i,j,rfl,rfl,hz,q⟩:=h;obtain⟨t,rfl⟩:=rx;obtain⟨t',rfl⟩:=ry;exact add_str (λt' tk=>#[.str (i++j),H,I.tok _,#[_,rfl],q]) hz
theorem oA {x:V}{us:Kr Ku}(r:Vals [x] us):∃u,us=[u]/\RelV x u:=by
 cases r with
 | cons r1 r2=>cases r2; exact#[_,rfl,r1]
theorem oB:CallR X (.type "int") (λxs H Q=>(∃i,xs=[.int i]/\Q (.int i) H)\/∃k,xs=[.bl k]/\Q (.int (if k then 1 else 0)) H):=by
 intro pins s σ H xs us Q I r h;rcases h with⟨i,rfl,q⟩|⟨k,rfl,q⟩
 ·obtain⟨u,rfl,t,rfl⟩:=oA r;exact call_int_int #[.int i,H,I,#[_,rfl],q]
 ·obtain⟨u,rfl,r1⟩:=oA r;cases r1;exact call_int_bool #[.int (if k then 1 else 0),H,I.tok _,#[_,rfl],q]
noncomputable def Je (K:KM)(x:V)(H:Hp)(n:KC):Prop:=
 match x with
 | .str y=>y.length<=sizeLine/\n=y.length
 | .byt y=>y.size<=sizeLine/\n=y.size
 | .ref p=>(∃xs,SqL K H p xs/\n=xs.length)\/∃xs,SqT K H p xs/\n=xs.length
 | _=>L7
theorem lQ:CallR X (.builtin "len") (λxs H Q=>∃x n,xs=[x]/\Je X.K x H n/\Q (.int n) H):=by
 intro pins s σ H xs us Q I r h;obtain⟨x,n,rfl,e,q⟩:=h;obtain⟨u,rfl,rx⟩:=oA r;have hl:=jN;have hs:sizeLine=16777216:=LD;cases x with
 | str y=>
  obtain⟨t,rfl⟩:=rx;obtain⟨hy,e'⟩ : y.length<=sizeLine/\n=y.length:=e;subst e';exact len_str ∅ #[.int _,H,I.tok _,#[_,rfl],q]
 | byt y=>
  obtain⟨t,rfl⟩:=rx;obtain⟨hy,e'⟩ : y.size<=sizeLine/\n=y.size:=e;subst e';exact PySem.W.len_bytes ∅ #[.int _,H,I.tok _,#[_,rfl],q]
 | ref p=>
  cases rx;have e':(∃xs,SqL X.K H p xs/\n=xs.length)\/∃xs,SqT X.K H p xs/\n=xs.length:=e;rcases e' with⟨xs,hx,e'⟩|⟨xs,hx,e'⟩
  ·subst e';obtain⟨its,r',pl,hz⟩:=I.list hx;have hlen:=r'.length;exact Calls.call_len_list pl.isList (by simp only[KR]; omega) #[.int xs.length,H,I.tok _,#[_,by simp only[KR]; rw[hlen]],q]
  ·subst e';obtain⟨its,r',pl,hz⟩:=I.tuple hx;have hlen:=r'.length;exact len_tuple pl (by simp only[KR]; omega) #[.int xs.length,H,I.tok _,#[_,by simp only[KR]; rw[hlen]],q]
 | _=>exact(show L7 from e).elim
end
structure Room (k:KC)(A:Lr):Prop where
 hd:A.handled=gV
 dp:A.depth+3*k+5 < recursionLimit
 un:A.units+16*k+200 < cLine
theorem Room.deeper {k:KC}{A:Lr}(r:Room (k+1) A)(env:Ri):Room k (A.deeper env):=
 #[r.hd,by have:=r.dp; show A.depth+1+3*k+5 < _; omega,by have:=r.un; show A.units+3+16*k+200 < _; omega]
theorem Room.depth {k:KC}{A:Lr}(r:Room k A):A.depth < recursionLimit:=by have:=r.dp; omega
noncomputable def G2:TA:=λ_ H Q=>Q [] H
noncomputable def G3 (ta:TE)(tr:TA):TA:=λσ H Q=>ta σ H λx H1=>tr σ H1 λxs H2=>Q (x::xs) H2
section
variable{X:Cx}{e:Lb}{es:Kr Lb}{te:TE}{t:TA}{pos:M9}
theorem yy:PA X [] G2:=λ_ _ _ _ H Q I h=>Calls.spliced_nil #[[],H,I,.nil,h]
theorem pL (ha:PE X e te)(hr:PA X es t)(hs:starEach (e::es) X.env=(false,eval e X.env)::starEach es X.env:=by rfl):PA X (e::es) (G3 te t):=by
 intro pos pins s σ H Q I h;rw[hs];show wpAny _ _ (spliced ((false,eval e X.env)::backTo pos (starEach es X.env))) _ _ s;refine Calls.spliced_cons (ce (ha pins s σ H _ I h) λu s1 #[x,H1,I1,r1,q1]=>?_)
 exact ce (hr pos pins s1 σ H1 _ I1 q1) λus s2 #[xs,H2,I2,r2,q2]=>#[x::xs,H2,I2,.cons r1 r2,q2]
noncomputable def Jf (t:TA):TE:=λσ H Q=>t σ H λxs H1=>xs.length<=sizeLine/\∀p,H1 p=gV->Q (.ref p) (cv H1 p (.tup xs))
noncomputable def Jg (t:TA):TE:=λσ H Q=>t σ H λxs H1=>xs.length<=sizeLine/\∀p,H1 p=gV->Q (.ref p) (cv H1 p (.lst xs))
theorem EX {x1}(h:PA X es t):PE X (.Tuple es x1 pos) (Jf t):=by
 intro pins s σ H Q I hq;refine wpAny_Tuple_spliced (ce (h pos pins s σ H _ I hq) λus s1 #[xs,H1,I1,r,z,q]=>#[by rw[<- r.length]; exact z,?_])
 have hf:H1 s1.heap.objs.size=gV:=I1.hok.fresh (KH _);refine#[.ref s1.heap.objs.size,cv H1 s1.heap.objs.size (.tup xs),I1.laid (t':=s1.toks) (λb u e=>Kw _ e) (KH _) ?_,rfl,q _ hf]
 exact#[z,us,r,#[_,KT _ rfl,rfl,_,rfl]]
theorem EY (h:PA X es t):PE X (.List es pos) (Jg t):=by
 intro pins s σ H Q I hq;refine wpAny_List_spliced (ce (h pos pins s σ H _ I hq) λus s1 #[xs,H1,I1,r,z,q]=>#[by rw[<- r.length]; exact z,?_])
 have hf:H1 s1.heap.objs.size=gV:=I1.hok.fresh (KH _);refine#[.ref s1.heap.objs.size,cv H1 s1.heap.objs.size (.lst xs),I1.laid (t':=s1.toks) (λb u e=>Kw _ e) (KH _) ?_,rfl,q _ hf]
 exact#[z,us,0,r,KT _ rfl]
end
noncomputable abbrev Sp:=Kr V->Hp->VK->XK->Prop
noncomputable abbrev yz:=Kr Ri->Hp->Kx->XK->Ku->Kx->Prop
structure Env0 (P:Lk)(w:Lz)(K:KM)(mg:KZ->Kz Ku)(base:LI)(A:Lr)(outer:Kr Ri)(s:Kx)(H:Hp):Prop where
 frames:A.frames=ba outer
 mod:Mod K mg base
 bs:∀b o,base.get? b=ba o->s.heap.get? b=ba o/\H b=gV
 bsz:base.objs.size<=s.heap.objs.size
 funs:s.heap.FunFrames base outer
 frf:∀b∈tQ outer,H b=gV
 hok:HOk P w H s.heap
 bare:Pl s.gens
noncomputable def CE (outer:Kr Ri)(P:Lk)(w:Lz)(H:Hp)(s:Kx)(Q:VK)(u:Ku)(s':Kx):Prop:=
 ∃v H',s'.os=s.os/\Pl s'.gens/\Un (tQ outer) [] H H' s.heap s'.heap/\HOk P w H' s'.heap/\RelV v u/\Q v H'
noncomputable def CR (CX:yz)(outer:Kr Ri)(P:Lk)(w:Lz)(H:Hp)(s:Kx)(Q:VK)(E:XK)(r:RJ)(s':Kx):Prop:=
 match r with
 | .ok (.ret u)=>CE outer P w H s Q u s'
 | .ok _=>L7
 | .error e=>CX outer H s E e s'
structure FnOk (P:Lk)(w:Lz)(K:KM)(mg:KZ->Kz Ku)(base:LI)(CX:yz)(k:KC)(f:KF)(fd:Na)(ps:Kr KZ)(sp:Sp):Prop where
 len:∀vs H Q E,sp vs H Q E->vs.length=ps.length
 run:∀(A:Lr) (outer:Kr Ri) (s:Kx) (H:Hp) (args:Args) (us:Kr Ku) (vs:Kr V) (Q:VK) (E:XK),Room k A->Env0 P w K mg base A outer s H->Rm s fd args (ps.zip us)->Vals vs us->sp vs H Q E->
  codeAny (model P w) A (.call (.ref f) args) (CR CX outer P w H s Q E) s
section
variable{X:Cx}{pins:Kr (KF×Mp)}{σ:St}{H:Hp}{s s':Kx}
theorem Inv.env0 (I:Inv X pins σ H s):Env0 X.prog X.w X.K X.mg X.base X.A X.stack s H:=
 #[I.ok.frames,I.ok.mod,I.bs,KQ I.ok.bsz I.sz,I.stack,I.stkFree,I.hok,I.bare]
theorem Inv.after {Q:VK}{u:Ku}(I:Inv X pins σ H s)(h:CE X.stack X.prog X.w H s Q u s'):EP X pins σ Q u s':=by
 obtain⟨v,H',os,bare,un,hok,r,q⟩:=h;obtain⟨hh,g,d,t,os'⟩:=s';obtain rfl:os'=s.os:=os;exact#[v,H',I.call (h':=hh) (g':=g) (d':=d) (t':=t) (ch:=[]) un hok bare (λb z=>absurd z (by simp)),r,q]
end
noncomputable def yA (sp:Sp)(dvs:Kr V)(E:XK)(t:TA):TE:=λσ H Q=>t σ H λvs H1=>sp (vs++dvs) H1 Q E
noncomputable def Binds (K:KM)(fd:Na)(ps:Kr KZ)(ds:Kr Ku):Prop:=
 ∀(s:Kx) (us:Kr Ku),K.In s.heap->(us++ds).length=ps.length->Rm s fd #[us,[]] (ps.zip (us++ds))
theorem Binds.all {K:KM}{fd:Na}{ps:Kr KZ}(h:∀us:Kr Ku,us.length=ps.length->bindArgs fd #[us,[]]=pure (ps.zip us)):Binds K fd ps []:=λs us _ hl=>by
 rw[Mf]at hl ⊢;exact .of_eq (h us hl)
noncomputable def pM (CX:yz)(X:Cx)(E:XK):Prop:=∀(pins:Kr (KF×Mp)) (σ:St) (H:Hp) (s:Kx) (e:Ku) (s':Kx),Inv X pins σ H s->CX X.stack H s E e s'->X.xe e s'
section
variable{X:Cx}{CX:yz}{k:KC}{f C:KF}{fd:Na}{ps:Kr KZ}{sp:Sp}{dvs:Kr V}{ds:Kr Ku}{E:XK}{x m:KZ}{p pos apos:M9}{e o:Lb}{es:Kr Lb}{ta:TE}{t:TA}
theorem yB {pins:Kr (KF×Mp)}{σ:St}{H:Hp}{s:Kx}{Q:VK}{us:Kr Ku}{vs:Kr V}(F:FnOk X.prog X.w X.K X.mg X.base CX k f fd ps sp)(hr:Room k X.A)(hb:Binds X.K fd ps ds)(hd:Vals dvs ds)(hx:pM CX X E)
  (I:Inv X pins σ H s) (r:Vals vs us) (h:sp (vs++dvs) H Q E):wpAny (model X.prog X.w) X.A (call (.ref f) us) (EP X pins σ Q) X.xe s:=by
 have r2:Vals (vs++dvs) (us++ds):=r.append hd;have hl:(us++ds).length=ps.length:=by rw[<- r2.length]; exact F.len _ _ _ _ h
 refine wpAny_call (Ol (F.run X.A X.stack s H #[us,[]] (us++ds) (vs++dvs) Q E hr I.env0 (hb s us I.kIn hl) r2 h) λr s' hq=>?_)
 cases r with
 | error e=>exact hx pins σ H s e s' I hq
 | ok fl=>
  cases fl with
  | ret u=>exact I.after hq
  | next=>exact L7.elim hq
  | brk=>exact L7.elim hq
  | cont=>exact L7.elim hq
theorem BQ (F:FnOk X.prog X.w X.K X.mg X.base CX k f fd ps sp)(hr:Room k X.A)(hg:Gl X x)(hm:X.mg x=ba (.ref f))(hk:Mn X.K (.ref f)=true)(hb:Binds X.K fd ps ds)(hd:Vals dvs ds)(hx:pM CX X E)
  (ha:PA X (e::es) t) (hdb:(x==("__debug__" : KZ))=false:=by decide) (he:starEach (e::es) X.env=(false,eval e X.env)::starEach es X.env:=by rfl) (hpl:(backTo pos (starEach es X.env)).any (·.1)=false:=by rfl) :
  PE X (.Call (.Name x p) (e::es) [] pos) (yA sp dvs E t):=by
 intro pins s σ H Q I h;refine Ob (uX I hg hm ?_ hdb);refine PySem.W.callWith_K (h₀:=X.base) I.ok.mod.kin hk (ce (ha pos pins s σ H _ I h) λus s1 #[vs,H1,I1,r,q]=>#[I1.kIn,?_]) he hpl
 exact yB F hr hb hd hx I1 r q
theorem yC (F:FnOk X.prog X.w X.K X.mg X.base CX k f fd ps sp)(hr:Room k X.A)(hg:Gl X x)(hm:X.mg x=ba (.ref f))(hk:Mn X.K (.ref f)=true)(hb:Binds X.K fd ps ds)(hd:Vals dvs ds)(hx:pM CX X E)
  (hdb:(x==("__debug__" : KZ))=false:=by decide):PE X (.Call (.Name x p) [] [] pos) (yA sp dvs E G2):=by
 intro pins s σ H Q I h;refine Ob (uX I hg hm ?_ hdb);exact PySem.W.callWith_K0 I.kIn hk (yB (us:=[]) F hr hb hd hx I .nil h)
end
structure FnScope (N P:Kr KZ)(sc:NJ):Prop where
 kind:sc.kind=.function
 co:sc.isCoroutine=false
 gen:sc.isGenerator=false
 nd:N.Nodup
 pre:N.take P.length=P
 par:∀x∈P,sc.names.lookup x=ba .local\/sc.names.lookup x=ba .cell
 nofree:∀y∈sc.names,y.2≠.free
theorem oE {kindOf:KZ->Kz MC}{x:KZ}:∀ {binds:Kr (KZ×Ku)} {m:KZ->Kz Ku},(∀v,(x,v)∉binds)->bindL kindOf binds m x=m x
 | [],_,_=>rfl
 | (n,v)::r,m,h=>by
  unfold bindL;rw[oE λw hw=>h w (LZ _ hw)]
  split
  ·have:x≠n:=by rintro rfl; exact h v L3
   simp[this]
  ·rfl
theorem oF {kindOf:KZ->Kz MC}{x:KZ}:∀ {binds:Kr (KZ×Ku)} {m:KZ->Kz Ku},(∀v,(x,v)∉binds)->bindC kindOf binds m x=m x
 | [],_,_=>rfl
 | (n,v)::r,m,h=>by
  unfold bindC;rw[oF λw hw=>h w (LZ _ hw)]
  split
  ·rfl
  ·have:x≠n:=by rintro rfl; exact h v L3
   simp[this]
theorem oG {kindOf:KZ->Kz MC}{x:KZ}{v:Ku}:∀ {P:Kr KZ} {vs:Kr Ku} {i:KC} {m:KZ->Kz Ku},P.Nodup->P[i]?=ba x->vs[i]?=ba v->kindOf x=ba .local->
  bindL kindOf (P.zip vs) m x=ba v
 | [],_,_,_,_,h,_,_=>by simp at h
 | _::_,[],_,_,_,_,h,_=>by simp at h
 | p::P,w::vs,0,m,nd,h1,h2,hk=>by
  simp at h1 h2; subst h1; subst h2
  show bindL kindOf ((p,w)::P.zip vs) m p=_;unfold bindL;rw[oE λv hv=>(Nh.mp nd).1 (P5 hv).1,La hk]
  simp
 | p::P,w::vs,i+1,m,nd,h1,h2,hk=>by
  show bindL kindOf ((p,w)::P.zip vs) m x=_;unfold bindL;exact oG (i:=i) (Nh.mp nd).2 (by simpa using h1) (by simpa using h2) hk
theorem oH {kindOf:KZ->Kz MC}{x:KZ}{v:Ku}:∀ {P:Kr KZ} {vs:Kr Ku} {i:KC} {m:KZ->Kz Ku},P.Nodup->P[i]?=ba x->vs[i]?=ba v->kindOf x≠ba .local->
  bindC kindOf (P.zip vs) m x=ba v
 | [],_,_,_,_,h,_,_=>by simp at h
 | _::_,[],_,_,_,_,h,_=>by simp at h
 | p::P,w::vs,0,m,nd,h1,h2,hk=>by
  simp at h1 h2; subst h1; subst h2
  show bindC kindOf ((p,w)::P.zip vs) m p=_;unfold bindC;rw[oF λv hv=>(Nh.mp nd).1 (P5 hv).1,Li hk]
  simp
 | p::P,w::vs,i+1,m,nd,h1,h2,hk=>by
  show bindC kindOf ((p,w)::P.zip vs) m x=_;unfold bindC;exact oH (i:=i) (Nh.mp nd).2 (by simpa using h1) (by simpa using h2) hk
noncomputable def gH (N:Kr KZ)(vs:Kr V):St:=vs.map ba++Lo (N.length - vs.length) gV
noncomputable def tX (CX:yz)(P:Lk)(w:Lz)(K:KM)(mg:KZ->Kz Ku)(base:LI)(N:Kr KZ)(qual:KZ)(scope:NJ)(f:KF)(cd:Ku)(A:Lr)(outer:Kr Ri)(s:Kx)(H:Hp)(E:XK):Cx where
 prog:=P
 w:=w
 K:=K
 mg:=mg
 base:=base
 A:=A.deeper (envOfC qual scope s.heap.objs.size f cd)
 N:=N
 s₀:=s
 H₀:=H
 env:=envOfC qual scope s.heap.objs.size f cd
 outer:=outer
 stack:=envOfC qual scope s.heap.objs.size f cd::outer
 ex:=[]
 calm:=true
 fn:=λ_=>true
 pn:=[]
 xe:=λe s'=>wpAny (model P w) (A.deeper (envOfC qual scope s.heap.objs.size f cd)) (leaving (envOfC qual scope s.heap.objs.size f cd) e) (λ_ s''=>CX outer H s E e s'') (λe' s''=>CX outer H s E e' s'') s'
theorem rm {sc:NJ}{n:KC}{x:KZ}(h:sc.names.lookup x=ba .cell):∃c,(cellsFrom n sc.names []).lookup x=ba c:=by
 have q:=PX sc.names n [] (.inl h);exact LM.mp q
theorem wy {CX:yz}{P:Lk}{w:Lz}{K:KM}{mg:KZ->Kz Ku}{base:LI}{N ps:Kr KZ}{qual:KZ}{scope:NJ}{f:KF}{cd:Ku}{A:Lr}{outer:Kr Ri}{s s1:Kx}{H:Hp}{E:XK}{us:Kr Ku}{vs:Kr V}
  (S:FnScope N ps scope) (hd:A.handled=gV) (e0:Env0 P w K mg base A outer s H) (hl:vs.length=ps.length) (r:Vals vs us)
  (x:InCallC s s.heap.objs.size (bindL (envOfC qual scope s.heap.objs.size f cd).kindOf (ps.zip us) λ_=>gV) (cellsFrom (s.heap.objs.size+1) scope.names []) (bindC (envOfC qual scope s.heap.objs.size f cd).kindOf (ps.zip us) λ_=>gV) s1) :
  Inv (tX CX P w K mg base N qual scope f cd A outer s H E) [] (gH N vs) H s1:=by
 have hpl:ps.length<=N.length:=by have:=congrArg TC S.pre; rw[Ly]at this; omega
 obtain⟨h1,tk,rfl,hk⟩:=x.done;have noA:∀b:KF,b∉(tX CX P w K mg base N qual scope f cd A outer s H E).ex:=λb z=>absurd (show b∈([]:Kr KF)from z) (by simp)
 refine#[#[e0.mod,S.kind,rfl,rfl,KH _,λy z c h1 h2=>?_,λy hy=>?_,λy c _ h=>?_,λ_=>hd,Around.frames_deeper e0.frames,.inr #[rfl,rfl],λb z=>absurd z (noA b),e0.bs,e0.bsz,λb _ _=>noA b,λb z=>absurd z (noA b),e0.funs,e0.frf],
  rfl,e0.bare,Un.kept hk,#[_,x.toInCall.ns,λi y v h1 h2 h3=>?_],λy c h=>#[_,x.cell y c h],e0.hok.fresh (KH _),λy c h=>?_,λp hp=>absurd (show p∈([]:Kr (KF×Mp))from hp) (by simp),e0.hok.kept hk,?_]
 ·exact name_of_addr x.apart (Nt h1) (Nt h2)
 ·have hy:scope.names.lookup y=ba .cell\/scope.names.lookup y=ba .free:=hy;rcases hy with hy|hy
  ·exact rm hy
  ·exact absurd rfl (S.nofree _ (Nt hy))
 ·exact MF (x.above y c (Nt h))
 ·have hi:i < vs.length:=by
   unfold gH at h2
   by_cases hi:i < vs.length
   ·exact hi
   ·rw[MG (by simpa using hi)]at h2
    rw[List.getElem?_replicate]at h2;split at h2 <;> cases h2
  have ha:vs[i]?=ba v:=by
   unfold gH at h2;rw[LF (by simpa using hi),KD]at h2
   cases e:vs[i]? with
   | none=>rw[e]at h2; cases h2
   | some a=>rw[e]at h2; cases h2; rfl
  obtain⟨u,hu,rv⟩:=r.get ha;have hp:ps[i]?=ba y:=by
   rw[<- S.pre,Px ∅]; exact h1
  have ndP:ps.Nodup:=by rw[<- S.pre]; exact S.nd.sublist (List.take_sublist _ _)
  refine#[u,rv,?_];rcases S.par y (KY hp)with k|k
  ·exact .inl #[k,oG ndP hp hu k]
  ·obtain⟨c,e⟩:=rm (n:=s.heap.objs.size+1) k;refine .inr #[.inl k,c,e,?_];have q:=x.cell y c e;rw[oH ndP hp hu (by show scope.names.lookup y≠_; rw[k]; decide)]at q
   exact q
 ·exact e0.hok.fresh (MF (x.above y c (Nt h)))
 ·unfold gH;show _=N.length;rw[KG,Kt,Oy];omega
theorem G4 {CX:yz}{P:Lk}{w:Lz}{K:KM}{mg:KZ->Kz Ku}{base:LI}{k:KC}{f:KF}{name qual:KZ}{params:Arguments}{body:Kr No}{scope:NJ}{dV kV doc pm cdv ct oc:Ku}{an od:Kz KF}
  {osl:Lg (Kz Ku)} {N ps:Kr KZ} {sp:Sp} (lk:K.lookup f=ba #[oc,od,.func (MS name qual params body scope dV kV doc pm an cdv ct),osl]) (hcd:NO K cdv qual=true) (S:FnScope N ps scope)
  (len:∀vs H Q E,sp vs H Q E->vs.length=ps.length)
  (hbody:∀(A:Lr) (outer:Kr Ri) (s:Kx) (H:Hp) (vs:Kr V) (Q:VK) (E:XK),Room k (A.deeper (envOfC qual scope s.heap.objs.size f cdv))->sp vs H Q E->
   ∃t,PSs (tX CX P w K mg base N qual scope f cdv A outer s H E) body t/\t { nx:=λ_ H'=>Q .non H',rt:=Q } (gH N vs) H) :
  FnOk P w K mg base CX (k+1) f (MS name qual params body scope dV kV doc pm an cdv ct) ps sp:=by
 refine#[len,λA outer s H args us vs Q E hr e0 hb r hsp=>?_]
 have hl:=len _ _ _ _ hsp;have KX:K.In s.heap:=e0.mod.kin.keeps λb o e=>(e0.bs b o e).1
 have lim:s.heap.NoLimit:=e0.mod.nolimit.keeps λb o e=>(e0.bs b o e).1
 have hkind:∀y∈ps.zip us,scope.names.lookup y.1=ba .local\/(scope.names.lookup y.1=ba .cell/\((cellsFrom (s.heap.objs.size+1) scope.names []).lookup y.1).isSome=true):=λ#[n,v] hy=>by
  rcases S.par n (P5 hy).1 with q|q
  ·exact .inl q
  ·exact .inr #[q,PX _ _ _ (.inl q)]
 refine codeAny_call_function hr.depth (KX _ _ lk) rfl S.co S.gen rfl (PySem.W.codeRec_of KX hcd) (hb _ _ _ _ ?_);refine wpAny_newFunctionEnv_cells S.kind hkind λenv he s1 x=>?_
 subst he;refine#[lim.keeps x.toInCall.keep,codeAny_func ?_];obtain⟨t,ht,hq⟩:=hbody A outer s H vs Q E (hr.deeper _) hsp;have I:Inv (tX CX P w K mg base N qual scope f cdv A outer s H E) [] (gH N vs) H s1:=wy S hr.hd e0 hl r x;refine Mz (ht [] s1 (gH N vs) H _ I hq) (λfl s' hs=>?_) λe s' hs=>hs
 have fin:∀ {σ':St} {H':Hp} {v:V} {u:Ku},Inv (tX CX P w K mg base N qual scope f cdv A outer s H E) [] σ' H' s'->RelV v u->Q v H'->CE outer P w H s Q u s':=
  λ{σ' H' v u} J rv q=>#[v,H',J.os,J.bare,J.base,J.hok,rv,q]
 cases fl with
 | ret u=>
  obtain⟨v,σ',H',J,rv,q⟩:=hs;exact fin J rv q
 | next=>
  obtain⟨σ',H',J,q⟩:=hs;exact fin (v:=V.non) (u:=LG) J rfl q
 | brk=>
  obtain⟨_,_,_,q⟩:=hs;exact L7.elim q
 | cont=>
  obtain⟨_,_,_,q⟩:=hs;exact L7.elim q
section
variable{X:Cx}{x:KZ}{p pos:M9}{e:Lb}{es:Kr Lb}{t:TA}{id T:L8}{r:Kr V->Hp->VK->Prop}
noncomputable def J5 (r:Kr V->Hp->VK->Prop)(t:TA):TE:=λσ H Q=>t σ H λvs H1=>r vs H1 Q
theorem rn (hc:CallR X (.builtin id) r)(hg:Gl X x)(hm:X.mg x=gV)(hv:bootBuiltins x=ba (.builtin id))(ha:PA X (e::es) t)(hn:x≠"__name__":=by decide)(hdb:(x==("__debug__" : KZ))=false:=by decide)
  (he:starEach (e::es) X.env=(false,eval e X.env)::starEach es X.env:=by rfl) (hpl:(backTo pos (starEach es X.env)).any (·.1)=false:=by rfl):PE X (.Call (.Name x p) (e::es) [] pos) (J5 r t):=by
 intro pins s σ H Q I h;refine Ob (jK I hg hm hv ?_ hn hdb);exact RK (ce (ha pos pins s σ H _ I h) λus s1 #[vs,H1,I1,r1,q1]=>hc pins s1 σ H1 vs us Q I1 r1 q1) he hpl
theorem wz (hc:CallR X (.type T) r)(hg:Gl X x)(hm:X.mg x=gV)(hv:bootBuiltins x=ba (.type T))(ha:PA X (e::es) t)(hn:x≠"__name__":=by decide)(hdb:(x==("__debug__" : KZ))=false:=by decide)
  (he:starEach (e::es) X.env=(false,eval e X.env)::starEach es X.env:=by rfl) (hpl:(backTo pos (starEach es X.env)).any (·.1)=false:=by rfl):PE X (.Call (.Name x p) (e::es) [] pos) (J5 r t):=by
 intro pins s σ H Q I h;refine Ob (jK I hg hm hv ?_ hn hdb);exact M5 (ce (ha pos pins s σ H _ I h) λus s1 #[vs,H1,I1,r1,q1]=>hc pins s1 σ H1 vs us Q I1 r1 q1) he hpl
end
end L2
namespace HT
open PySem PyProof.Rows
section
open PySem.SeqAt
open PySem.AutoSeq1 (wpAny_loadPart')
open PySem.MeetsSeq PySem.MeetsSeq2 PySem.MeetsSeq3
end
section
variable{prog:Lk}{w:Lz}{A:Lr}{E:Ku->Kx->Prop}{s:Kx}
theorem BR {t b:KF}{vs ws:Kr Ku}{Q:Ku->Kx->Prop}(ht:Rh s.heap t vs.toArray)(hb:Rh s.heap b ws.toArray)(hv:vs≠[])
  (h1:ws=[]->Q (.ref t) s) (h2:ws≠[]->Q (.ref s.heap.objs.size) { s with heap:=s.heap.push { cls:=.type "tuple",data:=.seq (vs++ws).toArray } })
  (hsz:vs.length+ws.length<=sizeLine):wpAny (model prog w) A (binaryOp .Add (.ref t) (.ref b)) Q E s:=by
 obtain⟨⟨cls,dd,data,sl⟩,ho,hc,n,hd⟩:=id ht;obtain⟨⟨cls2,dd2,data2,sl2⟩,ho2,hc2,n2,hd2⟩:=id hb;simp only at hc hd hc2 hd2;subst hc hd hc2 hd2;have e:vs.toArray++ws.toArray=(vs++ws).toArray:=by simp
 by_cases hw:ws=[]
 ·exact Rn #[_,ho,rfl] #[_,ho2,rfl] PH QP Om Of (N4 _ _)
   (tuple_addW1 t b vs.toArray ws.toArray n n2 dd dd2 sl sl2 (by simpa using hv) (by simp[hw])) #[ho,ho2,h1 hw]
 ·refine Rn #[_,ho,rfl] #[_,ho2,rfl] PH QP Om Of (N4 _ _)
   (tuple_addW2 t b vs.toArray ws.toArray n n2 dd dd2 sl sl2 (by simpa using hv) (by simpa using hw) (by rw[KR,KR]; exact hsz)) #[ho,ho2,?_]
  rw[e];exact h2 hw
noncomputable def c9 (n d:KC):Kz KO->KC
 | none=>d
 | some v=>if v < 0 then(v+(n:KO)).toNat else min v.toNat n
theorem lR (n d:KC):c9 n d gV=d:=rfl
theorem u4 (n d k:KC):c9 n d (ba (k:KO))=min k n:=by
 show(if (k:KO) < 0 then((k:KO)+(n:KO)).toNat else min (k:KO).toNat n)=min k n
 rw[Li ∅,KN]
theorem EZ (n d:KC)(hd:d<=n)(o:Kz KO):c9 n d o<=n:=by
 cases o with
 | none=>exact hd
 | some v=>
  show(if v < 0 then(v+(n:KO)).toNat else min v.toNat n)<=n
  by_cases hv:v < 0
  ·rw[La hv]; omega
  ·rw[Li hv]; exact Nat.min_le_right _ _
theorem u5 (v:KO)(n d:KC):(if v < 0 then max (v+(n:KO)) 0 else min v (n:KO))=((c9 n d (ba v):KC):KO):=by
 show(if v < 0 then max (v+(n:KO)) 0 else min v (n:KO))=(((if v < 0 then(v+(n:KO)).toNat else min v.toNat n):KC):KO)
 by_cases hv:v < 0
 ·simp only[La hv]; omega
 ·simp only[Li hv]; omega
theorem tY (lo hi:Kz KO)(n:KC):NX lo hi 1 (n:KO)=(((c9 n 0 lo:KC):KO),((c9 n n hi:KC):KO)):=by
 have h1:¬ ((1:KO) < 0):=∅
 unfold NX;simp only[h1,L4];refine Uu ?_ ?_
 ·cases lo with
  | none=>rfl
  | some v=>exact u5 v n 0
 ·cases hi with
  | none=>rfl
  | some v=>exact u5 v n n
theorem tZ (i j:KC):Nf (i:KO) (j:KO) 1=j - i:=by
 unfold Nf;have h1:(1:KO) > 0:=∅
 simp only[h1,Mt,Int.ediv_one];split <;> omega
theorem lS {v:Ku}{o:Kz KO}{Q:Kz KO->Kx->Prop}(p:O2 v o)(h:Q o s):wpAny (model prog w) A (R5 v) Q E s:=by
 cases p with
 | none=>exact Sk h
 | int i t=>exact slicePart_int h
theorem fT {sl:KF}{vl vu:Ku}{lo hi:Kz KO}{n:KC}{Q:KO×KO×KC->Kx->Prop}(hs:s.heap.IsSliceOf sl vl vu .none)(pl:O2 vl lo)(pu:O2 vu hi)
  (h:Q (((c9 n 0 lo:KC):KO),1,c9 n n hi - c9 n 0 lo) s):wpAny (model prog w) A (O3 (.ref sl) (pure (n:KO))) Q E s:=by
 obtain⟨os,hos,hcs,hds⟩:=id hs;unfold O3 SG;refine Ks (Ks (MV hos hds (x:=vl) rfl (Ks (MV hos hds (x:=vu) rfl (Ks (MV hos hds (x:=.none) rfl (Ky ?_)))))));refine Ks (Sk ?_);show wpAny _ _ (if ((1:KO)==0)=true then _ else _) _ _ s
 rw[Li #v[]]
 refine Ks (lS pl (Ks (lS pu (Ks (Ky ?_)))));show wpAny _ _ (match NX lo hi 1 (n:KO)with|(lo,hi)=>pure (lo,(1:KO),Nf lo hi 1)) _ _ s
 rw[tY lo hi n];show wpAny _ _ (pure (((c9 n 0 lo:KC):KO),(1:KO),Nf ((c9 n 0 lo:KC):KO) ((c9 n n hi:KC):KO) 1)) _ _ s;rw[tZ];exact Ky h
theorem yD (xs:Lg Ku)(i k:KC):((K9 k).filterMap λ(m:KC)=>xs[((i:KO)+(m:KO)*1).toNat]?).toArray=((xs.toList.drop i).take k).toArray:=by
 have e:(λ(m:KC)=>xs[((i:KO)+(m:KO)*1).toNat]?)=λm=>xs[i+m]?:=by
  funext m
  have:((i:KO)+(m:KO)*1).toNat=i+m:=∅
  rw[this]
 rw[e];have:=pick_run xs i k;rw[List.filterMap_map]at this;have e2:((λx=>xs[x]?)∘λx=>i+x)=λm=>xs[i+m]?:=rfl
 rw[e2]at this;rw[this]
theorem jd {t sl:KF}{items:Lg Ku}{vl vu:Ku}{lo hi:Kz KO}{Q:Ku->Kx->Prop}(ht:Rh s.heap t items)(hs:s.heap.IsSliceOf sl vl vu .none)(pl:O2 vl lo)(pu:O2 vu hi)
  (hw:¬ (c9 items.size 0 lo=0/\c9 items.size items.size hi=items.size))
  (h:Q (.ref s.heap.objs.size) { s with heap:=s.heap.push { cls:=.type "tuple",data:=.seq ((items.toList.drop (c9 items.size 0 lo)).take (c9 items.size items.size hi - c9 items.size 0 lo)).toArray } })
  (hsz:items.size<=sizeLine):wpAny (model prog w) A (getItem (.ref t) (.ref sl)) Q E s:=by
 have htake:sizeOk (.seq ((items.toList.drop (c9 items.size 0 lo)).take (c9 items.size items.size hi - c9 items.size 0 lo)).toArray):=by
  show((items.toList.drop (c9 items.size 0 lo)).take (c9 items.size items.size hi - c9 items.size 0 lo)).toArray.size<=sizeLine;rw[KR,Ly,Nv,KW];omega
 have hj:c9 items.size items.size hi<=items.size:=EZ _ _ (KH _) hi;obtain⟨os,hos,hcs,hds⟩:=id hs;have hTs:s.TypeIs (.ref sl) "slice":=#[os,hos,hcs];unfold getItem
 try with_reducible refine LQ ?_
 first|refine Ks (Ky ?_)|skip
 refine Ks (Ro ht.typeIs #v[] ?_)
 refine Ks (LS (name:=MT "__getitem__") ht.typeIs MO
  (LU MO ht.typeIs QI ?_ (QY _ _)))
 show wpAny _ _ (NP (.ref t) >>= _) _ _ s;refine Ks (SL ht ?_);refine Ks (ND hTs ?_);rw[La #v[]]
 refine Ks (fT hs pl pu ?_);have hno:¬ ((((c9 items.size 0 lo:KC):KO)==0&&(1:KO)==1&&(c9 items.size items.size hi - c9 items.size 0 lo)==items.size)=true):=by
  intro q;rw[KA,KA]at q;have q1:((c9 items.size 0 lo:KC):KO)=0:=eq_of_beq q.1.1;have q2:c9 items.size items.size hi - c9 items.size 0 lo=items.size:=eq_of_beq q.2;exact hw #[∅,∅]
 show wpAny _ _ (if (((c9 items.size 0 lo:KC):KO)==0&&(1:KO)==1&&(c9 items.size items.size hi - c9 items.size 0 lo)==items.size)=true then _ else _) _ _ s
 rw[Li hno,yD]
 first
  | exact Ks (m:=Mv _) (LA (Ky #[_,rfl,Ky h]) htake)
  | exact Ks (m:=Mv _) (LA (Ks (Ky (Ky #[_,rfl,Ky h]))) htake)
  | exact Ks (Ks (m:=Mv _) (LA (Ky (Ky #[_,rfl,Ky h])) htake))
  | exact Ks (Ks (m:=Mv _) (LA (Ky #[_,rfl,Ky h]) htake))
end
end HT
namespace L2
open PySem PySem.Spec PyProof.Rows
noncomputable abbrev TO:=St->Hp->(Kz KO->Hp->Prop)->Prop
noncomputable def PO (X:Cx)(e:Kz Lb)(t:TO):Prop:=
 ∀(pins:Kr (KF×Mp)) (s:Kx) (σ:St) (H:Hp) (Q:Kz KO->Hp->Prop),Inv X pins σ H s->t σ H Q->
  wpAny (model X.prog X.w) X.A (evalPart e X.env) (λu s'=>∃o H',Inv X pins σ H' s'/\O2 u o/\Q o H') X.xe s
noncomputable def BS:TO:=λ_ H Q=>Q gV H
noncomputable def G5 (t:TE):TO:=λσ H Q=>t σ H λx H1=>∃i,x=.int i/\Q (ba i) H1
section
variable{X:Cx}{e:Lb}{te:TE}{lo hi:Kz Lb}{tl th:TO}{pos p2:M9}
theorem BU:PO X gV BS:=by
 intro pins s σ H Q I h;rw[SM];exact Ky #[gV,H,I,.none,h]
theorem BV (h:PE X e te):PO X (ba e) (G5 te):=by
 intro pins s σ H Q I hw;rw[evalPart_some];refine ce (h pins s σ H _ I hw) λu s1 #[x,H1,I1,r1,q1]=>?_
 obtain⟨i,rfl,q⟩:=q1;obtain⟨t,rfl⟩:=r1;exact#[ba i,H1,I1,.int i t,q]
noncomputable def G6 (X:Cx)(r:V->Kz KO->Kz KO->Hp->VK->Prop):Prop:=
 ∀(pins:Kr (KF×Mp)) (s:Kx) (σ:St) (H:Hp) (x:V) (v vl vu:Ku) (lo hi:Kz KO) (sl:KF) (Q:VK),Inv X pins σ H s->RelV x v->s.heap.IsSliceOf sl vl vu .none->O2 vl lo->O2 vu hi->r x lo hi H Q->
  ∃T id,typeLookup (.type T) "__getitem__" = pure (ba (.builtin id))/\s.TypeIs v T/\wpAny (model X.prog X.w) X.A (getItem v (.ref sl)) (EP X pins σ Q) X.xe s
noncomputable def Kg (r:V->Kz KO->Kz KO->Hp->VK->Prop)(te:TE)(tl th:TO):TE:=λσ H Q=>te σ H λx H1=>tl σ H1 λl H2=>th σ H2 λu H3=>r x l u H3 Q
theorem yE {r:V->Kz KO->Kz KO->Hp->VK->Prop}(hr:G6 X r)(he:PE X e te)(hl:PO X lo tl)(hu:PO X hi th):PE X (.Subscript e (.Slice lo hi gV p2) pos) (Kg r te tl th):=by
 intro pins s σ H Q I h;refine Subscript_ (ce (he pins s σ H _ I h) λv s1 #[x,H1,I1,r1,q1]=>?_)
 refine wpAny_Slice (ce (hl pins s1 σ H1 _ I1 q1) λvl s2 #[l,H2,I2,pl,q2]=>ce (hu pins s2 σ H2 _ I2 q2) λvu s3 #[u,H3,I3,pu,q3]=>?_)
 rw[SM];refine Ky ?_;have I4:Inv X pins σ H3 { s3 with heap:=s3.heap.push { cls:=.type "slice",data:=.fields [vl,vu,.none].toArray } }:=I3.kept (t':=s3.toks) λb ob q=>Kw _ q
 obtain⟨T,id,hT,ht,hg⟩:=hr pins { s3 with heap:=s3.heap.push { cls:=.type "slice",data:=.fields [vl,vu,.none].toArray } } σ H3 x v vl vu l u s3.heap.objs.size Q I4 r1 (T3 ..) pl pu q3
 show wpAny (model X.prog X.w) X.A (subscriptTail e (.Slice lo hi gV p2) v (.ref s3.heap.objs.size)) (EP X pins σ Q) X.xe { s3 with heap:=s3.heap.push { cls:=.type "slice",data:=.fields [vl,vu,.none].toArray } }
 exact tail_any (ops:=[.ref s3.heap.objs.size,v]) ht hT hg (by with_unfolding_all rfl)
noncomputable def lT (xs:Kr V)(lo hi:Kz KO):Kr V:=(xs.drop (HT.c9 xs.length 0 lo)).take (HT.c9 xs.length xs.length hi - HT.c9 xs.length 0 lo)
theorem kO (xs:Kr V)(lo hi:Kz KO):(lT xs lo hi).length<=xs.length:=by
 unfold lT;rw[Ly,Nv];omega
noncomputable def Jh (K:KM):V->Kz KO->Kz KO->Hp->VK->Prop:=λx lo hi H Q=>∃a xs,x=.ref a/\SqT K H a xs/\
 ¬ (HT.c9 xs.length 0 lo=0/\HT.c9 xs.length xs.length hi=xs.length)/\∀p,H p=gV->Q (.ref p) (cv H p (.tup (lT xs lo hi)))
theorem E1:G6 X (Jh X.K):=by
 intro pins s σ H x v vl vu lo hi sl Q I rx hs pl pu h;obtain⟨a,xs,rfl,hx,hw,q⟩:=h;cases rx;obtain⟨its,r,ht,hz⟩:=I.tuple hx;have hlen:its.toArray.size=xs.length:=by rw[KR]; exact r.length.symm
 refine#["tuple",_,PyProof.Rows.slot_tuple_getitem.lookup,ht.typeIs,?_];refine HT.jd ht hs pl pu (by rw[hlen]; exact hw) ?_ (by rw[hlen]; exact hz)
 rw[hlen];refine#[.ref s.heap.objs.size,_,I.laid (t':=s.toks) (o:=.tup (lT xs lo hi)) (λb ob q=>Kw _ q) (KH _) ?_,rfl,q _ (I.hok.fresh (KH _))]
 exact#[KQ (kO xs lo hi) hz,_,(r.drop (HT.c9 xs.length 0 lo)).take (HT.c9 xs.length xs.length hi - HT.c9 xs.length 0 lo),RI _ _]
theorem Vals.nil_iff {xs:Kr V}{us:Kr Ku}(r:Vals xs us):us=[]↔xs=[]:=by
 cases r with
 | nil=>simp
 | cons _ _=>simp
end
noncomputable def yf (n:KC)(i:KO):Kz KC:=if 0<=i then(if i < n then ba i.toNat else gV)else if -(n:KO)<=i then ba (i+n).toNat else gV
noncomputable def tM {α:Type}(xs:Kr α)(i:KO):Kz α:=(yf xs.length i).bind λj=>xs[j]?
theorem u6 {n:KC}{i:KO}{j:KC}(h:yf n i=ba j):seqIndex? i n=ba j/\j < n/\-(n:KO)<=i/\i < n:=by
 unfold yf at h
 by_cases h0:0<=i
 ·rw[La h0]at h
  by_cases h1:i < n
  ·rw[La h1]at h;have e:i.toNat=j:=LV h;exact#[by rw[RY h0 h1,e],∅,∅,h1]
  ·rw[Li h1]at h; cases h
 ·rw[Li h0]at h
  by_cases h1 : -(n:KO)<=i
  ·rw[La h1]at h;have e:(i+n).toNat=j:=LV h;exact#[by rw[Rp ∅ h1,e],∅,h1,∅]
  ·rw[Li h1]at h; cases h
theorem pN {α:Type}{xs:Kr α}{i:KO}{v:α}(h:tM xs i=ba v):∃j,seqIndex? i xs.length=ba j/\xs[j]?=ba v/\j < xs.length/\-(xs.length:KO)<=i/\i < xs.length:=by
 unfold tM at h;cases e:yf xs.length i with
 | none=>rw[e]at h; cases h
 | some j=>
  rw[e]at h;obtain⟨h1,h2,h3,h4⟩:=u6 e;exact#[j,h1,h,h2,h3,h4]
theorem atI_nat {α:Type}{xs:Kr α}{j:KC}{v:α}(h:xs[j]?=ba v):tM xs (j:KO)=ba v:=by
 have hj:j < xs.length:=(KJ.mp h).1;have e:yf xs.length (j:KO)=ba j:=by
  unfold yf;rw[La ∅,La ∅]; simp
 unfold tM; rw[e]; exact h
noncomputable def pO (b:Lb):Prop:=∀o i,subscripted b false o i=operate [o,i] (getItem o i)
noncomputable def IxR (X:Cx)(r:R2):Prop:=
 ∀(value slice:Lb) (pins:Kr (KF×Mp)) (s:Kx) (σ:St) (H:Hp) (x y:V) (v u:Ku) (Q:VK),Inv X pins σ H s->RelV x v->RelV y u->r x y H Q->
  subscripted slice false v u=operate [v,u] (getItem v u)->wpAny (model X.prog X.w) X.A (subscriptTail value slice v u) (EP X pins σ Q) X.xe s
noncomputable def MtR (X:Cx)(id:L8)(r:V->Kr V->Hp->VK->Prop):Prop:=
 ∀(pins:Kr (KF×Mp)) (s:Kx) (σ:St) (H:Hp) (x:V) (xs:Kr V) (v:Ku) (us:Kr Ku) (Q:VK),Inv X pins σ H s->RelV x v->Vals xs us->r x xs H Q->
  wpAny (model X.prog X.w) X.A (call (.builtin id) (v::us)) (EP X pins σ Q) X.xe s
section
variable{X:Cx}{a b:Lb}{ta tb:TE}{pos:M9}
theorem G7 {r:R2}(hr:IxR X r)(ha:PE X a ta)(hb:PE X b tb)(hs:pO b):PE X (.Subscript a b pos) (Iz r ta tb):=by
 intro pins s σ H Q I h;exact Subscript_ (EN ha hb I h λv u s2 x y H2 I2 rx ry q=>hr a b pins s2 σ H2 x y v u Q I2 rx ry q (hs _ _))
noncomputable def Ji (K:KM):R2:=λx y H Q=>∃p xs i v,x=.ref p/\y=.int i/\SqL K H p xs/\tM xs i=ba v/\Q v H
noncomputable def Jj (K:KM):R2:=λx y H Q=>∃p xs i v,x=.ref p/\y=.int i/\SqT K H p xs/\tM xs i=ba v/\Q v H
noncomputable def Jk:R2:=λx y H Q=>∃z i c,x=.str z/\y=.int i/\z.length<=sizeLine/\tM z.cps.toList i=ba c/\Q (.str #[[c].toArray]) H
theorem BW:IxR X (Ji X.K):=by
 intro value slice pins s σ H x y v u Q I rx ry h hs;obtain⟨p,xs,i,z,rfl,rfl,hq,he,q⟩:=h;cases rx;obtain⟨t,rfl⟩:=ry;obtain⟨its,r,pl,hz⟩:=I.list hq;obtain⟨j,h1,h2,h3,h4,h5⟩:=pN he;obtain⟨w,ew,rw'⟩:=r.get h2;have hl:=r.length;have hn:=jN;have fin:EP X pins σ Q w s:=#[z,H,I,rw',q]
 by_cases h0:0<=i
 ·have hj:i.toNat=j:=by
   rw[RY h0 h5]at h1;exact LV h1
  exact item_listR pl.isList h0 ∅ (by rw[hj]; simpa using ew) fin hs
 ·have hj:(i+(its.toArray.size:KO)).toNat=j:=by
   rw[Rp ∅ h4]at h1
   rw[KR,<- hl];exact LV h1
  exact On (x:=w) pl.isList.typeIs slot_list_getitem.lookup
   (wpAny_getItem_list_neg (Q:=λr s'=>r=w/\EP X pins σ Q r s') pl.isList ∅ (by rw[KR] <;> omega) ∅ (by rw[hj]; simpa using ew) #[rfl,fin]) hs
theorem E2:IxR X (Jj X.K):=by
 intro value slice pins s σ H x y v u Q I rx ry h hs;obtain⟨p,xs,i,z,rfl,rfl,hq,he,q⟩:=h;cases rx;obtain⟨t,rfl⟩:=ry;obtain⟨its,r,pl,hz⟩:=I.tuple hq;obtain⟨j,h1,h2,h3,h4,h5⟩:=pN he;obtain⟨w,ew,rw'⟩:=r.get h2;have hl:=r.length;have hn:=jN;have fin:EP X pins σ Q w s:=#[z,H,I,rw',q];exact On (x:=w) pl.typeIs slot_tuple_getitem.lookup
  (getItem_tuple (j:=j) (Q:=λr s'=>r=w/\EP X pins σ Q r s') pl ∅ ∅ (by rw[KR,<- hl]; exact h1) (by simpa using ew) #[rfl,fin]) hs
theorem E3:IxR X Jk:=by
 intro value slice pins s σ H x y v u Q I rx ry h hs;obtain⟨z,i,c,rfl,rfl,hz,he,q⟩:=h;obtain⟨t,rfl⟩:=rx;obtain⟨t',rfl⟩:=ry;obtain⟨j,h1,h2,h3,h4,h5⟩:=pN he;have hl:z.cps.toList.length=z.length:=by simp[T4]
 rw[hl]at h1 h4 h5;have hn:=jN;exact tail_any (typeIs_str s z t) slot_str_getitem.lookup (getItem_str (c:=c) (by
  have e1:decide (i < -(2 ^ 63:KO))=false:=Lm ∅
  have e2:decide (i>=2 ^ 63)=false:=Lm ∅
  rw[e1,e2,QQ]) (by rw[h1]; simpa using h2) #[.str #[[c].toArray],H,I.tok _,#[_,rfl],q]) hs
theorem t4 (its:Kr Ku)(n j:KC)(u:Ku):Mb (·.setIfInBounds j u) { cls:=.type "list",data:=.seq its.toArray n }={ cls:=.type "list",data:=.seq (its.set j u).toArray n }:=by
 simp[Mb]
theorem Inv.lst {pins:Kr (KF×Mp)}{σ:St}{H:Hp}{s:Kx}{p:KF}{xs:Kr V}(I:Inv X pins σ H s)(h:H p=ba (.lst xs)) :
  ∃(its:Kr Ku) (n:KC),Vals xs its/\s.heap.get? p=ba { cls:=.type "list",data:=.seq its.toArray n }/\xs.length<=sizeLine:=by
 obtain⟨z,its,n,r,e⟩:=I.hok p _ h;exact#[its,n,r,e,z]
theorem Inv.lstUpd {pins:Kr (KF×Mp)}{σ:St}{H:Hp}{s:Kx}{p:KF}{xs ys:Kr V}{its its':Kr Ku}{n n':KC}{f:Mp->Mp}(I:Inv X pins σ H s)(h:H p=ba (.lst xs))
  (ho:s.heap.get? p=ba { cls:=.type "list",data:=.seq its.toArray n }) (hf:f { cls:=.type "list",data:=.seq its.toArray n }={ cls:=.type "list",data:=.seq its'.toArray n' }) (r:Vals ys its') (hz:ys.length<=sizeLine) (t:KC) :
  Inv X pins σ (cv H p (.lst ys)) { s with heap:=s.heap.update p f,toks:=t }:=by
 have e:(s.heap.update p f).get? p=ba { cls:=.type "list",data:=.seq its'.toArray n' }:=by
  rw[Mj f ho (by rw[hf] <;> rfl),hf]
 refine I.write (x:=p) (e:=p) (by rw[h]; trivial) (.inl rfl) (λb u hb q=>(LB _ _ (Ne.symm hb)).trans q) #[_,e] ?_
 exact#[hz,its',n',r,e]
noncomputable def G8:V->V->V->Hp->(Hp->Prop)->Prop:=λo i v H Q=>∃p xs k j,o=.ref p/\i=.int k/\H p=ba (.lst xs)/\yf xs.length k=ba j/\Q (cv H p (.lst (xs.set j v)))
theorem yF:EG X G8:=by
 intro pins s σ H o i v ov iv u Q I ro ri rv h;obtain⟨p,xs,k,j,rfl,rfl,hp,hj,q⟩:=h;cases ro;obtain⟨t,rfl⟩:=ri;obtain⟨its,n,r,ho,hz⟩:=I.lst hp;obtain⟨h1,h2,h3,h4⟩:=u6 hj;have hl:=r.length;have hn:=jN;have I':Inv X pins σ (cv H p (.lst (xs.set j v))) { s with heap:=s.heap.update p (Mb (·.setIfInBounds j u)) }:=
  I.lstUpd hp ho (t4 its n j u) (r.set rv j) (by rw[List.length_set]; exact hz) s.toks
 by_cases h0:0<=k
 ·have hk:k.toNat=j:=by
   rw[RY h0 h4]at h1;exact LV h1
  exact PySem.W.ki_setAt ho h0 ∅ (by rw[KR,<- hl]; exact h4) (by rw[hk]; exact#[_,I',q])
 ·have hk:(k+(its.toArray.size:KO)).toNat=j:=by
   rw[Rp ∅ h3]at h1
   rw[KR,<- hl];exact LV h1
  exact PySem.W.ki_setBack ho ∅ (by rw[KR,<- hl]; exact h3) ∅ (by rw[hk]; exact#[_,I',q])
theorem pP (lo hi:Kz KO)(n:KC):(sliceBounds lo hi gV n).1=((HT.c9 n 0 lo:KC):KO)/\(sliceBounds lo hi gV n).2.1=((HT.c9 n n hi:KC):KO)/\(sliceBounds lo hi gV n).2.2=1:=by
 refine#[?_,?_,rfl]
 ·cases lo with
  | none=>simp[sliceBounds,HT.c9]
  | some i=>
   simp only[sliceBounds,HT.c9,RL,show(1:KO) > 0 by decide,Mt]
   by_cases h:i < 0
   ·simp only[h,Mt] <;> omega
   ·simp only[h,L4] <;> omega
 ·cases hi with
  | none=>simp[sliceBounds,HT.c9]
  | some i=>
   simp only[sliceBounds,HT.c9,RL,show(1:KO) > 0 by decide,Mt]
   by_cases h:i < 0
   ·simp only[h,Mt] <;> omega
   ·simp only[h,L4] <;> omega
theorem nK (its:Kr Ku)(lo hi:Kz KO):slicePick its.toArray lo hi gV=((its.drop (HT.c9 its.length 0 lo)).take (HT.c9 its.length its.length hi - HT.c9 its.length 0 lo)).toArray:=by
 obtain⟨h1,h2,h3⟩:=pP lo hi its.toArray.size;unfold slicePick;rw[h1,h2,h3];simp only[sliceRange_one,pick_run,KR] <;> rfl
noncomputable def Jl (K:KM):V->Kz KO->Kz KO->Hp->VK->Prop:=λx lo hi H Q=>∃a xs,x=.ref a/\SqL K H a xs/\∀p,H p=gV->Q (.ref p) (cv H p (.lst (lT xs lo hi)))
theorem BX:G6 X (Jl X.K):=by
 intro pins s σ H x v vl vu lo hi sl Q I rx hs pl pu h;obtain⟨a,xs,rfl,hx,q⟩:=h;cases rx;obtain⟨its,r,ht,hz⟩:=I.list hx;have hlen:=r.length;refine#["list",_,slot_list_getitem.lookup,ht.isList.typeIs,?_];refine wpAny_getItem_list_slice ht.isList hs pl pu .none (by simp) ?_ (by rw[KR] <;> omega)
 rw[nK,<- hlen];refine#[.ref s.heap.objs.size,_,I.laid (t':=s.toks) (o:=.lst (lT xs lo hi)) (λb ob q=>Kw _ q) (KH _) ?_,rfl,q _ (I.hok.fresh (KH _))]
 exact#[KQ (kO xs lo hi) hz,_,0,(r.drop (HT.c9 xs.length 0 lo)).take (HT.c9 xs.length xs.length hi - HT.c9 xs.length 0 lo),KT _ rfl]
noncomputable def iA:V->Lf
 | .non=>true
 | .bl _=>true
 | .int _=>true
 | .str _=>true
 | _=>false
noncomputable def BY:V->V->Lf
 | .non,.non=>true
 | .bl a,.bl b=>a==b
 | .bl a,.int b=>(if a then 1 else 0)==b
 | .int a,.bl b=>a==(if b then 1 else 0)
 | .int a,.int b=>a==b
 | .str a,.str b=>a==b
 | _,_=>false
theorem E4 {A:Lr}{s:Kx}{y x:V}{u v:Ku}(ry:RelV y u)(rx:RelV x v)(fy:iA y=true)(fx:iA x=true):OC A s u v (BY y x):=by
 cases y with
 | non=>
  cases ry;cases x with
  | non=>cases rx; exact Ul _
  | bl b=>cases rx; exact TD b
  | int b=>obtain⟨t,rfl⟩:=rx; exact TQ b t
  | str b=>obtain⟨t,rfl⟩:=rx; exact TR b t
  | _=>exact absurd (show false=true from fx) K8
 | bl a=>
  cases ry;cases x with
  | non=>cases rx; exact TF a
  | bl b=>cases rx; exact TH a b
  | int b=>obtain⟨t,rfl⟩:=rx; exact TU a b t
  | str b=>obtain⟨t,rfl⟩:=rx; exact TV a b t
  | _=>exact absurd (show false=true from fx) K8
 | int a=>
  obtain⟨t',rfl⟩:=ry;cases x with
  | non=>cases rx; exact TW a t'
  | bl b=>cases rx; exact TX a t' b
  | int b=>obtain⟨t,rfl⟩:=rx; exact T5 a t' b t
  | str b=>obtain⟨t,rfl⟩:=rx; exact QT a t' b t
  | _=>exact absurd (show false=true from fx) K8
 | str a=>
  obtain⟨t',rfl⟩:=ry;cases x with
  | non=>cases rx; exact TY a t'
  | bl b=>cases rx; exact TZ a t' b
  | int b=>obtain⟨t,rfl⟩:=rx; exact QU a t' b t
  | str b=>obtain⟨t,rfl⟩:=rx; exact T6 a t' b t
  | _=>exact absurd (show false=true from fx) K8
 | _=>exact absurd (show false=true from fy) K8
noncomputable def t8 (x:V)(u:Ku):Lf:=match u with
 | .none=>BY .non x
 | .bool b=>BY (.bl b) x
 | .int i _=>BY (.int i) x
 | .str z _=>BY (.str z) x
 | _=>false
theorem yG {x y:V}{u:Ku}(r:RelV y u)(f:iA y=true):t8 x u=BY y x:=by
 cases y with
 | non=>cases r; rfl
 | bl b=>cases r; rfl
 | int i=>obtain⟨t,rfl⟩:=r; rfl
 | str z=>obtain⟨t,rfl⟩:=r; rfl
 | _=>exact absurd (show false=true from f) K8
theorem je {x:V}:∀ {xs:Kr V} {us:Kr Ku},Vals xs us->xs.all iA=true->us.any (t8 x)=xs.any λy=>BY y x
 | _,_,.nil,_=>rfl
 | y::xs,u::us,.cons r t,f=>by
  rw[LR,KA]at f;rw[M7,M7,yG r f.1,je t f.2]
theorem gI {A:Lr}{s:Kx}{x:V}{v:Ku}(rx:RelV x v)(fx:iA x=true):∀ {xs:Kr V} {us:Kr Ku},Vals xs us->xs.all iA=true->∀u∈us,OC A s u v (t8 x u)
 | _,_,.nil,_=>λu hu=>by cases hu
 | y::xs,u::us,.cons r t,f=>λu' hu=>by
  rw[LR,KA]at f;rcases Le.mp hu with rfl|hu
  ·rw[yG r f.1]; exact E4 r rx f.1 fx
  ·exact gI rx fx t f.2 u' hu
noncomputable def IB (x:V)(xs:Kr V):Lf:=xs.any λy=>BY y x
noncomputable def Jm (K:KM)(neg:Lf):R2:=λx y H Q=>∃p xs,y=.ref p/\(SqL K H p xs\/SqT K H p xs)/\iA x=true/\xs.all iA=true/\Q (.bl (if neg then !IB x xs else IB x xs)) H
theorem wD:OpR X (compareOp .In) (Jm X.K false):=by
 intro pins s σ H x y v u Q I rx ry h;obtain⟨p,xs,rfl,hq,fx,fs,q⟩:=h;cases ry;rcases hq with hq|hq
 ·obtain⟨its,r,pl,hz⟩:=I.list hq;refine R6 (t8 x) pl.isList (λw hw=>gI rx fx r fs w (by simpa using hw)) #[.bl _,H,I,rfl,?_]
  rw[show its.toArray.any (t8 x)=its.any (t8 x) by simp,je r fs]
  exact q
 ·obtain⟨its,r,pl,hz⟩:=I.tuple hq;refine RM (t8 x) pl (λw hw=>gI rx fx r fs w (by simpa using hw)) #[.bl _,H,I,rfl,?_]
  rw[show its.toArray.any (t8 x)=its.any (t8 x) by simp,je r fs]
  exact q
theorem pQ:OpR X (compareOp .NotIn) (Jm X.K true):=by
 intro pins s σ H x y v u Q I rx ry h;obtain⟨p,xs,rfl,hq,fx,fs,q⟩:=h;cases ry;rcases hq with hq|hq
 ·obtain⟨its,r,pl,hz⟩:=I.list hq;refine QZ (t8 x) pl.isList (λw hw=>gI rx fx r fs w (by simpa using hw)) #[.bl _,H,I,rfl,?_]
  rw[show its.toArray.any (t8 x)=its.any (t8 x) by simp,je r fs]
  exact q
 ·obtain⟨its,r,pl,hz⟩:=I.tuple hq;refine SeqAt.notIn_tupleAt (t8 x) pl (λw hw=>gI rx fx r fs w (by simpa using hw)) #[.bl _,H,I,rfl,?_]
  rw[show its.toArray.any (t8 x)=its.any (t8 x) by simp,je r fs]
  exact q
theorem pR:CallR X (.type "list") (λxs H Q=>∃p ys,xs=[.ref p]/\(SqL X.K H p ys\/SqT X.K H p ys)/\∀l,H l=gV->Q (.ref l) (cv H l (.lst ys))):=by
 intro pins s σ H xs us Q I r h;obtain⟨p,ys,rfl,hq,q⟩:=h;obtain⟨u,rfl,rx⟩:=oA r;cases rx;have fin:∀(its:Kr Ku),Vals ys its->ys.length<=sizeLine->∀(h':LI) (c':KC),(∀b o',s.heap.get? b=ba o'->h'.get? b=ba o')->
   h'.get? s.heap.objs.size=ba { cls:=.type "list",dict:=gV,data:=.seq its.toArray c',slots:=#[] }->EP X pins σ Q (.ref s.heap.objs.size) { s with heap:=h' }:=λits r' hz h' c' kp e=>
  #[.ref s.heap.objs.size,_,I.laid (t':=s.toks) kp (KH _) (show ObjOk X.prog X.w _ h' _ (.lst ys)from#[hz,its,c',r',e]),rfl,q _ (I.hok.fresh (KH _))]
 rcases hq with hq|hq
 ·obtain⟨its,r',pl,hz⟩:=I.list hq;have hlen:=r'.length;obtain⟨o,ho,hc,n,hd⟩:=pl.isList;exact SN p (.inl rfl) ho hc hd (λh' c' kp e=>fin its r' hz h' c' kp e) (by simp only[KR] <;> omega)
 ·obtain⟨its,r',pl,hz⟩:=I.tuple hq;have hlen:=r'.length;obtain⟨o,ho,hc,n,hd⟩:=pl;exact SN p (.inr rfl) ho hc hd (λh' c' kp e=>fin its r' hz h' c' kp e) (by simp only[KR] <;> omega)
theorem iB:CallR X (.type "tuple") (λxs H Q=>∃p ys,xs=[.ref p]/\((SqL X.K H p ys/\∀l,H l=gV->Q (.ref l) (cv H l (.tup ys)))\/(SqT X.K H p ys/\Q (.ref p) H))):=by
 intro pins s σ H xs us Q I r h;obtain⟨p,ys,rfl,h⟩:=h;obtain⟨u,rfl,rx⟩:=oA r;cases rx;rcases h with⟨hq,q⟩|⟨hq,q⟩
 ·obtain⟨its,r',pl,hz⟩:=I.list hq;have hlen:=r'.length;refine call_tuple_list pl.isList (λh' kp=>?_) (by simp only[KR] <;> omega)
  have I1:Inv X pins σ H { s with heap:=h' }:=I.kept (t':=s.toks) kp
  have I2:Inv X pins σ (cv H h'.objs.size (.tup ys)) { s with heap:=h'.push { cls:=.type "tuple",data:=.seq its.toArray } }:=
   I1.laid (t':=s.toks) (λb o e=>Kw _ e) (KH _) (show ObjOk X.prog X.w _ _ _ (.tup ys)from#[hz,its,r',RI _ _])
  exact#[.ref h'.objs.size,_,I2,rfl,q _ (I1.hok.fresh (KH _))]
 ·obtain⟨its,r',pl,hz⟩:=I.tuple hq;exact call_tuple_same pl #[.ref p,H,I,rfl,q]
noncomputable def Jn (K:KM)(T:L8)(x:V)(H:Hp):Prop:=match x with
 | .str _=>T = "str"
 | .int _=>T = "int"
 | .ref p=>(T = "list"/\∃xs,SqL K H p xs)\/(T = "tuple"/\∃o,K.lookup p=ba o/\o.cls=.type "tuple"/\o.dict=gV)\/
   (T = "dict"/\((∃kvs,H p=ba (.dK kvs))\/∃kvs,H p=ba (.dT kvs)))\/(T = "set"/\∃S n,H p=ba (.set S n))
 | _=>L7
theorem yH {pins:Kr (KF×Mp)}{σ:St}{H:Hp}{s:Kx}{T:L8}{x:V}{v:Ku}(I:Inv X pins σ H s)(r:RelV x v)(ty:Jn X.K T x H) :
  s.TypeIs v T/\∀a,v=.ref a->∃ob,s.heap.get? a=ba ob/\ob.dict=gV:=by
 cases x with
 | str z=>
  obtain⟨t,rfl⟩:=r;cases(show T = "str" from ty)
  exact#[typeIs_str s z t,λ_ e=>nomatch e]
 | int i=>
  obtain⟨t,rfl⟩:=r;cases(show T = "int" from ty)
  exact#[Sl s i t,λ_ e=>nomatch e]
 | ref p=>
  cases r;rcases ty with⟨rfl,xs,hq⟩|⟨rfl,o,hk,hc,hd⟩|⟨rfl,hk⟩|⟨rfl,S,n,hk⟩
  ·obtain⟨its,_,pl,_⟩:=I.list hq;refine#[pl.isList.typeIs,λa e=>?_]
   cases e;obtain⟨o,n,e,c,hd,_⟩:=pl;exact#[o,e,hd]
  ·refine#[#[o,I.kIn p o hk,hc],λa e=>?_]
   cases e;exact#[o,I.kIn _ o hk,hd]
  ·have z:∃o,s.heap.get? p=ba o/\o.ExactDict:=by
    rcases hk with⟨kvs,hk⟩|⟨kvs,hk⟩
    ·obtain⟨_,_,_,_,o,_,_,e,ex,_⟩:=I.hok p _ hk;exact#[o,e,ex]
    ·obtain⟨_,_,_,_,o,_,_,e,ex,_⟩:=I.hok p _ hk;exact#[o,e,ex]
   obtain⟨o,e,ex⟩:=z;refine#[#[o,e,ex.1],λa e2=>?_]
   cases e2;exact#[o,e,ex.2.1]
  ·obtain⟨o,_,_,_,e,ex,_⟩:=I.hok p _ hk;refine#[#[o,e,ex.1],λa e2=>?_]
   cases e2;exact#[o,e,ex.2.1]
 | _=>exact L7.elim ty
variable{o e:Lb}{es:Kr Lb}{to:TE}{t:TA}{name:KZ}{apos cpos:M9}{T id:L8}{r:V->Kr V->Hp->VK->Prop}
end
noncomputable def Jo (X:Cx)(id:L8)(r:V->Kr V->Hp->VK->Prop):Prop:=
 ∀(pins:Kr (KF×Mp)) (s:Kx) (σ:St) (H:Hp) (x:V) (xs:Kr V) (v:Ku) (us:Kr Ku) (Q:VK),Inv X pins σ H s->RelV x v->Vals xs us->r x xs H Q->
  wpAny (model X.prog X.w) X.A (call (.builtin id) (v::us)) (EP X pins σ Q) X.xe s
theorem Vals.one:∀ {x:V} {us:Kr Ku},Vals [x] us->∃u,us=[u]/\RelV x u
 | _,_,.cons r .nil=>#[_,rfl,r]
theorem Vals.eraseIdx:∀ {xs:Kr V} {us:Kr Ku} (i:KC),Vals xs us->Vals (xs.eraseIdx i) (us.eraseIdx i)
 | _,_,_,.nil=>.nil
 | _,_,0,.cons _ t=>t
 | _,_,i+1,.cons r t=>.cons r (Vals.eraseIdx i t)
theorem Vals.rep {xs:Kr V}{us:Kr Ku}(h:Vals xs us):∀k:KC,Vals (Lo k xs).flatten (Lo k us).flatten
 | 0=>.nil
 | k+1=>by
  rw[Mr,Mr,Nk,Nk];exact Vals.append h (Vals.rep h k)
theorem oJ {α:Type}:∀(l:Kr α) (i:KC),(l.eraseIdx i).length<=l.length
 | [],_=>KH _
 | _::_,0=>Nl _
 | _::r,i+1=>OD (oJ r i)
theorem oK (its:Kr Ku):∀(k:KC) (acc:Kr Ku),
  Sn (λx1 x2=>x1++x2) acc.toArray (Lo k its.toArray)=(acc++(Lo k its).flatten).toArray
 | 0,acc=>by simp
 | k+1,acc=>by
  have e:acc.toArray++its.toArray=(acc++its).toArray:=by simp
  have e2:(acc++its)++(Lo k its).flatten=acc++(Lo (k+1) its).flatten:=by
   rw[Mr,Nk,Mu]
  rw[<- e2,<- oK its k (acc++its),<- e,Mr,List.foldl_cons]
section
variable{X:Cx}{pins:Kr (KF×Mp)}{σ:St}{H:Hp}{s:Kx}{l b:KF}{xs ys zs:Kr V}
theorem Inv.lset {its its':Kr Ku}{n:KC}{f:Lg Ku->Lg Ku}{t':KC}(I:Inv X pins σ H s)(hH:H l=ba (.lst xs))
  (e:s.heap.get? l=ba { cls:=.type "list",data:=.seq its.toArray n }) (hf:f its.toArray=its'.toArray) (hv:Vals ys its') (hz:ys.length<=sizeLine) :
  Inv X pins σ (cv H l (.lst ys)) { s with heap:=s.heap.update l (Mb f),toks:=t' }:=by
 have q:=RN e f;rw[hf]at q;refine I.write (x:=l) (e:=l) (by rw[hH]; exact trivial) (.inl rfl) (λb' u hb hu=>(LB s.heap (Mb f) (Ne.symm hb)).trans hu) #[_,q] ?_
 exact#[hz,its',_,hv,q]
theorem Inv.lnew {its:Kr Ku}{t':KC}(I:Inv X pins σ H s)(hv:Vals ys its)(hz:ys.length<=sizeLine) :
  Inv X pins σ (cv H s.heap.objs.size (.lst ys)) { s with heap:=s.heap.push { cls:=.type "list",data:=.seq its.toArray },toks:=t' }:=
 I.laid (λ_ _ q=>Kw _ q) (KH _) #[hz,its,0,hv,KT _ rfl]
theorem Inv.fresh (I:Inv X pins σ H s):H s.heap.objs.size=gV:=I.hok.fresh (KH _)
theorem Inv.lstM (I:Inv X pins σ H s)(hH:H l=ba (.lst xs)):xs.length<=sizeLine/\∃(its:Kr Ku) (n:KC),Vals xs its/\xs.length=its.length/\s.heap.get? l=ba { cls:=.type "list",data:=.seq its.toArray n }:=by
 obtain⟨z,its,n,r,e⟩:=I.hok l _ hH;exact#[z,its,n,r,r.length,e]
theorem rq {n:KC}(h:n<=sizeLine):Np n=false:=by
 unfold Np;exact Lm ∅
end
section
variable{X:Cx}
noncomputable def BZ:V->Kr V->Hp->VK->Prop:=λx vs H Q=>∃l xs y,x=.ref l/\vs=[y]/\H l=ba (.lst xs)/\xs.length < sizeLine/\Q .non (cv H l (.lst (xs++[y])))
theorem wF:Jo X "list.append" BZ:=by
 intro pins s σ H x vs v us Q I rx rv h;obtain⟨l,xs,y,rfl,rfl,hH,hz,q⟩:=h;cases rx;obtain⟨u,rfl,ru⟩:=rv.one;obtain⟨z,its,n,r,hl,e⟩:=I.lstM hH;refine O4 F.slot_list_append #[_,e,rfl] F.entry_list_append (F.args_list_append_2 _ _) (Rq l its.toArray n u (by rw[KR]; omega)) #[e,?_]
 refine#[.non,_,I.lset (its':=its++[u]) hH e (by simp) (r.append #v[ru]) ?_,rfl,q]
 rw[KG,LO];omega
noncomputable def B0:V->Kr V->Hp->VK->Prop:=λx vs H Q=>∃l b xs zs,x=.ref l/\vs=[.ref b]/\H l=ba (.lst xs)/\H b=ba (.lst zs)/\xs.length+zs.length<=sizeLine/\Q .non (cv H l (.lst (xs++zs)))
theorem wH:Jo X "list.extend" B0:=by
 intro pins s σ H x vs v us Q I rx rv h;obtain⟨l,b,xs,zs,rfl,rfl,hH,hB,hz,q⟩:=h;cases rx;obtain⟨u,rfl,ru⟩:=rv.one;cases ru;obtain⟨z,its,n,r,hl,e⟩:=I.lstM hH;obtain⟨z2,its2,n2,r2,hl2,e2⟩:=I.lstM hB;have hsz:its.toArray.size+its2.toArray.size<=sizeLine:=by rw[KR,KR]; omega
 have hlong:¬ (!its.toArray.isEmpty&&Np (its.toArray.size+its2.toArray.size))=true:=by
  rw[rq hsz,O5];exact K8
 refine O4 F.slot_list_extend #[_,e,rfl] F.entry_list_extend (F.args_list_extend_2 _ _)
  (Rr l its.toArray n b its2.toArray n2 hlong (by rw[KR]; omega) ∅) #[e,e2,?_]
 refine#[.non,_,I.lset (its':=its++its2) hH e (by simp) (r.append r2) ?_,rfl,q]
 rw[KG];omega
noncomputable def E5:V->Kr V->Hp->VK->Prop:=λx vs H Q=>∃l xs i k y,x=.ref l/\vs=[.int i]/\H l=ba (.lst xs)/\-(2 ^ 63)<=i/\i < 2 ^ 63/\seqIndex? i xs.length=ba k/\xs[k]?=ba y/\Q y (cv H l (.lst (xs.eraseIdx k)))
theorem yI:Jo X "list.pop" E5:=by
 intro pins s σ H x vs v us Q I rx rv h;obtain⟨l,xs,i,k,y,rfl,rfl,hH,h1,h2,hk,hy,q⟩:=h;cases rx;obtain⟨u,rfl,ru⟩:=rv.one;obtain⟨t,rfl⟩:=ru;obtain⟨z,its,n,r,hl,e⟩:=I.lstM hH;obtain⟨w,hw,rw'⟩:=r.get hy;refine O4 F.slot_list_pop #[_,e,rfl] F.entry_list_pop (F.args_list_pop_2 _ _)
  (TJ l its.toArray n i t k w (So h1 h2) (by rw[KR,<- hl]; exact hk) (by rw[<- L5]; exact hw) (by rw[KR]; omega)) #[e,?_]
 refine#[y,_,I.lset (its':=its.eraseIdx k) hH e ?_ (r.eraseIdx k) ?_,rw',q]
 ·show its.toArray.eraseIdxIfInBounds k=(its.eraseIdx k).toArray;rw[List.eraseIdxIfInBounds_toArray]
 ·have:=oJ xs k;omega
noncomputable def Jp:R2:=λx y H Q=>∃l b xs zs,x=.ref l/\y=.ref b/\H l=ba (.lst xs)/\H b=ba (.lst zs)/\xs.length+zs.length<=sizeLine/\∀p,H p=gV->Q (.ref p) (cv H p (.lst (xs++zs)))
theorem E6:OpR X (binaryOp .Add) Jp:=by
 intro pins s σ H x y v u Q I rx ry h;obtain⟨l,b,xs,zs,rfl,rfl,hH,hB,hz,q⟩:=h;cases rx;cases ry;obtain⟨z,its,n,r,hl,e⟩:=I.lstM hH;obtain⟨z2,its2,n2,r2,hl2,e2⟩:=I.lstM hB;refine PySem.P.add_list e e2 ?_ (by rw[KR,KR]; omega)
 have ea:its.toArray++its2.toArray=(its++its2).toArray:=by simp
 rw[ea];exact#[.ref _,_,I.lnew (t':=s.toks) (r.append r2) (by rw[KG]; omega),rfl,q _ I.fresh]
noncomputable def Jq:R2:=λx y H Q=>∃l k xs,x=.ref l/\y=.int k/\H l=ba (.lst xs)/\-(2 ^ 63)<=k/\k < 2 ^ 63/\xs.length*k.toNat<=sizeLine/\
 ∀p,H p=gV->Q (.ref p) (cv H p (.lst (Lo k.toNat xs).flatten))
theorem B1 {α:Type}(xs:Kr α)(k:KC):(Lo k xs).flatten.length=k*xs.length:=by
 induction k with
 | zero=>simp
 | succ k ih=>rw[Mr,Nk,KG,ih,Oo,Tk]
theorem E7:OpR X (binaryOp .Mult) Jq:=by
 intro pins s σ H x y v u Q I rx ry h;obtain⟨l,k,xs,rfl,rfl,hH,h1,h2,hz,q⟩:=h;cases rx;obtain⟨t,rfl⟩:=ry;obtain⟨z,its,n,r,hl,e⟩:=I.lstM hH;have hlen:its.toArray.size*k.toNat<=sizeLine:=by rw[KR,<- hl]; exact hz
 have hcap:¬ its.toArray.size*k.toNat > (2 ^ 63 - 1) / 8:=by
  have:(sizeLine:KC)<=(2 ^ 63 - 1) / 8:=by decide
  omega
 have hfit:¬ (!Sq k)=true:=by
  rw[So h1 h2];exact K8
 have hlong:¬ Np (its.toArray.size*k.toNat)=true:=by
  rw[rq hlen];exact K8
 have hnew:Sn (λx1 x2=>x1++x2) #[] (Lo (if its.toArray.isEmpty=true then 0 else k.toNat) its.toArray)=(Lo k.toNat its).flatten.toArray:=by
  have f0:∀m:KC,Sn (λx1 x2=>x1++x2) #[] (Lo m its.toArray)=(Lo m its).flatten.toArray:=λm=>by
   have:=oK its m [];rw[R7]at this;exact this
  rw[f0];cases its with
  | nil=>simp
  | cons a r'=>rw[Li (by simp)]
 refine wpAny_binaryOp_repeat_ref (T:="list") (U:="int") #v[] #[_,e,rfl] (λs'=>Sl s' k t) noFill_list_mul F.fills_int_mul F.slot_int_rmul repeat_list F.slot_int_index.lookup
  (O4 F.slot_int_rmul (Sl s k t) F.entry_int_rmul (F.args_int_rmul_2 _ _) (int___rmul___int_list k t l its.toArray n)
   #[e,rfl,#[_,e,rfl],O4 F.slot_list_mul #[_,e,rfl] F.entry_list_mul (F.args_list_mul_2 _ _) (Rf l its.toArray n k t hfit hcap hlong) #[e,?_]])
 rw[hnew];exact#[.ref _,_,I.lnew (t':=s.toks) (r.rep k.toNat) (by rw[B1,NU]; exact hz),rfl,q _ I.fresh]
end
section
variable{X:Cx}{pins:Kr (KF×Mp)}{σ:St}{H:Hp}{s:Kx}{a:KF}{y v:V}{u r:Ku}{o:Kz V}{A:Lr}{E:Ku->Kx->Prop}
theorem Inv.big (I:Inv X pins σ H s):sysModules < s.heap.objs.size:=by
 have h:mainGlobals < s.heap.objs.size:=(I.mod.glob.keeps I.bk).lt;exact Op #v[] h
theorem pS {h':LI}{t':KC}{ob:HO}(I:Inv X pins σ H s)(mu:Gx (H a))(hs:Mw a s.heap h')(he:∃q,h'.get? a=ba q)(new:ObjOk X.prog X.w (cv H a ob) h' a ob) :
  Inv X pins σ (cv H a ob) { s with heap:=h',toks:=t' }:=
 I.write (x:=a) (e:=a) mu (.inl rfl) (λb q hb z=>(hs.2 b hb).trans z) he new
end
noncomputable abbrev VV:Kr (V×V)->Kr (Ku×Ku)->Prop:=PQ λp q=>RelV p.1 q.1/\RelV p.2 q.2
end L2
namespace Att
open PySem PySem.W PySem.Calls PyProof.Rows
theorem lc {P:Sr}{h:LI}:∀(ns:Kr KO) (vs:Kr Ku),WellAll P h vs (ns.map WData.int)->Sh vs ns:=by
 intro ns
 induction ns with
 | nil=>
  intro vs w;rw[PY]at w;cases w;exact .nil
 | cons n ns ih=>
  intro vs w;rw[L0]at w;cases w with
  | cons a b=>
   cases a;exact .cons _ _ (ih _ b)
theorem wI {l:OpenLaw}{n:KC}(hn:l.most=ba n){P:Sr}{h:LI}{args:Kr WData}{vals:Kr Ku}
  (hpre:l.row.toRowW.claim.pre args=true) (hwl:WellAll P h vals args) :
  ∃a vs ns,vals=[Lq a]/\args=[WData.list (ns.map WData.int)]/\h.get? a=ba { cls:=.type "list",data:=.seq vs.toArray }/\Sh vs ns/\ns.length<=n:=by
 have hsh:WShape.hasAll [] args [.list .int]=true:=(pre_splitW hpre).1;have hc:l.pre.holds [] { args:=args }=true:=(pre_splitW hpre).2;obtain⟨d,r,rfl,h1,h2⟩:=hasAllW_cons hsh;obtain rfl:=hasAllW_nil h2;obtain⟨xs,rfl,h3⟩:=hasW_list h1;obtain⟨ns,rfl⟩:=items_int h3;have hlen:ns.length<=n:=by
  unfold OpenLaw.pre at hc;have h4:(WTm.not (.lt (.lit (.int (n:KO))) (.len (.arg 0)))).holds [] { args:=[.list (ns.map .int)] }=true:=by
   have h4:=(holds_andW hc).1;rw[hn]at h4;exact h4
  have h5:=condW_of h4 (w_not (w_lt w_lit (w_len_list (w_arg rfl))));rw[Kt]at h5;refine RO λq=>?_
  have q':(n:KO) < ((ns.length:KC):KO):=∅
  first
   | (rw[MW q']at h5; exact absurd h5 #v[])
   | (simp at h5; omega)
 cases hwl with
 | cons w1 w2=>
  cases w2;cases w1 with
  | list ho hall=>exact#[_,_,ns,rfl,rfl,ho,lc ns _ hall,hlen]
theorem wJ (l:OpenLaw)(args:Kr WData):l.row.toRowW.claim.post args (.bool true) args=true:=
 postW_of (r:=l.row.toRowW) (X:=(true==true))
  (show WShape.has [] (.bool true) .bool=true by first|rfl|decide|simp[WShape.has,WShape.arms,WShape.armsAll])
  (show(WTm.eq .res (.lit (.bool true))).value [] { args:=args,res:=ba (.bool true),after:=args }=ba (.bool (true==true))from w_eq_bool (w_res rfl) w_lit) rfl
theorem attach_call {l:OpenLaw}{n:KC}{q:Lk}{loose:Kr KZ}{XP:(KZ->Kz Ku)->LI->Prop}{YP:Lz->LI->Prop}{d:DefRec}
  (hn:l.most=ba n) (hdf:d.params.defaults=[])
  (call:∀(w:Lz) (s₀ s₁:Kx) (mg mb:KZ->Kz Ku) (fa:KF) (o:Mp) (pm cd doc:Ku) (a:KF) (vs:Kr Ku) (ns:Kr KO),
   Ground q loose [] XP w s₀ mg mb s₁.heap->YP w s₁.heap->
   s₁.heap.get? fa=ba o->o.data=.func (docDef d.name d.params d.body d.scope pm cd doc)->s₁.heap.CodeRec cd d.name->mg d.name=ba (.ref fa)->
   s₁.heap.get? a=ba { cls:=.type "list",data:=.seq vs.toArray }->Sh vs ns->ns.length<=n->s₁.gens=#[]->
   codeAny (model l.prog w) callerA (.call (.ref fa) #[[.ref a],[]]) (λr s'=>r=.ok (.ret (.bool true))/\OldK s₁.heap s'.heap/\s'.os=s₁.os/\Pl s'.gens) s₁) :
  WalkO q loose XP YP l.row.toRowW d [] (λf vs=>Su f vs):=by
 intro w s₀ s₁ mg mb G Y fa o pm cd doc dV kV ho hd hcd hD hmg hg args vals as hpre hlay hrd hwl hlo;obtain rfl:dV=.none:=Dflts.none hD hdf;obtain rfl:kV=.none:=Dflts.noKw hD;obtain⟨a,vs,ns,rfl,rfl,hobj,hints,hlen⟩:=wI hn hpre hwl;refine enter_call (Ol (call w s₀ s₁ mg mb fa o pm cd doc a vs ns G Y ho (fd_plain hd) hcd hmg hobj hints hlen hg) λr s' hq=>?_)
 obtain⟨rfl,h2,h3,h4⟩:=hq;exact#[.inl #[.bool true,.bool true,[],rfl,λ_=>rfl,.bool true,wJ l _,λ_=>#[Ub,λ_ hm=>(nomatch hm)]],h2,h3,h4]
end Att
namespace L2
open PySem PySem.Spec PyProof.Rows
theorem oM:∀ {vs:Kr Ku} {ns:Kr KO},Sh vs ns->Vals (ns.map V.int) vs
 | _,_,.nil=>.nil
 | _,_,.cons n t h=>.cons #[t,rfl] (oM h)
noncomputable def yJ (H:Hp):Prop:=∀b,H b=gV\/∃o xs,H b=ba (.frz o (.lst xs))
theorem yK {P:Lk}{w:Lz}{K:KM}{mg mb:KZ->Kz Ku}{CX:yz}{k:KC}{fa a:KF}{fd:Na}{x:KZ}{sp:Sp}{s₁:Kx}{vs:Kr Ku}{ns:Kr KO}
  (KX:K.In s₁.heap) (hns:s₁.heap.Ns mainGlobals mg) (hb:s₁.heap.Ns builtinsNs mb) (hbb:∀x:KZ,x≠"__name__"->mb x=bootBuiltins x) (hlim:s₁.heap.NoLimit) (hg:s₁.gens=#[])
  (ha:s₁.heap.get? a=ba { cls:=.type "list",data:=.seq vs.toArray }) (hi:Sh vs ns) (hl:ns.length<=sizeLine) (hr:Room k callerA)
  (F:∀base:LI,K.In base->base.Ns mainGlobals mg->FnOk P w K mg base CX k fa fd [x] sp) (hbind:∀(s:Kx) (u:Ku),Rm s fd #[[u],[]] [(x,u)])
  (hsp:∀H:Hp,yJ H->SqL K H a (ns.map V.int)->sp [.ref a] H (λv _=>v=.bl true) λ_ _ _=>L7)
  (hCX:∀H e s',CX [] H s₁ (λ_ _ _=>L7) e s'->L7) :
  codeAny (model P w) callerA (.call (.ref fa) #[[.ref a],[]]) (λr s'=>r=.ok (.ret (.bool true))/\OldK s₁.heap s'.heap/\s'.os=s₁.os/\Pl s'.gens) s₁:=by
 have rv:=oM hi;have lenV:=hi.length;have core:∀H:Hp,yJ H->SqL K H a (ns.map V.int)->HOk P w H s₁.heap->(∀b,H b≠gV->b=a)->(H a≠gV->K.lookup a=gV)->
   codeAny (model P w) callerA (.call (.ref fa) #[[.ref a],[]]) (λr s'=>r=.ok (.ret (.bool true))/\OldK s₁.heap s'.heap/\s'.os=s₁.os/\Pl s'.gens) s₁:=by
  intro H hO hS hok hA hK;have base_of:∀ {b:KF} {o:Mp},s₁.heap.get? b=ba o->H b=gV->(pK s₁.heap H).get? b=ba o:=λe n=>yj e n
  have noA:∀ {b:KF} {o:Mp} {es:Lg M2} {ep:KC},s₁.heap.get? b=ba o->o.data=.dict es ep->H b=gV:=λ{b o es ep} e d=>by
   cases q:H b with
   | none=>rfl
   | some u=>
    have e':b=a:=hA b (by rw[q]; simp)
    subst e';rw[ha]at e; cases e
    have d':Data.seq vs.toArray _=Data.dict es ep:=d;cases d'
  have nsK:∀ {b:KF} {m:KZ->Kz Ku},s₁.heap.Ns b m->(pK s₁.heap H).Ns b m:=λ{b m} #[o,es,ep,e,d,r]=>#[o,es,ep,base_of e (noA e d),d,r]
  have hKb:K.In (pK s₁.heap H):=λb o e=>base_of (KX b o e) (by
   cases q:H b with
   | none=>rfl
   | some u=>
    have e':b=a:=hA b (by rw[q]; simp)
    subst e';rw[hK (by rw[q]; simp)]at e; cases e)
  have hM:Mod K mg (pK s₁.heap H):=#[hKb,nsK hns,#[mb,nsK hb,hbb],let ⟨mc,h1,h2⟩:=hlim; #[mc,nsK h1,h2]]
  have e0:Env0 P w K mg (pK s₁.heap H) callerA [] s₁ H:=#[rfl,hM,λb o e=>BA e,Nat.le_of_eq (wp _ _),trivial,λb hb=>absurd (show b∈([]:Kr KF)from hb) (by simp),hok,.of_eq hg]
  refine Ol ((F _ hKb (nsK hns)).run callerA [] s₁ H #[[.ref a],[]] [.ref a] [.ref a] _ _ hr e0 (hbind s₁ (.ref a)) #v[rfl] (hsp H hO hS)) λr s' h=>?_
  cases r with
  | error e=>exact(hCX H e s' h).elim
  | ok fl=>
   cases fl with
   | next=>exact L7.elim h
   | brk=>exact L7.elim h
   | cont=>exact L7.elim h
   | ret u=>
    obtain⟨v,H',os,bare,un,hok',r',q⟩:=h;have q':v=.bl true:=q;subst q';obtain rfl:u=NN true:=r';refine#[rfl,OldK.of_keep λb o e=>?_,os,bare]
    cases q:H b with
    | none=>exact un.keep b o e q (by intro z; exact absurd (show b∈([]:Kr KF)from z) (by simp)) (by simp)
    | some u=>
     rcases hO b with z|⟨ob,xs,z⟩
     ·rw[q]at z; cases z
     ·have z2:=un.frzs b ob _ z;obtain⟨e1,_⟩:=hok b _ z;obtain⟨e2,_⟩:=hok' b _ z2;rw[e]at e1; cases e1
      exact e2
 cases hk:K.lookup a with
 | some o=>
  have e:=KX a o hk;rw[ha]at e;cases e;refine core (λ_=>gV) (λ_=>.inl rfl) (.inr #[_,vs.toArray,_,hk,rfl,rfl,rfl,by rw[KR,lenV]; exact hl,by simpa using rv]) (λb u z=>by have z':(gV:Kz HO)=ba u:=z; cases z') (λb z=>absurd rfl z) λz=>absurd rfl z
 | none=>
  refine core (λb=>if b=a then ba (.frz { cls:=.type "list",data:=.seq vs.toArray } (.lst (ns.map V.int)))else gV) (λb=>?_) (.inl (.inr #[{ cls:=.type "list",data:=.seq vs.toArray },La rfl])) (λb u z=>?_) (λb z=>?_) λ_=>hk
  ·by_cases hb:b=a
   ·exact .inr #[_,_,La hb]
   ·exact .inl (Li hb)
  ·by_cases hb:b=a
   ·have z':=(La hb).symm.trans z;cases z';subst hb;exact#[ha,by rw[Kt]; exact hl,vs,_,rv,ha]
   ·have z':=(Li hb).symm.trans z;cases z'
  ·by_cases hb:b=a
   ·exact hb
   ·exact absurd (Li hb) z
theorem B2 {l:P6}{n k:KC}{q:Lk}{loose:Kr KZ}{XP:(KZ->Kz Ku)->LI->Prop}{YP:Lz->LI->Prop}{d:DefRec}{K:Sr->KM}{CX:Lz->yz}{sp:Lz->Sp}{x:KZ}
  (hn:l.most=ba n) (hn2:n<=sizeLine) (hdf:d.params.defaults=[]) (hr:Room k callerA)
  (hY:∀(w:Lz) (h:LI),YP w h->(K w.params).In h)
  (F:∀(w:Lz) (mg:KZ->Kz Ku) (fa:KF) (h:LI),(K w.params).In h->h.Ns mainGlobals mg->mg d.name=ba (.ref fa)->
   ∃fd:Na,(∀(s:Kx) (u:Ku),Rm s fd #[[u],[]] [(x,u)])/\
    ∀base:LI,(K w.params).In base->base.Ns mainGlobals mg->FnOk l.prog w (K w.params) mg base (CX w) k fa fd [x] (sp w))
  (hsp:∀(w:Lz) (H:Hp) (a:KF) (ns:Kr KO),ns.length<=n->yJ H->SqL (K w.params) H a (ns.map V.int)->sp w [.ref a] H (λv _=>v=.bl true) λ_ _ _=>L7)
  (hCX:∀(w:Lz) (H:Hp) (s:Kx) (e:Ku) (s':Kx),CX w [] H s (λ_ _ _=>L7) e s'->L7) :
  SO q loose XP YP l.row.toRowW d [] (λf vs=>Su f vs):=by
 refine Att.attach_call hn hdf λw s₀ s₁ mg mb fa o pm cd doc a vs ns G Y ho hd hcd hmg hobj hints hlen hg=>?_
 have KX:=hY w _ Y;obtain⟨fd,hb,hF⟩:=F w mg fa _ KX G.T.g hmg;exact yK KX G.T.g G.T.b G.T.builtins G.T.nolimit hg hobj hints (KQ hlen hn2) hr hF hb (λH hO hS=>hsp w H a ns hlen hO hS) λH e s'=>hCX w H s₁ e s'
noncomputable def eG (s:No):Arguments:=match s with
 | .FunctionDef _ a _ _ _ _ _ _ _ _=>a
 | _=>{ posonlyargs:=[],args:=[],vararg:=gV,kwonlyargs:=[],kw_defaults:=[],kwarg:=gV,defaults:=[] }
noncomputable def dC (s:No):Kr No:=match s with
 | .FunctionDef _ _ b _ _ _ _ _ _ _=>b
 | _=>[]
noncomputable def ag (s:No):NJ:=match s with
 | .FunctionDef _ _ _ _ _ _ sc _ _ _=>sc
 | _=>{ kind:=.function,names:=[],isGenerator:=false,isCoroutine:=false }
noncomputable abbrev yg:yz:=λ_ _ _ _ _ _=>L7
noncomputable abbrev E0:XK:=λ_ _ _=>L7
theorem DT {X:Cx}:pM yg X E0:=λ_ _ _ _ _ _ _ h=>h.elim
structure Fun (K:KM)(x qual:KZ)(st:No)(f:KF)(fd:Na):Prop where
 ex:∃(oc:Ku) (od:Kz KF) (kV doc pm:Ku) (an:Kz KF) (cdv ct:Ku) (osl:Lg (Kz Ku)),
  fd=MS x qual (eG st) (dC st) (ag st) .none kV doc pm an cdv ct/\K.lookup f=ba #[oc,od,.func fd,osl]/\NO K cdv qual=true
 kp:Mn K (.ref f)=true
section
variable{P:Lk}{w:Lz}{K:KM}{mg:KZ->Kz Ku}{base:LI}
theorem Fun.ok {x qual:KZ}{st:No}{f:KF}{fd:Na}{N ps:Kr KZ}{k:KC}{sp:Sp}(F:Fun K x qual st f fd)(S:FnScope N ps (ag st))(len:∀vs H Q E,sp vs H Q E->vs.length=ps.length)
  (hbody:∀(cdv:Ku) (A:Lr) (outer:Kr Ri) (s:Kx) (H:Hp) (vs:Kr V) (Q:VK) (E:XK),Room k (A.deeper (envOfC qual (ag st) s.heap.objs.size f cdv))->sp vs H Q E->
   ∃t,PSs (tX yg P w K mg base N qual (ag st) f cdv A outer s H E).nox (dC st) t/\t { nx:=λ_ H'=>Q .non H',rt:=Q } (gH N vs) H):FnOk P w K mg base yg (k+1) f fd ps sp:=by
 obtain⟨oc,od,kV,doc,pm,an,cdv,ct,osl,rfl,lk,hcd⟩:=F.ex;refine G4 lk hcd S len λA outer s H vs Q E hr hsp=>?_
 obtain⟨t,h,q⟩:=hbody cdv A outer s H vs Q E hr hsp;exact#[t,h.nox,q]
theorem Fun.binds {x qual:KZ}{st:No}{f:KF}{fd:Na}{ps:Kr KZ}(F:Fun K x qual st f fd)
  (h:∀(kV doc pm:Ku) (an:Kz KF) (cdv ct:Ku) (us:Kr Ku),us.length=ps.length->bindArgs (MS x qual (eG st) (dC st) (ag st) .none kV doc pm an cdv ct) #[us,[]]=pure (ps.zip us)):Binds K fd ps []:=by
 obtain⟨oc,od,kV,doc,pm,an,cdv,ct,osl,rfl,lk,hcd⟩:=F.ex;exact .all (h kV doc pm an cdv ct)
theorem yL {x qual:KZ}{st:No}{f:KF}{oc:Ku}{od an:Kz KF}{osl:Lg (Kz Ku)}{kV doc pm cdv ct:Ku}(l:K.lookup f=ba #[oc,od,.func (MS x qual (eG st) (dC st) (ag st) .none kV doc pm an cdv ct),osl])
  (c:NO K cdv qual=true) (k:Mn K (.ref f)=true):Fun K x qual st f (MS x qual (eG st) (dC st) (ag st) .none kV doc pm an cdv ct):=#[#[oc,od,kV,doc,pm,an,cdv,ct,osl,rfl,l,c],k]
end
section
variable{X:Cx}
theorem pv (i:KC){x:KZ}{pos:M9}(hN:X.N[i]?=ba x:=by rfl)(hv:Ix X.env.scope x)(hd:(x==("__debug__" : KZ))=false:=by decide)
  (hcd:(x==("__classdict__" : KZ))=false:=by decide):PE X (.Name x pos) (Eu i):=yk hN hv hd hcd
end
end L2
namespace Mi
open PySem PySem.Spec PyProof.Rows L2
noncomputable def gj (t:L1)(n:KC):Lf:=decide (Nw t.place 0=0)&&(K9 n).all λi=>decide (Nw t.place (t.place.getD i 0+1)=i+1)
noncomputable def fU (w:Lz):Lf:=w.params.followText "set-order"
inductive W where
 | non|bl (b:Lf)|int (i:KO)|str (x:KZ)|tup (xs:Kr W)|ref (i:KC)
inductive T where
 | int (i:KO)|str (x:KZ)|tup (xs:Kr T)
mutual
noncomputable def T.beq:T->T->Lf
 | .int i,.int j=>i==j
 | .str x,.str y=>x==y
 | .tup xs,.tup ys=>T.beqs xs ys
 | _,_=>false
noncomputable def T.beqs:Kr T->Kr T->Lf
 | [],[]=>true
 | x::xs,y::ys=>T.beq x y&&T.beqs xs ys
 | _,_=>false
end
mutual
theorem T.beq_iff:∀x y:T,T.beq x y=true↔x=y
 | .int i,.int j=>by simp[T.beq]
 | .str x,.str y=>by simp[T.beq]
 | .tup xs,.tup ys=>by simp[T.beq,T.beqs_iff xs ys]
 | .int _,.str _|.int _,.tup _|.str _,.int _|.str _,.tup _|.tup _,.int _|.tup _,.str _=>by simp[T.beq]
theorem T.beqs_iff:∀xs ys:Kr T,T.beqs xs ys=true↔xs=ys
 | [],[]=>by simp[T.beqs]
 | x::xs,y::ys=>by simp[T.beqs,T.beq_iff x y,T.beqs_iff xs ys]
 | [],_::_|_::_,[]=>by simp[T.beqs]
end
noncomputable instance:NM T:=λx y=>decidable_of_iff (T.beq x y=true) (T.beq_iff x y)
mutual
noncomputable def T.w:T->W
 | .int i=>.int i
 | .str x=>.str x
 | .tup xs=>.tup (T.ws xs)
noncomputable def T.ws:Kr T->Kr W
 | []=>[]
 | x::xs=>T.w x::T.ws xs
end
mutual
noncomputable def W.t:W->Kz T
 | .int i=>ba (.int i)
 | .str x=>ba (.str x)
 | .tup xs=>(W.ts xs).map .tup
 | _=>gV
noncomputable def W.ts:Kr W->Kz (Kr T)
 | []=>ba []
 | x::xs=>match W.t x,W.ts xs with
  | some y,ba ys=>ba (y::ys)
  | _,_=>gV
end
mutual
theorem W.t_w:∀ {w:W} {k:T},W.t w=ba k->k.w=w
 | .int i,_,h=>by cases h; rfl
 | .str x,_,h=>by cases h; rfl
 | .tup xs,_,h=>by
  simp only[W.t,Kv]at h;obtain⟨ks,h1,h2⟩:=h;subst h2;simp only[T.w,W.ts_w h1]
 | .non,_,h|.bl _,_,h|.ref _,_,h=>by cases h
theorem W.ts_w:∀ {ws:Kr W} {ks:Kr T},W.ts ws=ba ks->T.ws ks=ws
 | [],_,h=>by cases h; rfl
 | w::ws,_,h=>by
  simp only[W.ts]at h;split at h
  ·rename_i y ys h1 h2;cases h;simp only[T.ws,W.t_w h1,W.ts_w h2]
  ·cases h
end
mutual
theorem T.w_t:∀k:T,W.t k.w=ba k
 | .int _=>rfl
 | .str _=>rfl
 | .tup xs=>by simp only[T.w,W.t,T.ws_ts xs,Lw]
theorem T.ws_ts:∀ks:Kr T,W.ts (T.ws ks)=ba ks
 | []=>rfl
 | x::xs=>by simp only[T.ws,W.ts,T.w_t x,T.ws_ts xs]
end
mutual
noncomputable def T.depth:T->KC
 | .tup xs=>T.depths xs+1
 | _=>0
noncomputable def T.depths:Kr T->KC
 | []=>0
 | x::xs=>max (T.depth x) (T.depths xs)
end
mutual
noncomputable def T.draws:T->KC
 | .tup xs=>T.drawss xs+1
 | _=>1
noncomputable def T.drawss:Kr T->KC
 | []=>0
 | x::xs=>T.draws x+T.drawss xs
end
mutual
noncomputable def fG (wd:Lz):T->KO
 | .int i=>hashInt i
 | .str x=>hashStr wd x
 | .tup xs=>reduceHash (NY (iJ wd xs))
noncomputable def iJ (wd:Lz):Kr T->Kr KO
 | []=>[]
 | x::xs=>fG wd x::iJ wd xs
end
noncomputable def T.isTup:T->Lf
 | .tup _=>true
 | _=>false
noncomputable def aC:KC:=6
inductive O where
 | lst (xs:Kr W)
 | fro (xs:Kr W)
 | stt (ks:Kr T)
 | rng (lo hi:KO)
 | dic (kvs:Kr (T×W))
 | frd (kvs:Kr (T×W))
noncomputable abbrev aa:=Kr O
noncomputable abbrev Fm:=Kr (Kz W)
section
variable (K:KM) (A:Kr KF) (H:Hp)
mutual
inductive Rel:W->V->Prop
 | non:Rel .non .non
 | bl {b:Lf}:Rel (.bl b) (.bl b)
 | int {i:KO}:Rel (.int i) (.int i)
 | str {x:KZ}:Rel (.str x) (.str x)
 | tup {ws:Kr W} {a:KF} {vs:Kr V}:SqT K H a vs->RelL ws vs->Rel (.tup ws) (.ref a)
 | ref {i:KC} {a:KF}:A[i]?=ba a->Rel (.ref i) (.ref a)
inductive RelL:Kr W->Kr V->Prop
 | nil:RelL [] []
 | cons {w:W} {v:V} {ws:Kr W} {vs:Kr V}:Rel w v->RelL ws vs->RelL (w::ws) (v::vs)
end
end
section
variable{K:KM}{A A' A'':Kr KF}{H H' H'':Hp}
structure Ext (K:KM)(A:Kr KF)(H:Hp)(A':Kr KF)(H':Hp):Prop where
 ad:∀(i:KC) (a:KF),A[i]?=ba a->A'[i]?=ba a
 tp:∀(a:KF) (vs:Kr V),SqT K H a vs->SqT K H' a vs
 fz:∀(a:KF) (o:Mp) (u:HO),H a=ba (.frz o u)->H' a=ba (.frz o u)
theorem Ext.refl:Ext K A H A H:=#[λ_ _ h=>h,λ_ _ h=>h,λ_ _ _ h=>h]
theorem Ext.trans (e:Ext K A H A' H')(f:Ext K A' H' A'' H''):Ext K A H A'' H'':=#[λi a h=>f.ad i a (e.ad i a h),λa vs h=>f.tp a vs (e.tp a vs h),λa o u h=>f.fz a o u (e.fz a o u h)]
mutual
theorem Rel.mono (e:Ext K A H A' H'):∀ {w:W} {v:V},Rel K A H w v->Rel K A' H' w v
 | _,_,.non=>.non
 | _,_,.bl=>.bl
 | _,_,.int=>.int
 | _,_,.str=>.str
 | _,_,.tup h r=>.tup (e.tp _ _ h) (RelL.mono e r)
 | _,_,.ref h=>.ref (e.ad _ _ h)
theorem RelL.mono (e:Ext K A H A' H'):∀ {ws:Kr W} {vs:Kr V},RelL K A H ws vs->RelL K A' H' ws vs
 | _,_,.nil=>.nil
 | _,_,.cons r t=>.cons (Rel.mono e r) (RelL.mono e t)
end
theorem RelL.length:∀ {ws:Kr W} {vs:Kr V},RelL K A H ws vs->ws.length=vs.length
 | _,_,.nil=>rfl
 | _,_,.cons _ t=>by simp[RelL.length t]
theorem RelL.get:∀ {ws:Kr W} {vs:Kr V} {i:KC} {w:W},RelL K A H ws vs->ws[i]?=ba w->∃v,vs[i]?=ba v/\Rel K A H w v
 | _,_,_,_,.nil,e=>by simp at e
 | _,_,0,_,.cons r _,e=>by simp at e; subst e; exact#[_,rfl,r]
 | _,_,i+1,w,.cons _ t,e=>by
  obtain⟨u,h1,h2⟩:=RelL.get (i:=i) (w:=w) t (by simpa using e)
  exact#[u,by simpa using h1,h2]
theorem RelL.append:∀ {xs ys:Kr W} {us ws:Kr V},RelL K A H xs us->RelL K A H ys ws->RelL K A H (xs++ys) (us++ws)
 | _,_,_,_,.nil,s=>s
 | _,_,_,_,.cons r t,s=>.cons r (RelL.append t s)
theorem RelL.take:∀ {xs:Kr W} {us:Kr V} (n:KC),RelL K A H xs us->RelL K A H (xs.take n) (us.take n)
 | _,_,0,_=>.nil
 | _,_,_+1,.nil=>.nil
 | _,_,n+1,.cons r t=>.cons r (RelL.take n t)
theorem RelL.drop:∀ {xs:Kr W} {us:Kr V} (n:KC),RelL K A H xs us->RelL K A H (xs.drop n) (us.drop n)
 | _,_,0,r=>r
 | _,_,_+1,.nil=>.nil
 | _,_,n+1,.cons _ t=>RelL.drop n t
theorem RelL.set {x:W}{u:V}(r:Rel K A H x u):∀ {xs:Kr W} {us:Kr V} (i:KC),RelL K A H xs us->RelL K A H (xs.set i x) (us.set i u)
 | _,_,_,.nil=>.nil
 | _,_,0,.cons _ t=>.cons r t
 | _,_,i+1,.cons q t=>.cons q (RelL.set r i t)
theorem RelL.rep {xs:Kr W}{us:Kr V}(h:RelL K A H xs us):∀k:KC,RelL K A H (Lo k xs).flatten (Lo k us).flatten
 | 0=>.nil
 | k+1=>by
  rw[Mr,Mr,Nk,Nk];exact RelL.append h (RelL.rep h k)
theorem RelL.eraseIdx:∀ {xs:Kr W} {us:Kr V} (i:KC),RelL K A H xs us->RelL K A H (xs.eraseIdx i) (us.eraseIdx i)
 | _,_,_,.nil=>.nil
 | _,_,0,.cons _ t=>t
 | _,_,i+1,.cons r t=>.cons r (RelL.eraseIdx i t)
noncomputable def FroL (K:KM)(H:Hp)(a:KF)(vs:Kr V):Prop:=
 (∃o,H a=ba (.frz o (.lst vs)))\/
  ∃(o:Mp) (its:Lg Ku) (n:KC),K.lookup a=ba o/\o.cls=.type "list"/\o.dict=gV/\o.data=.seq its n/\its.size<=sizeLine/\Vals vs its.toList
theorem FroL.sq {a:KF}{vs:Kr V}(h:FroL K H a vs):SqL K H a vs:=by
 rcases h with⟨o,h⟩|h
 ·exact .inl (.inr #[o,h])
 ·exact .inr h
noncomputable def yM (wd:Lz)(x:T×KF×Ku):M2:=#[fG wd x.1,.ref x.2.1,x.2.2]
noncomputable def DicAt (wd:Lz)(a:KF)(xs:Kr (T×KF×Ku))(h:LI):Prop:=
 xs.length<=sizeLine/\(a==sysModules)=false/\(xs.map (·.1)).Nodup/\∃o es ep,h.get? a=ba o/\o.ExactDict/\o.data=.dict es ep/\es.toList=xs.map (yM wd)
noncomputable def eY (wd:Lz)(a:KF)(xs:Kr (T×KF×Ku)):HO:=.ext (DicAt wd a xs)
noncomputable def KRel (K:KM)(A:Kr KF)(H:Hp):Kr (T×W)->Kr (T×KF×Ku)->Prop:=
 PQ λ(p:T×W) (q:T×KF×Ku)=>p.1=q.1/\p.1.isTup=true/\p.1.depth<=aC/\Rel K A H p.1.w (.ref q.2.1)/\∃v,Rel K A H p.2 v/\RelV v q.2.2
theorem KRel.mono (e:Ext K A H A' H'){kvs:Kr (T×W)}{xs:Kr (T×KF×Ku)}(h:KRel K A H kvs xs):KRel K A' H' kvs xs:=
 Paired.mapP h λ_ _ #[h1,h2,h3,h4,v,h5,h6]=>#[h1,h2,h3,h4.mono e,v,h5.mono e,h6]
variable{wd:Lz}
noncomputable def B3 (wd:Lz)(as:Kr KF)(o:Mp):Prop:=o.ExactSet/\∃es ep t,o.data=.set es ep t/\es.size<=sizeLine/\t.fits es.size=true/\t.led=(!fU wd)/\(t.plain=true->es.size=0\/gj t es.size=true)/\es.toList.map (·.2)=as.map Lq
noncomputable def ObjRel (wd:Lz)(K:KM)(A:Kr KF)(H:Hp)(a:KF):O->Prop
 | .lst ws=>∃vs,H a=ba (.lst vs)/\RelL K A H ws vs
 | .fro ws=>∃vs,FroL K H a vs/\RelL K A H ws vs
 | .stt ks=>∃o φ as,H a=ba (.frz o (.ext φ))/\B3 wd as o/\RelL K A H (T.ws ks) (as.map V.ref)
 | .rng lo hi=>H a=ba (.rng lo hi)
 | .dic kvs=>∃xs,H a=ba (eY wd a xs)/\KRel K A H kvs xs
 | .frd kvs=>∃o xs,H a=ba (.frz o (eY wd a xs))/\KRel K A H kvs xs
noncomputable def O.mut:O->Lf
 | .fro _=>false
 | .stt _=>false
 | .rng _ _=>false
 | .frd _=>false
 | _=>true
structure StoreOk (wd:Lz)(K:KM)(A:Kr KF)(H:Hp)(S:aa):Prop where
 len:A.length=S.length
 nd:∀(i j:KC) (a:KF) (o u:O),S[i]?=ba o->o.mut=true->S[j]?=ba u->u.mut=true->A[i]?=ba a->A[j]?=ba a->i=j
 obj:∀(i:KC) (o:O) (a:KF),S[i]?=ba o->A[i]?=ba a->ObjRel wd K A H a o
noncomputable def EnvRel (K:KM)(A:Kr KF)(H:Hp)(ρ:Fm)(σ:L2.St):Prop:=
 ρ.length=σ.length/\∀(i:KC) (w:W),ρ[i]?=ba (ba w)->∃v,σ[i]?=ba (ba v)/\Rel K A H w v
theorem EnvRel.mono {ρ:Fm}{σ:L2.St}(e:Ext K A H A' H')(h:EnvRel K A H ρ σ):EnvRel K A' H' ρ σ:=
 #[h.1,λi w q=>let ⟨v,a,b⟩:=h.2 i w q; #[v,a,b.mono e]]
theorem EnvRel.set {ρ:Fm}{σ:L2.St}{w:W}{v:V}(h:EnvRel K A H ρ σ)(r:Rel K A H w v)(i:KC):EnvRel K A H (ρ.set i (ba w)) (σ.set i (ba v)):=by
 refine#[by simp[h.1],λj w' q=>?_]
 rw[MH]at q ⊢
 by_cases e:i=j
 ·subst e;rw[La rfl]at q ⊢
  by_cases hl:i < ρ.length
  ·rw[La hl]at q;rw[La (h.1 ▸ hl)];cases q;exact#[v,rfl,r]
  ·rw[Li hl]at q; cases q
 ·rw[Li e]at q ⊢;exact h.2 j w' q
noncomputable def Wr (H:Hp)(p:KF):Prop:=H p=gV\/(∃xs,H p=ba (.lst xs))\/(∃φ,H p=ba (.ext φ))\/∃ks,H p=ba (.dK ks)
theorem Wr.lst {p:KF}{xs:Kr V}(h:H p=ba (.lst xs)):Wr H p:=.inr (.inl #[xs,h])
theorem Wr.ext {p:KF}{φ:LI->Prop}(h:H p=ba (.ext φ)):Wr H p:=.inr (.inr (.inl #[φ,h]))
theorem Wr.ne_tup {p a:KF}{xs:Kr V}(hp:Wr H p)(h:H a=ba (.tup xs)):a≠p:=by
 intro e; subst e
 rcases hp with q|⟨xs,q⟩|⟨φ,q⟩|⟨ks,q⟩ <;> (rw[h]at q; cases q)
theorem Wr.ne_frz {p a:KF}{o:Mp}{u:HO}(hp:Wr H p)(h:H a=ba (.frz o u)):a≠p:=by
 intro e; subst e
 rcases hp with q|⟨xs,q⟩|⟨φ,q⟩|⟨ks,q⟩ <;> (rw[h]at q; cases q)
theorem Wr.ne_rng {p a:KF}{lo hi:KO}(hp:Wr H p)(h:H a=ba (.rng lo hi)):a≠p:=by
 intro e; subst e
 rcases hp with q|⟨xs,q⟩|⟨φ,q⟩|⟨ks,q⟩ <;> (rw[h]at q; cases q)
theorem u7 {p:KF}{o:HO}(hp:Wr H p){a:KF}{vs:Kr V}(h:SqT K H a vs):SqT K (cv H p o) a vs:=by
 rcases h with(h|⟨o',h⟩)|h
 ·exact .inl (.inl (by rw[aO (hp.ne_tup h)]; exact h))
 ·exact .inl (.inr #[o',by rw[aO (hp.ne_frz h)]; exact h])
 ·exact .inr h
theorem yN {p:KF}{o:HO}(hp:Wr H p){a:KF}{vs:Kr V}(h:FroL K H a vs):FroL K (cv H p o) a vs:=by
 rcases h with⟨o',h⟩|h
 ·exact .inl #[o',by rw[aO (hp.ne_frz h)]; exact h]
 ·exact .inr h
theorem dU {p:KF}{o:HO}(hp:Wr H p):Ext K A H A (cv H p o):=#[λ_ _ h=>h,λ_ _ h=>u7 hp h,λ_ _ _ h=>by rw[aO (hp.ne_frz h)]; exact h]
theorem dD {p:KF}{o:HO}(hp:H p=gV):Ext K A H (A++[p]) (cv H p o):=
 #[λi a h=>by rw[LF (KJ.mp h).1]; exact h,λ_ _ h=>u7 (.inl hp) h,λ_ _ _ h=>by rw[aO (Wr.ne_frz (.inl hp) h)]; exact h]
theorem ObjRel.keep {p a:KF}{o:HO}{b:O}(hp:Wr H p)(hne:b.mut=true->a≠p)(e:Ext K A H A' (cv H p o))(h:ObjRel wd K A H a b):ObjRel wd K A' (cv H p o) a b:=by
 cases b with
 | lst ws=>
  obtain⟨vs,q,r⟩:=h;exact#[vs,by rw[aO (hne rfl)]; exact q,r.mono e]
 | fro ws=>
  obtain⟨vs,q,r⟩:=h;exact#[vs,yN hp q,r.mono e]
 | stt ks=>
  obtain⟨ob,φ,as,q,r1,r2⟩:=h;exact#[ob,φ,as,by rw[aO (hp.ne_frz q)]; exact q,r1,r2.mono e]
 | rng lo hi=>
  have h:H a=ba (.rng lo hi):=h;show cv H p o a=ba (.rng lo hi);rw[aO (hp.ne_rng h)];exact h
 | dic kvs=>
  obtain⟨xs,q,r⟩:=h;exact#[xs,by rw[aO (hne rfl)]; exact q,r.mono e]
 | frd kvs=>
  obtain⟨ob,xs,q,r⟩:=h;exact#[ob,xs,by rw[aO (hp.ne_frz q)]; exact q,r.mono e]
theorem ObjRel.there {a:KF}{b:O}(h:ObjRel wd K A H a b)(hm:b.mut=true):H a≠gV:=by
 cases b with
 | lst ws=>obtain⟨vs,q,r⟩:=h; rw[q]; intro z; cases z
 | fro ws=>cases hm
 | stt ws=>cases hm
 | rng lo hi=>cases hm
 | dic kvs=>obtain⟨vs,q,r⟩:=h; rw[q]; intro z; cases z
 | frd ws=>cases hm
theorem ObjRel.wr {a:KF}{b:O}(h:ObjRel wd K A H a b)(hm:b.mut=true):Wr H a:=by
 cases b with
 | lst ws=>obtain⟨vs,q,r⟩:=h; exact .lst q
 | fro ws=>cases hm
 | stt ws=>cases hm
 | rng lo hi=>cases hm
 | dic kvs=>obtain⟨vs,q,r⟩:=h; exact .ext q
 | frd ws=>cases hm
theorem StoreOk.lay {S:aa}{p:KF}{o:HO}(h:StoreOk wd K A H S)(hp:H p=gV):StoreOk wd K A (cv H p o) S:=
 #[h.len,h.nd,λi b a e ea=>(h.obj i b a e ea).keep (.inl hp) (λhm z=>(h.obj i b a e ea).there hm (z ▸ hp)) (dU (.inl hp))]
theorem StoreOk.pushO {S:aa}{p:KF}{n:O}{u:HO}(h:StoreOk wd K A H S)(hp:H p=gV)(r:ObjRel wd K (A++[p]) (cv H p u) p n):StoreOk wd K (A++[p]) (cv H p u) (S++[n]):=by
 have ex:Ext K A H (A++[p]) (cv H p u):=dD hp;have old:∀ {i:KC} {o:O} {a:KF},(S++[n])[i]?=ba o->(A++[p])[i]?=ba a->i < S.length->S[i]?=ba o/\A[i]?=ba a:=λ{i o a} e ea hl=>by
  rw[LF hl]at e;rw[LF (h.len ▸ hl)]at ea;exact#[e,ea]
 have new:∀ {i:KC} {o:O} {a:KF},(S++[n])[i]?=ba o->(A++[p])[i]?=ba a->¬ i < S.length->i=S.length/\o=n/\a=p:=λ{i o a} e ea hl=>by
  have hi:i=S.length:=by
   have:=(KJ.mp e).1;simp at this;omega
  subst hi;simp at e;rw[<- h.len]at ea;simp at ea;exact#[rfl,e.symm,ea.symm]
 refine#[by simp[h.len],λi j a o u e1 m1 e2 m2 a1 a2=>?_,λi o a e ea=>?_]
 ·by_cases hi:i < S.length <;> by_cases hj:j < S.length
  ·obtain⟨x1,y1⟩:=old e1 a1 hi;obtain⟨x2,y2⟩:=old e2 a2 hj;exact h.nd i j a o u x1 m1 x2 m2 y1 y2
  ·obtain⟨x1,y1⟩:=old e1 a1 hi;obtain⟨_,_,z⟩:=new e2 a2 hj;subst z;exact absurd hp ((h.obj i o a x1 y1).there m1)
  ·obtain⟨x2,y2⟩:=old e2 a2 hj;obtain⟨_,_,z⟩:=new e1 a1 hi;subst z;exact absurd hp ((h.obj j u a x2 y2).there m2)
  ·rw[(new e1 a1 hi).1,(new e2 a2 hj).1]
 ·by_cases hi:i < S.length
  ·obtain⟨x1,y1⟩:=old e ea hi;exact(h.obj i o a x1 y1).keep (.inl hp) (λhm z=>(h.obj i o a x1 y1).there hm (z ▸ hp)) ex
  ·obtain⟨_,rfl,rfl⟩:=new e ea hi;exact r
theorem StoreOk.push {S:aa}{p:KF}{ws:Kr W}{vs:Kr V}(h:StoreOk wd K A H S)(hp:H p=gV)(r:RelL K A H ws vs):StoreOk wd K (A++[p]) (cv H p (.lst vs)) (S++[.lst ws]):=
 h.pushO hp #[vs,bv,r.mono (dD hp)]
theorem StoreOk.writeO {S:aa}{i:KC}{p:KF}{o0 n:O}{u:HO}(h:StoreOk wd K A H S)(e:S[i]?=ba o0)(m0:o0.mut=true)(ea:A[i]?=ba p)(r:ObjRel wd K A (cv H p u) p n) :
  StoreOk wd K A (cv H p u) (S.set i n)/\Ext K A H A (cv H p u):=by
 have hw:Wr H p:=(h.obj i _ p e ea).wr m0;have ex:Ext K A H A (cv H p u):=dU hw;have hl:i < S.length:=(KJ.mp e).1;refine#[#[by simp[h.len],λj k a o u e1 m1 e2 m2 a1 a2=>?_,λj o a e1 a1=>?_],ex]
 ·have get:∀ {j:KC} {o:O},(S.set i n)[j]?=ba o->o.mut=true->∃o',S[j]?=ba o'/\o'.mut=true:=λ{j o} q m=>by
   rw[MH]at q
   by_cases z:i=j
   ·subst z; exact#[_,e,m0]
   ·rw[Li z]at q; exact#[o,q,m]
  obtain⟨o',x1,m1'⟩:=get e1 m1;obtain⟨u',x2,m2'⟩:=get e2 m2;exact h.nd j k a o' u' x1 m1' x2 m2' a1 a2
 ·rw[MH]at e1
  by_cases z:i=j
  ·subst z;rw[La rfl,La hl]at e1;cases e1;rw[ea]at a1; cases a1
   exact r
  ·rw[Li z]at e1;exact(h.obj j o a e1 a1).keep hw (λhm q=>z (h.nd i j p _ o e m0 e1 hm ea (q ▸ a1))) ex
theorem StoreOk.write {S:aa}{i:KC}{p:KF}{ws:Kr W}{us:Kr V}{ws0:Kr W}(h:StoreOk wd K A H S)(e:S[i]?=ba (.lst ws0))(ea:A[i]?=ba p)(r:RelL K A H ws us) :
  StoreOk wd K A (cv H p (.lst us)) (S.set i (.lst ws))/\Ext K A H A (cv H p (.lst us)):=
 h.writeO e rfl ea #[us,bv,r.mono (dU ((h.obj i _ p e ea).wr rfl))]
end
noncomputable def ii (S:aa)(i:KC):Kz (Kr W):=match S[i]? with
 | some (.lst xs)=>ba xs
 | some (.fro xs)=>ba xs
 | _=>gV
noncomputable def rc (S:aa)(i:KC):Kz (Kr W):=match S[i]? with
 | some (.lst xs)=>ba xs
 | _=>gV
noncomputable def nL (S:aa)(xs:Kr W):Kz (W×aa):=if xs.length<=sizeLine then ba (.ref S.length,S++[.lst xs])else gV
noncomputable def t9 (S:aa)(xs:Kr W):Kz (W×aa):=if xs.length<=sizeLine then ba (.tup xs,S)else gV
noncomputable def B4 (j:KO):Lf:=decide (0 < j)&&decide (j < 1073741824)
noncomputable def wK (i j:KO):Lf:=(decide (-(2 ^ 64) < i)&&decide (i < 2 ^ 64))||(decide (-(2 ^ 64) < j)&&decide (j < 2 ^ 64))
noncomputable def G9 (i j:KO):Lf:=decide (0<=j)&&decide (j<=1000000)&&decide (i.natAbs < 2 ^ 64)
inductive BOp where|add|sub|mul|fdiv|mod|pow
 deriving NM
noncomputable def By (c:KO->KO->Lf)(f:KO->KO->KO)(x y:W)(S:aa):Kz (W×aa):=match x,y with
 | .int i,.int j=>if c i j then ba (.int (f i j),S)else gV
 | _,_=>gV
noncomputable def wL (x y:W)(S:aa):Kz (W×aa):=match x with
 | .int i=>match y with
  | .int j=>ba (.int (i+j),S)
  | _=>gV
 | .str x=>match y with
  | .str y=>if x.length+y.length<=sizeLine then ba (.str (x++y),S)else gV
  | _=>gV
 | .tup xs=>match y with
  | .tup ys=>t9 S (xs++ys)
  | _=>gV
 | .ref i=>match y with
  | .ref j=>match rc S i,rc S j with
   | some xs,ba ys=>nL S (xs++ys)
   | _,_=>gV
  | _=>gV
 | _=>gV
noncomputable def yO (x y:W)(S:aa):Kz (W×aa):=match x with
 | .str x=>match y with
  | .int k=>if k < 2 ^ 24/\-(2 ^ 24)<=k/\x.length*k.toNat<=sizeLine then ba (.str (UC x k),S)else gV
  | _=>gV
 | .ref i=>match y with
  | .int k=>match rc S i with
   | some xs=>if k < 2 ^ 24/\-(2 ^ 24)<=k/\xs.length*k.toNat<=sizeLine then nL S (Lo k.toNat xs).flatten else gV
   | none=>gV
  | _=>gV
 | x=>By wK (· * ·) x y S
noncomputable def gJ:BOp->W->W->aa->Kz (W×aa)
 | .add,x,y,S=>wL x y S
 | .sub,x,y,S=>By (λ_ _=>true) (· - ·) x y S
 | .mul,x,y,S=>yO x y S
 | .fdiv,x,y,S=>By (λ_ j=>B4 j) (· / ·) x y S
 | .mod,x,y,S=>By (λ_ j=>decide (0 < j)) (· % ·) x y S
 | .pow,x,y,S=>By G9 (λi j=>i ^ j.toNat) x y S
noncomputable def BOp.py:BOp->Rl
 | .add=>.Add|.sub=>.Sub|.mul=>.Mult|.fdiv=>.FloorDiv|.mod=>.Mod|.pow=>.Pow
section
variable (X:Cx)
noncomputable def eC (pins:Kr (KF×Mp))(σ:L2.St)(A:Kr KF)(H:Hp)(S':aa)(w:W)(u:Ku)(s':Kx):Prop:=
 ∃v H' A',Inv X pins σ H' s'/\RelV v u/\Ext X.K A H A' H'/\StoreOk X.w X.K A' H' S'/\Rel X.K A' H' w v
noncomputable abbrev FE:=Fm->aa->Kz (W×aa)
noncomputable def LOp (f:Ku->Ku->Tz Ku)(g:W->W->aa->Kz (W×aa)):Prop:=
 ∀(pins:Kr (KF×Mp)) (s:Kx) (σ:L2.St) (H:Hp) (A:Kr KF) (S:aa) (x y:W) (a b:V) (u v:Ku) (w:W) (S':aa),Inv X pins σ H s->StoreOk X.w X.K A H S->
  Rel X.K A H x a->RelV a u->Rel X.K A H y b->RelV b v->g x y S=ba (w,S')->wpAny (model X.prog X.w) X.A (f u v) (eC X pins σ A H S' w) X.xe s
end
section
variable{X:Cx}
theorem lU {S:aa}{i:KC}{xs:Kr W}(h:rc S i=ba xs):S[i]?=ba (.lst xs):=by
 unfold rc at h;split at h
 ·cases h; assumption
 ·cases h
theorem fP {A:Kr KF}{H:Hp}{S:aa}{i:KC}{xs:Kr W}{a:KF}(so:StoreOk X.w X.K A H S)(h:rc S i=ba xs)(ea:A[i]?=ba a):∃vs,H a=ba (.lst vs)/\RelL X.K A H xs vs:=
 so.obj i _ a (lU h) ea
theorem c8 {A:Kr KF}{H:Hp}{S:aa}{i:KC}{xs:Kr W}{a:KF}(so:StoreOk X.w X.K A H S)(h:ii S i=ba xs)(ea:A[i]?=ba a):∃vs,SqL X.K H a vs/\RelL X.K A H xs vs:=by
 unfold ii at h;split at h
 ·cases h;obtain⟨vs,q,r⟩:=so.obj i _ a ‹_› ea;exact#[vs,.of q,r]
 ·cases h;obtain⟨vs,q,r⟩:=so.obj i _ a ‹_› ea;exact#[vs,q.sq,r]
 ·cases h
theorem lC {S S':aa}{xs:Kr W}{w:W}(h:nL S xs=ba (w,S')):xs.length<=sizeLine/\w=.ref S.length/\S'=S++[.lst xs]:=by
 unfold nL at h;split at h
 ·cases h; exact#[by assumption,rfl,rfl]
 ·cases h
theorem u8 {S S':aa}{xs:Kr W}{w:W}(h:t9 S xs=ba (w,S')):xs.length<=sizeLine/\w=.tup xs/\S'=S:=by
 unfold t9 at h;split at h
 ·cases h; exact#[by assumption,rfl,rfl]
 ·cases h
theorem B5 {A:Kr KF}{H:Hp}{S:aa}{ws:Kr W}{vs:Kr V}{Q:VK}{p:KF}(so:StoreOk X.w X.K A H S)(r:RelL X.K A H ws vs)(hp:H p=gV)
  (q:∀v H' A',Ext X.K A H A' H'->StoreOk X.w X.K A' H' (S++[.lst ws])->Rel X.K A' H' (.ref S.length) v->Q v H'):Q (.ref p) (cv H p (.lst vs)):=
 q _ _ (A++[p]) (dD hp) (so.push hp r) (.ref (by rw[<- so.len]; simp))
theorem B6 {A:Kr KF}{H:Hp}{S:aa}{ws:Kr W}{vs:Kr V}{Q:VK}{p:KF}(so:StoreOk X.w X.K A H S)(r:RelL X.K A H ws vs)(hp:H p=gV)
  (q:∀v H' A',Ext X.K A H A' H'->StoreOk X.w X.K A' H' S->Rel X.K A' H' (.tup ws) v->Q v H'):Q (.ref p) (cv H p (.tup vs)):=
 q _ _ A (dU (.inl hp)) (so.lay hp) (.tup (.of bv) (r.mono (dU (.inl hp))))
noncomputable def Ha (K:KM):R2:=λx y H Q=>∃a b xs ys,x=.ref a/\y=.ref b/\SqT K H a xs/\SqT K H b ys/\xs.length+ys.length<=sizeLine/\
 (xs=[]->Q (.ref b) H)/\(ys=[]->Q (.ref a) H)/\(∀p,H p=gV->Q (.ref p) (cv H p (.tup (xs++ys))))
theorem B7:OpR X (binaryOp .Add) (Ha X.K):=by
 intro pins s σ H x y v u Q I rx ry h;obtain⟨a,b,xs,ys,rfl,rfl,ha,hb,hz,q0,q1,q2⟩:=h;cases rx;cases ry;obtain⟨its,r1,p1,_⟩:=I.tuple ha;obtain⟨its2,r2,p2,_⟩:=I.tuple hb
 by_cases hx:xs=[]
 ·obtain⟨⟨cls,dd,data,sl⟩,ho,hc,n,hd⟩:=id p1;obtain⟨⟨cls2,dd2,data2,sl2⟩,ho2,hc2,n2,hd2⟩:=id p2;simp only at hc hd hc2 hd2;subst hc hd hc2 hd2;exact Rn #[_,ho,rfl] #[_,ho2,rfl] PH QP Om Of (N4 _ _)
   (tuple_addW0 a b its.toArray its2.toArray n n2 dd dd2 sl sl2 (by simp[r1.nil_iff.mpr hx])) #[ho,ho2,#[.ref b,H,I,rfl,q0 hx]]
 ·refine HT.BR p1 p2 (λz=>hx (r1.nil_iff.mp z)) (λz=>#[.ref a,H,I,rfl,q1 (r2.nil_iff.mp z)]) (λz=>?_) (by rw[<- r1.length,<- r2.length]; exact hz)
  refine#[.ref s.heap.objs.size,_,I.laid (t':=s.toks) (o:=.tup (xs++ys)) (λb ob q=>Kw _ q) (KH _) ?_,rfl,q2 _ (I.hok.fresh (KH _))]
  exact#[by rw[KG]; exact hz,_,r1.append r2,RI _ _]
theorem RelL.nil_iff {K:KM}{A:Kr KF}{H:Hp}{ws:Kr W}{vs:Kr V}(r:RelL K A H ws vs):vs=[]↔ws=[]:=by
 cases r <;> simp
theorem ub:OpR X (binaryOp .Mult) (λx y H Q=>∃z k,x=.str z/\y=.int k/\MulOk z k/\Q (.str (UC z k)) H):=by
 intro pins s σ H x y v u Q I rx ry h;obtain⟨z,k,rfl,rfl,ok,q⟩:=h;obtain⟨t,rfl⟩:=rx;obtain⟨t',rfl⟩:=ry;exact SB.mul ok λt2 k2=>#[.str _,H,I.tok _,#[_,rfl],q]
theorem yP {x:KZ}{k:KO}(h1:k < 16777216)(h2 : -16777216<=k)(h3:x.length*k.toNat<=sizeLine):MulOk x k:=by
 have hs:sizeLine=16777216:=LD;rw[hs]at h3;refine#[?_,λa b=>?_,λ_ _=>?_]
 ·rw[Bool.or_eq_false_iff];exact#[Lm ∅,Lm ∅]
 ·have hk:0 < k:=∅
  have e:(x.length:KO)*k=((x.length*k.toNat:KC):KO):=by
   rw[P7,QJ ∅]
  intro hgt;have h4:(2 ^ 63 - 1:KO) < (x.length:KO)*k:=(Int.ediv_lt_iff_lt_mul hk).mp hgt;rw[e]at h4;generalize x.length*k.toNat=z at h3 h4;omega
 ·unfold SH;rw[hs];exact Lm ∅
noncomputable def EndV (wd:Lz)(K:KM)(A:Kr KF)(H:Hp)(S':aa)(w:W):VK:=λv H'=>∃A',Ext K A H A' H'/\StoreOk wd K A' H' S'/\Rel K A' H' w v
theorem EndV.here {A:Kr KF}{H:Hp}{S:aa}{w:W}{v:V}(so:StoreOk X.w X.K A H S)(r:Rel X.K A H w v):EndV X.w X.K A H S w v H:=#[A,.refl,so,r]
theorem EndV.lst {A:Kr KF}{H:Hp}{S:aa}{ws:Kr W}{vs:Kr V}{p:KF}(so:StoreOk X.w X.K A H S)(r:RelL X.K A H ws vs)(hp:H p=gV):EndV X.w X.K A H (S++[.lst ws]) (.ref S.length) (.ref p) (cv H p (.lst vs)):=
 B5 (Q:=EndV X.w X.K A H (S++[.lst ws]) (.ref S.length)) so r hp λv H' A' a b c=>#[A',a,b,c]
theorem EndV.tup {A:Kr KF}{H:Hp}{S:aa}{ws:Kr W}{vs:Kr V}{p:KF}(so:StoreOk X.w X.K A H S)(r:RelL X.K A H ws vs)(hp:H p=gV):EndV X.w X.K A H S (.tup ws) (.ref p) (cv H p (.tup vs)):=
 B6 (Q:=EndV X.w X.K A H S (.tup ws)) so r hp λv H' A' a b c=>#[A',a,b,c]
theorem EP.post {pins:Kr (KF×Mp)}{σ:L2.St}{A:Kr KF}{H:Hp}{S':aa}{w:W}{u:Ku}{s':Kx}(h:EP X pins σ (EndV X.w X.K A H S' w) u s'):eC X pins σ A H S' w u s':=by
 obtain⟨v,H',I',r,A',x,y,z⟩:=h;exact#[v,H',A',I',r,x,y,z]
theorem OpR.go {f:Ku->Ku->Tz Ku}{r:R2}(h:OpR X f r){pins:Kr (KF×Mp)}{σ:L2.St}{A:Kr KF}{H:Hp}{S':aa}{w:W}{s:Kx}{a b:V}{u v:Ku}(I:Inv X pins σ H s)(ru:RelV a u)(rv:RelV b v)
  (q:r a b H (EndV X.w X.K A H S' w)):wpAny (model X.prog X.w) X.A (f u v) (eC X pins σ A H S' w) X.xe s:=ce (h pins s σ H a b u v _ I ru rv q) λ_ _=>EP.post
theorem B8:LOp X (binaryOp .Add) (gJ .add):=by
 intro pins s σ H A S x y a b u v w S' I so rx ru ry rv e;cases rx with
 | int=>cases ry with
  | int=>cases e; exact OpR.go EO I ru rv #[_,_,rfl,rfl,.here so .int]
  | _=>cases e
 | str=>cases ry with
  | str=>
   dsimp only[gJ,wL]at e;split at e
   ·cases e; exact OpR.go tW I ru rv #[_,_,rfl,rfl,by assumption,.here so .str]
   ·cases e
  | _=>cases e
 | tup h1 r1=>cases ry with
  | tup h2 r2=>
   obtain⟨hl,rfl,rfl⟩:=u8 (show t9 S _=_ from e)
   rw[KG,r1.length,r2.length]at hl;refine OpR.go B7 I ru rv #[_,_,_,_,rfl,rfl,h1,h2,hl,λz=>?_,λz=>?_,λp hp=>.tup so (r1.append r2) hp]
   ·have z':=r1.nil_iff.mp z;subst z';exact .here so (.tup h2 r2)
   ·have z':=r2.nil_iff.mp z;subst z';rw[Mf];exact .here so (.tup h1 r1)
  | _=>cases e
 | ref h1=>cases ry with
  | ref h2=>
   dsimp only[gJ,wL]at e;split at e
   ·obtain⟨hl,rfl,rfl⟩:=lC e;obtain⟨vs,q1,r1⟩:=fP so ‹_› h1;obtain⟨us,q2,r2⟩:=fP so ‹_› h2;rw[KG,r1.length,r2.length]at hl;exact OpR.go E6 I ru rv #[_,_,_,_,rfl,rfl,q1,q2,hl,λp hp=>.lst so (r1.append r2) hp]
   ·cases e
  | _=>cases e
 | _=>cases e
theorem rz {f:Ku->Ku->Tz Ku}{c:KO->KO->Lf}{g:KO->KO->KO}{r:R2}(h:OpR X f r)(hr:∀i j H Q,c i j=true->Q (.int (g i j)) H->r (.int i) (.int j) H Q):LOp X f (By c g):=by
 intro pins s σ H A S x y a b u v w S' I so rx ru ry rv e;cases rx with
 | int=>cases ry with
  | int=>
   unfold By at e;dsimp only at e;split at e
   ·cases e; exact OpR.go h I ru rv (hr _ _ _ _ ‹_› (.here so .int))
   ·cases e
  | _=>cases e
 | _=>cases e
theorem B9:LOp X (binaryOp .Sub) (gJ .sub):=rz EQ λ_ _ _ _ _ q=>#[_,_,rfl,rfl,q]
theorem Cb {i j:KO}(h:wK i j=true):CMul i j:=by
 unfold wK at h;rw[Mx,KA,KA,K5,K5,K5,K5]at h;exact h
theorem Cc:LOp X (binaryOp .Mult) (gJ .mul):=by
 have hI:LOp X (binaryOp .Mult) (By wK (· * ·)):=rz ER λ_ _ _ _ h q=>#[_,_,rfl,rfl,Cb h,q]
 intro pins s σ H A S x y a b u v w S' I so rx ru ry rv e;cases x with
 | str z=>
  cases rx with
  | str=>cases ry with
   | int=>
    dsimp only[gJ,yO]at e;split at e
    ·rename_i hc;cases e; exact OpR.go ub I ru rv #[_,_,rfl,rfl,yP ∅ ∅ hc.2.2,.here so .str]
    ·cases e
   | _=>cases e
 | ref z=>
  cases rx with
  | ref h1=>cases ry with
   | int=>
    dsimp only[gJ,yO]at e;split at e
    ·split at e
     ·rename_i hc;obtain⟨hl,rfl,rfl⟩:=lC e;obtain⟨vs,q1,r1⟩:=fP so ‹_› h1;rw[r1.length]at hc;exact OpR.go E7 I ru rv #[_,_,_,rfl,rfl,q1,∅,∅,hc.2.2,λp hp=>.lst so (r1.rep _) hp]
     ·cases e
    ·cases e
   | _=>cases e
 | _=>exact hI _ _ _ _ _ _ _ _ _ _ _ _ _ _ I so rx ru ry rv e
theorem yQ:LOp X (binaryOp .FloorDiv) (gJ .fdiv):=rz BM λ_ _ _ _ h q=>#[_,_,rfl,rfl,by
 unfold B4 at h;rw[KA,K5,K5]at h;exact h,q]
theorem Cd:LOp X (binaryOp .Mod) (gJ .mod):=rz ES λ_ _ _ _ h q=>#[_,_,rfl,rfl,LH h,q]
theorem Ce:LOp X (binaryOp .Pow) (gJ .pow):=rz ET λ_ _ _ _ h q=>#[_,_,rfl,rfl,by
 unfold G9 at h;rw[KA,KA,K5,K5,K5]at h;exact#[h.1.1,h.1.2,h.2],q]
theorem u9 (o:BOp):LOp X (binaryOp o.py) (gJ o):=by
 cases o
 ·exact B8
 ·exact B9
 ·exact Cc
 ·exact yQ
 ·exact Cd
 ·exact Ce
end
noncomputable def nM (f:W->W->Kz Lf):Kr W->Kr W->Kz Lf
 | [],[]=>ba true
 | [],_::_=>ba false
 | _::_,[]=>ba false
 | x::xs,y::ys=>match f x y,nM f xs ys with
  | some a,ba b=>ba (a&&b)
  | _,_=>gV
noncomputable def b2 (b:Lf):KO:=if b then 1 else 0
noncomputable def nN (S:aa):KC->W->W->Kz Lf
 | _,.non,y=>match y with
  | .non=>ba true
  | _=>gV
 | _,.bl a,y=>match y with
  | .bl b=>ba (a==b)
  | _=>gV
 | _,.int a,y=>match y with
  | .int b=>ba (a==b)
  | _=>gV
 | _,.str a,y=>match y with
  | .str b=>ba (a==b)
  | _=>gV
 | 0,_,_=>gV
 | d+1,.tup xs,y=>match y with
  | .tup ys=>nM (nN S d) xs ys
  | _=>gV
 | d+1,.ref i,y=>match y with
  | .ref j=>match rc S i,rc S j with
   | some xs,ba ys=>if xs.length=ys.length then nM (nN S d) xs ys else ba false
   | _,_=>gV
  | _=>gV
section
variable{X:Cx}{pins:Kr (KF×Mp)}{σ:L2.St}{H:Hp}{s:Kx}{A:Kr KF}{S:aa}
noncomputable def RU (K:KM)(A:Kr KF)(H:Hp)(w:W)(u:Ku):Prop:=∃v,Rel K A H w v/\RelV v u
theorem vc {ws:Kr W}{vs:Kr V}{us:Kr Ku}(r:RelL X.K A H ws vs)(q:Vals vs us):∀(j:KC) (h1:j < ws.length) (h2:j < us.length),RU X.K A H ws[j] us[j]:=by
 induction ws generalizing vs us with
 | nil=>intro j h1; simp at h1
 | cons w ws ih=>
  cases r with
  | cons r1 rr=>
   cases q with
   | cons q1 qq=>
    intro j h1 h2;cases j with
    | zero=>exact#[_,r1,q1]
    | succ j=>exact ih rr qq j (by simpa using h1) (by simpa using h2)
theorem yR {ws:Kr W}{u:Ku}(I:Inv X pins σ H s)(h:RU X.K A H (.tup ws) u):∃a its,u=.ref a/\Rh s.heap a its/\its.size=ws.length/\ws.length<=sizeLine/\∀(j:KC) (h1:j < ws.length) (h2:j < its.size),RU X.K A H ws[j] its[j]:=by
 obtain⟨v,r,q⟩:=h;cases r with
 | tup sq rl=>
  obtain⟨its,rv,ht,hz⟩:=I.tuple sq;refine#[_,its.toArray,q,ht,by rw[KR,<- rv.length,rl.length],by rw[rl.length]; exact hz,λj h1 h2=>?_]
  have:=vc rl rv j h1 (by simpa using h2)
  simpa using this
theorem yS {i:KC}{ws:Kr W}{u:Ku}(I:Inv X pins σ H s)(so:StoreOk X.w X.K A H S)(e:rc S i=ba ws)(h:RU X.K A H (.ref i) u):∃a its,u=.ref a/\A[i]?=ba a/\s.heap.IsList a its/\its.size=ws.length/\ws.length<=sizeLine/\∀(j:KC) (h1:j < ws.length) (h2:j < its.size),RU X.K A H ws[j] its[j]:=by
 obtain⟨v,r,q⟩:=h;cases r with
 | ref ea=>
  obtain⟨vs,hq,rl⟩:=fP so e ea;obtain⟨its,rv,ht,hz⟩:=I.list (.of hq);refine#[_,its.toArray,q,ea,ht.isList,by rw[KR,<- rv.length,rl.length],by rw[rl.length]; exact hz,λj h1 h2=>?_]
  have:=vc rl rv j h1 (by simpa using h2)
  simpa using this
theorem lV {f:W->W->Kz Lf}:∀ {xs ys:Kr W} {k:Lf},nM f xs ys=ba k->∃e:KC->Lf,(∀(j:KC) (h1:j < xs.length) (h2:j < ys.length),f xs[j] ys[j]=ba (e j))/\
  k=((K9 (min xs.length ys.length)).all e&&xs.length==ys.length)
 | [],[],k,h=>#[λ_=>true,λj h1=>by simp at h1,by cases h; rfl]
 | [],_::_,k,h=>#[λ_=>true,λj h1=>by simp at h1,by cases h; simp]
 | _::_,[],k,h=>#[λ_=>true,λj h1 h2=>by simp at h2,by cases h; simp]
 | x::xs,y::ys,k,h=>by
  dsimp only[nM]at h;split at h
  ·rename_i a b ha hb;cases h;obtain⟨e,h1,h2⟩:=lV hb;refine#[λj=>match j with|0=>a|j+1=>e j,λj hj1 hj2=>?_,?_]
   ·cases j with
    | zero=>exact ha
    | succ j=>exact h1 j (by simpa using hj1) (by simpa using hj2)
   ·subst h2;simp only[LJ,Nat.add_min_add_right,PZ,LR,Tl,Bool.and_assoc];congr 2;simp
  ·cases h
theorem Cf (I:Inv X pins σ H s)(so:StoreOk X.w X.K A H S):∀(d:KC) {x y:W} {v:V} {k:Lf},Rel X.K A H x v->Rel X.K A H y v->nN S d x y=ba k->k=true:=by
 intro d
 induction d with
 | zero=>
  intro x y v k rx ry e;cases rx with
  | non=>cases ry; cases e; rfl
  | bl=>cases ry; cases e; exact LK _
  | int=>cases ry; cases e; exact LK _
  | str=>cases ry; cases e; exact LK _
  | tup _ _=>cases e
  | ref _=>cases e
 | succ d ih=>
  have lists:∀ {xs ys:Kr W} {vs:Kr V} {k:Lf},RelL X.K A H xs vs->RelL X.K A H ys vs->nM (nN S d) xs ys=ba k->k=true:=by
   intro xs
   induction xs with
   | nil=>
    intro ys vs k r1 r2 e;cases r1; cases r2; cases e; rfl
   | cons x xs ihx=>
    intro ys vs k r1 r2 e;cases r1 with
    | cons p1 q1=>
     cases r2 with
     | cons p2 q2=>
      dsimp only[nM]at e;split at e
      ·rename_i a b ha hb;cases e;rw[ih p1 p2 ha,ihx q1 q2 hb];rfl
      ·cases e
  intro x y v k rx ry e;cases rx with
  | non=>cases ry; cases e; rfl
  | bl=>cases ry; cases e; exact LK _
  | int=>cases ry; cases e; exact LK _
  | str=>cases ry; cases e; exact LK _
  | tup h1 r1=>
   cases ry with
   | tup h2 r2=>
    rw[I.tuple_inj h1 h2]at r1;exact lists r1 r2 e
   | ref ea=>cases e
  | ref ea=>
   cases ry with
   | tup h2 r2=>cases e
   | ref eb=>
    dsimp only[nN]at e;split at e
    ·rename_i xs ys hx hy;have:=so.nd _ _ _ _ _ (lU hx) rfl (lU hy) rfl ea eb;subst this;rw[hx]at hy; cases hy
     rw[La rfl]at e;obtain⟨vs,q,r⟩:=fP so hx ea;exact lists r r e
    ·cases e
theorem aY (A:Lr):A.in1.units=A.units+1:=rfl
noncomputable abbrev Gp (B:Lr)(s:Kx)(u v:Ku)(k:Lf):Prop:=SeqAt.RcAt B s u v k/\SeqAt.RcNeAt B s u v (!k)/\OC B s u v k
open SeqAt in
theorem DU (I:Inv X pins σ H s)(so:StoreOk X.w X.K A H S):∀(d:KC) (B:Lr) {x y:W} {u v:Ku} {k:Lf},B.units+d < cLine->RU X.K A H x u->RU X.K A H y v->nN S d x y=ba k->Gp B s u v k:=by
 have non:∀ {B:Lr} {y:W} {u v:Ku} {k:Lf} {d:KC},RU X.K A H .non u->RU X.K A H y v->nN S d .non y=ba k->Gp B s u v k:=by
  intro B y u v k d ⟨_,rx,ra⟩ ⟨_,ry,rb⟩ e;cases rx;cases(show u=LG from ra)
  cases y with
  | non=>
   have e:ba (true)=ba k:=by cases d <;> exact e
   cases e;cases ry;cases(show v=LG from rb)
   exact#[.none_none,.none_none,.same _]
  | _=>cases d <;> cases e
 have bl:∀ {B:Lr} {b:Lf} {y:W} {u v:Ku} {k:Lf} {d:KC},RU X.K A H (.bl b) u->RU X.K A H y v->nN S d (.bl b) y=ba k->Gp B s u v k:=by
  intro B b y u v k d ⟨_,rx,ra⟩ ⟨_,ry,rb⟩ e;cases rx;cases(show u=NN _ from ra)
  cases y with
  | bl c=>
   have e:ba (b==c)=ba k:=by cases d <;> exact e
   cases e;cases ry;cases(show v=NN _ from rb)
   exact#[.bool_bool _ _,.bool_bool _ _,.bool_bool _ _]
  | _=>cases d <;> cases e
 have int:∀ {B:Lr} {b:KO} {y:W} {u v:Ku} {k:Lf} {d:KC},RU X.K A H (.int b) u->RU X.K A H y v->nN S d (.int b) y=ba k->Gp B s u v k:=by
  intro B b y u v k d ⟨_,rx,ra⟩ ⟨_,ry,rb⟩ e;cases rx;obtain⟨t0,rfl⟩ : ∃t,u=PF _ t:=ra;cases y with
  | int c=>
   have e:ba (b==c)=ba k:=by cases d <;> exact e
   cases e;cases ry;obtain⟨t,rfl⟩ : ∃t,v=PF _ t:=rb;exact#[.int_int _ _ _ _,.int_int _ _ _ _,.int_int _ _ _ _]
  | _=>cases d <;> cases e
 have str:∀ {B:Lr} {b:KZ} {y:W} {u v:Ku} {k:Lf} {d:KC},RU X.K A H (.str b) u->RU X.K A H y v->nN S d (.str b) y=ba k->Gp B s u v k:=by
  intro B b y u v k d ⟨_,rx,ra⟩ ⟨_,ry,rb⟩ e;cases rx;obtain⟨t0,rfl⟩ : ∃t,u=OA _ t:=ra;cases y with
  | str c=>
   have e:ba (b==c)=ba k:=by cases d <;> exact e
   cases e;cases ry;obtain⟨t,rfl⟩ : ∃t,v=OA _ t:=rb;exact#[.str_str _ _ _ _,.str_str _ _ _ _,.str_str _ _ _ _]
  | _=>cases d <;> cases e
 intro d
 induction d with
 | zero=>
  intro B x y u v k hu rx ry e;cases x with
  | non=>exact non rx ry e
  | bl b=>exact bl rx ry e
  | int b=>exact int rx ry e
  | str b=>exact str rx ry e
  | _=>cases e
 | succ d ih=>
  intro B x y u v k hu rx ry e;have hu0:B.units < cLine:=∅
  have hu1:B.in1.units+d < cLine:=by rw[aY]; omega
  have rx0:=rx;have ry0:=ry;have fin:∀ {a b:KF},u=.ref a->v=.ref b->RcAt B s u v k->RcNeAt B s u v (!k)->Gp B s u v k:=by
   intro a b ea eb h1 h2;subst ea eb;refine#[h1,h2,?_]
   by_cases hab:a=b
   ·subst hab;obtain⟨v1,q1,z1⟩:=rx0;obtain⟨v2,q2,z2⟩:=ry0;have e12:v1=v2:=z1.inj z2;subst e12;have:=Cf I so (d+1) q1 q2 e;subst this;exact EqAt.same _
   ·exact EqAt.of_refs hab h1
  cases x with
  | non=>exact non rx ry e
  | bl b=>exact bl rx ry e
  | int b=>exact int rx ry e
  | str b=>exact str rx ry e
  | tup xs=>
   cases y with
   | tup ys=>
    obtain⟨a,its,rfl,ht,hs,_,hi⟩:=yR I rx;obtain⟨b,its2,rfl,ht2,hs2,_,hi2⟩:=yR I ry;obtain⟨f,h1,h2⟩:=lV (show nM (nN S d) xs ys=ba k from e)
    have he:∀j (h1:j < its.size) (h2:j < its2.size),EqAt B.in1 s its[j] its2[j] (f j):=λj j1 j2=>
     (ih B.in1 hu1 (hi j (hs ▸ j1) j1) (hi2 j (hs2 ▸ j2) j2) (h1 j (hs ▸ j1) (hs2 ▸ j2))).2.2
    rw[<- hs,<- hs2]at h2;subst h2;exact fin rfl rfl (RcAt.tuples ht ht2 hu0 he) (RcNeAt.tuples ht ht2 hu0 he)
   | _=>cases e
  | ref i=>
   cases y with
   | ref j=>
    dsimp only[nN]at e;split at e
    ·rename_i ws ws2 hw hw2;obtain⟨a,its,rfl,_,hl,hs,_,hi⟩:=yS I so hw rx;obtain⟨b,its2,rfl,_,hl2,hs2,_,hi2⟩:=yS I so hw2 ry;split at e
     ·rename_i hlen;obtain⟨f,h1,h2⟩:=lV e;have he:∀j (h1:j < its.size) (h2:j < its2.size),EqAt B.in1 s its[j] its2[j] (f j):=λj j1 j2=>
       (ih B.in1 hu1 (hi j (hs ▸ j1) j1) (hi2 j (hs2 ▸ j2) j2) (h1 j (hs ▸ j1) (hs2 ▸ j2))).2.2
      have hk:k=(K9 its.size).all f:=by rw[h2,hs,hlen]; simp
      subst hk;exact fin rfl rfl (RcAt.lists hl hl2 (by rw[hs,hs2,hlen]) hu0 he) (RcNeAt.lists hl hl2 (by rw[hs,hs2,hlen]) hu0 he)
     ·rename_i hlen;cases e;have hb:(its.size != its2.size)=true:=by rw[hs,hs2]; simpa using hlen
      exact fin rfl rfl (RcAt.lists_lengths hl hl2 hb hu0) (RcNeAt.lists_lengths hl hl2 hb hu0)
    ·cases e
   | _=>cases e
end
noncomputable def DV (fe fl:W->W->Kz Lf):Kr W->Kr W->Kz Lf
 | [],[]=>ba false
 | [],_::_=>ba true
 | _::_,[]=>ba false
 | x::xs,y::ys=>match fe x y with
  | some true=>DV fe fl xs ys
  | some false=>fl x y
  | none=>gV
noncomputable def Kh (S:aa):KC->W->W->Kz Lf
 | _,.int a,.int b=>ba (decide (a < b))
 | _,.str a,.str b=>ba (decide (a.cps.toList < b.cps.toList))
 | d+1,.tup xs,.tup ys=>DV (nN S d) (Kh S d) xs ys
 | _,_,_=>gV
noncomputable def LtAt (B:Lr)(s:Kx)(u v:Ku)(k:Lf):Prop:=
 ∀(prog:Lk) (w:Lz) (E:Ku->Kx->Prop) (Q:Ku->Kx->Prop),Q (.bool k) s->wpAny (model prog w) B (richCompare .Lt u v) Q E s
inductive LexR (B:Lr)(s:Kx):Kr Ku->Kr Ku->Lf->Prop
 | nn:LexR B s [] [] false
 | nc {v:Ku} {vs:Kr Ku}:LexR B s [] (v::vs) true
 | cn {v:Ku} {vs:Kr Ku}:LexR B s (v::vs) [] false
 | eq {u v:Ku} {us vs:Kr Ku} {k:Lf}:OC B s u v true->LexR B s us vs k->LexR B s (u::us) (v::vs) k
 | ne {u v:Ku} {us vs:Kr Ku} {k:Lf}:OC B s u v false->LtAt B s u v k->LexR B s (u::us) (v::vs) k
section
open PySem.SeqAt
open PySem.AutoSeq1 (wpAny_loadPart')
open PySem.MeetsSeq PySem.MeetsSeq2 PySem.MeetsSeq3
theorem pT (l b:KF)(items items2:Lg Ku)(n n2:KC)(dd dd2:Kz KF)(sl sl2:Lg (Kz Ku))(k:Lf) :
  Meets (NK.«tuple.__lt__» #[[.ref l,.ref b],[]])
   (λB R s=>s.heap.get? l=ba { cls:=.type "tuple",dict:=dd,data:=.seq items n,slots:=sl }/\s.heap.get? b=ba { cls:=.type "tuple",dict:=dd2,data:=.seq items2 n2,slots:=sl2 }/\
    LexR B.in1 s items.toList items2.toList k/\R (.ok (.ret (.bool k))) s):=
 .of_wp λprog w A R s h=>by
  obtain⟨hp,g,d,tk,os⟩:=s; obtain⟨hl,hb,hx,h⟩:=h
  have f2:=SQ;have z1:items.toList.length=items.size:=by simp
  have z2:items2.toList.length=items2.size:=by simp
  wp_walk using OO hl,OO hb,NV _ (λcf b s'=>b.1=gV/\s'=#[hp,g,d,tk,os]/\∃(vs ws:Kr Ku),cf=vs.zip ws/\
   LexR A.in1 #[hp,g,d,tk,os] vs ws k/\vs.length+items2.size=ws.length+items.size) _
  case turn=>
   rintro⟨y,x⟩ cf b s' ⟨hb',rfl,vs,ws,hz,hlx,hlen⟩;cases hlx with
   | nn=>rw[Rs]at hz; cases hz
   | nc=>rw[Rs]at hz; cases hz
   | cn=>rw[List.zip_nil_right]at hz; cases hz
   | eq he hr=>
    rw[NE]at hz;injection hz with hyx hrest
    injection hyx with hy hx
    subst hy hx;simp only[LJ]at hlen;refine Ks (he prog w _ _ ?_)
    wp_walk
    exact#[rfl,rfl,_,_,hrest,hr,∅]
   | ne he hr=>
    rw[NE]at hz;injection hz with hyx hrest
    injection hyx with hy hx
    subst hy hx;refine Ks (he prog w _ _ ?_);have hri:=hr prog w
    wp_walk using hri
    exact#[_,rfl,by simpa using h]
  case fin=>
   rintro⟨b1,b2⟩ s' ⟨hb',rfl,vs,ws,hz,hlx,hlen⟩;simp only at hb';subst hb';have hv:k=decide (items.size < items2.size):=by
    cases hlx with
    | nn=>simp only[MN]at hlen; exact(Lm ∅).symm
    | nc=>simp only[MN,LJ]at hlen; exact(MW ∅).symm
    | cn=>simp only[MN,LJ]at hlen; exact(Lm ∅).symm
    | eq _ _=>rw[NE]at hz; cases hz
    | ne _ _=>rw[NE]at hz; cases hz
   subst hv
   wp_walk
   exact#[_,rfl,by simpa [RF]using h]
  case h=>
   exact#[rfl,rfl,items.toList,items2.toList,rfl,hx,∅]
end
theorem LtAt.tuples {B:Lr}{s:Kx}{l b:KF}{items items2:Lg Ku}{k:Lf}(hl:Rh s.heap l items)(hb:Rh s.heap b items2)(hu:B.units < cLine)(hx:LexR B.in1 s items.toList items2.toList k) :
  LtAt B s (.ref l) (.ref b) k:=λprog w E Q h=>by
 obtain⟨⟨cls,dd,data,sl⟩,ho,hc,n,hd⟩:=id hl;obtain⟨⟨cls2,dd2,data2,sl2⟩,ho2,hc2,n2,hd2⟩:=id hb;simp only at hc hd hc2 hd2;subst hc hd hc2 hd2;exact richCompare_meets_room (op:=.Lt) #[_,ho,rfl] #[_,ho2,rfl] PySem.F.slot_tuple_lt PySem.F.entry_tuple_lt (PySem.F.args_tuple_lt_2 _ _) (pT l b items items2 n n2 dd dd2 sl sl2 k)
  #[ho,ho2,hx,show NN k≠Value.notImplemented/\Q (.bool k) s from#[(λx=>nomatch x),h]] hu
inductive COp where|eq|ne|lt|le|gt|ge|isin|notin|is|isnot
 deriving NM
noncomputable def COp.py:COp->Te
 | .eq=>.Eq|.ne=>.NotEq|.lt=>.Lt|.le=>.LtE|.gt=>.Gt|.ge=>.GtE|.isin=>.In|.notin=>.NotIn|.is=>.Is|.isnot=>.IsNot
noncomputable def cC:W->Lf
 | .non=>true
 | .bl _=>true
 | .int _=>true
 | .str _=>true
 | _=>false
noncomputable def yT:W->W->Lf
 | .non,.non=>true
 | .bl a,.bl b=>a==b
 | .bl a,.int b=>b2 a==b
 | .int a,.bl b=>a==b2 b
 | .int a,.int b=>a==b
 | .str a,.str b=>a==b
 | _,_=>false
noncomputable def fH (S:aa):W->Kz (Kr W)
 | .tup xs=>ba xs
 | .ref i=>ii S i
 | _=>gV
noncomputable abbrev iK:KC:=20
noncomputable def Cg (x y:W)(S:aa):Kz Lf:=match fH S y with
 | some ys=>if cC x&&ys.all cC then ba (ys.any λz=>yT z x)else gV
 | none=>gV
noncomputable def yU:W->Lf
 | .non=>true
 | _=>false
noncomputable def yV (f:KO->KO->Lf):W->W->Kz Lf
 | .int i,.int j=>ba (f i j)
 | _,_=>gV
noncomputable def E8:COp->W->W->aa->Kz Lf
 | .eq,x,y,S=>nN S iK x y
 | .ne,x,y,S=>(nN S iK x y).map (!·)
 | .lt,x,y,_=>yV (λi j=>decide (i < j)) x y
 | .le,x,y,_=>yV (λi j=>decide (i<=j)) x y
 | .gt,x,y,_=>yV (λi j=>decide (j < i)) x y
 | .ge,x,y,_=>yV (λi j=>decide (j<=i)) x y
 | .isin,x,y,S=>Cg x y S
 | .notin,x,y,S=>(Cg x y S).map (!·)
 | .is,x,y,_=>if yU y then ba (yU x)else gV
 | .isnot,x,y,_=>if yU y then ba (!yU x)else gV
noncomputable def iL (o:COp)(x y:W)(S:aa):Kz (W×aa):=(E8 o x y S).map λk=>(.bl k,S)
section
variable{X:Cx}
theorem vd {pins:Kr (KF×Mp)}{σ:L2.St}{H:Hp}{s:Kx}{A:Kr KF}{S:aa}{k:Lf}(I:Inv X pins σ H s)(so:StoreOk X.w X.K A H S):eC X pins σ A H S (.bl k) (.bool k) s:=
 #[.bl k,H,A,I,rfl,.refl,so,.bl]
theorem Ch {o:COp}{x y w:W}{S S':aa}(h:iL o x y S=ba (w,S')):∃k,E8 o x y S=ba k/\w=.bl k/\S'=S:=by
 unfold iL at h;rw[Kv]at h;obtain⟨k,h1,h2⟩:=h;cases h2;exact#[k,h1,rfl,rfl]
theorem rA {A:Kr KF}{H:Hp}{w:W}{v:V}(r:Rel X.K A H w v)(f:cC w=true):iA v=true:=by
 cases r <;> first|rfl|cases f
theorem oN {A:Kr KF}{H:Hp}:∀ {ws:Kr W} {vs:Kr V},RelL X.K A H ws vs->ws.all cC=true->vs.all iA=true
 | _,_,.nil,_=>rfl
 | _,_,.cons r t,f=>by
  rw[LR,KA]at f ⊢;exact#[rA r f.1,oN t f.2]
theorem Ci {A:Kr KF}{H:Hp}{x y:W}{u v:V}(r:Rel X.K A H x u)(q:Rel X.K A H y v)(fx:cC x=true)(fy:cC y=true):BY u v=yT x y:=by
 cases r <;> cases q <;> first|rfl|cases fx|cases fy
theorem ve {A:Kr KF}{H:Hp}{y:W}{v:V}(q:Rel X.K A H y v)(fy:cC y=true):∀ {ws:Kr W} {vs:Kr V},RelL X.K A H ws vs->ws.all cC=true->IB v vs=ws.any λz=>yT z y
 | _,_,.nil,_=>rfl
 | _,_,.cons r t,f=>by
  rw[LR,KA]at f;have:=ve q fy t f.2;unfold IB at this ⊢;rw[M7,M7,Ci r q f.1 fy,this]
theorem pU {pins:Kr (KF×Mp)}{σ:L2.St}{H:Hp}{s:Kx}{A:Kr KF}{S:aa}{y:W}{b:V}{ys:Kr W}(so:StoreOk X.w X.K A H S)(r:Rel X.K A H y b)(e:fH S y=ba ys):∃p vs,b=.ref p/\(SqL X.K H p vs\/SqT X.K H p vs)/\RelL X.K A H ys vs:=by
 cases r with
 | tup h1 r1=>cases e; exact#[_,_,rfl,.inr h1,r1]
 | ref ea=>
  obtain⟨vs,h1,r1⟩:=c8 so e ea;exact#[_,vs,rfl,.inl h1,r1]
 | _=>cases e
theorem yW {neg:Lf}{o:Te}(ho:OpR X (compareOp o) (Jm X.K neg)){pins:Kr (KF×Mp)}{σ:L2.St}{H:Hp}{s:Kx}{A:Kr KF}{S:aa}{x y:W}{a b:V}{u v:Ku}{ys:Kr W}(I:Inv X pins σ H s)(so:StoreOk X.w X.K A H S)
  (rx:Rel X.K A H x a) (ru:RelV a u) (ry:Rel X.K A H y b) (rv:RelV b v) (e:fH S y=ba ys) (f:(cC x&&ys.all cC)=true) :
  wpAny (model X.prog X.w) X.A (compareOp o u v) (eC X pins σ A H S (.bl (if neg then !ys.any λz=>yT z x else ys.any λz=>yT z x))) X.xe s:=by
 obtain⟨p,vs,rfl,hq,rl⟩:=pU (pins:=pins) (σ:=σ) (s:=s) so ry e;rw[KA]at f;refine OpR.go ho I ru rv #[p,vs,rfl,hq,rA rx f.1,oN rl f.2,?_];rw[ve rx f.1 rl f.2];exact .here so .bl
theorem Cj (hu:X.A.units+iK < cLine)(o:COp):LOp X (compareOp o.py) (iL o):=by
 intro pins s σ H A S x y a b u v w S' I so rx ru ry rv e;obtain⟨k,ek,e1,e2⟩:=Ch e;subst e1;subst e2;clear e
 rename aa=>S
 have twoI:∀ {f:KO->KO->Lf},yV f x y=ba k->∃i j,x=.int i/\y=.int j/\k=f i j:=by
  intro f h;cases x with
  | int i=>cases y with
   | int j=>cases h; exact#[i,j,rfl,rfl,rfl]
   | _=>cases h
  | _=>cases h
 have hu1:X.A.units+1 < cLine:=by have:iK=20:=rfl; omega
 have ofSq:∀ {c:Lf},Cg x y S=ba c->(∃ys,fH S y=ba ys/\(cC x&&ys.all cC)=true/\c=ys.any λz=>yT z x):=by
  intro c h;unfold Cg at h;split at h
  ·split at h
   ·cases h; exact#[_,by assumption,by assumption,rfl]
   ·cases h
  ·cases h
 have ofN:∀ {c:Lf},(if yU y then ba c else gV)=ba k->y=.non/\k=c:=by
  intro c h;cases y with
  | non=>cases h; exact#[rfl,rfl]
  | _=>cases h
 cases o with
 | eq=>exact(DU I so iK X.A hu #[a,rx,ru] #[b,ry,rv] ek).1 _ _ _ _ (vd I so)
 | ne=>
  obtain⟨k',h1,rfl⟩:=Kv.mp ek;exact(DU I so iK X.A hu #[a,rx,ru] #[b,ry,rv] h1).2.1 _ _ _ _ (vd I so)
 | lt=>
  obtain⟨i,j,rfl,rfl,rfl⟩:=twoI ek;cases rx; cases ry
  exact OpR.go GX I ru rv #[_,_,rfl,rfl,.here so .bl]
 | le=>
  obtain⟨i,j,rfl,rfl,rfl⟩:=twoI ek;cases rx; cases ry
  exact OpR.go GY I ru rv #[_,_,rfl,rfl,.here so .bl]
 | gt=>
  obtain⟨i,j,rfl,rfl,rfl⟩:=twoI ek;cases rx; cases ry
  exact OpR.go GZ I ru rv #[_,_,rfl,rfl,.here so .bl]
 | ge=>
  obtain⟨i,j,rfl,rfl,rfl⟩:=twoI ek;cases rx; cases ry
  exact OpR.go G0 I ru rv #[_,_,rfl,rfl,.here so .bl]
 | isin=>
  obtain⟨ys,h1,h2,rfl⟩:=ofSq ek;exact yW (neg:=false) wD I so rx ru ry rv h1 h2
 | notin=>
  obtain⟨c,h,rfl⟩:=Kv.mp ek;obtain⟨ys,h1,h2,rfl⟩:=ofSq h;exact yW (neg:=true) pQ I so rx ru ry rv h1 h2
 | is=>
  obtain⟨rfl,rfl⟩:=ofN ek;cases ry;refine OpR.go EV I ru rv #[rfl,?_];cases rx <;> exact .here so .bl
 | isnot=>
  obtain⟨rfl,rfl⟩:=ofN ek;cases ry;refine OpR.go BN I ru rv #[rfl,?_];cases rx <;> exact .here so .bl
end
end Mi
namespace HT
open PySem PyProof.Rows
section
variable{prog:Lk}{w:Lz}{A:Lr}{E:Ku->Kx->Prop}{s:Kx}
theorem ij {t sl:KF}{items:Lg Ku}{vl vu:Ku}{lo hi:Kz KO}{Q:Ku->Kx->Prop}(ht:Rh s.heap t items)(hs:s.heap.IsSliceOf sl vl vu .none)(pl:O2 vl lo)(pu:O2 vu hi)
  (hw:c9 items.size 0 lo=0/\c9 items.size items.size hi=items.size) (h:Q (.ref t) s):wpAny (model prog w) A (getItem (.ref t) (.ref sl)) Q E s:=by
 obtain⟨os,hos,hcs,hds⟩:=id hs;have hTs:s.TypeIs (.ref sl) "slice":=#[os,hos,hcs];unfold getItem
 try with_reducible refine LQ ?_
 first|refine Ks (Ky ?_)|skip
 refine Ks (Ro ht.typeIs #v[] ?_)
 refine Ks (LS (name:=MT "__getitem__") ht.typeIs MO
  (LU MO ht.typeIs QI ?_ (QY _ _)))
 show wpAny _ _ (NP (.ref t) >>= _) _ _ s;refine Ks (SL ht ?_);refine Ks (ND hTs ?_);rw[La #v[]]
 refine Ks (fT hs pl pu ?_);have hyes:((((c9 items.size 0 lo:KC):KO)==0&&(1:KO)==1&&(c9 items.size items.size hi - c9 items.size 0 lo)==items.size)=true):=by
  rw[hw.1,hw.2];simp
 show wpAny _ _ (if (((c9 items.size 0 lo:KC):KO)==0&&(1:KO)==1&&(c9 items.size items.size hi - c9 items.size 0 lo)==items.size)=true then _ else _) _ _ s
 rw[La hyes];unfold Sv;refine Ks (Ks (ND ht.typeIs (Ky ?_)));rw[La #v[]]
 exact Ks (PU (Ks (Ky (Ky #[_,rfl,Ky h]))))
end
end HT
namespace Mi
open PySem PySem.Spec PyProof.Rows L2
noncomputable def yh (x y:W)(S:aa):Kz (W×aa):=match x,y with
 | .tup xs,.int i=>(tM xs i).map λw=>(w,S)
 | .ref r,.int i=>match ii S r with
  | some xs=>(tM xs i).map λw=>(w,S)
  | none=>gV
 | .str x,.int i=>if x.length<=sizeLine then(tM x.cps.toList i).map λc=>(.str #[[c].toArray],S)else gV
 | _,_=>gV
noncomputable def jO (xs:Kr W)(lo hi:Kz KO):Kr W:=(xs.drop (HT.c9 xs.length 0 lo)).take (HT.c9 xs.length xs.length hi - HT.c9 xs.length 0 lo)
noncomputable def re (x:W)(lo hi:Kz KO)(S:aa):Kz (W×aa):=match x with
 | .tup xs=>ba (.tup (jO xs lo hi),S)
 | .ref r=>match ii S r with
  | some xs=>ba (.ref S.length,S++[.lst (jO xs lo hi)])
  | none=>gV
 | _=>gV
noncomputable def wM (o i v:W)(S:aa):Kz aa:=match o,i with
 | .ref r,.int k=>match rc S r with
  | some xs=>match yf xs.length k with
   | some j=>ba (S.set r (.lst (xs.set j v)))
   | none=>gV
  | none=>gV
 | _,_=>gV
section
variable (X:Cx)
noncomputable def LIx (g:W->W->aa->Kz (W×aa)):Prop:=
 ∀(value slice:Lb) (pins:Kr (KF×Mp)) (s:Kx) (σ:L2.St) (H:Hp) (A:Kr KF) (S:aa) (x y:W) (a b:V) (u v:Ku) (w:W) (S':aa),Inv X pins σ H s->StoreOk X.w X.K A H S->
  Rel X.K A H x a->RelV a u->Rel X.K A H y b->RelV b v->g x y S=ba (w,S')->subscripted slice false u v=operate [u,v] (getItem u v)->wpAny (model X.prog X.w) X.A (subscriptTail value slice u v) (eC X pins σ A H S' w) X.xe s
noncomputable def LSl (g:W->Kz KO->Kz KO->aa->Kz (W×aa)):Prop:=
 ∀(pins:Kr (KF×Mp)) (s:Kx) (σ:L2.St) (H:Hp) (A:Kr KF) (S:aa) (x:W) (a:V) (v vl vu:Ku) (lo hi:Kz KO) (sl:KF) (w:W) (S':aa),Inv X pins σ H s->StoreOk X.w X.K A H S->
  Rel X.K A H x a->RelV a v->s.heap.IsSliceOf sl vl vu .none->O2 vl lo->O2 vu hi->g x lo hi S=ba (w,S')->
  ∃T id,typeLookup (.type T) "__getitem__" = pure (ba (.builtin id))/\s.TypeIs v T/\wpAny (model X.prog X.w) X.A (getItem v (.ref sl)) (eC X pins σ A H S' w) X.xe s
noncomputable def LSet (g:W->W->W->aa->Kz aa):Prop:=
 ∀(pins:Kr (KF×Mp)) (s:Kx) (σ:L2.St) (H:Hp) (A:Kr KF) (S:aa) (o i x:W) (ao ai ax:V) (uo ui ux:Ku) (S':aa),Inv X pins σ H s->StoreOk X.w X.K A H S->
  Rel X.K A H o ao->RelV ao uo->Rel X.K A H i ai->RelV ai ui->Rel X.K A H x ax->RelV ax ux->g o i x S=ba S'->
  wpAny (model X.prog X.w) X.A (setItem uo ui ux) (λ_ s'=>∃H' A',Inv X pins σ H' s'/\Ext X.K A H A' H'/\StoreOk X.w X.K A' H' S') X.xe s
noncomputable def LCall (f:Ku)(g:Kr W->aa->Kz (W×aa)):Prop:=
 ∀(pins:Kr (KF×Mp)) (s:Kx) (σ:L2.St) (H:Hp) (A:Kr KF) (S:aa) (xs:Kr W) (vs:Kr V) (us:Kr Ku) (w:W) (S':aa),Inv X pins σ H s->StoreOk X.w X.K A H S->
  RelL X.K A H xs vs->Vals vs us->g xs S=ba (w,S')->wpAny (model X.prog X.w) X.A (call f us) (eC X pins σ A H S' w) X.xe s
noncomputable def LMeth (id:L8)(g:W->Kr W->aa->Kz (W×aa)):Prop:=
 ∀(pins:Kr (KF×Mp)) (s:Kx) (σ:L2.St) (H:Hp) (A:Kr KF) (S:aa) (x:W) (a:V) (u:Ku) (xs:Kr W) (vs:Kr V) (us:Kr Ku) (w:W) (S':aa),Inv X pins σ H s->StoreOk X.w X.K A H S->
  Rel X.K A H x a->RelV a u->RelL X.K A H xs vs->Vals vs us->g x xs S=ba (w,S')->wpAny (model X.prog X.w) X.A (call (.builtin id) (u::us)) (eC X pins σ A H S' w) X.xe s
end
section
variable{X:Cx}{pins:Kr (KF×Mp)}{σ:L2.St}{H:Hp}{s:Kx}{A:Kr KF}{S:aa}
theorem IxR.go {r:R2}(h:IxR X r){S':aa}{w:W}{a b:V}{u v:Ku}{value slice:Lb}(I:Inv X pins σ H s)(ru:RelV a u)(rv:RelV b v)(q:r a b H (EndV X.w X.K A H S' w))(hs:subscripted slice false u v=operate [u,v] (getItem u v)) :
  wpAny (model X.prog X.w) X.A (subscriptTail value slice u v) (eC X pins σ A H S' w) X.xe s:=ce (h value slice pins s σ H a b u v _ I ru rv q hs) λ_ _=>EP.post
theorem CallR.go {f:Ku}{r:Kr V->Hp->VK->Prop}(h:CallR X f r){S':aa}{w:W}{vs:Kr V}{us:Kr Ku}(I:Inv X pins σ H s)(rv:Vals vs us)(q:r vs H (EndV X.w X.K A H S' w)) :
  wpAny (model X.prog X.w) X.A (call f us) (eC X pins σ A H S' w) X.xe s:=ce (h pins s σ H vs us _ I rv q) λ_ _=>EP.post
theorem MtR.go {id:L8}{r:V->Kr V->Hp->VK->Prop}(h:MtR X id r){S':aa}{w:W}{a:V}{u:Ku}{vs:Kr V}{us:Kr Ku}(I:Inv X pins σ H s)(ru:RelV a u)(rv:Vals vs us)(q:r a vs H (EndV X.w X.K A H S' w)) :
  wpAny (model X.prog X.w) X.A (call (.builtin id) (u::us)) (eC X pins σ A H S' w) X.xe s:=ce (h pins s σ H a vs u us _ I ru rv q) λ_ _=>EP.post
theorem vf {xs:Kr W}{vs:Kr V}{i:KO}{w:W}(r:RelL X.K A H xs vs)(e:tM xs i=ba w):∃v,tM vs i=ba v/\Rel X.K A H w v:=by
 unfold tM at e ⊢;rw[r.length]at e;cases q:yf vs.length i with
 | none=>rw[q]at e; cases e
 | some j=>
  rw[q]at e;obtain⟨v,h1,h2⟩:=r.get (show xs[j]?=ba w from e)
  exact#[v,h1,h2]
theorem Ki (hu:X.A.units+10 < cLine):LIx X yh:=by
 intro value slice pins s σ H A S x y a b u v w S' I so rx ru ry rv e hs;cases rx with
 | tup h1 r1=>cases ry with
  | int=>
   (dsimp only[yh]at e; simp only[Kv]at e)
   obtain⟨w',e1,e2⟩:=e;cases e2;obtain⟨z,h2,r2⟩:=vf r1 e1;exact IxR.go E2 I ru rv #[_,_,_,_,rfl,rfl,h1,h2,.here so r2] hs
  | _=>cases e
 | ref ea=>cases ry with
  | int=>
   dsimp only[yh]at e;split at e
   ·rename_i ws hw;rw[Kv]at e;obtain⟨w',e1,e2⟩:=e;cases e2;obtain⟨vs,h1,r1⟩:=c8 so hw ea;obtain⟨z,h2,r2⟩:=vf r1 e1;exact IxR.go BW I ru rv #[_,_,_,_,rfl,rfl,h1,h2,.here so r2] hs
   ·cases e
  | _=>cases e
 | str=>cases ry with
  | int=>
   dsimp only[yh]at e;split at e
   ·rw[Kv]at e;obtain⟨c,e1,e2⟩:=e;cases e2;exact IxR.go E3 I ru rv #[_,_,_,rfl,rfl,by assumption,e1,.here so .str] hs
   ·cases e
  | _=>cases e
 | _=>cases ry <;> cases e
theorem pV {xs:Kr W}{vs:Kr V}{lo hi:Kz KO}(r:RelL X.K A H xs vs):RelL X.K A H (jO xs lo hi) (lT vs lo hi):=by
 unfold jO lT;rw[r.length];exact(r.drop _).take _
theorem Ck:G6 X (λx lo hi H Q=>∃a xs,x=.ref a/\SqT X.K H a xs/\(lT xs lo hi=xs->Q (.ref a) H)/\∀p,H p=gV->Q (.ref p) (cv H p (.tup (lT xs lo hi)))):=by
 intro pins s σ H x v vl vu lo hi sl Q I rx hs pl pu h;obtain⟨a,xs,rfl,hx,q0,q⟩:=h
 by_cases hw:(HT.c9 xs.length 0 lo=0/\HT.c9 xs.length xs.length hi=xs.length)
 ·cases rx;obtain⟨its,r,ht,hz⟩:=I.tuple hx;have hlen:its.toArray.size=xs.length:=by rw[KR]; exact r.length.symm
  refine#["tuple",_,PyProof.Rows.slot_tuple_getitem.lookup,ht.typeIs,?_];refine HT.ij ht hs pl pu (by rw[hlen]; exact hw) #[.ref a,H,I,rfl,q0 ?_]
  unfold lT;rw[hw.1,hw.2];simp
 ·exact E1 pins s σ H (.ref a) v vl vu lo hi sl Q I rx hs pl pu #[a,xs,rfl,hx,hw,q]
theorem Kj:LSl X re:=by
 intro pins s σ H A S x a v vl vu lo hi sl w S' I so rx rv hs pl pu e;cases rx with
 | tup h1 r1=>
  cases e;obtain⟨T,id,z1,z2,z3⟩:=Ck pins s σ H _ v vl vu lo hi sl (EndV X.w X.K A H S (.tup (jO _ lo hi))) I rv hs pl pu #[_,_,rfl,h1,λq=>.here so (.tup h1 (by have:=pV (lo:=lo) (hi:=hi) r1; rw[q]at this; exact this)),λp hp=>.tup so (pV r1) hp]
  exact#[T,id,z1,z2,ce z3 λ_ _=>EP.post]
 | ref ea=>
  simp only[re]at e;split at e
  ·rename_i ws hw;cases e;obtain⟨vs,h1,r1⟩:=c8 so hw ea;obtain⟨T,id,z1,z2,z3⟩:=BX pins s σ H _ v vl vu lo hi sl (EndV X.w X.K A H (S++[.lst (jO ws lo hi)]) (.ref S.length)) I rv hs pl pu #[_,_,rfl,h1,λp hp=>.lst so (pV r1) hp]
   exact#[T,id,z1,z2,ce z3 λ_ _=>EP.post]
  ·cases e
 | _=>cases e
theorem lset (hu:X.A.units+10 < cLine):LSet X wM:=by
 intro pins s σ H A S o i x ao ai ax uo ui ux S' I so ro ruo ri rui rx rux e;cases ro with
 | ref ea=>cases ri with
  | int=>
   simp only[wM]at e;split at e
   ·rename_i ws hw;split at e
    ·rename_i j hj;cases e;obtain⟨vs,h1,r1⟩:=fP so hw ea;rw[r1.length]at hj;obtain⟨so',ex⟩:=so.write (lU hw) ea (r1.set rx j);exact ce (yF pins s σ H _ _ _ uo ui ux (λH'=>H'=cv H _ (.lst (vs.set j ax))) I ruo rui rux #[_,_,_,_,rfl,rfl,h1,hj,rfl]) λ_ s' #[H',I',e']=>#[_,A,e' ▸ I',ex,so']
    ·cases e
   ·cases e
  | _=>cases e
 | _=>cases ri <;> cases e
noncomputable def uc (xs:Kr W)(S:aa):Kz (W×aa):=match xs with
 | [.tup ys]=>ba (.int ys.length,S)
 | [.str y]=>if y.length<=sizeLine then ba (.int y.length,S)else gV
 | [.ref i]=>(ii S i).map λys=>(.int ys.length,S)
 | _=>gV
theorem wQ:LCall X (.builtin "len") uc:=by
 intro pins s σ H A S xs vs us w S' I so rl rv e;cases rl with
 | nil=>cases e
 | cons r t=>
  cases t with
  | cons _ _=>cases r <;> cases e
  | nil=>
   cases r with
   | tup h1 r1=>cases e; rw[r1.length]; exact CallR.go lQ I rv #[_,_,rfl,.inr #[_,h1,rfl],.here so .int]
   | str=>
    dsimp only[uc]at e;split at e
    ·cases e; exact CallR.go lQ I rv #[_,_,rfl,#[by assumption,rfl],.here so .int]
    ·cases e
   | ref ea=>
    (dsimp only[uc]at e; simp only[Kv]at e)
    obtain⟨ws,hw,e2⟩:=e;cases e2;obtain⟨vs',h1,r1⟩:=c8 so hw ea;rw[r1.length];exact CallR.go lQ I rv #[_,_,rfl,.inl #[_,h1,rfl],.here so .int]
   | _=>cases e
noncomputable def jf (xs:Kr W)(S:aa):Kz (W×aa):=match xs with
 | [x]=>match fH S x with
  | some ys=>ba (.ref S.length,S++[.lst ys])
  | none=>gV
 | _=>gV
theorem iM:LCall X (.type "list") jf:=by
 intro pins s σ H A S xs vs us w S' I so rl rv e;cases rl with
 | nil=>cases e
 | cons r t=>
  cases t with
  | cons _ _=>cases e
  | nil=>
   simp only[jf]at e;split at e
   ·rename_i ys hy;cases e;obtain⟨p,vs',rfl,hq,r1⟩:=pU (pins:=pins) (σ:=σ) (s:=s) so r hy;exact CallR.go pR I rv #[p,vs',rfl,hq,λl hl=>.lst so r1 hl]
   ·cases e
noncomputable def lW (xs:Kr W)(S:aa):Kz (W×aa):=match xs with
 | [.tup ys]=>ba (.tup ys,S)
 | [.ref i]=>match ii S i with
  | some ys=>ba (.tup ys,S)
  | none=>gV
 | _=>gV
theorem kP:LCall X (.type "tuple") lW:=by
 intro pins s σ H A S xs vs us w S' I so rl rv e;cases rl with
 | nil=>cases e
 | cons r t=>
  cases t with
  | cons _ _=>cases r <;> cases e
  | nil=>
   cases r with
   | tup h1 r1=>cases e; exact CallR.go iB I rv #[_,_,rfl,.inr #[h1,.here so (.tup h1 r1)]]
   | ref ea=>
    dsimp only[lW]at e;split at e
    ·rename_i ys hy;cases e;obtain⟨vs',h1,r1⟩:=c8 so hy ea;exact CallR.go iB I rv #[_,_,rfl,.inl #[h1,λl hl=>.tup so r1 hl]]
    ·cases e
   | _=>cases e
noncomputable def Hb (xs:Kr W)(S:aa):Kz (W×aa):=match xs with
 | [.int i]=>ba (.int i,S)
 | [.bl b]=>ba (.int (if b then 1 else 0),S)
 | _=>gV
theorem wR:LCall X (.type "int") Hb:=by
 intro pins s σ H A S xs vs us w S' I so rl rv e;cases rl with
 | nil=>cases e
 | cons r t=>
  cases t with
  | cons _ _=>cases r <;> cases e
  | nil=>
   cases r with
   | int=>cases e; exact CallR.go oB I rv (.inl #[_,rfl,.here so .int])
   | bl=>cases e; exact CallR.go oB I rv (.inr #[_,rfl,.here so .int])
   | _=>cases e
noncomputable def jg (x:W)(xs:Kr W)(S:aa):Kz (W×aa):=match x,xs with
 | .ref i,[y]=>match rc S i with
  | some ys=>if ys.length < sizeLine then ba (.non,S.set i (.lst (ys++[y])))else gV
  | none=>gV
 | _,_=>gV
theorem jP {i:KC}{p:KF}{ws ws0:Kr W}{us:Kr V}(so:StoreOk X.w X.K A H S)(e:rc S i=ba ws0)(ea:A[i]?=ba p)(r:RelL X.K A H ws us){w:W}{v:V}(rw':Rel X.K A H w v) :
  EndV X.w X.K A H (S.set i (.lst ws)) w v (cv H p (.lst us)):=by
 obtain⟨so',ex⟩:=so.write (lU e) ea r;exact#[A,ex,so',rw'.mono ex]
theorem pW:LMeth X "list.append" jg:=by
 intro pins s σ H A S x a u xs vs us w S' I so rx ru rl rv e;cases rx with
 | ref ea=>
  cases rl with
  | nil=>cases e
  | cons r t=>
   cases t with
   | cons _ _=>cases e
   | nil=>
    simp only[jg]at e;split at e
    ·rename_i ys hy;split at e
     ·rename_i hl;cases e;obtain⟨vs',h1,r1⟩:=fP so hy ea;rw[r1.length]at hl;exact MtR.go wF I ru rv #[_,_,_,rfl,rfl,h1,hl,jP so hy ea (r1.append #v[r]) .non]
     ·cases e
    ·cases e
 | _=>cases e
noncomputable def jh (x:W)(xs:Kr W)(S:aa):Kz (W×aa):=match x,xs with
 | .ref i,[.ref j]=>match rc S i,rc S j with
  | some ys,ba zs=>if ys.length+zs.length<=sizeLine then ba (.non,S.set i (.lst (ys++zs)))else gV
  | _,_=>gV
 | _,_=>gV
theorem pX:LMeth X "list.extend" jh:=by
 intro pins s σ H A S x a u xs vs us w S' I so rx ru rl rv e;cases rx with
 | ref ea=>
  cases rl with
  | nil=>cases e
  | cons r t=>
   cases t with
   | cons _ _=>cases r <;> cases e
   | nil=>
    cases r with
    | ref eb=>
     dsimp only[jh]at e;split at e
     ·rename_i ys zs hy hz;split at e
      ·rename_i hl;cases e;obtain⟨vs',h1,r1⟩:=fP so hy ea;obtain⟨vs2,h2,r2⟩:=fP so hz eb;rw[r1.length,r2.length]at hl;exact MtR.go wH I ru rv #[_,_,_,_,rfl,rfl,h1,h2,hl,jP so hy ea (r1.append r2) .non]
      ·cases e
     ·cases e
    | _=>cases e
 | _=>cases e
noncomputable def E9 (x:W)(xs:Kr W)(S:aa):Kz (W×aa):=match x,xs with
 | .ref i,[.int k]=>match rc S i with
  | some ys=>if -(2 ^ 63)<=k/\k < 2 ^ 63 then match seqIndex? k ys.length with
   | some j=>match ys[j]? with
    | some y=>ba (y,S.set i (.lst (ys.eraseIdx j)))
    | none=>gV
   | none=>gV
   else gV
  | none=>gV
 | _,_=>gV
theorem wW:LMeth X "list.pop" E9:=by
 intro pins s σ H A S x a u xs vs us w S' I so rx ru rl rv e;cases rx with
 | ref ea=>
  cases rl with
  | nil=>cases e
  | cons r t=>
   cases t with
   | cons _ _=>cases r <;> cases e
   | nil=>
    cases r with
    | int=>
     dsimp only[E9]at e;split at e
     ·rename_i ys hy;split at e
      ·rename_i hk;split at e
       ·rename_i j hj;split at e
        ·rename_i y hyj;cases e;obtain⟨vs',h1,r1⟩:=fP so hy ea;obtain⟨v',h2,r2⟩:=r1.get hyj;rw[r1.length]at hj;exact MtR.go yI I ru rv #[_,_,_,_,_,rfl,rfl,h1,hk.1,hk.2,hj,h2,jP so hy ea (r1.eraseIdx j) r2]
        ·cases e
       ·cases e
      ·cases e
     ·cases e
    | _=>cases e
 | _=>cases e
noncomputable def jQ:Kr W->Kz (Kr KZ)
 | []=>ba []
 | .str x::xs=>(jQ xs).map (x :: ·)
 | _::_=>gV
noncomputable def vg (x:W)(xs:Kr W)(S:aa):Kz (W×aa):=match x,xs with
 | .str x,[y]=>match fH S y with
  | some ys=>match jQ ys with
   | some zs=>if (zs.map (·.length)).sum+zs.length*x.length<=16777216 then ba (.str (TK x zs),S)else gV
   | none=>gV
  | none=>gV
 | _,_=>gV
theorem lX:∀ {ws:Kr W} {vs:Kr V} {us:Kr Ku} {zs:Kr KZ},RelL X.K A H ws vs->Vals vs us->jQ ws=ba zs->StrsAre us zs
 | _,_,_,zs,.nil,.nil,e=>by cases e; exact .nil
 | _,_,_,zs,.cons r t,.cons q p,e=>by
  cases r with
  | str=>
   simp only[jQ,Kv]at e;obtain⟨z,e1,e2⟩:=e;subst e2;obtain⟨tk,rfl⟩ : ∃t,_=OA _ t:=q;exact .cons _ tk (lX t p e1)
  | _=>cases e
theorem ud:LMeth X "str.join" vg:=by
 intro pins s σ H A S x a u xs vs us w S' I so rx ru rl rv e;cases rx with
 | str=>
  cases rl with
  | nil=>cases e
  | cons r t=>
   cases t with
   | cons _ _=>cases e
   | nil=>
    simp only[vg]at e;split at e
    ·rename_i ys hy;split at e
     ·rename_i zs hz;split at e
      ·rename_i hl;cases e;obtain⟨p,vs',rfl,hq,r1⟩:=pU (pins:=pins) (σ:=σ) (s:=s) so r hy;obtain⟨t0,rfl⟩ : ∃t,u=OA _ t:=ru;obtain⟨u1,rfl,ru1⟩:=oA rv;have ru1':u1=Lq p:=ru1;subst ru1';rcases hq with hq|hq
       ·obtain⟨its,rr,pl,hz'⟩:=I.list hq;exact join_list pl.isList (by simpa using lX r1 rr hz) hl λt' k=>#[.str _,H,A,I.tok _,#[_,rfl],.refl,so,.str]
       ·obtain⟨its,rr,pl,hz'⟩:=I.tuple hq;exact join_tuple pl (by simpa using lX r1 rr hz) hl λt' k=>#[.str _,H,A,I.tok _,#[_,rfl],.refl,so,.str]
      ·cases e
     ·cases e
    ·cases e
 | _=>cases e
noncomputable def gE (S:aa):W->Kz Lf
 | .non=>ba false
 | .bl b=>ba b
 | .int i=>ba (i != 0)
 | .str y=>if y.length<=sizeLine then ba ((y.length:KO) != 0)else gV
 | .tup xs=>ba (!xs.isEmpty)
 | .ref i=>(ii S i).map λxs=>!xs.isEmpty
theorem kQ {ws:Kr W}{vs:Kr V}(r:RelL X.K A H ws vs):(!ws.isEmpty) = !vs.isEmpty:=by cases r <;> rfl
theorem Jr {x:W}{a:V}{u:Ku}{k:Lf}{Q:Lf->Kx->Prop}(I:Inv X pins σ H s)(so:StoreOk X.w X.K A H S)(rx:Rel X.K A H x a)(ru:RelV a u)(e:gE S x=ba k)(hq:∀s',Inv X pins σ H s'->Q k s') :
  wpAny (model X.prog X.w) X.A (truthy u) Q X.xe s:=by
 refine ce (EW pins s σ H a u (λb H'=>b=k/\H'=H) I ru #[k,?_,rfl,rfl]) λb s' #[H',I',e1,e2]=>?_
 ·cases rx with
  | non=>cases e; rfl
  | bl=>cases e; rfl
  | int=>cases e; rfl
  | str=>
   simp only[gE]at e;split at e
   ·cases e; exact#[by assumption,rfl]
   ·cases e
  | tup h1 r1=>cases e; exact .inr (.inl #[_,h1,kQ r1])
  | ref ea=>
   simp only[gE,Kv]at e;obtain⟨ws,hw,e2⟩:=e;subst e2;obtain⟨vs,h1,r1⟩:=c8 so hw ea;exact .inl #[_,h1,kQ r1]
 ·subst e1 e2;exact hq s' I'
end
noncomputable def de (w:Lz):Mp:={ cls:=.type "set",dict:=gV,data:=.set #[] 0 (.fresh 0 0 (!fU w)) }
section
variable{prog:Lk}{w:Lz}{A:Lr}{E:Ku->Kx->Prop}{s:Kx}{R:RJ->Kx->Prop}{I:KF}{fp wr:Kr KF}{G:Lg Qo->Lg Qo->Prop}{n:KC}{P:KC->Ku->Prop}{St:KC->Kx->Prop}
theorem yX (a:Ku){Q₁:Ku->Kx->Prop}(h:Q₁ (.ref s.heap.objs.size) { s with heap:=s.heap.push (de w) }):codeAny (model prog w) A (.call (.builtin "set.__new__") #[[.type "set",a],[]]) (wants Q₁ E) s:=by
 refine P8 ?_;show wpAny _ A.in1 (checkBuiltinCall "set.__new__" #[[.type "set",a],[]] >>= λ_=>again (.builtin "set.__new__" #[[.type "set",a],[]])) _ _ s
 refine Ks (Og (F.newCall_set_1 a) (Ky #[ME F.plain_set_new _,LW F.entry_set_new ?_]));rw[LN F.plain_set_new _];unfold NK.«set.__new__» Sw;have hsub:=Q1;obtain⟨hp,g,d,tk,os⟩:=s;dsimp only
 wp_walk
 refine Nx (Ky ?_);dsimp only;simp only[newObj];exact Ks (TL (Ky (Ky h)))
end
theorem gK:Slot "set_iterator" "__next__" "set_iterator.__next__":=.of (owner:="set_iterator") (n:="__next__") (by rw[R8,Qg]; kernel_rfl) (by decide +kernel) (by decide +kernel) (by decide +kernel) (by first|exact .inl (by decide +kernel)|exact .inr (by decide +kernel)) (by rw[Sx]; kernel_rfl)
theorem rB:Slot "set_iterator" "__iter__" "set_iterator.__iter__":=.of (owner:="set_iterator") (n:="__iter__") (by rw[R8,Qg]; kernel_rfl) (by decide +kernel) (by decide +kernel) (by decide +kernel) (by first|exact .inl (by decide +kernel)|exact .inr (by decide +kernel)) (by rw[Sx]; kernel_rfl)
theorem wX:entryFor table "set_iterator.__next__" = ba NK.«set_iterator.__next__»:=entryFor_of_tree (by kernel_rfl)
theorem ue:entryFor table "set.__iter__" = ba NK.«frozenset.__iter__»:=Sy (id':="frozenset.__iter__") (by kernel_rfl) rfl (by decide +kernel) (by kernel_rfl)
theorem yY (a:Ku):argsOk "set_iterator.__next__" #[[a],[]]:=by unfold argsOk; kernel_rfl
section
variable{α:Type}{prog:Lk}{w:Lz}{A:Lr}{E:Ku->Kx->Prop}{s:Kx}
theorem wY {src:Source}{n:KC}{Q:KC->Kx->Prop}(hn:n≠0)(h:∀i dr,i < n->Q i { s with drawn:=dr }):wpAny (model prog w) A (choose src n) Q E s:=λ_ _ _=>#[hn,h _ _ (P0 _ (Nat.pos_of_ne_zero hn))]
theorem lY:∀ {l:Kr α} {i:KC} (h:i < l.length),(l[i]::l.eraseIdx i).Perm l
 | x::l,0,_=>.refl _
 | x::l,i+1,h=>(Uw _ _ _).trans ((lY (l:=l) (i:=i) (by simpa using h)).cons x)
theorem lZ:∀(n:KC) (xs:Kr α) {s:Kx} {Q:Kr α->Kx->Prop},xs.length=n->(∀ys dr,ys.Perm xs->Q ys { s with drawn:=dr })->wpAny (model prog w) A (drawOrder n xs) Q E s
 | 0,xs,s,Q,hl,h=>by
  obtain rfl:=M3.mp hl;exact Ky (h [] s.drawn .nil)
 | n+1,[],s,Q,hl,h=>by cases hl
 | n+1,x::xs,s,Q,hl,h=>by
  unfold drawOrder;refine Ks (wY (by simp) λi dr hi=>?_)
  rw[KI hi];dsimp only;refine Ks (lZ n _ (by rw[O6 hi,hl]; rfl) λys dr' hp=>Ky (h _ dr' ?_))
  exact(hp.cons _).trans (lY hi)
theorem vh {next:KC->KC}:∀(f k:KC) (left:Kr α) (out:Lg α),f=left.length->(pickOrder.go next f k left out).toList.Perm (out.toList++left)
 | 0,k,left,out,h=>by
  obtain rfl:=M3.mp h.symm;simp[pickOrder.go]
 | f+1,k,left,out,h=>by
  unfold pickOrder.go;have hp:0 < left.length:=∅
  have hi:next k % left.length < left.length:=P0 _ hp;rw[KI hi];dsimp only;refine(vh f (k+1) _ _ (by rw[O6 hi]; omega)).trans ?_
  rw[Pn,Mu];exact(lY hi).append_left _
theorem g7 {next:KC->KC}{xs:Lg α}:(pickOrder next xs).toList.Perm xs.toList:=by
 have:=vh (next:=next) xs.size 0 xs.toList #[] (by simp)
 simpa [pickOrder]using this
noncomputable def SIt (I:KF)(f r:Ku)(i n ep:KC)(h:LI):Prop:=h.get? I=ba { cls:=.type "set_iterator",data:=.fields [f,.int i 0,r,.int n 0,.int ep 0].toArray }
theorem SIt.type {I:KF}{f r:Ku}{i n ep:KC}(x:SIt I f r i n ep s.heap):s.TypeIs (.ref I) "set_iterator":=#[_,x,rfl]
theorem rC {I:KF}{Q:Kz Ku->Kx->Prop}{f r:Ku}{i n ep:KC}(x:SIt I f r i n ep s.heap)(h:wpAny (model prog w) A.in1 (NK.«set_iterator.__next__» #[[.ref I],[]]) (λfin s'=>∃v,fin=.done (.ret v)/\Q (ba v) s') (λe s'=>wpAny (model prog w) A (do if <- isInstance e (.type "StopIteration")then pure gV else throw e) Q E s') s):wpAny (model prog w) A (pyNext (.ref I)) Q E s:=by
 unfold pyNext;refine Ks (OH (LS (name:=MT "__next__") x.type gK (LU gK x.type wX ?_ (yY _))));exact Mz h (λ_ _ #[v,e,q]=>#[v,e,Ky q]) λ_ _ q=>q
noncomputable def Hc (prog:Lk)(w:Lz)(A:Lr)(Q:Kz Ku->Kx->Prop)(E:Ku->Kx->Prop)(e:Ku)(s':Kx):Prop:=wpAny (model prog w) A (do if <- isInstance e (.type "StopIteration")then pure gV else throw e) Q E s'
theorem rD {Q:Kz Ku->Kx->Prop}{Q2:Uh->Kx->Prop}(hh:A.handled=gV)(h:∀h',(∀b o,s.heap.get? b=ba o->h'.get? b=ba o)->Q gV { s with heap:=h' }):wpAny (model prog w) A.in1 (newExc (.type "StopIteration") [] >>= λx=>raiseNew x) Q2 (Hc prog w A Q E) s:=by
 refine Ks ?_;simp only[newExc,newTuple];refine Ks (LA ?_ (by size_fits))
 refine Ks (m:=firstArgMember _ _) (Og (a:=LG) (by first|rfl|(simp only[firstArgMember]; rfl)) ?_)
 refine LA ?_ (by size_fits)
 simp only[raiseNew];refine Ks (QR ?_);rw[show A.in1.handled=gV from hh]
 refine Ks (Ky (RZ ?_));refine Ks (NW (T:="StopIteration") (b:=true) #[_,KT _ rfl,rfl] Qq ?_);exact Ky (h _ λb o e=>Kw _ (Kw _ e))
section
variable{I a:KF}{f r:Ku}{i n ep sl:KC}{o:Mp}{es:Lg (KO×Ku)}{t:L1}{Q:Kz Ku->Kx->Prop}
theorem g8 {Q:Ut->Kx->Prop}{vs:Lg Ku}{k:KC}{v:Ku}(x:s.heap.get? I=ba { cls:=.type "set_iterator",data:=.fields vs })(hk:k < vs.size)(h:∀h',h'.get? I=ba { cls:=.type "set_iterator",data:=.fields (vs.setIfInBounds k v) }->Mw I s.heap h'->Q () { s with heap:=h' }):wpAny (model prog w) A (setField (.ref I) k v) Q E s:=Q6 x hk h
theorem g9 (x:SIt I (.int sl 0) (.ref a) i n ep s.heap)(ho:s.heap.get? a=ba o)(hd:o.data=.set es ep t)(hf:t.fits es.size=true)(hn:es.size=n)(hh:A.handled=gV){rs:Kz (Ku×KC)}
  (hx:∀Q':Kz (Ku×KC)->Kx->Prop,Q' rs s->wpAny (model prog w) A.in1 (setNext a sl i ep) Q' (Hc prog w A Q E) s)
  (h1:∀v sl',rs=ba (v,sl')->∀h',SIt I (.int sl' 0) (.ref a) (i+1) n ep h'->(∀b o,b≠I->s.heap.get? b=ba o->h'.get? b=ba o)->Q (ba v) { s with heap:=h' })
  (h2:rs=gV->∀h',(∀b o,b≠I->s.heap.get? b=ba o->h'.get? b=ba o)->Q gV { s with heap:=h' }):wpAny (model prog w) A (pyNext (.ref I)) Q E s:=by
 refine rC x ?_;refine Ks (Ky ?_);show wpAny _ _ (fieldsOf (.ref I) >>= _) _ _ s;refine Ks (O7 x rfl ?_);refine Ks (OT ho hd hf ?_);rw[Li (by simp[hn])]
 refine Ks (hx _ ?_);cases rs with
 | some p=>
  obtain⟨v,sl'⟩:=p;dsimp only;refine Ks (g8 x (by simp) λh' x' sb'=>?_)
  refine Ks (g8 x' (by simp) λh2 x2 sb2=>?_)
  refine Ky #[v,rfl,h1 v sl' rfl h2 ?_ λb o hb e=>?_]
  ·simpa [SIt,rawInt]using x2
  ·rw[sb2.2 b hb,sb'.2 b hb]; exact e
 | none=>
  dsimp only;refine Ks (g8 x (by simp) λh' x' sb'=>?_)
  refine rD hh λh'' k=>h2 rfl h'' λb o hb e=>k b o (by rw[sb'.2 b hb]; exact e)
theorem oO {tp:KF}{ps:Kr KC}(x:SIt I (.ref tp) (.ref a) i n ep s.heap)(ho:s.heap.get? a=ba o)(hd:o.data=.set es ep t)(hf:t.fits es.size=true)(hn:es.size=n)(hh:A.handled=gV)
  (ht:s.heap.get? tp=ba { cls:=.type "tuple",data:=.seq (ps.map λk=>rawInt (k:KC)).toArray 0 })
  (h1:∀p e,ps[i]?=ba p->es[p]?=ba e->∀h',SIt I (.ref tp) (.ref a) (i+1) n ep h'->(∀b o,b≠I->s.heap.get? b=ba o->h'.get? b=ba o)->Q (ba e.2) { s with heap:=h' })
  (hp:∀p,ps[i]?=ba p->∃e,es[p]?=ba e)
  (h2:ps[i]?=gV->∀h',(∀b o,b≠I->s.heap.get? b=ba o->h'.get? b=ba o)->Q gV { s with heap:=h' }):wpAny (model prog w) A (pyNext (.ref I)) Q E s:=by
 refine rC x ?_;refine Ks (Ky ?_);show wpAny _ _ (fieldsOf (.ref I) >>= _) _ _ s;refine Ks (O7 x rfl ?_);refine Ks (OT ho hd hf ?_);rw[Li (by simp[hn])]
 refine Ks (MX ht rfl ?_);dsimp only;have hg:(ps.map λk=>rawInt (k:KC)).toArray[(i:KO).toNat]?=(ps[i]?).map λk=>rawInt (k:KC):=by simp
 rw[hg];cases q:ps[i]? with
 | some p=>
  obtain⟨e,he⟩:=hp p q;show wpAny _ _ (setNextDrawn a (p:KO).toNat (ep:KO).toNat >>= _) _ _ s;unfold setNextDrawn;refine Ks (Ks (L6 ho hd hf ?_));dsimp only;rw[Li (by simp)]
  simp only[KN,he];refine Ky ?_;refine Ks (g8 x (by simp) λh' x' sb'=>?_)
  refine Ky #[e.2,rfl,h1 p e q he h' ?_ λb o hb z=>?_]
  ·simpa [SIt,rawInt]using x'
  ·rw[sb'.2 b hb]; exact z
 | none=>
  dsimp only[Option.map_none];refine Ks (g8 x (by simp) λh' x' sb'=>?_)
  refine Ks (g8 x' (by simp) λh3 x3 sb3=>?_)
  refine rD hh λh'' k=>h2 q h'' λb o hb e=>k b o (by rw[sb3.2 b hb,sb'.2 b hb]; exact e)
theorem oP {E:Ku->Kx->Prop}{Q:Kz (Ku×KC)->Kx->Prop}(ho:s.heap.get? a=ba o)(hd:o.data=.set es ep t)(hf:t.fits es.size=true)(hb:fU w=true)(h:Q ((((pickOrder (w.params.setOrder a ep) es).toList.map (·.2))[i]?).map λv=>(v,sl)) s):wpAny (model prog w) A (setNext a sl i ep) Q E s:=by
 unfold setNext;refine Ks (L6 ho hd hf ?_);dsimp only;have ask1:∀ {Q:Lf->Kx->Prop},Q true s->wpAny (model prog w) A setsByText Q E s:=λ{Q} hq=>by
  unfold setsByText;refine Ks (Nx (Ky ?_));show Q (fU w) s;rw[hb]; exact hq
 refine Ks (ask1 ?_);rw[La rfl,Li (by simp)]
 refine Ks ?_;unfold setWalk;refine Ks (L6 ho hd hf ?_);dsimp only;refine Ks (ask1 ?_);rw[La rfl];refine Ks (Nx (Ky (Ky ?_)));have e:(((pickOrder (w.params.setOrder a ep) es)[i]?).map λe=>(e.2,sl))=((((pickOrder (w.params.setOrder a ep) es).toList.map (·.2))[i]?).map λv=>(v,sl)):=by
  rw[KD,L5,Sz]; rfl
 show Q (((pickOrder (w.params.setOrder a ep) es)[i]?).map λe=>(e.2,sl)) s
 rw[e]; exact h
theorem rE {E:Ku->Kx->Prop}{Q:Kz (Ku×KC)->Kx->Prop}(ho:s.heap.get? a=ba o)(hd:o.data=.set es ep t)(hf:t.fits es.size=true)(hb:fU w=false)(hl:t.led=true)(h1:es.size<=1)(hi:i=0/\sl=0\/i=es.size/\sl=(t.place.getD 0 0)+1)
  (h:Q (((es.toList.map (·.2))[i]?).map λv=>(v,t.place.getD 0 0+1)) s):wpAny (model prog w) A (setNext a sl i ep) Q E s:=by
 unfold setNext;refine Ks (L6 ho hd hf ?_);dsimp only;have ask1:∀ {Q:Lf->Kx->Prop},Q false s->wpAny (model prog w) A setsByText Q E s:=λ{Q} hq=>by
  unfold setsByText;refine Ks (Nx (Ky ?_));show Q (fU w) s;rw[hb]; exact hq
 refine Ks (ask1 ?_);rw[Li K8];refine NF (λhc=>absurd hc (by show ¬ ((!t.plain&&decide (es.size > 1))=true); simp; omega)) (λ_=>?_)
 refine Ks ?_;show wpAny _ _ (if (!t.led && !es.isEmpty)=true then unsupported "set:maker-not-led" else pure ()) _ _ s
 rw[Li (by simp[hl])]
 refine Ky (Ky ?_);obtain⟨es⟩:=es;obtain⟨mk,pl,dm,fg,ld,mv,pn⟩:=t;obtain⟨pl⟩:=pl;simp only[SR,KA,beq_iff_eq]at hf
 match es,pl,hf.1,h1 with
 | [],[],_,_=>
  have:i=0:=by rcases hi with z|z <;> simpa using z.1
  subst this;exact h
 | [e],[j],_,_=>
  rcases hi with⟨rfl,rfl⟩|⟨rfl,rfl⟩
  ·exact h
  ·have e1:Nw [j].toArray (j+1)=1:=by
    show Rt [j].toArray (j+1) 1 0 1=1;simp[Rt]
   have e2:(({ mask:=mk,place:=[j].toArray,dummies:=dm,finger:=fg,led:=ld,moves:=mv,plain:=pn }:L1).place.getD 0 0)=j:=rfl;show Q (match ([e].toArray:Lg (KO×Ku))[Nw [j].toArray (j+1)]?,([j].toArray:Lg KC)[Nw [j].toArray (j+1)]? with|some (_,x),ba j=>ba (x,j+1)|_,_=>gV) s
   rw[e1];exact h
 | e::e'::es,_,_,z=>simp at z
 | [],_::_,z,_=>simp at z
 | [_],[],z,_=>simp at z
 | [_],_::_::_,z,_=>simp at z
theorem l7 {E:Ku->Kx->Prop}{Q:Kz (Ku×KC)->Kx->Prop}(ho:s.heap.get? a=ba o)(hd:o.data=.set es ep t)(hf:t.fits es.size=true)(hb:fU w=false)(hl:t.led=true)(hp:t.plain=true)(hw:Nw t.place sl=i)
  (h:Q (((es.toList.map (·.2))[i]?).map λv=>(v,t.place.getD i 0+1)) s):wpAny (model prog w) A (setNext a sl i ep) Q E s:=by
 unfold setNext;refine Ks (L6 ho hd hf ?_);dsimp only;have ask1:∀ {Q:Lf->Kx->Prop},Q false s->wpAny (model prog w) A setsByText Q E s:=λ{Q} hq=>by
  unfold setsByText;refine Ks (Nx (Ky ?_));show Q (fU w) s;rw[hb]; exact hq
 refine Ks (ask1 ?_);rw[Li K8];refine NF (λhc=>absurd hc (by show ¬ ((!t.plain&&decide (es.size > 1))=true); simp[hp])) (λ_=>?_)
 refine Ks ?_;show wpAny _ _ (if (!t.led && !es.isEmpty)=true then unsupported "set:maker-not-led" else pure ()) _ _ s
 rw[Li (by simp[hl])]
 refine Ky (Ky ?_);rw[hw];have hz:t.place.size=es.size:=by
  simp only[SR,KA,beq_iff_eq]at hf;exact hf.1
 rw[KD,L5]at h
 by_cases hi:i < es.size
 ·have e1:es[i]?=ba es[i]:=by simp[hi]
  have e2:t.place[i]?=ba (t.place.getD i 0):=by simp[Oc,hz,hi]
  rw[e1]at h ⊢;rw[e2];exact h
 ·have e1:es[i]?=gV:=by simp; omega
  rw[e1]at h ⊢;exact h
end
end
theorem w6:entryFor table "set_iterator.__iter__" = ba NK.«dict_keyiterator.__iter__»:=Sy (id':="dict_keyiterator.__iter__") (by kernel_rfl) rfl (by decide +kernel) (by kernel_rfl)
theorem yZ (a:Ku):argsOk "set_iterator.__iter__" #[[a],[]]:=by unfold argsOk; kernel_rfl
section
variable{prog:Lk}{w:Lz}{A:Lr}{E:Ku->Kx->Prop}{s:Kx}{I a tp:KF}{f r:Ku}{i n ep sl:KC}{o:Mp}{es:Lg (KO×Ku)}{t:L1}
theorem ji {Q:Ku->Kx->Prop}(x:SIt I f r i n ep s.heap)(h:Q (.ref I) s):wpAny (model prog w) A (pyIter (.ref I)) Q E s:=by
 refine Po x.type rB (LU rB x.type w6 ?_ (yZ _));show wpAny _ _ (ret (.ref I)) _ _ s;exact Ky #[_,rfl,"set_iterator",_,x.type,gK.lookup,h]
theorem rF {b x y:KF}(h:b∉[x]):b≠x:=λz=>h (by simp[z])
theorem uf (hh:A.handled=gV)(hne:a≠I)(hd:o.data=.set es ep t)(hf:t.fits es.size=true)(hb:fU w=true) :
  R0 prog w A I [I,a] [I] es.size (λi v=>((pickOrder (w.params.setOrder a ep) es).toList.map (·.2))[i]?=ba v) (λi h=>SIt I (.int 0 0) (.ref a) i es.size ep h/\h.get? a=ba o) where
 sub:=λb hb=>by simp at hb; simp[hb]
 frame:=λ_ _ _ st hk=>#[hk I (by simp) _ st.1,hk a (by simp) _ st.2]
 item:=λi s Q E hi st hQ=>by
  have hl:((pickOrder (w.params.setOrder a ep) es).toList.map (·.2)).length=es.size:=by rw[Kt,g7.length_eq,KW]
  refine g9 (sl:=0) st.1 st.2 hd hf rfl hh (λQ' hq=>oP st.2 hd hf hb hq) (λv sl' e h' x' k=>?_) λe h' k=>?_
  ·obtain⟨v',q,e⟩:=Kv.mp e;cases e;exact hQ v h' s.toks q #[x',k a _ hne st.2] λb o hb e=>k b o (rF (y:=b) hb) e
  ·rw[Oq,LY]at e;omega
 done:=λs Q E st hQ=>by
  have hl:((pickOrder (w.params.setOrder a ep) es).toList.map (·.2)).length=es.size:=by rw[Kt,g7.length_eq,KW]
  refine g9 (sl:=0) st.1 st.2 hd hf rfl hh (λQ' hq=>oP st.2 hd hf hb hq) (λv sl' e h' x' k=>?_) λe h' k=>hQ h' s.toks λb o hb e=>k b o (rF (y:=b) hb) e
  obtain⟨v',q,e⟩:=Kv.mp e;have:=(KJ.mp q).1;omega
 self:=λ_ _ _ _ st hQ=>ji st.1 hQ
theorem w8 (hh:A.handled=gV)(hne:a≠I)(hd:o.data=.set es ep t)(hf:t.fits es.size=true)(hb:fU w=false)(hl:t.led=true)(h1:es.size<=1) :
  R0 prog w A I [I,a] [I] es.size (λi v=>(es.toList.map (·.2))[i]?=ba v) (λi h=>SIt I (.int ((if i=0 then 0 else t.place.getD 0 0+1:KC):KO) 0) (.ref a) i es.size ep h/\h.get? a=ba o) where
 sub:=λb hb=>by simp at hb; simp[hb]
 frame:=λ_ _ _ st hk=>#[hk I (by simp) _ st.1,hk a (by simp) _ st.2]
 item:=λi s Q E hi st hQ=>by
  have i0:i=0:=∅
  subst i0;refine g9 st.1 st.2 hd hf rfl hh (λQ' hq=>rE st.2 hd hf hb hl h1 (.inl #[rfl,rfl]) hq) (λv sl' e h' x' k=>?_) λe h' k=>?_
  ·obtain⟨v',q,e⟩:=Kv.mp e;cases e;exact hQ v h' s.toks q #[x',k a _ hne st.2] λb o hb e=>k b o (rF (y:=b) hb) e
  ·rw[Oq,LY,Kt,KW]at e;omega
 done:=λs Q E st hQ=>by
  refine g9 st.1 st.2 hd hf rfl hh (λQ' hq=>rE st.2 hd hf hb hl h1 ?_ hq) (λv sl' e h' x' k=>?_) λe h' k=>hQ h' s.toks λb o hb e=>k b o (rF (y:=b) hb) e
  ·by_cases h0:es.size=0
   ·exact .inl #[h0,by rw[La h0]]
   ·exact .inr #[rfl,by rw[Li h0]]
  ·obtain⟨v',q,e⟩:=Kv.mp e;have:=(KJ.mp q).1;rw[Kt,KW]at this;omega
 self:=λ_ _ _ _ st hQ=>ji st.1 hQ
theorem rG (hh:A.handled=gV)(hne:a≠I)(hd:o.data=.set es ep t)(hf:t.fits es.size=true)(hb:fU w=false)(hl:t.led=true)(hp:t.plain=true)(hw:gj t es.size=true) :
  R0 prog w A I [I,a] [I] es.size (λi v=>(es.toList.map (·.2))[i]?=ba v) (λi h=>SIt I (.int ((if i=0 then 0 else t.place.getD (i - 1) 0+1:KC):KO) 0) (.ref a) i es.size ep h/\h.get? a=ba o):=by
 have go:∀i,i<=es.size->Nw t.place (if i=0 then 0 else t.place.getD (i - 1) 0+1)=i:=λi hi=>by
  simp only[gj,KA,K5,K2,Ll]at hw
  by_cases h0:i=0
  ·rw[La h0,h0]; exact hw.1
  ·rw[Li h0,hw.2 (i - 1) ∅]; omega
 exact {
  sub:=λb hb=>by simp at hb; simp[hb]
  frame:=λ_ _ _ st hk=>#[hk I (by simp) _ st.1,hk a (by simp) _ st.2]
  item:=λi s Q E hi st hQ=>by
   refine g9 st.1 st.2 hd hf rfl hh (λQ' hq=>l7 st.2 hd hf hb hl hp (go i (MF ‹_›)) hq) (λv sl' e h' x' k=>?_) λe h' k=>?_
   ·obtain⟨v',q,e⟩:=Kv.mp e;cases e;exact hQ v h' s.toks q #[by rw[Li (RP i)]; exact x',k a _ hne st.2] λb o hb e=>k b o (rF (y:=b) hb) e
   ·rw[Oq,LY,Kt,KW]at e;omega
  done:=λs Q E st hQ=>by
   refine g9 st.1 st.2 hd hf rfl hh (λQ' hq=>l7 st.2 hd hf hb hl hp (go _ (KH _)) hq) (λv sl' e h' x' k=>?_) λe h' k=>hQ h' s.toks λb o hb e=>k b o (rF (y:=b) hb) e
   obtain⟨v',q,e⟩:=Kv.mp e;have:=(KJ.mp q).1;rw[Kt,KW]at this;omega
  self:=λ_ _ _ _ st hQ=>ji st.1 hQ }
theorem rH {ps:Kr KC}(hh:A.handled=gV)(hne:a≠I)(hnt:tp≠I)(hd:o.data=.set es ep t)(hf:t.fits es.size=true)(hp:ps.Perm (K9 es.size)) :
  R0 prog w A I [I,a,tp] [I] es.size (λi v=>(ps.map λp=>(es.getD p (0,.none)).2)[i]?=ba v) (λi h=>SIt I (.ref tp) (.ref a) i es.size ep h/\h.get? a=ba o/\h.get? tp=ba { cls:=.type "tuple",data:=.seq (ps.map λk=>rawInt (k:KC)).toArray 0 }) where
 sub:=λb hb=>by simp at hb; simp[hb]
 frame:=λ_ _ _ st hk=>#[hk I (by simp) _ st.1,hk a (by simp) _ st.2.1,hk tp (by simp) _ st.2.2]
 item:=λi s Q E hi st hQ=>by
  have lt:∀ {p},ps[i]?=ba p->p < es.size:=λq=>Ll.mp (hp.mem_iff.mp (KY q))
  refine oO st.1 st.2.1 hd hf rfl hh st.2.2 (λp e q qe h' x' k=>?_) (λp q=>#[es[p]'(lt q),by simp[lt q]]) λe h' k=>?_
  ·refine hQ e.2 h' s.toks ?_ #[x',k a _ hne st.2.1,k tp _ hnt st.2.2] λb o hb e=>k b o (rF (y:=b) hb) e
   rw[KD,q];simp[Oc,lt q];rw[MP (lt q)]at qe;cases qe; rfl
  ·rw[LY,hp.length_eq,Ls]at e;omega
 done:=λs Q E st hQ=>by
  refine oO st.1 st.2.1 hd hf rfl hh st.2.2 (λp e q qe h' x' k=>?_) (λp q=>?_) λe h' k=>hQ h' s.toks λb o hb e=>k b o (rF (y:=b) hb) e
  ·have:=(KJ.mp q).1;rw[hp.length_eq,Ls]at this;omega
  ·have:=(KJ.mp q).1;rw[hp.length_eq,Ls]at this;omega
 self:=λ_ _ _ _ st hQ=>ji st.1 hQ
end
section
variable{prog:Lk}{w:Lz}{A:Lr}{E:Ku->Kx->Prop}{s:Kx}{a:KF}{o:Mp}{xs:Kr KZ}{es:Lg (KO×Ku)}{ep:KC}{t:L1}
structure SetWalk (prog:Lk)(w:Lz)(A:Lr)(s:Kx)(a:KF)(es:Lg (KO×Ku))(I:KF)(h':LI):Prop where
 ex:∃(fp:Kr KF) (St:KC->LI->Prop) (us:Kr Ku) (n:KC),us.Perm (es.toList.map (·.2))/\us.length=n/\R0 prog w A I fp [I] n (λi v=>us[i]?=ba v) St/\St 0 h'/\∀b∈fp,b=a\/s.heap.objs.size<=b/\b < h'.objs.size
 new:s.heap.objs.size<=I
 keep:∀b u,s.heap.get? b=ba u->h'.get? b=ba u
theorem y4 {Q:Ku->Kx->Prop}(hh:A.handled=gV)(ho:s.heap.get? a=ba o)(hex:o.ExactSet)(hd:o.data=.set es ep t)(hz:es.size<=sizeLine)(fit:t.fits es.size=true)(led:t.led = !fU w)(pl:t.plain=true->es.size=0\/gj t es.size=true)(h:∀I h' dr,SetWalk prog w A s a es I h'->Q (.ref I) { s with heap:=h',drawn:=dr }):wpAny (model prog w) A (pyIter (.ref a)) Q E s:=by
 have hT:s.TypeIs (.ref a) "set":=#[o,ho,hex.1];have ha:a < s.heap.objs.size:=K1 ho;refine Po hT F.slot_set_iter (LU F.slot_set_iter hT ue ?_ (F.args_set_iter_1 _));unfold NK.«frozenset.__iter__»;refine Ks (Ks (Ky ?_));show wpAny _ _ (pure a) _ _ s;refine Ky ?_;unfold SS setDrawn;refine Ks (Ks (OT ho hd fit (Ky ?_)));refine Ks (Ks (L6 ho hd fit ?_));dsimp only;unfold setsByText;refine Ks (Ks (Nx (Ky (Ky ?_))));have oI:∀(f:Ku) (h0:LI),(h0.push { cls:=.type "set_iterator",data:=.fields [f,rawInt 0,.ref a,rawInt es.size,rawInt ep].toArray }).get? h0.objs.size=ba { cls:=.type "set_iterator",data:=.fields [f,rawInt 0,.ref a,rawInt es.size,rawInt ep].toArray }:=λf h0=>KT _ rfl
 refine NF (λhc=>?_) (λhc=>?_)
 ·refine Ks (lZ es.size _ Ls λps dr hp=>?_)
  refine Ks (Qr ?_ (by rw[Kt,hp.length_eq,Ls]; exact hz))
  have o1:=Kw (seqObj "tuple" (ps.map λk=>rawInt (k:KC)).toArray 0) ho
  refine Ks (Ru o1 hd fit ?_);refine Ks (LA (Ky #[_,rfl,"set_iterator",_,#[_,oI _ _,rfl],gK.lookup,?_]));have z1:(s.heap.push (seqObj "tuple" (ps.map λk=>rawInt (k:KC)).toArray 0)).objs.size=s.heap.objs.size+1:=Ny ..
  have W:=rH (prog:=prog) (w:=w) (A:=A) (a:=a) (I:=(s.heap.push (seqObj "tuple" (ps.map λk=>rawInt (k:KC)).toArray 0)).objs.size) (tp:=s.heap.objs.size) (ps:=ps) hh (by rw[z1]; exact K7 (Nm ha)) (by rw[z1]; exact K7 (Mh _)) hd fit hp
  have eL:(ps.map λp=>(es.getD p (0,LG)).2).length=es.size:=by rw[Kt,hp.length_eq,Ls]
  refine h _ _ dr #[#[_,_,ps.map λp=>(es.getD p (0,LG)).2,_,?_,eL,W,#[oI _ _,Kw _ o1,Kw _ (KT _ rfl)],λb hb=>?_],by rw[z1]; exact Nl _,λb u e=>Kw _ (Kw _ e)]
  ·refine(hp.map _).trans ?_;have e:((K9 es.size).map λp=>(es.getD p (0,LG)).2)=es.toList.map λe=>e.2:=by
    apply OE
    ·simp
    ·intro k h1 h2;simp only[Kt,Ls]at h1;simp[Oc,h1]
   rw[e]
  ·rw[Ny,z1];simp only[Le,LP,Nb]at hb;rcases hb with rfl|rfl|rfl
   ·exact .inr #[by rw[z1]; exact Nl _,by rw[z1]; exact Mh _]
   ·exact .inl rfl
   ·exact .inr #[KH _,Nm (Mh _)]
 ·refine Ks (Ky (Ks (Ru ho hd fit ?_)));refine Ks (LA (Ky #[_,rfl,"set_iterator",_,#[_,oI _ _,rfl],gK.lookup,?_]));have near:∀b∈[s.heap.objs.size,a],b=a\/s.heap.objs.size<=b/\b < (s.heap.push { cls:=.type "set_iterator",data:=.fields [rawInt 0,rawInt 0,.ref a,rawInt es.size,rawInt ep].toArray }).objs.size:=λb hb=>by
   rw[Ny];simp only[Le,LP,Nb]at hb;rcases hb with rfl|rfl
   ·exact .inr #[KH _,Mh _]
   ·exact .inl rfl
  cases hb:fU w with
  | true=>
   have W:=uf (prog:=prog) (A:=A) (I:=s.heap.objs.size) hh (K7 ha) hd fit hb;have eL:((pickOrder (w.params.setOrder a ep) es).toList.map (·.2)).length=es.size:=by rw[Kt,g7.length_eq,KW]
   refine h _ _ s.drawn #[#[[s.heap.objs.size,a],_,(pickOrder (w.params.setOrder a ep) es).toList.map (·.2),_,g7.map _,eL,W,#[oI _ _,Kw _ ho],near],KH _,λb u e=>Kw _ e]
  | false=>
   have hl:t.led=true:=by rw[led,hb]; rfl
   have eL:(es.toList.map (·.2)).length=es.size:=by rw[Kt,KW]
   by_cases hpw:t.plain=true/\gj t es.size=true
   ·have W:=rG (prog:=prog) (A:=A) (I:=s.heap.objs.size) hh (K7 ha) hd fit hb hl hpw.1 hpw.2;refine h _ _ s.drawn #[#[[s.heap.objs.size,a],_,es.toList.map (·.2),_,.refl _,eL,W,#[oI _ _,Kw _ ho],near],KH _,λb u e=>Kw _ e]
   have h1:es.size<=1:=by
    cases hp:t.plain with
    | true=>
     rcases pl hp with z|z
     ·rw[z]; exact Mm _
     ·exact absurd #[hp,z] hpw
    | false=>
     refine RO λz=>hc ?_
     show((!fU w)&&((!t.plain)&&decide (es.size > 1)))=true;rw[hb,hp]
     simpa using z
   have W:=w8 (prog:=prog) (A:=A) (I:=s.heap.objs.size) hh (K7 ha) hd fit hb hl h1;refine h _ _ s.drawn #[#[[s.heap.objs.size,a],_,es.toList.map (·.2),_,.refl _,eL,W,#[oI _ _,Kw _ ho],near],KH _,λb u e=>Kw _ e]
theorem y6 {Q:Lf->Kx->Prop}(hT:s.TypeIs (.ref a) "set")(h:Q false s):wpAny (model prog w) A (OX (.ref a)) Q E s:=by
 unfold OX;refine Ks (P9 hT F.slot_set_len.lookup ?_);generalize hid:("set.__len__" : L8)=k0
 wp_delta
 rw[show splitId k0=ba ("set","__len__")from by subst hid; decide +kernel]
 subst hid;refine Ks (NW (T:="set") (b:=true) hT Q1 ?_);refine NF (λz=>absurd z #v[]) (λ_=>NF (λ_=>?_) (λz=>absurd (by decide +kernel) z))
 exact Ks (ND hT (Ky h))
theorem rJ {Q:Kr Ku->Kx->Prop}(hh:A.handled=gV)(ho:s.heap.get? a=ba o)(hex:o.ExactSet)(hd:o.data=.set es ep t)(hz:es.size<=sizeLine)(fit:t.fits es.size=true)(led:t.led = !fU w)(pl:t.plain=true->es.size=0\/gj t es.size=true)
  (hQ:∀h' tk dr us,(∀b u,s.heap.get? b=ba u->h'.get? b=ba u)->s.heap.objs.size<=h'.objs.size->us.Perm (es.toList.map (·.2))->Q us { s with heap:=h',toks:=tk,drawn:=dr }):wpAny (model prog w) A (collect (.ref a)) Q E s:=by
 have ha:a < s.heap.objs.size:=K1 ho;unfold collect;refine Ks (Os (LW F.entry_proto_collect ?_));rw[LN F.plain_proto_collect _];show wpAny _ A.in1 (newList [] >>= λl=>again (.builtin "list.__iadd__" #[[l,.ref a],[]])) _ _ s
 refine Ks (LA ?_);have oL:(s.heap.push { cls:=.type "list",data:=.seq ([]:Kr Ku).toArray }).get? s.heap.objs.size=ba { cls:=.type "list",data:=.seq #[] 0 }:=KT _ rfl;have o1:=Kw { cls:=.type "list",data:=.seq ([]:Kr Ku).toArray } ho;have z1:(s.heap.push { cls:=.type "list",data:=.seq ([]:Kr Ku).toArray }).objs.size=s.heap.objs.size+1:=Ny ..;refine Ky #[ME F.plain_list_iadd _,LW F.entry_list_iadd ?_];rw[LN F.plain_list_iadd _];show wpAny _ A.in1 (Mk (.ref s.heap.objs.size) (.ref a) (.ref s.heap.objs.size)) _ _ _;unfold Mk;refine Ks (ND (T:="set") #[o,o1,hex.1] ?_);have n1:Py (.ref s.heap.objs.size) (.ref a)=false:=by
  have:s.heap.objs.size≠a:=Lx ha;simp[Py,this]
 have n2:(Mq "set" == Mq "list")=false:=by decide
 have n3:(Mq "set" == Mq "tuple")=false:=by decide
 simp only[n1,n2,n3,QQ,Ld,L4];refine Ks (y4 (A:=A.in1) (by simp[hh]) o1 hex hd hz fit led pl λI h' dr W=>?_)
 obtain⟨⟨fp,St,us,n,hP,hn,W,st,hfp⟩,hI,kp⟩:=W;rw[z1]at hI;have oa:=kp a o o1;refine Ks (LQ (y6 #[o,oa,hex.1] ?_));have oL1:=kp _ _ oL;have hD:s.heap.objs.size∉fp:=λz=>by
  rcases hfp _ z with e|⟨e,_⟩
  ·exact Lx ha e
  ·rw[z1]at e; exact Nat.not_succ_le_self _ e
 refine NF (λ_=>?_) (λz=>absurd (by decide +kernel) z)
 refine Ks (PU (Ks ?_));show wpAny _ _ (updateSeq s.heap.objs.size (·.push .none) >>= λ_=>updateSeq s.heap.objs.size (·.pop)) _ _ _
 refine Ks (Oa oL1 rfl ?_);have oL2:=Mj (Mb (·.push LG)) oL1 rfl
 refine Oa (hz:=by seq_fits) oL2 rfl ?_
 have oL3:=Mj (Mb (·.pop)) oL2 rfl
 have hnl:n<=sizeLine:=by rw[<- hn,hP.length_eq,Kt,KW]; exact hz
 refine Ky #[ME PySem.F.plain_extend_loop _,codeAny_extend_loopS W.toS hnl s.heap.objs.size hD (.ref s.heap.objs.size) n 0 _ #[] _ rfl (Mm _) (W.frame 0 _ _ st λb hb u e=>?_) oL3 (ItemsOf.nil _) λs' acc c' mv oS hacc=>?_]
 ·have hb':b≠s.heap.objs.size:=λz=>hD (z ▸ hb)
  exact(LB _ _ (Ne.symm hb')).trans ((LB _ _ (Ne.symm hb')).trans e)
 ·rw[SU mv];show wpAny (model prog w) A (do
    let o <- load s.heap.objs.size
    match o.data with
    | .seq xs _=>pure xs.toList
    | _=>unsupported "internal:collect") Q E _
  refine Ks (PV oS (Ky ?_));have eU:acc.toList=us:=by
   apply Pp;intro i
   by_cases hi:i < n
   ·have h1:i < acc.size:=by rw[hacc.1]; exact hi
    have:=hacc.2 i acc[i] (by simp[h1])
    rw[this,L5]; simp[h1]
   ·rw[NI (by rw[KW,hacc.1]; omega),NI ∅]
  rw[eU];refine hQ _ _ dr us (λb u e=>?_) (MF (K1 oS)) hP
  have hb:=K1 e;have hb':b≠s.heap.objs.size:=K7 hb;refine mv.heap b u (λz=>?_) ((LB _ _ (Ne.symm hb')).trans ((LB _ _ (Ne.symm hb')).trans (kp b u (Kw _ e))))
  simp only[Le,LP,Nb]at z;rcases z with z|z
  ·exact hb' z
  ·rw[z]at hb; exact Mg _ (Lc (Nm hb) hI)
end
noncomputable def y8 (S:aa)(i:KC):Kz (KO×KO):=match S[i]? with
 | some (.rng lo hi)=>ba (lo,hi)
 | _=>gV
noncomputable def pY (xs:Kr W)(S:aa):Kz (W×aa):=match xs with
 | [.int j]=>if -(2 ^ 62)<=j/\j < 2 ^ 62 then ba (.ref S.length,S++[.rng 0 j])else gV
 | _=>gV
noncomputable def Cm (lo:KO)(n:KC):Kr W:=(K9 n).map λ(k:KC)=>.int (lo+(k:KO))
noncomputable def kR (xs:Kr W)(S:aa):Kz (W×aa):=match xs with
 | [.ref i]=>match y8 S i with
  | some (lo,hi)=>if -(2 ^ 62)<=lo/\lo < 2 ^ 62/\-(2 ^ 62)<=hi/\hi < 2 ^ 62/\(hi - lo).toNat<=sizeLine then ba (.ref S.length,S++[.lst (Cm lo (hi - lo).toNat)])else gV
  | none=>jf [.ref i] S
 | xs=>jf xs S
section
variable{X:Cx}{pins:Kr (KF×Mp)}{σ:L2.St}{H:Hp}{s:Kx}{A:Kr KF}{S:aa}
theorem Inv.drawn (I:Inv X pins σ H s)(d:Ur):Inv X pins σ H { s with drawn:=d }:=#[I.ok,I.os,I.bare,I.base,I.loc,I.cell,I.free,I.freeC,I.pin,I.hok,I.len]
theorem jj {h':LI}{tk:KC}{dr:Ur}{D:KF}{n:O}{u:HO}(I:Inv X pins σ H s)(so:StoreOk X.w X.K A H S)(hk:∀b o,s.heap.get? b=ba o->h'.get? b=ba o)(hD:s.heap.objs.size<=D)(new:ObjOk X.prog X.w (cv H D u) h' D u)
  (r:H D=gV->ObjRel X.w X.K (A++[D]) (cv H D u) D n):eC X pins σ A H (S++[n]) (.ref S.length) (.ref D) { s with heap:=h',toks:=tk,drawn:=dr }:=by
 have hn:H D=gV:=I.hok.fresh hD;refine#[.ref D,_,A++[D],Mi.Inv.drawn (I.laid (a:=D) (o:=u) (t':=tk) hk hD new) dr,rfl,dD hn,so.pushO hn (r hn),.ref ?_];rw[<- so.len]; simp
theorem pZ:∀ {vs:Kr V} {us:Kr Ku},vs.length=us.length->(∀(i:KC) v u,vs[i]?=ba v->us[i]?=ba u->L2.RelV v u)->Vals vs us
 | [],[],_,_=>.nil
 | v::vs,u::us,hl,h=>.cons (h 0 v u rfl rfl) (pZ (by simpa using hl) λi v u a b=>h (i+1) v u (by simpa using a) (by simpa using b))
 | [],_::_,hl,_=>by cases hl
 | _::_,[],hl,_=>by cases hl
theorem p4 {K:KM}{lo:KO}:∀(l:Kr KC),RelL K A H (l.map λ(k:KC)=>W.int (lo+(k:KO))) (l.map λ(k:KC)=>V.int (lo+(k:KO)))
 | []=>.nil
 | _::l=>.cons .int (p4 l)
theorem lD {xs:Kr W}{vs:Kr V}{us:Kr Ku}{i:KC}(rl:RelL X.K A H [.ref i] vs)(rv:Vals vs us):∃a,A[i]?=ba a/\us=[.ref a]:=by
 cases rl with
 | cons r t=>
  cases t;cases r with
  | @ref _ a ea=>
   cases rv with
   | cons ru rv=>
    cases rv;obtain rfl:_=Lq a:=ru;exact#[a,ea,rfl]
theorem rK:LCall X (.type "range") pY:=by
 intro pins s σ H A S xs vs us w S' I so rl rv e;unfold pY at e;split at e
 ·rename_i j;split at e
  ·rename_i hb;cases e;cases rl with
   | cons r t=>
    cases t;cases r;cases rv with
    | cons ru rv=>
     cases rv;obtain⟨tk,rfl⟩:=ru;exact Tj (jj (dr:=s.drawn) (u:=.rng 0 j) I so (λb o e=>Kw _ e) (KH _) #[_,_,_,KT _ rfl] λ_=>bv)
  ·cases e
 ·cases e
theorem rL (hh:X.A.handled=gV):LCall X (.type "list") kR:=by
 intro pins s σ H A S xs vs us w S' I so rl rv e;unfold kR at e;split at e
 ·rename_i i;split at e
  ·rename_i lo hi hr;split at e
   ·rename_i hb;cases e;obtain⟨a,ea,rfl⟩:=lD (xs:=[]) rl rv;obtain⟨b1,b2,b3,b4,b5⟩:=hb;have hH:H a=ba (.rng lo hi):=by
     unfold y8 at hr;split at hr
     ·rename_i hx; cases hr; exact so.obj i _ a hx ea
     ·cases hr
    obtain⟨t,u,v,ho⟩:=I.hok a _ hH;have hn:MB lo hi 1=((hi - lo).toNat:KC):=by rw[QN]; split <;> omega
    refine call_list_range hh ho (Td b1 b2 b3 b4) hn b5 λh' tk acc c hk hD hacc=>?_
    have hv:Vals ((K9 (hi - lo).toNat).map λ(k:KC)=>V.int (lo+(k:KO))) acc.toList:=by
     refine pZ (by rw[Kt,Ls,KW,hacc.1]) λi v u e1 e2=>?_
     rw[KD,Kv]at e1;obtain⟨k,e1,rfl⟩:=e1;obtain⟨hk,rfl⟩:=KJ.mp e1;obtain⟨t,rfl⟩:=hacc.2 i u (by rw[<- L5]; exact e2)
     exact#[t,by simp]
    refine jj (dr:=s.drawn) (u:=.lst ((K9 (hi - lo).toNat).map λ(k:KC)=>V.int (lo+(k:KO)))) I so hk (KH _) #[by simpa using b5,acc.toList,c,hv,by simpa using hD] λhn=>#[_,bv,?_]
    exact p4 _
   ·cases e
  ·exact iM pins s σ H A S _ vs us w S' I so rl rv e
 ·exact iM pins s σ H A S _ vs us w S' I so rl rv e
end
mutual
inductive IsT (h:LI):T->Ku->Prop
 | int {i:KO} {t:UB}:IsT h (.int i) (.int i t)
 | str {x:KZ} {t:UB}:IsT h (.str x) (.str x t)
 | tup {ks:Kr T} {a:KF} {o:Mp} {items:Lg Ku} {n:KC}:h.get? a=ba o->o.cls=.type "tuple"->o.data=.seq items n->IsTs h ks items.toList->IsT h (.tup ks) (.ref a)
inductive IsTs (h:LI):Kr T->Kr Ku->Prop
 | nil:IsTs h [] []
 | cons {k:T} {v:Ku} {ks:Kr T} {vs:Kr Ku}:IsT h k v->IsTs h ks vs->IsTs h (k::ks) (v::vs)
end
mutual
theorem IsT.inj {h:LI}:∀ {x y:T} {v:Ku},IsT h x v->IsT h y v->x=y
 | _,_,_,.int,h2=>by cases h2; rfl
 | _,_,_,.str,h2=>by cases h2; rfl
 | _,_,_,.tup a1 _ d1 t1,h2=>by
  cases h2 with
  | tup a2 _ d2 t2=>
   rw[a1]at a2; cases a2
   rw[d1]at d2; cases d2
   rw[IsTs.inj t1 t2]
theorem IsTs.inj {h:LI}:∀ {x y:Kr T} {v:Kr Ku},IsTs h x v->IsTs h y v->x=y
 | _,_,_,.nil,h2=>by cases h2; rfl
 | _,_,_,.cons a b,h2=>by
  cases h2 with
  | cons c d=>rw[IsT.inj a c,IsTs.inj b d]
end
mutual
theorem IsT.keeps {h h':LI}{d:KF}{o:Mp}{es:Lg M2}{ep:KC}(ho:h.get? d=ba o)(hd:o.data=.dict es ep)(hs:Mw d h h'):∀ {x:T} {v:Ku},IsT h x v->IsT h' x v
 | _,_,.int=>.int
 | _,_,.str=>.str
 | _,_,.tup (a:=a) a1 c1 d1 t1=>by
  have hne:a≠d:=by
   rintro rfl;rw[a1]at ho; cases ho
   rw[d1]at hd; cases hd
  exact .tup ((hs.2 a hne).trans a1) c1 d1 (IsTs.keeps ho hd hs t1)
theorem IsTs.keeps {h h':LI}{d:KF}{o:Mp}{es:Lg M2}{ep:KC}(ho:h.get? d=ba o)(hd:o.data=.dict es ep)(hs:Mw d h h'):∀ {x:Kr T} {v:Kr Ku},IsTs h x v->IsTs h' x v
 | _,_,.nil=>.nil
 | _,_,.cons a b=>.cons (IsT.keeps ho hd hs a) (IsTs.keeps ho hd hs b)
end
theorem IsTs.length {h:LI}:∀ {x:Kr T} {v:Kr Ku},IsTs h x v->x.length=v.length
 | _,_,.nil=>rfl
 | _,_,.cons _ b=>by simp[IsTs.length b]
theorem IsTs.get {h:LI}:∀ {x:Kr T} {v:Kr Ku},IsTs h x v->∀(j:KC) (h1:j < x.length) (h2:j < v.length),IsT h x[j] v[j]
 | _,_,.cons a _,0,_,_=>a
 | _,_,.cons _ b,j+1,h1,h2=>IsTs.get b j (by simpa using h1) (by simpa using h2)
theorem da:∀ {ks:Kr T} (j:KC) (h:j < ks.length),(ks[j]).depth<=T.depths ks
 | k::ks,0,_=>by simp only[T.depths,List.getElem_cons_zero]; omega
 | k::ks,j+1,h=>by
  have:=da (ks:=ks) j (by simpa using h)
  simp only[T.depths,List.getElem_cons_succ]; omega
section
variable{prog:Lk}{w:Lz}{E:Ku->Kx->Prop}
mutual
theorem rM:∀(k:T) (v:Ku) (A:Lr) (s:Kx) (Q:KO->Kx->Prop),IsT s.heap k v->A.units+k.depth < cLine->Q (fG w k) { s with toks:=s.toks+k.draws }->wpAny (model prog w) A (pyHash v) Q E s
 | .int i,_,A,s,Q,x,_,h=>by cases x; exact RG h
 | .str y,_,A,s,Q,x,_,h=>by cases x; exact RH h
 | .tup ks,_,A,s,Q,x,hu,h=>by
  cases x with
  | @tup _ a o items n hg hc hd hw=>
   simp only[T.depth]at hu;refine PySem.W.pyHash_slot (T:="tuple") #[_,hg,hc] F.slot_tuple_hash F.entry_tuple_hash (F.args_tuple_hash_1 _) (beq_builtin_none _) (.inr ∅) ?_
   show wpAny _ _ (NP (.ref a) >>= _) _ _ s;refine Ks (wpAny_tupleItemsOf hg hd ?_);refine Ks ?_;rw[<- Od];refine l8 ks items.toList A.in1 s #[] _ hw (by rw[aY]; omega) λb hb=>?_
   show wpAny _ _ (retInt (NY b.toList)) _ _ _;rw[hb];refine Ks (R1 (Ky #[_,_,rfl,?_]))
   simpa [T.draws,SV,fG]using h
theorem l8:∀(ks:Kr T) (vs:Kr Ku) (A:Lr) (s:Kx) (b:Lg KO) (Q:Lg KO->Kx->Prop),IsTs s.heap ks vs->A.units+T.depths ks < cLine->
  (∀b',b'.toList=b.toList++iJ w ks->Q b' { s with toks:=s.toks+T.drawss ks })->
  wpAny (model prog w) A (forIn vs b λx r=>do let h <- pyHash x; pure Q7; pure (My (r.push h))) Q E s
 | [],_,A,s,b,Q,x,_,h=>by cases x; exact Ky (h b (by simp[iJ]))
 | k::ks,_,A,s,b,Q,x,hu,h=>by
  cases x with
  | cons x1 x2=>
   simp only[T.depths]at hu;rw[Qa];refine Ks (Ks (rM k _ A s _ x1 ∅ ?_))
   refine Ks (Ky (Ky ?_));refine l8 ks _ A _ _ Q x2 ∅ λb' hb=>?_
   have:=h b' (by simp[hb,iJ])
   simpa [T.drawss,SV]using this
end
open SeqAt in
theorem w9:∀(d:KC) (x y:T) (u v:Ku) (B:Lr) (s:Kx),x.depth<=d->IsT s.heap x u->IsT s.heap y v->B.units+d < cLine->B.units+y.depth < cLine->EqAt B s u v (decide (x=y))
 | d,.int i,y,_,_,B,s,_,h1,h2,hu,hv=>by
  cases h1;cases h2 with
  | int=>
   rename_i j t2;have:decide (T.int i=T.int j)=(i==j):=by by_cases e:i=j <;> simp[e]
   rw[this]; exact .int_int _ _ _ _
  | str=>rw[Lm (by simp)]; exact .int_str _ _ _ _
  | tup a c dd t=>rw[Lm (by simp)]; exact .int_tuple _ _ #[_,a,c,_,dd] (by simp only[T.depth]at hv; omega)
 | d,.str z,y,_,_,B,s,_,h1,h2,hu,hv=>by
  cases h1;cases h2 with
  | int=>rw[Lm (by simp)]; exact .str_int _ _ _ _
  | str=>
   rename_i z2 t2;have:decide (T.str z=T.str z2)=(z==z2):=by by_cases e:z=z2 <;> simp[e]
   rw[this]; exact .str_str _ _ _ _
  | tup a c dd t=>rw[Lm (by simp)]; exact .str_tuple _ _ #[_,a,c,_,dd] (by simp only[T.depth]at hv; omega)
 | 0,.tup ks,y,_,_,B,s,hd,h1,h2,hu,hv=>by simp[T.depth]at hd
 | d+1,.tup ks,y,_,_,B,s,hd,h1,h2,hu,hv=>by
  have h1':=h1;cases h1 with
  | @tup _ a o items n a1 c1 d1 t1=>
   have hT:s.heap.IsTuple a items:=#[_,a1,c1,_,d1];simp only[T.depth]at hd;cases h2 with
   | int=>rw[Lm (by simp)]; exact .tuple_int _ _ hT ∅
   | str=>rw[Lm (by simp)]; exact .tuple_str _ _ hT ∅
   | @tup ks2 b o2 items2 n2 a2 c2 d2 t2=>
    have hT2:s.heap.IsTuple b items2:=#[_,a2,c2,_,d2]
    by_cases hab:a=b
    ·subst hab;have:T.tup ks=T.tup ks2:=h1'.inj (.tup a2 c2 d2 t2);rw[MW this];exact EqAt.same _
    ·refine EqAt.of_refs hab ?_;simp only[T.depth]at hv;have l1:items.size=ks.length:=by rw[<- KW,t1.length]
     have l2:items2.size=ks2.length:=by rw[<- KW,t2.length]
     let e:KC->Lf:=λj=>if h:j < ks.length/\j < ks2.length then decide (ks[j]'h.1=ks2[j]'h.2)else true
     have he:∀j (h1:j < items.size) (h2:j < items2.size),EqAt B.in1 s items[j] items2[j] (e j):=λj j1 j2=>by
      have g1:=t1.get j (l1 ▸ j1) (by simpa using j1)
      have g2:=t2.get j (l2 ▸ j2) (by simpa using j2)
      have q1:=da (ks:=ks) j (l1 ▸ j1);have q2:=da (ks:=ks2) j (l2 ▸ j2);have:=w9 d _ _ _ _ B.in1 s ∅ g1 g2 (by rw[aY]; omega) (by rw[aY]; omega)
      show EqAt B.in1 s items[j] items2[j] (if h:j < ks.length/\j < ks2.length then decide (ks[j]'h.1=ks2[j]'h.2)else true)
      rw[Uc #[l1 ▸ j1,l2 ▸ j2]]
      simpa using this
     have:=RcAt.tuples hT hT2 ∅ he
     have hk:((K9 (min items.size items2.size)).all e&&items.size==items2.size)=decide (T.tup ks=T.tup ks2):=by
      rw[l1,l2]
      by_cases hl:ks.length=ks2.length
      ·by_cases hq:ks=ks2
       ·subst hq;simp only[Tn,LK,N5,R3,K2,Ll];intro j hj;show(if h:j < ks.length/\j < ks.length then decide (ks[j]'h.1=ks[j]'h.2)else true)=true
        rw[Uc #[hj,hj]]; simp
       ·rw[Lm (by simpa using hq)]
        have:∃j,∃h:j < ks.length,ks[j]≠ks2[j]'(hl ▸ h):=by
         apply Pg;intro hn;exact hq (OE hl λj h1 h2=>Pg λz=>hn #[j,h1,z])
        obtain⟨j,hj,hne⟩:=this;rw[Qh];left;rw[List.all_eq_false];refine#[j,by rw[Ll,<- hl,Tn]; exact hj,?_]
        show ¬ (if h:j < ks.length/\j < ks2.length then decide (ks[j]'h.1=ks2[j]'h.2)else true)=true
        rw[Uc #[hj,hl ▸ hj]]
        simpa using hne
      ·rw[Lm (by simp; intro z; exact hl (by rw[z])),Qh]
       right
       simpa using hl
     rw[hk]at this;exact this
theorem oQ {n:KC}{v:Ku}(h:∀a,v≠.ref a):eqIsQuiet n v=pure true:=by
 cases v with
 | ref a=>exact absurd rfl (h a)
 | _=>first|rfl|simp[eqIsQuiet]|(unfold eqIsQuiet; rfl)
theorem lE:∀(d:KC) (k:T) (v:Ku) (A:Lr) (s:Kx) (Q:Lf->Kx->Prop),k.depth<=d->IsT s.heap k v->Q true s->wpAny (model prog w) A (eqIsQuiet d v) Q E s
 | d,.int i,_,A,s,Q,_,x,h=>by cases x; rw[oQ (λa=>by simp)]; exact Ky h
 | d,.str i,_,A,s,Q,_,x,h=>by cases x; rw[oQ (λa=>by simp)]; exact Ky h
 | 0,.tup ks,_,A,s,Q,hd,x,h=>by simp[T.depth]at hd
 | d+1,.tup ks,_,A,s,Q,hd,x,h=>by
  cases x with
  | @tup _ a o items n ho hc hdt hi=>
   simp only[T.depth]at hd;have hT:s.TypeIs (.ref a) "tuple":=#[_,ho,hc];unfold eqIsQuiet;refine Ks (P9 hT F.slot_tuple_eq.lookup ?_);show wpAny _ _ (isInstance (.ref a) (.type "tuple") >>= _) _ _ s;refine Ks (NW hT isSubtype_tuple_tuple ?_);simp only[Nq,Ld,L4];refine Ks (MX ho hdt ?_);refine Ks ?_;show wpAny _ _ (forIn items _ _) _ _ s;rw[<- Od];refine NV _ (λcf r s'=>r.1=gV/\s'=s/\∃kk,IsTs s.heap kk cf/\T.depths kk<=d) _ ?_ ?_ _ _ #[rfl,rfl,ks,hi,∅]
   ·rintro v cf r s' ⟨hr,rfl,kk,hall,hdk⟩;cases hall with
    | cons q1 q2=>
     simp only[T.depths]at hdk;refine Ks (lE d _ v _ _ _ ∅ q1 ?_)
     simp only[Nq,Ld,L4];exact Ky #[rfl,rfl,_,q2,∅]
   ·rintro⟨r1,r2⟩ s' ⟨hr,rfl,_⟩;simp only at hr;subst hr;exact Ky h
end
noncomputable def bL (prog:Lk)(w:Lz):HeapKind prog w T where
 is:=λh k a=>IsT h k (.ref a)/\k.depth<=aC
 hash:=fG w
 draws:=T.draws
 room:=λA=>A.units+aC < cLine
 inj:=λhx hy=>hx.1.inj hy.1
 keeps:=λx ho hd hs=>#[x.1.keeps ho hd hs,x.2]
 pyHash:=λhu hk h=>rM _ _ _ _ _ hk.1 (by have:=hk.2; omega) h
 eqBool:=λhu hx hy h=>w9 aC _ _ _ _ _ _ hx.2 hx.1 hy.1 hu (by have:=hy.2; omega) _ _ _ _ h
 quiet:=λhk h=>lE 8 _ _ _ _ _ (by have:=hk.2; unfold aC at this; exact KQ ‹_› (KU rfl)) hk.1 h
section
variable{prog:Lk}{w:Lz}{E:Ku->Kx->Prop}
theorem oR {n:KC}{v:Ku}(h:∀a,v≠.ref a):ofAClassStatement n v=pure false:=by
 cases v with
 | ref a=>exact absurd rfl (h a)
 | _=>first|rfl|simp[ofAClassStatement]|(unfold ofAClassStatement; rfl)
theorem p7:∀(d:KC) (k:T) (v:Ku) (A:Lr) (s:Kx) (Q:Lf->Kx->Prop),k.depth<=d->IsT s.heap k v->Q false s->wpAny (model prog w) A (ofAClassStatement d v) Q E s
 | d,.int i,_,A,s,Q,_,x,h=>by cases x; rw[oR (λa=>by simp)]; exact Ky h
 | d,.str i,_,A,s,Q,_,x,h=>by cases x; rw[oR (λa=>by simp)]; exact Ky h
 | 0,.tup ks,_,A,s,Q,hd,x,h=>by simp[T.depth]at hd
 | d+1,.tup ks,_,A,s,Q,hd,x,h=>by
  cases x with
  | @tup _ a o items n ho hc hdt hi=>
   simp only[T.depth]at hd;have hT:s.TypeIs (.ref a) "tuple":=#[_,ho,hc];unfold ofAClassStatement;refine Ks (ND hT ?_);dsimp only;rw[La (show("tuple" == "tuple")=true by decide)]
   refine Ks (Ky ?_);simp only[Nq,Ld,L4];refine Ks (MX ho hdt ?_);refine Ks ?_;show wpAny _ _ (forIn items _ _) _ _ s;rw[<- Od];refine NV _ (λcf r s'=>r.1=gV/\s'=s/\∃kk,IsTs s.heap kk cf/\T.depths kk<=d) _ ?_ ?_ _ _ #[rfl,rfl,ks,hi,∅]
   ·rintro v cf r s' ⟨hr,rfl,kk,hall,hdk⟩;cases hall with
    | cons q1 q2=>
     simp only[T.depths]at hdk;refine Ks (p7 d _ v _ _ _ ∅ q1 ?_)
     simp only[Ld,L4];exact Ky #[rfl,rfl,_,q2,∅]
   ·rintro⟨r1,r2⟩ s' ⟨hr,rfl,_⟩;simp only at hr;subst hr;exact Ky h
theorem y9 {A:Lr}{s:Kx}{Q:Lf->Kx->Prop}{x:T}{b:KF}{ys:Kr Ku}(hx:IsT s.heap x (.ref b))(hdx:x.depth<=aC)(hy:∀v∈ys,∃y c,v=.ref c/\IsT s.heap y (.ref c)/\y.depth<=aC)(h:Q false s):wpAny (model prog w) A (searchCouldBeSeen (.ref b) ys) Q E s:=by
 unfold searchCouldBeSeen;refine Ks ?_;refine NV _ (λcf r s'=>r.1=gV/\s'=s/\∀v∈cf,∃y c,v=.ref c/\IsT s.heap y (.ref c)/\y.depth<=aC) _ ?_ ?_ _ _ #[rfl,rfl,hy]
 ·rintro v cf r s' ⟨hr,rfl,hall⟩;obtain⟨y,c,rfl,q,hdy⟩:=hall v (.head _);have hrest:∀v∈cf,∃y c,v=.ref c/\IsT s'.heap y (.ref c)/\y.depth<=aC:=λv hv=>hall v (.tail _ hv)
  have k6:aC<=8:=by unfold aC; decide
  dsimp only;split
  ·exact Ky #[rfl,rfl,hrest]
  ·refine Ks (lE 8 _ _ _ _ _ (KQ ‹_› ‹_›) hx ?_);simp only[Nq,Ld,L4];refine Ks (lE 8 _ _ _ _ _ (KQ ‹_› ‹_›) q ?_);simp only[Nq,Ld,L4];refine Ks (p7 8 _ _ _ _ _ (KQ ‹_› ‹_›) hx ?_);simp only[Ld,L4];refine Ks (p7 8 _ _ _ _ _ (KQ ‹_› ‹_›) q ?_);simp only[Ld,L4];exact Ky #[rfl,rfl,hrest]
 ·rintro⟨r1,r2⟩ s' ⟨hr,rfl,_⟩;simp only at hr;subst hr;exact Ky h
end
inductive Sf where|there|free (slot:KC)
noncomputable def eH (es:Lg (KO×T))(t:L1)(x:T)(h:KO):KC->Kz O8->Kz Sf
 | 0,_=>gV
 | f+1,stand=>match t.probe (λi=>(es[i]?.map (·.1)).getD 0) h (stand.getD (t.probeStart h))with
  | none=>gV
  | some (.empty j gV)=>ba (.free j)
  | some (.empty _ (ba _))=>gV
  | some (.candidate j i next)=>match es[i]? with
   | none=>gV
   | some (_,y)=>if y=x then ba .there else if t.slot j=.live i then eH es t x h f (ba next)else gV
structure SE (h:LI)(es0:Lg (KO×T))(es:Lg (KO×Ku)):Prop where
 size:es0.size=es.size
 ent:∀(i:KC) (hh:KO) (y:T),es0[i]?=ba (hh,y)->∃b:KF,es[i]?=ba (hh,Lq b)/\IsT h y (.ref b)/\y.depth<=aC
theorem SE.hash {h:LI}{es0:Lg (KO×T)}{es:Lg (KO×Ku)}(R:SE h es0 es):(λ(i:KC)=>(es0[i]?.map (λp=>p.1)).getD 0)=λ(i:KC)=>(es[i]?.map (λp=>p.1)).getD 0:=by
 funext i
 cases e:es0[i]? with
 | none=>
  have:es[i]?=gV:=by rw[Array.getElem?_eq_none_iff]at e ⊢; rw[<- R.size]; exact e
  rw[this]; rfl
 | some p=>
  obtain⟨b,e2,_⟩:=R.ent i p.1 p.2 e;rw[e2]; rfl
theorem SE.vals {h:LI}{es0:Lg (KO×T)}{es:Lg (KO×Ku)}(R:SE h es0 es):∀e∈es.toList,∃y c,e.2=.ref c/\IsT h y (.ref c)/\y.depth<=aC:=λe he=>by
 obtain⟨i,hi,rfl⟩:=NQ.mp he;rw[KW]at hi;have hi0:i < es0.size:=by rw[R.size]; exact hi
 obtain⟨b,e2,q⟩:=R.ent i es0[i].1 es0[i].2 (MP hi0);rw[MP hi]at e2;refine#[_,b,?_,q];rw[OJ,LV e2]
section
variable{prog:Lk}{w:Lz}{E:Ku->Kx->Prop}{A:Lr}{s:Kx}
theorem zb {a b:KF}{o:Mp}{es0:Lg (KO×T)}{es:Lg (KO×Ku)}{ep:KC}{t:L1}{x:T}{h:KO}{Q:SetFound->Kx->Prop}(ho:s.heap.get? a=ba o)(hd:o.data=.set es ep t)(hf:t.fits es.size=true)(hg:t.gaveWay=false)(R:SE s.heap es0 es)
    (hx:IsT s.heap x (.ref b)) (hdx:x.depth<=aC) (hu:(bL prog w).room A):∀(f F:KC) (stand:Kz O8) (r:Sf),eH es0 t x h f stand=ba r->f<=F->(r=.there->Q (.there gV) s)->(∀j,r=.free j->Q (.free j false) s)->
    wpAny (model prog w) A (setSearchFrom a (.ref b) h true F stand) Q E s:=by
  intro f
  induction f with
  | zero=>intro F stand r e; cases e
  | succ f ih=>
    intro F stand r e hF h1 h2;obtain⟨F,rfl⟩ : ∃F',F=F'+1:=#[F - 1,∅]
    unfold setSearchFrom;refine Ks (L6 ho hd hf ?_);dsimp only;rw[hg];simp only[Ld,L4];unfold eH at e;rw[R.hash]at e;split
    · rename_i met hm
      have hm:t.probe (λi=>(es[i]?.map (·.1)).getD 0) h (stand.getD (t.probeStart h))=ba met:=hm
      rw[hm]at e;cases met with
      | empty j dm=>
        cases dm with
        | none=>cases e; exact Ky (h2 j rfl)
        | some d=>cases e
      | candidate j i next=>
        dsimp only at e ⊢;cases ei:es0[i]? with
        | none=>rw[ei]at e; cases e
        | some p=>
          obtain⟨hh,y⟩:=p;rw[ei]at e;dsimp only at e;obtain⟨c,ec,qy,hdy⟩:=R.ent i hh y ei;rw[ec];dsimp only;have sm:t.sameMemory t.moves t.mask=ba true:=by unfold T0; rw[La (LK _)]
          have hv:∀v∈TM (λx=>x.snd) (Array.filter (λx=>x.fst==h) es).toList,∃y c,v=Lq c/\IsT s.heap y (.ref c)/\y.depth<=aC:=λv hv=>by
            obtain⟨p,hp,rfl⟩:=K6.mp hv;rw[Array.toList_filter]at hp;exact R.vals p (N9.mp hp).1
          cases hl:t.led
          · simp only[Qs,Mt]
            refine Ks (y9 hx hdx hv ?_);simp only[Ld,L4];refine Ks (LQ ((bL prog w).eqBool hu #[qy,hdy] #[hx,hdx] ?_));refine Ks (L6 ho hd hf ?_)
            by_cases hyx:y=x
            · rw[La hyx]at e
              cases e;simp only[hyx,R3,N5,Mt];exact Ky (h1 rfl)
            · rw[Li hyx]at e
              split at e
              · rename_i hsl
                simp only[hyx,To,O5,Ld,L4,sm,Mt,hsl,ec];refine Ks (Qi ?_);refine Ks (Ky ?_);simp only[Mt];exact ih F (ba next) r e ∅ h1 h2
              · cases e
          · simp only[Nq,Ld,L4]
            refine Ks (LQ ((bL prog w).eqBool hu #[qy,hdy] #[hx,hdx] ?_));refine Ks (L6 ho hd hf ?_)
            by_cases hyx:y=x
            · rw[La hyx]at e
              cases e;simp only[hyx,R3,N5,Mt];exact Ky (h1 rfl)
            · rw[Li hyx]at e
              split at e
              · rename_i hsl
                simp only[hyx,To,O5,Ld,L4,sm,Mt,hsl,ec];refine Ks (Qi ?_);refine Ks (Ky ?_);simp only[Mt];exact ih F (ba next) r e ∅ h1 h2
              · cases e
    · rename_i hm
      have hm:t.probe (λi=>(es[i]?.map (·.1)).getD 0) h (stand.getD (t.probeStart h))=gV:=by
        first|exact hm|(cases hp:t.probe (λi=>(es[i]?.map (·.1)).getD 0) h (stand.getD (t.probeStart h))with
          | none=>rfl
          | some m=>exact absurd hp (hm m))
      rw[hm]at e;cases e
end
mutual
noncomputable def gk:T->Lf
 | .int _=>true
 | .str _=>false
 | .tup xs=>dQ xs
noncomputable def dQ:Kr T->Lf
 | []=>true
 | x::xs=>gk x&&dQ xs
end
section
variable{prog:Lk}{w:Lz}{E:Ku->Kx->Prop}
theorem vk:∀(d:KC) (k:T) (v:Ku) (A:Lr) (s:Kx) (Q:Lf->Kx->Prop),gk k=true->k.depth<=d->IsT s.heap k v->Q true s->wpAny (model prog w) A (hashByValue d v) Q E s
 | d,.int i,_,A,s,Q,_,_,x,h=>by
  cases x;have:∀t,hashByValue d (.int i t)=pure true:=λt=>by cases d <;> rfl
  rw[this]; exact Ky h
 | d,.str i,_,A,s,Q,hn,_,x,h=>by cases hn
 | 0,.tup ks,_,A,s,Q,_,hd,x,h=>by simp[T.depth]at hd
 | d+1,.tup ks,_,A,s,Q,hn,hd,x,h=>by
  cases x with
  | @tup _ a o items n ho hc hdt hi=>
   simp only[T.depth]at hd;have hn:dQ ks=true:=hn;have hT:s.TypeIs (.ref a) "tuple":=#[_,ho,hc];unfold hashByValue;refine Ks (P9 hT F.slot_tuple_hash.lookup ?_);refine Ks (MX ho hdt ?_);refine Ks ?_;show wpAny _ _ (forIn items _ _) _ _ s;rw[<- Od];refine NV _ (λcf r s'=>r.1=gV/\s'=s/\∃kk,IsTs s.heap kk cf/\T.depths kk<=d/\dQ kk=true) _ ?_ ?_ _ _ #[rfl,rfl,ks,hi,∅,hn]
   ·rintro v cf r s' ⟨hr,rfl,kk,hall,hdk,hnk⟩;cases hall with
    | cons q1 q2=>
     simp only[T.depths]at hdk;simp only[dQ,KA]at hnk;refine Ks (vk d _ v _ _ _ hnk.1 ∅ q1 ?_)
     simp only[Nq,Ld,L4];exact Ky #[rfl,rfl,_,q2,∅,hnk.2]
   ·rintro⟨r1,r2⟩ s' ⟨hr,rfl,_⟩;simp only at hr;subst hr;exact Ky h
end
noncomputable abbrev Ze:=KO×T×KF
noncomputable def zT (z:Ze):KO×T:=(z.1,z.2.1)
noncomputable def zV (z:Ze):KO×Ku:=(z.1,.ref z.2.2)
noncomputable def ZOk (h:LI)(zs:Lg Ze):Prop:=∀z∈zs.toList,IsT h z.2.1 (.ref z.2.2)/\z.2.1.depth<=aC
theorem ZOk.se {h:LI}{zs:Lg Ze}(k:ZOk h zs):SE h (zs.map zT) (zs.map zV):=#[by simp,λi hh y e=>by
 rw[O9,Kv]at e;obtain⟨z,hz,e⟩:=e;cases e;exact#[z.2.2,by rw[O9,hz]; rfl,k z (by rw[NR]; exact Oz hz)]]
theorem jk {α β:Type}{f:α->β}{xs:Lg α}{p:KC}{x:α}:Lu (xs.map f) p (f x)=(Lu xs p x).map f:=by
 unfold Lu;simp[Array.map_extract]
noncomputable def d0 (t:L1)(n:KC):Lf:=t.fits n && !t.gaveWay&&decide (n<=1000)
noncomputable def bY (hf:T->KO)(st:Lg (KO×T)×L1)(x:T):Kz (Lg (KO×T)×L1):=
 match eH st.1 st.2 x (hf x) 100 gV with
 | none=>gV
 | some .there=>ba st
 | some (.free slot)=>
  if d0 (st.2.put slot).1 (Lu st.1 (st.2.put slot).2 (hf x,x)).size then
   if (st.2.put slot).1.tooFull then
    if Pa (Ot (st.1.size+1))<=sizeLine then
     match (st.2.put slot).1.relaid ((Lu st.1 (st.2.put slot).2 (hf x,x)).map (·.1)) (Ot (st.1.size+1))with
     | none=>gV
     | some (t2,order)=>
      if (order.filterMap ((Lu st.1 (st.2.put slot).2 (hf x,x))[·]?)).size=(Lu st.1 (st.2.put slot).2 (hf x,x)).size/\d0 t2 (order.filterMap ((Lu st.1 (st.2.put slot).2 (hf x,x))[·]?)).size=true then ba (order.filterMap ((Lu st.1 (st.2.put slot).2 (hf x,x))[·]?),t2)else gV
    else gV
   else ba (Lu st.1 (st.2.put slot).2 (hf x,x),(st.2.put slot).1)
  else gV
theorem filterMap_map {α β:Type}{f:α->β}{xs:Lg α}{order:Lg KC}:order.filterMap ((xs.map f)[·]?)=(order.filterMap (xs[·]?)).map f:=by
 rw[Array.map_filterMap];congr 1
 funext i
 exact O9 ..
theorem ug {b:KF}{es:Lg (KO×Ku)}:byScan (.ref b) es=false:=rfl
theorem l9 {t:L1}{n:KC}(h:d0 t n=true):t.fits n=true/\t.gaveWay=false/\n<=1000:=by
 unfold d0 at h;simp only[KA,NL,K5]at h;exact#[h.1.1,h.1.2,h.2]
section
variable{prog:Lk}{w:Lz}{E:Ku->Kx->Prop}{A:Lr}{s:Kx}
theorem uh {a:KF}{o:Mp}{es es1:Lg (KO×Ku)}{ep:KC}{t t1:L1}{Q:Ut->Kx->Prop}(ho:s.heap.get? a=ba o)(hd:o.data=.set es ep t)(hz:es1.size<=1000)
  (h:∀h',Mw a s.heap h'->h'.get? a=ba { o with data:=.set es1 (ep+1) t1 }->Q () { s with heap:=h' }):wpAny (model prog w) A (storeSet a es1 t1) Q E s:=by
 refine wpAny_storeSet_of ho hd (h _ (Nu ..) ?_) (KQ hz (by rw[LD]; decide))
 have:=Mj (Obj.putSet es1 t1) ho (by rw[putSet_of es1 t1 hd]; rfl)
 rw[putSet_of es1 t1 hd]at this;exact this
theorem Hd {a b:KF}{o:Mp}{zs:Lg Ze}{ep:KC}{t:L1}{x:T}{hf:T->KO}{es1:Lg (KO×T)}{t1:L1}{Q:Lf->Kx->Prop}(ho:s.heap.get? a=ba o)(hd:o.data=.set (zs.map zV) ep t)(hft:d0 t zs.size=true)(hz:ZOk s.heap zs)
  (hx:IsT s.heap x (.ref b)) (hdx:x.depth<=aC) (hnx:gk x=true) (hu:(bL prog w).room A) (e:bY hf (zs.map zT,t) x=ba (es1,t1))
  (k:∀(bb:Lf) (h':LI) (zs':Lg Ze) (ep':KC),zs'.map zT=es1->d0 t1 zs'.size=true->Mw a s.heap h'->h'.get? a=ba { o with data:=.set (zs'.map zV) ep' t1 }->(∀z∈zs'.toList,z∈zs.toList\/z=(hf x,x,b))->Q bb { s with heap:=h' }) :
  wpAny (model prog w) A (setAddHashed a (.ref b) (hf x)) Q E s:=by
 obtain⟨f1,f2,f3⟩:=l9 hft;have f1':t.fits (zs.map zV).size=true:=by rw[L9]; exact f1
 unfold setAddHashed setAddHashedIn;refine LQ (Ks (L6 ho hd f1' ?_));dsimp only;rw[ug];simp only[Ld,L4];unfold bY at e;cases hs:eH (zs.map zT) t x (hf x) 100 gV with
 | none=>rw[hs]at e; cases e
 | some r=>
  rw[hs]at e;dsimp only at e;refine Ks ?_;unfold setSearch;refine zb ho hd f1' f2 hz.se hx hdx hu 100 100000 gV r hs #v[] (λhr=>?_) λslot hr=>?_
  ·subst hr;cases e;exact Ky (k false s.heap zs ep rfl hft (Rv ..) (by rw[<- hd]; exact ho) λz h=>.inl h)
  ·subst hr;dsimp only at e ⊢;refine Ks (L6 ho hd f1' ?_);dsimp only;split at e
   ·rename_i hok1;have eI:Lu (zs.map zT) (t.put slot).2 (hf x,x)=(Lu zs (t.put slot).2 (hf x,x,b)).map zT:=jk (f:=zT) (x:=(hf x,x,b));have eV:Lu (zs.map zV) (t.put slot).2 (hf x,.ref b)=(Lu zs (t.put slot).2 (hf x,x,b)).map zV:=jk (f:=zV) (x:=(hf x,x,b));have hmem:∀z∈(Lu zs (t.put slot).2 (hf x,x,b)).toList,z∈zs.toList\/z=(hf x,x,b):=λz h=>by
     unfold Lu at h;simp only[OU,Pn,Ln,KS]at h;rcases h with(h|h)|h
     ·rw[NS]at h;exact .inl (by rw[Ph]at h; exact NT (MY h))
     ·exact .inr h
     ·rw[NS]at h;exact .inl (by rw[Ph]at h; exact NT (MY h))
    rw[eI]at e hok1;rw[L9]at hok1;obtain⟨g1,g2,g3⟩:=l9 hok1;rw[eV];have hfst:∀z1:Lg Ze,Nz (λx=>x.fst) (Nz zV z1)=Nz (λx=>x.fst) (Nz zT z1):=λz1=>by
     rw[SW,SW]; rfl
    simp only[L9]at e ⊢;generalize(t.put slot).1=tt at e hok1 g1 g2 ⊢;generalize Lu zs (t.put slot).2 (hf x,x,b)=z1 at e hok1 g1 g3 hmem ⊢;clear eI eV;have k8:x.depth<=8:=KQ hdx (by unfold aC; decide)
    have g1v:tt.fits (Nz zV z1).size=true:=by rw[L9]; exact g1
    have tail:∀h1:LI,Mw a s.heap h1->h1.get? a=ba { o with data:=.set (Nz zV z1) (ep+1) tt }->wpAny (model prog w) A (if (!false&&tt.tooFull)=true then do setRelay a (Ot (zs.size+1)); pure true else pure true) Q E { s with heap:=h1 }:=by
     intro h1 sb1 q1;cases htf:tt.tooFull with
     | false=>
      rw[htf]at e;simp only[Ld,L4]at e;cases e;simp only[Qs,O5,Ld,L4];exact Ky (k true h1 z1 (ep+1) rfl hok1 sb1 q1 hmem)
     | true=>
      rw[htf]at e;simp only[Mt]at e;simp only[Qs,N5,Mt];split at e
      ·rename_i hle;cases hrel:tt.relaid (Nz (λx=>x.fst) (Nz zT z1)) (Ot (zs.size+1))with
       | none=>rw[hrel]at e; cases e
       | some p=>
        obtain⟨t2,order⟩:=p;rw[hrel]at e;dsimp only at e;rw[filterMap_map,L9]at e;split at e
        ·rename_i hc;cases e;obtain⟨c1,c2⟩:=hc;obtain⟨d1,d2,d3⟩:=l9 c2;unfold setRelay;refine Ks (Ks (L6 q1 rfl g1v ?_));dsimp only;rw[Li (Q8.mpr hle)];rw[hfst,hrel];refine Ks (Og (a:=(Nz zV (R9 (λx=>z1[x]?) order),t1)) ?_ ?_)
         ·show(if ((R9 (λx=>(Nz zV z1)[x]?) order).size != (Nz zV z1).size)=true then _ else _)=_
          rw[filterMap_map,L9,L9,c1];rw[Li (by simp)]
         ·dsimp only;refine uh (s:={ s with heap:=h1 }) q1 rfl (by rw[L9]; exact d3) λh2 sb2 q2=>Ky (k true h2 _ (ep+1+1) rfl c2 (sb1.trans sb2) q2 λz hz=>hmem z ?_)
          obtain⟨i,hi,e⟩:=Array.mem_filterMap.mp (NR.mp hz);exact NR.mpr (Oz e)
        ·cases e
      ·cases e
    cases hp:tt.plain with
    | false=>
     simp only[Ld,L4];refine Ks (Ky ?_);simp only[Mt];exact Ks (uh ho hd (by rw[L9]; exact g3) λh1 sb1 q1=>tail h1 sb1 q1)
    | true=>
     simp only[Mt];refine Ks (vk 8 _ _ _ _ _ hnx k8 hx ?_);simp only[Mt];exact Ks (uh ho hd (by rw[L9]; exact g3) λh1 sb1 q1=>tail h1 sb1 q1)
   ·cases e
end
noncomputable def hG (h h':LI):Prop:=∀c o,h.get? c=ba o->o.cls=.type "tuple"->h'.get? c=ba o
mutual
theorem IsT.stay {h h':LI}(k:hG h h'):∀ {x:T} {v:Ku},IsT h x v->IsT h' x v
 | _,_,.int=>.int
 | _,_,.str=>.str
 | _,_,.tup a b c d=>.tup (k _ _ a b) b c (IsTs.stay k d)
theorem IsTs.stay {h h':LI}(k:hG h h'):∀ {x:Kr T} {v:Kr Ku},IsTs h x v->IsTs h' x v
 | _,_,.nil=>.nil
 | _,_,.cons a b=>.cons (IsT.stay k a) (IsTs.stay k b)
end
theorem ZOk.stay {h h':LI}{zs:Lg Ze}(k:hG h h')(z:ZOk h zs):ZOk h' zs:=λy hy=>#[(z y hy).1.stay k,(z y hy).2]
section
variable{prog:Lk}{w:Lz}{A:Lr}{E:Ku->Kx->Prop}{s:Kx}{R:RJ->Kx->Prop}{I:KF}{fp wr:Kr KF}{G:Lg Qo->Lg Qo->Prop}{n:KC}{P:KC->Ku->Prop}{St:KC->Kx->Prop}
noncomputable def ma (w:Lz)(zs:Lg Ze)(ep:KC)(t:L1):Mp:={ de w with data:=.set (zs.map zV) ep t }
theorem xf (W:WalksS prog w A.in1 I fp wr G n P St){D:KF}(hD:D∉fp)(hwr:∀i s b o,St i s->b∈wr->s.heap.get? b=ba o->o.cls≠.type "tuple"){ks:Kr T}{res:Lg (KO×T)×L1}{Y:T->KF->Prop}(hl:ks.length=n)(hk:∀x∈ks,gk x=true/\x.depth<=aC)(hP:∀i v,P i v->∃x b,ks[i]?=ba x/\v=.ref b/\Y x b)(hu:(bL prog w).room A.in1) :
  ∀(k i:KC) (s:Kx) (zs:Lg Ze) (ep:KC) (t:L1),n - i=k->i<=n->St i s->s.heap.get? D=ba (ma w zs ep t)->d0 t zs.size=true->ZOk s.heap zs->(∀z∈zs.toList,Y z.2.1 z.2.2)->(∀j v x,P j v->ks[j]?=ba x->IsT s.heap x v)->(ks.drop i).foldlM (bY (fG w)) (zs.map zT,t)=ba res->
   (∀s' zs' ep',Moved (D::wr) G s s'->s'.heap.get? D=ba (ma w zs' ep' res.2)->zs'.map zT=res.1->d0 res.2 zs'.size=true->ZOk s'.heap zs'->(∀z∈zs'.toList,Y z.2.1 z.2.2)->R (.ok (.ret .none)) s')->codeAny (model prog w) A (.builtin "set.update.loop" #[[.ref D,.ref I],[]]) R s:=by
 have hw:D∉wr:=λz=>hD (W.sub _ z)
 have up:∀b∈wr,b∈D::wr:=λb z=>LZ _ z
 intro k
 induction k with
 | zero=>
  intro i s zs ep t hk' hi st ho hok hz hy hT hsim hR;obtain rfl:i=n:=∅
  refine LW F.entry_set_update_loop ?_;rw[LN F.plain_set_update_loop _];show wpAny _ A.in1 (pyNext (.ref I) >>= _) _ _ s;refine Ks (W.done s _ _ st λs' mv=>?_)
  rw[Ou ∅]at hsim
  cases hsim;have ts:hG s.heap s'.heap:=λc o q hc=>mv.heap c o (λz=>hwr _ _ _ _ st z q hc) q
  exact Ky (hR s' zs ep (mv.mono up) (mv.heap D _ hw ho) rfl hok (hz.stay ts) hy)
 | succ k ih=>
  intro i s zs ep t hk' hi st ho hok hz hy hT hsim hR;have hlt:i < n:=∅
  refine LW F.entry_set_update_loop ?_;rw[LN F.plain_set_update_loop _];show wpAny _ A.in1 (pyNext (.ref I) >>= _) _ _ s;refine Ks (W.item i s _ _ hlt st λv s1 pv st1 mv=>?_)
  obtain⟨x,b,hx,rfl,yx⟩:=hP i v pv;have ts1:hG s.heap s1.heap:=λc o q hc=>mv.heap c o (λz=>hwr _ _ _ _ st z q hc) q
  obtain⟨hn,hdp⟩:=hk x (KY hx);have isx:IsT s1.heap x (.ref b):=(hT i _ x pv hx).stay ts1;have o1:s1.heap.get? D=ba (ma w zs ep t):=mv.heap D _ hw ho;have hd1:ks.drop i=x::ks.drop (i+1):=by
   obtain⟨h1,h2⟩:=KJ.mp hx;rw[List.drop_eq_getElem_cons h1,h2]
  rw[hd1,NA]at hsim;cases hs:bY (fG w) (zs.map zT,t) x with
  | none=>rw[hs]at hsim; cases hsim
  | some aW=>
   obtain⟨es1,t1⟩:=aW;rw[hs]at hsim;have hsim:(ks.drop (i+1)).foldlM (bY (fG w)) (es1,t1)=ba res:=hsim;show wpAny _ A.in1 (holding [Lq b] (setAdd D (.ref b)) >>= _) _ _ s1;refine Ks (LQ ?_);unfold setAdd;refine LQ (Ks ((bL prog w).pyHash hu #[isx,hdp] ?_));refine Hd (s:={ s1 with toks:=s1.toks+x.draws }) (hf:=fG w) o1 rfl hok (hz.stay ts1) isx hdp hn hu hs λbb h' zs' ep' e1 hok' sb ho' hmem=>?_
   have ts2:hG s1.heap h':=λc o q hc=>by
    refine sb.extBut c o (λz=>?_) q
    subst z;rw[o1]at q;cases q;exact absurd hc (by show ¬ (Mq "set" = Mq "tuple"); simp)
   have hz':ZOk h' zs':=λz hzm=>by
    rcases hmem z hzm with h|rfl
    ·exact((hz.stay ts1).stay ts2) z h
    ·exact#[isx.stay ts2,hdp]
   refine Ky #[ME F.plain_set_update_loop _,ih (i+1) { s1 with heap:=h',toks:=s1.toks+x.draws } zs' ep' t1 ∅ hlt (W.frame _ s1 _ _ st1 (PJ _ _) λc hc u q=>?_) ho' hok' hz' (λz hzm=>by
    rcases hmem z hzm with h|rfl
    ·exact hy z h
    ·exact yx) (λj v y pj hy=>((hT j v y pj hy).stay ts1).stay ts2) (by rw[e1]; exact hsim) λs2 zs2 ep2 mv2 ho2 e2 hok2 hz2 hy2=>?_]
   ·rw[sb.2 c λz=>hD (z ▸ hc)]; exact q
   ·refine hR s2 zs2 ep2 (Moved.trans W.gtrans ((mv.mono up).then_heap (PJ _ _) λc u hc q=>?_) mv2) ho2 e2 hok2 hz2 hy2
    rw[sb.2 c λz=>hc (z ▸ L3)]
    exact q
end
section
variable{prog:Lk}{w:Lz}{A:Lr}{E:Ku->Kx->Prop}{s:Kx}
theorem zd (l:Lf):d0 (.fresh 0 0 l) (#[]:Lg Ze).size=true:=by cases l <;> decide
set_option maxHeartbeats 4000000 in
theorem xg {l:KF}{its:Lg Ku}{ks:Kr T}{res:Lg (KO×T)×L1}{Q:Ku->Kx->Prop}(hh:A.handled=gV)(hl:s.heap.IsList l its)(hi:IsTs s.heap ks its.toList)(hk:∀x∈ks,gk x=true/\x.depth<=aC)(hrf:∀(i:KC) (v:Ku),its[i]?=ba v->∃b,v=.ref b)(hu:(bL prog w).room A.in1.in1.in1)(hsim:ks.foldlM (bY (fG w)) (#[],.fresh 0 0 (!fU w))=ba res)
  (h:∀(h':LI) (tk:KC) (zs:Lg Ze) (ep:KC),h'.get? s.heap.objs.size=ba (ma w zs ep res.2)->zs.map zT=res.1->d0 res.2 zs.size=true->ZOk h' zs->(∀z∈zs.toList,∃i:KC,ks[i]?=ba z.2.1/\its[i]?=ba (Lq z.2.2))->(∀b u,s.heap.get? b=ba u->h'.get? b=ba u)->Q (.ref s.heap.objs.size) { s with heap:=h',toks:=tk }):wpAny (model prog w) A (call (.type "set") [.ref l]) Q E s:=by
 obtain⟨c,tl,hmro⟩:=F.called_set.mro;have hmade:=F.called_set.made;have hsub:=F.called_set.sub;have hn1:=F.called_set.notType;have hn2:=F.called_set.canCreate;have hct:=F.typeCall_set_1 (.ref l);refine wpAny_call (P8 ?_);show wpAny _ _ (callAny (.type "set") _) _ _ _;refine Ky #[Q9 _ (by decide +kernel),LW F.entry_type_call ?_]
 rw[Around.under_plain (weight_type_call_type "set" [.ref l] []) rfl]
 repeat (any_goals (first|assumption|wp_step))
 refine Ol (yX (w:=w) (.ref l) (E:=E) (Q₁:=λobj s1=>obj=.ref s.heap.objs.size/\s1={ s with heap:=s.heap.push (de w) }) #[rfl,rfl]) λr s1 hr=>?_
 match r,hr with
 | .ok (.ret obj),hr=>
  obtain⟨rfl,rfl⟩:=hr;have oS:(s.heap.push (de w)).get? s.heap.objs.size=ba (de w):=KT _ rfl;have tS:Shared.TypeIs { s with heap:=s.heap.push (de w) } (.ref s.heap.objs.size) "set":=#[_,oS,rfl]
  have hli:=F.called_set.init.lookup;have hbi:=F.called_set.init.bind (.ref s.heap.objs.size)
  repeat (any_goals (first|assumption|wp_step))
  refine Ol (codeAny_call_builtin (R:=wants (λr s2=>r=.none/\∃h' tk zs ep,s2={ s with heap:=h',toks:=tk }/\h'.get? s.heap.objs.size=ba (ma w zs ep res.2)/\zs.map zT=res.1/\d0 res.2 zs.size=true/\ZOk h' zs/\(∀z∈zs.toList,∃i:KC,ks[i]?=ba z.2.1/\its[i]?=ba (Lq z.2.2))/\∀b u,s.heap.get? b=ba u->h'.get? b=ba u) E) F.called_set.init.plain F.entry_set_init (check_set_init_1 tS ?_)) λr2 s2 hr2=>?_
  ·obtain⟨⟨oc,od,ot,osl⟩,hol,hcl,nl,hdl⟩:=id hl;simp only at hcl hdl;subst hcl hdl;have hol1:=Kw (de w) hol;have l1:(s.heap.push (de w)).IsList l its:=#[_,hol1,rfl,nl,rfl];have e1:=F.sub_list_set;have e2:=F.sub_list_frozenset;have e3:(Mq "list" == Mq "dict")=false:=by decide
   unfold NK.«set.__init__» noKeywords Sb;generalize hPI:pyIter=PI
   wp_walk
   subst hPI;refine Ov l1 (Ks (Os ?_));have ls:l < s.heap.objs.size:=K1 hol;have sz:(s.heap.push (de w)).objs.size=s.heap.objs.size+1:=Ny ..;have ne:l≠(s.heap.push (de w)).objs.size:=by rw[sz]; exact K7 (Nm ls)
   have oS':(s.heap.push (de w)).get? s.heap.objs.size=ba (ma w #[] 0 (.fresh 0 0 (!fU w))):=by
    rw[oS]; unfold ma de; simp
   have len:ks.length=its.size:=by rw[hi.length,KW]
   refine xf ((SA (A:=A.in1.in1.in1) (by simp[hh]) _ l ne its).toS) (D:=s.heap.objs.size) (ks:=ks) (res:=res) (Y:=λx b=>∃i:KC,ks[i]?=ba x/\its[i]?=ba (Lq b)) (by rw[sz]; simp only[Le,LP,Nb,T7]; exact#[K7 (Mh _),Lx ls]) (λi s b o st hb q=>?_) len hk (λi v q=>?_) hu _ 0 _ #[] 0 (.fresh 0 0 (!fU w)) rfl (Mm _)
    #[#[_,KT _ rfl,rfl,rfl],l1.push _] (Kw _ oS') (zd _) (λz hz=>by simp at hz) (λz hz=>by simp at hz) (λj v x q hx=>?_) (by rw[Qt,show Nz zT #[]=#[] by simp]; exact hsim) λs3 zs3 ep3 mv ho3 e3 hok3 hz3 hy3=>?_
   ·obtain⟨⟨o',e,hc,_⟩,_⟩:=st;rw[KS.mp hb]at q;rw[q]at e;cases e;rw[hc];simp
   ·obtain⟨b,rfl⟩:=hrf i v q;have hi':i < ks.length:=by rw[len]; exact(Mo.mp q).1
    exact#[ks[i],b,KI hi',rfl,i,KI hi',q]
   ·have hj:=(KJ.mp hx);have q':=(Mo.mp q);obtain⟨h1,rfl⟩:=hj;obtain⟨h2,rfl⟩:=q';have:=hi.get j h1 (by rw[KW]; exact h2)
    rw[OJ]at this;exact this.stay λc o q hc=>Kw _ (Kw _ q)
   ·rw[SU mv];refine Ky (Ky #[rfl,s3.heap,s3.toks,zs3,ep3,rfl,ho3,e3,hok3,hz3,hy3,λb u q=>?_])
    have hb:=K1 q;exact mv.heap b u (by rw[sz]; simp only[Le,LP,Nb,T7]; exact#[K7 hb,K7 (Nm hb)]) (Kw _ (Kw _ q))
  ·match r2,hr2 with
   | .ok (.ret r),hr2=>
    obtain⟨rfl,h',tk,zs,ep,rfl,g1,g2,g3,g4,g5,g6⟩:=hr2
    repeat (any_goals (first|assumption|wp_step))
    exact h h' tk zs ep g1 g2 g3 g4 g5 g6
   | .ok .next,hr2=>exact hr2.elim
   | .ok .brk,hr2=>exact hr2.elim
   | .ok .cont,hr2=>exact hr2.elim
   | .error e,hr2=>exact hr2
 | .ok .next,hr=>exact hr.elim
 | .ok .brk,hr=>exact hr.elim
 | .ok .cont,hr=>exact hr.elim
 | .error e,hr=>exact hr
end
noncomputable def kS (S:aa)(i:KC):Kz (Kr (T×W)):=match S[i]? with
 | some (.dic kvs)=>ba kvs
 | some (.frd kvs)=>ba kvs
 | _=>gV
noncomputable def p8 (S:aa)(i:KC):Kz (Kr (T×W)):=match S[i]? with
 | some (.dic kvs)=>ba kvs
 | _=>gV
noncomputable def cw (kvs:Kr (T×W))(k:T):Kz W:=(kvs.find? λp=>decide (p.1=k)).map (·.2)
noncomputable def fE (kvs:Kr (T×W))(k:T)(v:W):Kr (T×W):=
 if (kvs.any λp=>decide (p.1=k))=true then kvs.map (λp=>if p.1=k then(p.1,v)else p)else kvs++[(k,v)]
noncomputable def ik (w:W):Kz T:=match W.t w with
 | some k=>if k.isTup=true/\k.depth<=aC then ba k else gV
 | none=>gV
theorem eR {w:W}{k:T}(h:ik w=ba k):k.w=w/\k.isTup=true/\k.depth<=aC:=by
 unfold ik at h;split at h
 ·rename_i k' hk;split at h
  ·rename_i hc;cases h;exact#[W.t_w hk,hc.1,hc.2]
  ·cases h
 ·cases h
theorem dv (kvs:Kr (T×W))(k:T)(v:W):(fE kvs k v).length<=kvs.length+1:=by
 unfold fE;split
 ·rw[Kt]; omega
 ·rw[KG,LJ,MN]; omega
section
variable{X:Cx}{pins:Kr (KF×Mp)}{σ:L2.St}{H:Hp}{s:Kx}{A:Kr KF}{S:aa}
mutual
theorem md (I:Inv X pins σ H s):∀(k:T) {v:V} {u:Ku},Rel X.K A H k.w v->RelV v u->IsT s.heap k u
 | .int i,_,_,r,q=>by
  cases r;obtain⟨t,rfl⟩ : ∃t,_=PF _ t:=q;exact .int
 | .str x,_,_,r,q=>by
  cases r;obtain⟨t,rfl⟩ : ∃t,_=OA _ t:=q;exact .str
 | .tup ks,_,_,r,q=>by
  simp only[T.w]at r;cases r with
  | tup sq rl=>
   obtain⟨its,rv,⟨o,h1,h2,n,h3⟩,hz⟩:=I.tuple sq;obtain rfl:_=Lq _:=q;exact .tup h1 h2 h3 (fI I ks rl (by simpa using rv))
theorem fI (I:Inv X pins σ H s):∀(ks:Kr T) {vs:Kr V} {us:Kr Ku},RelL X.K A H (T.ws ks) vs->Vals vs us->IsTs s.heap ks us
 | [],_,_,r,q=>by
  simp only[T.ws]at r;cases r; cases q; exact .nil
 | k::ks,_,_,r,q=>by
  simp only[T.ws]at r;cases r with
  | cons r1 r2=>
   cases q with
   | cons q1 q2=>exact .cons (md I k r1 q1) (fI I ks r2 q2)
end
theorem jR (I:Inv X pins σ H s){k:T}{b:KF}(r:Rel X.K A H k.w (.ref b))(hd:k.depth<=aC):(bL X.prog X.w).is s.heap k b:=#[md I k r rfl,hd]
theorem jl {w:W}{k:T}{v:V}{u:Ku}(hk:ik w=ba k)(r:Rel X.K A H w v)(q:RelV v u):∃b,v=.ref b/\u=.ref b/\Rel X.K A H k.w (.ref b):=by
 obtain⟨h1,h2,h3⟩:=eR hk;subst h1;cases k with
 | tup ks=>
  simp only[T.w]at r;cases r with
  | tup a b=>exact#[_,rfl,q,by simp only[T.w]; exact .tup a b]
 | _=>cases h2
theorem KRel.is {kvs:Kr (T×W)}{xs:Kr (T×KF×Ku)}(I:Inv X pins σ H s)(r:KRel X.K A H kvs xs):∀x∈xs,(bL X.prog X.w).is s.heap x.1 x.2.1:=by
 unfold KRel at r
 induction r with
 | nil=>intro x hx; exact nomatch hx
 | @cons p q ps qs h t ih=>
  intro x hx;rcases Le.mp hx with e|hx
  ·subst e;obtain⟨h1,h2,h3,h4,_⟩:=h;rw[h1]at h3 h4;exact jR I h4 h3
  ·exact ih x hx
theorem KRel.length {kvs:Kr (T×W)}{xs:Kr (T×KF×Ku)}(r:KRel X.K A H kvs xs):kvs.length=xs.length:=Pw r
theorem KRel.val {kvs:Kr (T×W)}{xs:Kr (T×KF×Ku)}(r:KRel X.K A H kvs xs)(k:T) :
  (∀w,cw kvs k=ba w->∃p v,atKey xs k=ba p/\Rel X.K A H w v/\RelV v p.2)/\(cw kvs k=gV->atKey xs k=gV):=by
 unfold KRel at r
 induction r with
 | nil=>exact#[λw h=>(nomatch h),λ_=>rfl]
 | @cons p q ps qs h t ih=>
  obtain⟨h1,_,_,_,v,h5,h6⟩:=h
  by_cases e:p.1=k
  ·have e':q.1=k:=h1.symm.trans e;have a1:cw (p::ps) k=ba p.2:=by simp[cw,NG,e]
   have a2:atKey (q::qs) k=ba q.2:=by simp[atKey,NG,e']
   rw[a1,a2];exact#[λw hw=>(by cases hw; exact#[_,v,rfl,h5,h6]),λh=>nomatch h]
  ·have e':¬ q.1=k:=λz=>e (h1.trans z)
   have a1:cw (p::ps) k=cw ps k:=by simp[cw,NG,e]
   have a2:atKey (q::qs) k=atKey qs k:=by simp[atKey,NG,e']
   rw[a1,a2];exact ih
theorem KRel.repl {kvs:Kr (T×W)}{xs:Kr (T×KF×Ku)}(r:KRel X.K A H kvs xs)(k:T){w:W}{v:V}{u:Ku}(rw':Rel X.K A H w v)(rv:RelV v u) :
  KRel X.K A H (kvs.map λp=>if p.1=k then(p.1,w)else p) (xs.map (putAt k u)):=by
 unfold KRel at r ⊢
 induction r with
 | nil=>exact .nil
 | @cons p q ps qs h t ih=>
  rw[L0,L0];refine .cons ?_ ih;obtain⟨h1,h2,h3,h4,h5⟩:=h;unfold putAt
  by_cases e:p.1=k
  ·rw[La e,La (h1.symm.trans e)]; exact#[h1,h2,h3,h4,v,rw',rv]
  ·rw[Li e,Li (λz=>e (h1.trans z))]; exact#[h1,h2,h3,h4,h5]
theorem rN (k:T):∀kvs:Kr (T×W),(kvs.any λp=>decide (p.1=k))=(cw kvs k).isSome
 | []=>rfl
 | p::r=>by
  rw[M7]
  by_cases e:p.1=k
  ·have a1:cw (p::r) k=ba p.2:=by simp[cw,NG,e]
   rw[a1,MW e]; rfl
  ·have a1:cw (p::r) k=cw r k:=by simp[cw,NG,e]
   rw[a1,Lm e,Pz]; exact rN k r
theorem KRel.put {kvs:Kr (T×W)}{xs:Kr (T×KF×Ku)}(r:KRel X.K A H kvs xs){k:T}{b:KF}{w:W}{v:V}{u:Ku}(h1:k.isTup=true)(h2:k.depth<=aC)(h3:Rel X.K A H k.w (.ref b))(rw':Rel X.K A H w v)(rv:RelV v u) :
  KRel X.K A H (fE kvs k w) (storedH xs k b u):=by
 have e:(kvs.any λp=>decide (p.1=k))=(atKey xs k).isSome:=by
  rw[rN];cases q:cw kvs k with
  | none=>rw[(r.val k).2 q]; rfl
  | some x=>obtain⟨p,_,h,_⟩:=(r.val k).1 x q; rw[h]; rfl
 unfold fE storedH;rw[e]
 by_cases q:(atKey xs k).isSome=true
 ·rw[La q,La q]; exact r.repl k rw' rv
 ·rw[Li q,Li q]; exact Paired.snoc r #[rfl,h1,h2,h3,v,rw',rv]
theorem DicAt.of {h:LI}{a:KF}{xs:Kr (T×KF×Ku)}(hz:xs.length<=sizeLine)(hs:(a==sysModules)=false)(d:h.DictOfH (bL X.prog X.w) a xs):DicAt X.w a xs h:=
 let ⟨o,es,ep,h1,h2,h3,h4,_,h6⟩:=d; #[hz,hs,h6,o,es,ep,h1,h2,h3,h4]
theorem DicAt.stay {wd:Lz}{h h':LI}{a:KF}{xs:Kr (T×KF×Ku)}(d:DicAt wd a xs h)(k:∀o,h.get? a=ba o->h'.get? a=ba o):DicAt wd a xs h':=
 let ⟨h0,hs,hn,o,es,ep,h1,h2⟩:=d; #[h0,hs,hn,o,es,ep,k _ h1,h2]
theorem DicAt.ok {P:Lk}{h:LI}{wd:Lz}{a:KF}{xs:Kr (T×KF×Ku)}(d:DicAt wd a xs h):ObjOk P wd H h a (eY wd a xs):=
 #[d,let ⟨_,_,_,o,_,_,h1,_⟩:=d; #[o,h1],λ_ _ p k=>p.stay k]
theorem dg {a:KF}{xs:Kr (T×KF×Ku)}(I:Inv X pins σ H s)(e:Rd H a (eY X.w a xs)):DicAt X.w a xs s.heap:=(show ObjOk X.prog X.w H s.heap a (eY X.w a xs)from e.ok I.hok).1
theorem DicAt.dict {kvs:Kr (T×W)}{a:KF}{xs:Kr (T×KF×Ku)}(d:DicAt X.w a xs s.heap)(I:Inv X pins σ H s)(r:KRel X.K A H kvs xs):s.heap.DictOfH (bL X.prog X.w) a xs:=
 let ⟨_,_,hn,o,es,ep,h1,h2,h3,h4⟩:=d; #[o,es,ep,h1,h2,h3,h4,r.is I,hn]
theorem gL {i:KC}{kvs:Kr (T×W)}{a:KF}(so:StoreOk X.w X.K A H S)(e:kS S i=ba kvs)(ea:A[i]?=ba a):∃xs,Rd H a (eY X.w a xs)/\KRel X.K A H kvs xs:=by
 unfold kS at e;split at e
 ·rename_i k h;cases e;obtain⟨xs,q,r⟩:=so.obj i _ a h ea;exact#[xs,.inl q,r]
 ·rename_i k h;cases e;obtain⟨o,xs,q,r⟩:=so.obj i _ a h ea;exact#[xs,.inr #[o,q],r]
 ·cases e
theorem jm {i:KC}{kvs:Kr (T×W)}(e:p8 S i=ba kvs):S[i]?=ba (.dic kvs):=by
 unfold p8 at e;split at e
 ·rename_i h; cases e; exact h
 ·cases e
theorem vm {i:KC}{kvs:Kr (T×W)}{a:KF}(so:StoreOk X.w X.K A H S)(e:p8 S i=ba kvs)(ea:A[i]?=ba a):∃xs,H a=ba (eY X.w a xs)/\KRel X.K A H kvs xs:=
 so.obj i _ a (jm e) ea
theorem rO {B:Lr}(hu:B.units+10 < cLine):(bL X.prog X.w).room B.in1:=by
 show B.in1.units+aC < cLine;rw[aY]; unfold aC; omega
noncomputable def tN (x y:W)(S:aa):Kz (W×aa):=match x,y with
 | .ref r,.tup ks=>match kS S r,ik (.tup ks)with
  | some kvs,ba k=>(cw kvs k).map λw=>(w,S)
  | _,_=>gV
 | x,y=>yh x y S
theorem Js (hu:X.A.units+10 < cLine):LIx X tN:=by
 intro value slice pins s σ H A S x y a b u v w S' I so rx ru ry rv e hs
 by_cases hxy:∃r ks,x=.ref r/\y=.tup ks
 ·obtain⟨r,ks,rfl,rfl⟩:=hxy;simp only[tN]at e;split at e
  ·rename_i kvs k hk1 hk2;rw[Kv]at e;obtain⟨w',e1,e2⟩:=e;cases e2;cases rx with
   | ref ea=>
    obtain⟨xs,rd,kr⟩:=gL so hk1 ea;have d:=dg I rd;have dd:=d.dict I kr;obtain⟨bk,rfl,rfl,rk⟩:=jl hk2 ry rv;obtain⟨p,vv,h1,h2,h3⟩:=(kr.val k).1 _ e1;obtain rfl:u=Lq _:=ru;refine On (x:=p.2) dd.typeIs slot_dict_getitem.lookup
     (wpAny_getItem_heap (Q:=λr s'=>r=p.2/\eC X pins σ A H S w r s') (rO hu) (jR I rk (eR hk2).2.2) dd h1 #[rfl,vv,H,A,I.tok _,h3,.refl,so,h2]) hs
  ·cases e
 ·have:tN x y S=yh x y S:=by
   cases x <;> cases y <;> first|rfl|exact absurd #[_,_,rfl,rfl] hxy
  rw[this]at e;exact Ki hu value slice pins s σ H A S x y a b u v w S' I so rx ru ry rv e hs
noncomputable def jn (o i v:W)(S:aa):Kz aa:=match o,i with
 | .ref r,.tup ks=>match p8 S r,ik (.tup ks)with
  | some kvs,ba k=>if kvs.length < sizeLine then ba (S.set r (.dic (fE kvs k v)))else gV
  | _,_=>gV
 | o,i=>wM o i v S
theorem He (hu:X.A.units+10 < cLine):LSet X jn:=by
 intro pins s σ H A S o i x ao ai ax uo ui ux S' I so ro ruo ri rui rx rux e
 by_cases hxy:∃r ks,o=.ref r/\i=.tup ks
 ·obtain⟨r,ks,rfl,rfl⟩:=hxy;simp only[jn]at e;split at e
  ·rename_i kvs k hk1 hk2;split at e
   ·rename_i hl;cases e;cases ro with
    | ref ea=>
     obtain⟨xs,hH,kr⟩:=vm so hk1 ea;have d:=dg I (.inl hH);have dd:=d.dict I kr;obtain⟨bk,rfl,rfl,rk⟩:=jl hk2 ri rui;obtain⟨q1,q2,q3⟩:=eR hk2;obtain rfl:uo=Lq _:=ruo;have hz:xs.length<=sizeLine:=by rw[<- kr.length]; exact MF ‹_›
     refine wpAny_setItem_heap (hsz:=hz) (rO hu) (jR I rk q3) dd λh' dd' hs=>?_
     have kr':=kr.put q2 q3 rk rx rux;have hz':(storedH xs k bk ux).length<=sizeLine:=by
      rw[<- kr'.length];have:=dv kvs k x;omega
     have dn:DicAt X.w _ (storedH xs k bk ux) h':=.of hz' d.2.1 dd';obtain⟨so',ex⟩:=so.writeO (jm hk1) rfl ea (u:=eY X.w _ (storedH xs k bk ux)) (n:=.dic (fE kvs k x)) #[_,bv,kr'.mono (dU (.ext hH))];exact#[_,A,pS I (by rw[hH]; exact OF) hs (let ⟨q,_,_,hq,_⟩:=dd'; #[q,hq]) dn.ok,ex,so']
   ·cases e
  ·cases e
 ·have:jn o i x S=wM o i x S:=by
   cases o <;> cases i <;> first|rfl|exact absurd #[_,_,rfl,rfl] hxy
  rw[this]at e;exact lset hu pins s σ H A S o i x ao ai ax uo ui ux S' I so ro ruo ri rui rx rux e
noncomputable def vn (x:W)(xs:Kr W)(S:aa):Kz (W×aa):=match x,xs with
 | .ref r,[y,z]=>match kS S r,ik y with
  | some kvs,ba k=>ba ((cw kvs k).getD z,S)
  | _,_=>gV
 | _,_=>gV
theorem uj (hu:X.A.units+10 < cLine):LMeth X "dict.get" vn:=by
 intro pins s σ H A S x a u xs vs us w S' I so rx ru rl rv e;cases rx with
 | ref ea=>
  cases rl with
  | nil=>cases e
  | cons r1 t1=>
   cases t1 with
   | nil=>cases e
   | cons r2 t2=>
    cases t2 with
    | cons _ _=>cases e
    | nil=>
     dsimp only[vn]at e;split at e
     ·rename_i kvs k hk1 hk2;cases e;obtain⟨xs,rd,kr⟩:=gL so hk1 ea;have d:=dg I rd;have dd:=d.dict I kr;cases rv with
      | cons v1 rv2=>
       cases rv2 with
       | cons v2 rv3=>
        cases rv3;obtain⟨bk,rfl,rfl,rk⟩:=jl hk2 r1 v1;obtain rfl:u=Lq _:=ru;refine call_meetsIn Qj dd.typeIs PySem.F.entry_dict_get (PySem.F.args_dict_get_3 _ _ _) (meetsH_dict_get_default (bL X.prog X.w) _ bk d.2.1 _) #[rO hu,k,xs,jR I rk (eR hk2).2.2,dd,?_];cases q:cw kvs k with
        | none=>
         rw[(kr.val k).2 q];exact#[_,H,A,I.tok _,v2,.refl,so,r2]
        | some w'=>
         obtain⟨p,vv,h1,h2,h3⟩:=(kr.val k).1 _ q;rw[h1];exact#[vv,H,A,I.tok _,h3,.refl,so,h2]
     ·cases e
 | _=>cases e
noncomputable def IC (x:W)(i:KC)(S:aa):Kz Lf:=match W.t x,ii S i with
 | some k,ba ys=>match W.ts ys with
  | some ks=>if k.depth<=aC/\T.depths ks<=aC then ba (decide (k∈ks))else gV
  | none=>gV
 | _,_=>gV
noncomputable def Fa (x:W)(ys:Kr W):Kz Lf:=match W.t x,W.ts ys with
 | some k,ba ks=>if k.depth<=aC/\T.depths ks<=aC then ba (decide (k∈ks))else gV
 | _,_=>gV
theorem p9 {h:LI}:∀ {ks:Kr T} {vs:Kr Ku},IsTs h ks vs->∀v∈vs,∃k∈ks,IsT h k v
 | _,_,.cons a b,v,hv=>by
  rcases Le.mp hv with rfl|hv
  ·exact#[_,.head _,a]
  ·obtain⟨k,hk,q⟩:=p9 b v hv;exact#[k,.tail _ hk,q]
noncomputable def Bz (h:LI)(k:T)(v:Ku):Lf:=@decide (IsT h k v) (Tf _)
theorem uk {h:LI}{k k':T}{v:Ku}(x:IsT h k' v):Bz h k v=decide (k'=k):=by
 unfold Bz
 by_cases e:k'=k
 ·subst e; simp[x]
 ·have:¬ IsT h k v:=λy=>e (x.inj y)
  simp[e,this]
theorem qa {h:LI}{k:T}:∀ {ks:Kr T} {vs:Kr Ku},IsTs h ks vs->vs.any (Bz h k)=decide (k∈ks)
 | _,_,.nil=>by simp
 | _,_,.cons (k:=k') a b=>by
  rw[M7,uk a,qa b]
  by_cases e:k'=k
  ·simp[e]
  ·have:¬ k=k':=λz=>e z.symm
   simp[e,this]
theorem mf:∀ {ks:Kr T} {k:T},k∈ks->k.depth<=T.depths ks
 | x::ks,k,h=>by
  simp only[T.depths];rcases Le.mp h with rfl|h
  ·omega
  ·have:=mf h; omega
theorem ze {x:W}{i:KC}{a b:V}{u v:Ku}{c:Lf}(hu:X.A.units+10 < cLine)(I:Inv X pins σ H s)(so:StoreOk X.w X.K A H S)(rx:Rel X.K A H x a)(ru:RelV a u)(ry:Rel X.K A H (.ref i) b)(rv:RelV b v)(e:IC x i S=ba c) :
  ∃l its k ks,v=.ref l/\s.heap.IsList l its/\(∀y,y∈its->OC X.A.in1 s y u (Bz s.heap k y))/\its.any (Bz s.heap k)=c/\c=decide (k∈(ks:Kr T)):=by
 unfold IC at e;split at e
 ·rename_i k ys h1 h2;split at e
  ·rename_i ks h3;split at e
   ·rename_i h4;cases e;cases ry with
    | ref ea=>
     obtain⟨vs,g1,g2⟩:=c8 so h2 ea;obtain⟨its,rv',p,_⟩:=I.list g1;obtain rfl:v=Lq _:=rv;have hT:IsTs s.heap ks its:=fI I ks ((W.ts_w h3).symm ▸ g2) rv';have hk:IsT s.heap k u:=md I k ((W.t_w h1).symm ▸ rx) ru;refine#[_,its.toArray,k,ks,rfl,p.isList,λy hy=>?_,by rw[RQ]; exact qa hT,rfl]
     obtain⟨k',hk',q⟩:=p9 hT y (by simpa using hy)
     rw[uk q];have:=mf hk';have kl:aC=6:=rfl;exact w9 aC k' k _ _ _ _ ∅ q hk (by rw[aY]; omega) (by rw[aY]; omega)
   ·cases e
  ·cases e
 ·cases e
theorem Cn {x:W}{ys:Kr W}{a b:V}{u v:Ku}{c:Lf}(hu:X.A.units+10 < cLine)(I:Inv X pins σ H s)(rx:Rel X.K A H x a)(ru:RelV a u)(ry:Rel X.K A H (.tup ys) b)(rv:RelV b v)(e:Fa x ys=ba c) :
  ∃l its k,v=.ref l/\s.heap.IsTuple l its/\(∀y,y∈its->OC X.A.in1 s y u (Bz s.heap k y))/\its.any (Bz s.heap k)=c:=by
 unfold Fa at e;split at e
 ·rename_i k ks h1 h3;split at e
  ·rename_i h4;cases e;cases ry with
   | @tup _ l vs g1 g2=>
    obtain⟨its,rv',p,_⟩:=I.tuple g1;obtain rfl:v=Lq _:=rv;have hT:IsTs s.heap ks its:=fI I ks ((W.ts_w h3).symm ▸ g2) rv';have hk:IsT s.heap k u:=md I k ((W.t_w h1).symm ▸ rx) ru;refine#[_,its.toArray,k,rfl,p,λy hy=>?_,by rw[RQ]; exact qa hT]
    obtain⟨k',hk',q⟩:=p9 hT y (by simpa using hy)
    rw[uk q];have:=mf hk';have kl:aC=6:=rfl;exact w9 aC k' k _ _ _ _ ∅ q hk (by rw[aY]; omega) (by rw[aY]; omega)
  ·cases e
 ·cases e
noncomputable def cM (o:COp)(x y:W)(S:aa):Kz (W×aa):=match o,y with
 | .isin,.ref i=>match kS S i with
  | some kvs=>(ik x).map λk=>(.bl (cw kvs k).isSome,S)
  | none=>match x with
   | .tup xs=>(IC (.tup xs) i S).map λb=>(.bl (b),S)
   | x=>iL .isin x (.ref i) S
 | .notin,.ref i=>match kS S i with
  | some kvs=>(ik x).map λk=>(.bl (!(cw kvs k).isSome),S)
  | none=>match x with
   | .tup xs=>(IC (.tup xs) i S).map λb=>(.bl (!b),S)
   | x=>iL .notin x (.ref i) S
 | .isin,.tup ys=>match x with
  | .tup xs=>(Fa (.tup xs) ys).map λb=>(.bl b,S)
  | x=>iL .isin x (.tup ys) S
 | o,y=>iL o x y S
theorem rP (hu:X.A.units+iK < cLine)(o:COp):LOp X (compareOp o.py) (cM o):=by
 intro pins s σ H A S x y a b u v w S' I so rx ru ry rv e;have get:∀ {i:KC} {kvs:Kr (T×W)} {k:T},y=.ref i->kS S i=ba kvs->ik x=ba k->∃d c xs,v=.ref d/\u=.ref c/\(d==sysModules)=false/\(bL X.prog X.w).is s.heap k c/\s.heap.DictOfH (bL X.prog X.w) d xs/\(cw kvs k).isSome=(atKey xs k).isSome:=by
  intro i kvs k hy hk1 hk2;subst hy;cases ry with
  | ref ea=>
   obtain⟨xs,rd,kr⟩:=gL so hk1 ea;have d:=dg I rd;obtain⟨bk,rfl,rfl,rk⟩:=jl hk2 rx ru;obtain rfl:v=Lq _:=rv;refine#[_,bk,xs,rfl,rfl,d.2.1,jR I rk (eR hk2).2.2,d.dict I kr,?_];cases q:cw kvs k with
   | none=>rw[(kr.val k).2 q]; rfl
   | some w'=>obtain⟨p,_,h1,_⟩:=(kr.val k).1 _ q; rw[h1]; rfl
 have old:iL o x y S=ba (w,S')->wpAny (model X.prog X.w) X.A (compareOp o.py u v) (eC X pins σ A H S' w) X.xe s:=λh=>Cj hu o pins s σ H A S x y a b u v w S' I so rx ru ry rv h
 have hu':X.A.units+10 < cLine:=by have:iK=20:=rfl; omega
 unfold cM at e;split at e
 ·split at e
  ·rename_i kvs hk1;rw[Kv]at e;obtain⟨k,hk2,e2⟩:=e;cases e2;obtain⟨d,c,xs,rfl,rfl,q1,q2,q3,q4⟩:=get rfl hk1 hk2;rw[q4];exact wpAny_in_heap (rO hu') q2 q1 q3 #[.bl _,H,A,I.tok _,rfl,.refl,so,.bl]
  ·split at e
   ·rw[Kv]at e;obtain⟨c,hc,e⟩:=e;cases e;obtain⟨l,its,k,ks,rfl,p1,p2,p3,_⟩:=ze hu' I so rx ru ry rv hc;refine R6 (Bz s.heap k) p1 p2 ?_;rw[p3];exact#[.bl _,H,A,I,rfl,.refl,so,.bl]
   ·exact old e
 ·split at e
  ·rename_i kvs hk1;rw[Kv]at e;obtain⟨k,hk2,e2⟩:=e;cases e2;obtain⟨d,c,xs,rfl,rfl,q1,q2,q3,q4⟩:=get rfl hk1 hk2;rw[q4];exact wpAny_notIn_heap (rO hu') q2 q1 q3 #[.bl _,H,A,I.tok _,rfl,.refl,so,.bl]
  ·split at e
   ·rw[Kv]at e;obtain⟨c,hc,e⟩:=e;cases e;obtain⟨l,its,k,ks,rfl,p1,p2,p3,_⟩:=ze hu' I so rx ru ry rv hc;refine QZ (Bz s.heap k) p1 p2 ?_;rw[p3];exact#[.bl _,H,A,I,rfl,.refl,so,.bl]
   ·exact old e
 ·split at e
  ·rw[Kv]at e;obtain⟨c,hc,e⟩:=e;cases e;obtain⟨l,its,k,rfl,p1,p2,p3⟩:=Cn hu' I rx ru ry rv hc;refine RM (Bz s.heap k) p1 p2 ?_;rw[p3];exact#[.bl _,H,A,I,rfl,.refl,so,.bl]
  ·exact old e
 ·exact old e
end
noncomputable def RawD (d:KF)(es:Lg M2)(ep:KC)(h:LI):Prop:=∃o,h.get? d=ba o/\o.ExactDict/\o.data=.dict es ep
theorem RawD.at {d:KF}{es:Lg M2}{ep:KC}{h h':LI}(x:RawD d es ep h)(e:∀o,h.get? d=ba o->h'.get? d=ba o):RawD d es ep h':=let ⟨o,ho,r⟩:=x; #[o,e _ ho,r]
theorem RawD.lt {d:KF}{es:Lg M2}{ep:KC}{h:LI}(x:RawD d es ep h):d < h.objs.size:=let ⟨_,ho,_⟩:=x; K1 ho
theorem RawD.type {d:KF}{es:Lg M2}{ep:KC}{s:Kx}(x:RawD d es ep s.heap):s.TypeIs (.ref d) "dict":=let ⟨o,ho,hc,_⟩:=x; #[o,ho,hc.1]
section
variable{prog:Lk}{w:Lz}{A:Lr}{E:Ku->Kx->Prop}{s:Kx}{it d:KF}{i ep:KC}{es:Lg M2}
theorem rQ {Q:Ku->Kx->Prop}(hd:(d==sysModules)=false)(hm:RawD d es ep s.heap)
  (hQ:Q (.ref s.heap.objs.size) { s with heap:=s.heap.push { cls:=.type "dict_keyiterator",data:=.fields [.ref d,.int 0 0,.int es.size 0,.int ep 0].toArray } }):wpAny (model prog w) A (pyIter (.ref d)) Q E s:=by
 have hT:=hm.type;obtain⟨o,ho,hc,hdat⟩:=id hm;refine Po hT F.slot_dict_iter (LU F.slot_dict_iter hT F.entry_dict_iter ?_ (F.args_dict_iter_1 _));unfold NK.«dict.__iter__» SI;refine Ks (Ks (wpAny_notOrdered_dict hT ?_));show wpAny _ _ (pure (Lq d)) _ _ s;refine Ky ?_;show wpAny _ _ (Qk d >>= _) _ _ s;unfold Qk;rw[Li (by rw[hd]; exact K8)]
 refine Ks (Ky (Ks (Ow ho hdat (Ks (Qb ho hdat ?_)))));refine Ks (LA (Ky #[_,rfl,"dict_keyiterator",_,#[_,KT _ rfl,rfl],F.slot_dict_keyiterator_next.lookup,?_]))
 simpa [rawInt]using hQ
theorem rR {Q:Kz Ku->Kx->Prop}(hit:s.heap.IsKeyIter it d i es.size ep)(hm:RawD d es ep s.heap)(hi:i < es.size)
  (hQ:∀h',h'.IsKeyIter it d (i+1) es.size ep->Mw it s.heap h'->Q (ba es[i].key) { s with heap:=h' }):wpAny (model prog w) A (pyNext (.ref it)) Q E s:=by
 obtain⟨o,ho,hc,hd⟩:=id hit;obtain⟨od,hod,hcd,hdd⟩:=id hm;unfold pyNext;refine Ks (OH (LS (name:=MT "__next__") hit.typeIs F.slot_dict_keyiterator_next
  (LU F.slot_dict_keyiterator_next hit.typeIs F.entry_dict_keyiterator_next ?_ (F.args_dict_keyiterator_next_1 _))))
 refine Ks (Ky (Ks (Ks ?_)))
 first|refine Ks (MZ hit.typeIs (Ky ?_))|refine Ks (Nr hit.typeIs (Ky ?_))
 refine Ks (O7 ho hd ?_);have hown:OP "dict_keyiterator" = false:=by decide
 simp only[hown,Ld,L4];show wpAny _ _ (if (Lq d==LG)=true then _ else _) _ _ s
 rw[Li (show ¬ ((Lq d==LG)=true)from K8)]
 refine Ks (Ky (Ks (Ow hod hdd ?_)));rw[Li (by simp)]
 refine Ks (Ky (Ks (Qb hod hdd ?_)));rw[Li (by simp)]
 refine Ky ?_;simp only[show ¬ ((i:KO) < 0)from by omega,L4,KN,MP hi]
 refine Ks ?_
 first|refine Ks (MZ hit.typeIs (Ky ?_))|refine Ks (Nr hit.typeIs (Ky ?_))
 refine Ks (Ql hit.typeIs ?_);show wpAny _ _ (setField (.ref it) 1 (rawInt ((i:KO)+1)) >>= _) _ _ s;refine Ks (Pb ho hd (by simp) ?_)
 have hit':(s.heap.update it (SX (·.setIfInBounds 1 (rawInt ((i:KO)+1))))).IsKeyIter it d (i+1) es.size ep:=
  #[_,Mj _ ho (Qm (Oe hd _)),(Rw ..).trans hc,by rw[Oe hd]; simp[rawInt]]
 refine Ks (LQ ?_);refine Ks (Ql (s:={ s with heap:=s.heap.update it (SX (·.setIfInBounds 1 (rawInt ((i:KO)+1)))) }) hit'.typeIs ?_)
 show wpAny _ _ (pure es[i].key) _ _ _;exact Ky (Ky #[_,rfl,Ky (hQ _ hit' (Nu ..))])
theorem vo {Q:Kz Ku->Kx->Prop}(hh:A.handled=gV)(hit:s.heap.IsKeyIter it d i es.size ep)(hm:RawD d es ep s.heap)(hge:es.size<=i)
  (hQ:∀h',Qu it s.heap h'->Q gV { s with heap:=h' }):wpAny (model prog w) A (pyNext (.ref it)) Q E s:=by
 obtain⟨o,ho,hc,hd⟩:=id hit;obtain⟨od,hod,hcd,hdd⟩:=id hm;unfold pyNext;refine Ks (OH (LS (name:=MT "__next__") hit.typeIs F.slot_dict_keyiterator_next
  (LU F.slot_dict_keyiterator_next hit.typeIs F.entry_dict_keyiterator_next ?_ (F.args_dict_keyiterator_next_1 _))))
 refine Ks (Ky (Ks (Ks ?_)))
 first|refine Ks (MZ hit.typeIs (Ky ?_))|refine Ks (Nr hit.typeIs (Ky ?_))
 refine Ks (O7 ho hd ?_);have hown:OP "dict_keyiterator" = false:=by decide
 simp only[hown,Ld,L4];show wpAny _ _ (if (Lq d==LG)=true then _ else _) _ _ s
 rw[Li (show ¬ ((Lq d==LG)=true)from K8)]
 refine Ks (Ky (Ks (Ow hod hdd ?_)));rw[Li (by simp)]
 refine Ks (Ky (Ks (Qb hod hdd ?_)));rw[Li (by simp)]
 refine Ky ?_;simp only[show ¬ ((i:KO) < 0)from by omega,L4,KN,Array.getElem?_eq_none hge]
 refine Ks ?_
 first|refine Ks (MZ hit.typeIs (Ky ?_))|refine Ks (Nr hit.typeIs (Ky ?_))
 show wpAny _ _ (setField (.ref it) 0 .none >>= _) _ _ s;refine Ks (Pb ho hd (by simp) ?_)
 show wpAny _ _ (newExc (.type "StopIteration") [] >>= _) _ _ _;refine Ks ?_;simp only[newExc,newTuple];refine Ks (LA ?_ (by size_fits))
 refine Ks (m:=firstArgMember _ _) (Og (a:=LG) (by first|rfl|(simp only[firstArgMember]; rfl)) ?_)
 refine LA ?_ (by size_fits)
 simp only[raiseNew];refine Ks (QR ?_);rw[show A.in1.handled=gV from hh]
 refine Ks (Ky (RZ ?_));refine Ks (NW (T:="StopIteration") (b:=true) #[_,KT _ rfl,rfl] Qq ?_);exact Ky (hQ _ (((Nu ..).extBut.push _).push _))
theorem xh (hh:A.handled=gV)(I d:KF)(hne:d≠I)(es:Lg M2)(ep:KC) :
  R0 prog w A I [I,d] [I] es.size (λi v=>∃e,es[i]?=ba e/\e.key=v) (λi h=>h.IsKeyIter I d i es.size ep/\RawD d es ep h) where
 sub:=λb hb=>by simp at hb; simp[hb]
 frame:=λ_ _ _ st hk=>#[st.1.at λo e=>hk I (by simp) o e,st.2.at λo e=>hk d (by simp) o e]
 item:=λi s Q E hi st hQ=>
  rR st.1 st.2 hi λh' hit' hs'=>hQ _ h' s.toks #[es[i],by simp[hi],rfl] #[hit',st.2.at λo e=>(hs'.2 d hne).trans e] λb o hb e=>hs'.extBut b o (λh=>hb (by simp[h])) e
 done:=λs Q E st hQ=>vo hh st.1 st.2 (KH _) λh' he'=>hQ h' s.toks λb o hb e=>he' b o (λh=>hb (by simp[h])) e
 self:=λ_ _ _ _ st hQ=>Qv st.1 hQ
theorem vp (lo:(d==sysModules)=false):Qw prog w "dict" d d es.size (λi v=>∃e,es[i]?=ba e/\e.key=v) (RawD d es ep) where
 type:=λ_ hm=>hm.type
 there:=λ_ hm=>#[hm.lt,hm.lt]
 keep:=λ_ _ hm hk=>hm.at λo e=>hk d (.inl rfl) o e
 notList:=by decide
 notTuple:=by decide
 hint:=λ_ _ _ _ hm hq=>PySem.W.kdl_hint_dict hm.type hq
 iter:=λ_ _ hh hm=>#[_,_,(λ_ _ hq=>rQ lo hm hq),xh hh _ d (K7 hm.lt) es ep,#[#[_,KT _ rfl,rfl,rfl],hm.at λo e=>Kw _ e]]
theorem zf {T:L8}{r d S:KF}{n:KC}{P:KC->Ku->Prop}{OK:LI->Prop}{R:RJ->Kx->Prop}(K:Qw prog w T r d n P OK)(hh:A.handled=gV)(hok:OK s.heap)(hn:n<=sizeLine)(hSr:S≠r)(hSd:S≠d)
  (hS:s.heap.get? S=ba { cls:=.type "list",data:=.seq #[] 0 })
  (hR:∀h' tk acc' c',(∀b o,b≠S->s.heap.get? b=ba o->h'.get? b=ba o)->h'.get? S=ba { cls:=.type "list",dict:=gV,data:=.seq acc' c',slots:=#[] }->P1 P acc' n->R (.ok (.ret (.ref S))) { s with heap:=h',toks:=tk }) :
  codeAny (model prog w) A (.builtin "list.__iadd__" #[[.ref S,.ref r],[]]) R s:=by
 refine LW F.entry_list_iadd ?_;rw[LN F.plain_list_iadd _];show wpAny _ A.in1 (Mk (.ref S) (.ref r) (.ref S)) _ _ _;exact PySem.W.kdl_extend K hh hok S hSr hSd _ 0 hS hR hn
theorem rS {T:L8}{r d:KF}{n:KC}{P:KC->Ku->Prop}{OK:LI->Prop}{Q:Kr Ku->Kx->Prop}(K:Qw prog w T r d n P OK)(hh:A.handled=gV)(hok:OK s.heap)(hn:n<=sizeLine)
  (hQ:∀h' tk acc,(∀b o,s.heap.get? b=ba o->h'.get? b=ba o)->s.heap.objs.size<=h'.objs.size->P1 P acc n->Q acc.toList { s with heap:=h',toks:=tk }):wpAny (model prog w) A (collect (.ref r)) Q E s:=by
 unfold collect;refine Ks (Os (LW F.entry_proto_collect ?_));rw[LN F.plain_proto_collect _];show wpAny _ A.in1 (newList [] >>= λl=>again (.builtin "list.__iadd__" #[[l,.ref r],[]])) _ _ s
 refine Ks (LA ?_);have hlt:=K.there _ hok;refine Ky #[ME F.plain_list_iadd _,zf (s:={ s with heap:=s.heap.push { cls:=.type "list",data:=.seq ([]:Kr Ku).toArray } }) K hh (K.keep _ _ hok λb _ o e=>Kw _ e) hn (Lx hlt.1) (Lx hlt.2) (KT _ rfl) λh' tk acc' c' hk hS' hacc=>?_]
 show wpAny (model prog w) A (do
   let o <- load s.heap.objs.size
   match o.data with
   | .seq xs _=>pure xs.toList
   | _=>unsupported "internal:collect") Q E { s with heap:=h',toks:=tk }
 refine Ks (PV hS' ?_);exact Ky (hQ h' tk acc' (λb o e=>hk b o (K7 (K1 e)) (Kw _ e)) (MF (K1 hS')) hacc)
end
mutual
noncomputable def nI:T->T->Kz Lf
 | .int a,.int b=>ba (decide (a < b))
 | .str a,.str b=>ba (decide (a.cps.toList < b.cps.toList))
 | .tup xs,.tup ys=>gF xs ys
 | _,_=>gV
noncomputable def gF:Kr T->Kr T->Kz Lf
 | [],[]=>ba false
 | [],_::_=>ba true
 | _::_,[]=>ba false
 | x::xs,y::ys=>if x=y then gF xs ys else nI x y
end
mutual
theorem IsT.kept {h h':LI}(hk:∀b o,o.cls=.type "tuple"->h.get? b=ba o->h'.get? b=ba o):∀ {x:T} {v:Ku},IsT h x v->IsT h' x v
 | _,_,.int=>.int
 | _,_,.str=>.str
 | _,_,.tup a1 c1 d1 t1=>.tup (hk _ _ c1 a1) c1 d1 (IsTs.kept hk t1)
theorem IsTs.kept {h h':LI}(hk:∀b o,o.cls=.type "tuple"->h.get? b=ba o->h'.get? b=ba o):∀ {x:Kr T} {v:Kr Ku},IsTs h x v->IsTs h' x v
 | _,_,.nil=>.nil
 | _,_,.cons a b=>.cons (IsT.kept hk a) (IsTs.kept hk b)
end
theorem Hf {B:Lr}{s:Kx}{d:KC}(hu:B.units+d < cLine)(hl:∀(x y:T) (u v:Ku) (k:Lf),x.depth<=d->y.depth<=d->IsT s.heap x u->IsT s.heap y v->nI x y=ba k->LtAt B s u v k) :
  ∀(xs ys:Kr T) (us vs:Kr Ku) (k:Lf),T.depths xs<=d->T.depths ys<=d->IsTs s.heap xs us->IsTs s.heap ys vs->gF xs ys=ba k->LexR B s us vs k
 | [],[],_,_,k,_,_,h1,h2,e=>by cases h1; cases h2; cases e; exact .nn
 | [],y::ys,_,_,k,_,_,h1,h2,e=>by cases h1; cases h2; cases e; exact .nc
 | x::xs,[],_,_,k,_,_,h1,h2,e=>by cases h1; cases h2; cases e; exact .cn
 | x::xs,y::ys,_,_,k,d1,d2,h1,h2,e=>by
  simp only[T.depths]at d1 d2;cases h1 with
  | cons p1 q1=>
   cases h2 with
   | cons p2 q2=>
    have he:=w9 d x y _ _ B s ∅ p1 p2 hu ∅
    simp only[gF]at e
    by_cases hxy:x=y
    ·rw[La hxy]at e;rw[MW hxy]at he;exact .eq he (Hf hu hl xs ys _ _ k ∅ ∅ q1 q2 e)
    ·rw[Li hxy]at e;rw[Lm hxy]at he;exact .ne he (hl x y _ _ k ∅ ∅ p1 p2 e)
theorem Hg:∀(d:KC) (x y:T) (u v:Ku) (B:Lr) (s:Kx) (k:Lf),x.depth<=d->y.depth<=d->IsT s.heap x u->IsT s.heap y v->B.units+d < cLine->nI x y=ba k->LtAt B s u v k:=by
 intro d
 induction d with
 | zero=>
  intro x y u v B s k d1 d2 h1 h2 hu e;cases h1 with
  | int=>cases h2 with
   | int=>cases e; exact λprog w E Q h=>(QK h:wpAny (model prog w) B (compareOp .Lt _ _) Q E s)
   | _=>cases e
  | str=>cases h2 with
   | str=>cases e; exact λprog w E Q h=>(lt_str h:wpAny (model prog w) B (compareOp .Lt _ _) Q E s)
   | _=>cases e
  | tup _ _ _ _=>simp[T.depth]at d1
 | succ d ih=>
  intro x y u v B s k d1 d2 h1 h2 hu e;cases h1 with
  | int=>cases h2 with
   | int=>cases e; exact λprog w E Q h=>(QK h:wpAny (model prog w) B (compareOp .Lt _ _) Q E s)
   | _=>cases e
  | str=>cases h2 with
   | str=>cases e; exact λprog w E Q h=>(lt_str h:wpAny (model prog w) B (compareOp .Lt _ _) Q E s)
   | _=>cases e
  | tup a1 c1 e1 t1=>cases h2 with
   | tup a2 c2 e2 t2=>
    simp only[T.depth]at d1 d2;have hu1:B.in1.units+d < cLine:=by rw[aY]; omega
    exact LtAt.tuples #[_,a1,c1,_,e1] #[_,a2,c2,_,e2] ∅ (Hf hu1 (λx y u v k q1 q2 q3 q4 q5=>ih x y u v B.in1 s k q1 q2 q3 q4 hu1 q5) _ _ _ _ k ∅ ∅ t1 t2 e)
   | _=>cases e
section
variable{prog:Lk}{w:Lz}{A:Lr}{R:RJ->Kx->Prop}{I S:KF}{fp wr:Kr KF}{n:KC}{P:KC->Ku->Prop}{St:KC->LI->Prop}{Ok:LI->Prop}{bt:KC->KC->Lf}
noncomputable def zh (prog:Lk)(w:Lz)(A:Lr)(P:KC->Ku->Prop)(Ok:LI->Prop)(bt:KC->KC->Lf):Prop:=
 ∀i j vi vj (s:Kx) (Q:Ku->Kx->Prop) (E:Ku->Kx->Prop),Ok s.heap->P i vi->P j vj->Q (.bool (bt i j)) s->wpAny (model prog w) A (richCompare .Lt vi vj) Q E s
theorem zj (W:R0 prog w A.in1 I fp wr n P St)(hcmp:zh prog w A.in1 P Ok bt)(hSf:S∉fp)(hok:∀h h',Ok h->(∀b o,b∉wr->b≠S->h.get? b=ba o->h'.get? b=ba o)->Ok h') :
  ∀(k j:KC) (s:Kx) (vb:Ku) (c:KC),n - (j+1)=k->j < n->St (j+1) s.heap->P (argBest bt j) vb->Ok s.heap->s.heap.get? S=ba { cls:=.type "list",dict:=gV,data:=.seq [vb,vb].toArray c,slots:=#[] }->
  (∀v h' tk,P (argBest bt (n - 1)) v->(∀b o,b∉wr->b≠S->s.heap.get? b=ba o->h'.get? b=ba o)->R (.ok (.ret v)) { s with heap:=h',toks:=tk })->
  codeAny (model prog w) A (.builtin "min.loop" #[[.ref I,.none,.ref S],[]]) R s:=by
 have hSw:S∉wr:=λh=>hSf (W.sub _ h)
 have hname:(toString "min" ++ toString ".loop" : L8) = "min.loop":=by decide
 intro k
 induction k with
 | zero=>
  intro j s vb c hk hj hst hPb hO hS hR;have hin:j+1=n:=∅
  refine LW F.entry_min_loop ?_;rw[LN F.plain_min_loop _];show wpAny _ A.in1 (seqItems? (.ref S) >>= _) _ _ s;refine Ks (MX hS rfl ?_);show wpAny _ A.in1 (tryCatch (pyNext (.ref I)) _ >>= _) _ _ s;refine Ks (Pc (W.done s _ _ (hin ▸ hst) λh' tk hk'=>?_))
  have hS':=hk' S _ hSw hS;show wpAny _ A.in1 (updateSeq S (λ_=>#[]) >>= _) _ _ _
  refine Ks (Oa hS' rfl (Ks (OL (Ky ?_))));have e:j=n - 1:=∅
  exact hR vb _ tk (e ▸ hPb) λb o hbw hbS e=>(LB _ _ (Ne.symm hbS)).trans (hk' b o hbw e)
 | succ k ih=>
  intro j s vb c hk hj hst hPb hO hS hR;have hlt:j+1 < n:=∅
  refine LW F.entry_min_loop ?_;rw[LN F.plain_min_loop _];show wpAny _ A.in1 (seqItems? (.ref S) >>= _) _ _ s;refine Ks (MX hS rfl ?_);show wpAny _ A.in1 (tryCatch (pyNext (.ref I)) _ >>= _) _ _ s;refine Ks (Pc (W.item (j+1) s _ _ hlt hst λv h' tk hP hst' hk'=>?_))
  have hS':=hk' S _ hSw hS;have hO':Ok h':=hok _ _ hO λb o hb _ e=>hk' b o hb e
  show wpAny _ A.in1 (tryCatch (holding [v,v] (richCompare .Lt v vb >>= _)) _ >>= _) _ _ _;refine Ks (Pc (LQ (Ks (hcmp (j+1) (argBest bt j) v vb _ _ _ hO' hP hPb ?_))));refine Ks (LQ (M1 ?_));refine Ks (OL (Ky ?_));cases hb:bt (j+1) (argBest bt j)with
  | true=>
   simp only[Mt];refine Ks (Oa hS' rfl (Ks (OL ?_)));rw[hname];refine Ky #[ME F.plain_min_loop _,ih (j+1) _ v _ ∅ hlt (W.frame _ _ _ hst' λb hbf o e=>?_) (by simp only[argBest,hb,Mt]; exact hP) (hok _ _ hO' λb o _ hbS e=>(LB _ _ (Ne.symm hbS)).trans e) (Mj _ hS' rfl)
    λv' h'' tk'' hP' hk''=>?_]
   ·exact(LB _ _ (λh:S=b=>hSf (by rw[h]; exact hbf))).trans e
   ·exact hR v' h'' tk'' hP' λb o hbw hbS e=>hk'' b o hbw hbS ((LB _ _ (Ne.symm hbS)).trans (hk' b o hbw e))
  | false=>
   simp only[Ld,L4];refine Ks (OL ?_);rw[hname];refine Ky #[ME F.plain_min_loop _,ih (j+1) _ vb c ∅ hlt hst' (by simp only[argBest,hb,Ld,L4]; exact hPb) hO' hS' λv' h'' tk'' hP' hk''=>?_]
   exact hR v' h'' tk'' hP' λb o hbw hbS e=>hk'' b o hbw hbS (hk' b o hbw e)
theorem xi (W:R0 prog w A.in1 I fp wr n P St)(hcmp:zh prog w A.in1 P Ok bt)(hSf:S∉fp)(hok:∀h h',Ok h->(∀b o,b∉wr->b≠S->h.get? b=ba o->h'.get? b=ba o)->Ok h')(hn:0 < n){s:Kx}{c:KC}(hst:St 0 s.heap)(hO:Ok s.heap)
  (hS:s.heap.get? S=ba { cls:=.type "list",dict:=gV,data:=.seq #[] c,slots:=#[] })
  (hR:∀v h' tk,P (argBest bt (n - 1)) v->(∀b o,b∉wr->b≠S->s.heap.get? b=ba o->h'.get? b=ba o)->R (.ok (.ret v)) { s with heap:=h',toks:=tk }) :
  codeAny (model prog w) A (.builtin "min.loop" #[[.ref I,.none,.ref S],[]]) R s:=by
 have hSw:S∉wr:=λh=>hSf (W.sub _ h)
 have hname:(toString "min" ++ toString ".loop" : L8) = "min.loop":=by decide
 refine LW F.entry_min_loop ?_;rw[LN F.plain_min_loop _];show wpAny _ A.in1 (seqItems? (.ref S) >>= _) _ _ s;refine Ks (MX hS rfl ?_);show wpAny _ A.in1 (tryCatch (pyNext (.ref I)) _ >>= _) _ _ s;refine Ks (Pc (W.item 0 s _ _ hn hst λv h' tk hP hst' hk'=>?_))
 have hS':=hk' S _ hSw hS;show wpAny _ A.in1 (updateSeq S (λ_=>[v,v].toArray) >>= _) _ _ _
 refine Ks (Oa hS' rfl ?_);rw[hname];have hO':Ok h':=hok _ _ hO λb o hb _ e=>hk' b o hb e
 refine Ky #[ME F.plain_min_loop _,zj W hcmp hSf hok _ 0 _ v _ rfl hn (W.frame _ _ _ hst' λb hbf o e=>?_) hP (hok _ _ hO' λb o _ hbS e=>(LB _ _ (Ne.symm hbS)).trans e) (Mj _ hS' rfl) λv' h'' tk'' hP' hk''=>?_]
 ·exact(LB _ _ (λh:S=b=>hSf (by rw[h]; exact hbf))).trans e
 ·exact hR v' h'' tk'' hP' λb o hbw hbS e=>hk'' b o hbw hbS ((LB _ _ (Ne.symm hbS)).trans (hk' b o hbw e))
end
section
variable{prog:Lk}{w:Lz}{A:Lr}{E:Ku->Kx->Prop}{s:Kx}
theorem zm {l:KF}{items:Lg Ku}{bt:KC->KC->Lf}{Q:Ku->Kx->Prop}(hh:A.handled=gV)(hl:s.heap.IsList l items)(hn:0 < items.size)
  (hcmp:zh prog w A.in1 (λi v=>items[i]?=ba v) (λh=>∀b o,s.heap.get? b=ba o->h.get? b=ba o) bt)
  (hQ:∀v h' tk,items[argBest bt (items.size - 1)]?=ba v->(∀b o,s.heap.get? b=ba o->h'.get? b=ba o)->Q v { s with heap:=h',toks:=tk }) :
  wpAny (model prog w) A (call (.builtin "min") [.ref l]) Q E s:=by
 have hname:(toString "min" ++ toString ".loop" : L8) = "min.loop":=by decide
 refine call_function_tree F.kind_min F.plain_min F.entry_min (F.args_min1 _) ?_;show wpAny _ A.in1 (OY "min" ["key","default"] 0 #[[],[]] >>= _) _ _ s;refine Ks (Og (show OY "min" ["key","default"] 0 #[[],[]]=pure [gV,gV]from rfl) ?_)
 refine Ks (Ky ?_);refine Ks (Ov hl ?_);refine Ks (LA ?_);rw[hname];have hlt:l < s.heap.objs.size:=let ⟨_,ho,_⟩:=hl; K1 ho
 have hne:l≠s.heap.objs.size:=K7 hlt;have W:=SA (prog:=prog) (w:=w) (A:=A.in1) hh s.heap.objs.size l hne items;have hsz:∀o:Mp,(s.heap.push o).objs.size=s.heap.objs.size+1:=λo=>by simp[Heap.push]
 refine Ky #[ME F.plain_min_loop _,xi (A:=A) (Ok:=λh=>∀b o,s.heap.get? b=ba o->h.get? b=ba o) W hcmp (λhm=>?_) (λh h' ho hk b o e=>?_) hn #[?_,?_] (λb o e=>Kw _ (Kw _ e)) (KT _ rfl) λv h' tk hv hk=>?_]
 ·rcases Le.mp hm with e|hm
  ·exact absurd (show(s.heap.push _).objs.size=s.heap.objs.size from e) (by rw[hsz]; exact Nat.succ_ne_self _)
  ·have e:(s.heap.push _).objs.size=l:=KS.mp hm;rw[hsz]at e;exact absurd hlt (by rw[<- e]; exact Q8.mpr (Nl _))
 ·have hb:=K1 e;refine hk b o (λz=>?_) (λz=>?_) (ho b o e)
  ·rw[KS.mp z]at hb; exact Mg _ hb
  ·have z':b=(s.heap.push _).objs.size:=z;rw[hsz]at z';rw[z']at hb;exact absurd hb (Q8.mpr (Nl _))
 ·exact#[_,Kw _ (KT _ rfl),rfl,rfl]
 ·obtain⟨o,ho,hc⟩:=hl;exact#[o,Kw _ (Kw _ ho),hc]
 ·refine hQ v h' tk hv λb o e=>hk b o (λz=>?_) (λz=>?_) (Kw _ (Kw _ e))
  ·have hb:=K1 e;rw[KS.mp z]at hb; exact Mg _ hb
  ·have hb:=K1 e;have z':b=(s.heap.push _).objs.size:=z;rw[hsz]at z';rw[z']at hb;exact absurd hb (Q8.mpr (Nl _))
end
open PySem.W (KasT kas_sort kas_ask kas_cmp kas_item kas_asc kas_desc kas_tail3 kas_descPart kas_count kas_place kas_bin kas_rev)
noncomputable def cD {α:Type}(lt:KC->KC->Lf):KasT α->α
 | .ret a=>a
 | .ask i j k=>cD lt (k (lt i j))
noncomputable def OkK {α:Type}(n:KC)(P:α->Prop):KasT α->Prop
 | .ret a=>P a
 | .ask i j k=>i < n/\j < n/\∀b,OkK n P (k b)
theorem rT {α:Type}{n:KC}{P:α->Prop}{lt:KC->KC->Lf}:∀(t:KasT α),OkK n P t->P (cD lt t)
 | .ret _,h=>h
 | .ask i j k,h=>rT (k (lt i j)) (h.2.2 _)
theorem qb {α:Type}{n:KC}{P:α->Prop}{lt:KC->KC->Lf}{t:KasT α}(h:OkK n P t):P (cD lt t):=rT t h
theorem OkK.bind {α β:Type}{n:KC}{P:α->Prop}{P':β->Prop}{f:α->KasT β}:∀ {t:KasT α},OkK n P t->(∀a,P a->OkK n P' (f a))->OkK n P' (t.bind f)
 | .ret a,h,hf=>hf a h
 | .ask _ _ _,h,hf=>#[h.1,h.2.1,λb=>OkK.bind (h.2.2 b) hf]
theorem oT {α:Type}{n:KC}{P:α->Prop}{lt:KC->KC->Lf}{cmp:KC->KC->(Lf->Kx->Prop)->Kx->Prop}{Q:α->Kx->Prop}{s:Kx}(hc:∀i j,i < n->j < n->∀C:Lf->Kx->Prop,C (lt i j) s->cmp i j C s) :
  ∀ {t:KasT α},OkK n P t->Q (cD lt t) s->t.kasWp cmp Q s
 | .ret _,_,h=>h
 | .ask i j k,h,hq=>hc i j h.1 h.2.1 _ (oT hc (h.2.2 _) hq)
noncomputable def Pm (n:KC)(p:Lg KC):Prop:=p.toList.Perm (K9 n)
theorem Pm.size {n:KC}{p:Lg KC}(h:Pm n p):p.size=n:=by rw[<- KW,h.length_eq,Ls]
theorem Pm.lt {n:KC}{p:Lg KC}(h:Pm n p)(hn:0 < n)(i:KC):p.getD i 0 < n:=by
 by_cases hi:i < p.size
 ·have e:p.getD i 0=p[i]:=by simp[Oc,hi]
  rw[e];have:p[i]∈p.toList:=by simp
  exact Ll.mp (h.mem_iff.mp this)
 ·have e:p.getD i 0=0:=by simp[Oc,hi]
  rw[e]; exact hn
theorem Pm.rev {n:KC}{p:Lg KC}(h:Pm n p)(i j:KC):Pm n (kas_rev p i j):=(Pd.mp (mirror_perm p i j _)).trans h
theorem Pm.bub {n:KC}{p:Lg KC}(h:Pm n p)(i j:KC):Pm n (bubble p i j):=(Pd.mp (bubble_perm p i j)).trans h
section
variable{n:KC}(hn:0 < n)
include hn
theorem um {p:Lg KC}(h:Pm n p):∀(f m:KC),OkK n (λ_=>Rg) (kas_asc p f m)
 | 0,_=>trivial
 | f+1,m=>#[h.lt hn _,h.lt hn _,λb=>by
  show OkK n _ (if b=true then _ else _)
  split
  ·trivial
  ·exact um h f (m+1)]
theorem lF:∀(f:KC) (p:Lg KC) (m q:KC),Pm n p->OkK n (λr=>Pm n r.1) (kas_desc f p m q)
 | 0,p,m,q,h=>h
 | f+1,p,m,q,h=>#[h.lt hn _,h.lt hn _,λb=>by
  show OkK n _ (if b=true then _ else _)
  split
  ·split
   ·exact lF f _ _ _ (h.rev _ _)
   ·exact lF f _ _ _ h
  ·refine#[h.lt hn _,h.lt hn _,λc=>?_]
   show OkK n _ (if c=true then _ else _)
   split
   ·exact h
   ·exact lF f _ _ _ h]
theorem vt {p:Lg KC}(h:Pm n p)(m k:KC):OkK n (λr=>Pm n r.2) (kas_tail3 m k p):=by
 unfold kas_tail3;exact OkK.bind (um hn (h.rev 0 m) _ _) λa _=>h.rev 0 m
theorem kU {p:Lg KC}(h:Pm n p)(m k:KC):OkK n (λr=>Pm n r.2) (kas_descPart m k p):=by
 unfold kas_descPart;refine OkK.bind (lF hn _ _ _ _ h) λr hr=>?_
 split
 ·exact vt hn (hr.rev _ _) _ _
 ·exact vt hn hr _ _
theorem zn {p:Lg KC}(h:Pm n p)(k:KC):OkK n (λr=>Pm n r.2) (kas_count k p):=by
 unfold kas_count;refine OkK.bind (um hn h _ _) λm _=>?_
 split
 ·exact h
 ·split
  ·refine#[h.lt hn _,h.lt hn _,λc=>?_]
   show OkK n _ (if c=true then _ else _)
   split
   ·exact h
   ·exact kU hn (h.rev _ _) _ _
  ·exact kU hn h _ _
theorem mh {p:Lg KC}(h:Pm n p)(k:KC):∀(f l r:KC),OkK n (λ_=>Rg) (kas_place p k f l r)
 | 0,_,_=>trivial
 | f+1,l,r=>by
  unfold kas_place;split
  ·trivial
  ·refine#[h.lt hn _,h.lt hn _,λc=>?_]
   show OkK n _ (if c=true then _ else _)
   split
   ·exact mh h k f _ _
   ·exact mh h k f _ _
theorem zo:∀(f:KC) (p:Lg KC) (k:KC),Pm n p->OkK n (Pm n) (kas_bin f p k)
 | 0,p,k,h=>h
 | f+1,p,k,h=>by
  unfold kas_bin;exact OkK.bind (mh hn h k _ _ _) λl _=>zo f _ _ (h.bub _ _)
theorem lG:OkK n (Pm n) (kas_sort n):=by
 unfold kas_sort;refine OkK.bind (zn hn (by unfold Pm; simp) _) λr hr=>?_
 split
 ·exact zo hn _ _ _ hr
 ·exact hr
end
section
variable{prog:Lk}{w:Lz}{A:Lr}{E:Ku->Kx->Prop}{s:Kx}{vs:Kr Ku}
noncomputable def d4 (lt:KC->KC->Lf){β:Type}(d:β)(vs:Kr β):Kr β:=if vs.length < 2 then vs else(cD lt (kas_sort vs.length)).toList.map λi=>vs.getD i d
theorem rV {lt:KC->KC->Lf}{β:Type}{d:β}{vs:Kr β}:(d4 lt d vs).length=vs.length:=by
 unfold d4;split
 ·rfl
 ·rw[Kt,KW,(qb (lt:=lt) (lG (n:=vs.length) ∅)).size]
theorem oU {a:KF}{n:KC}{lt:KC->KC->Lf}{κ:PK}{P:Uh->Kx->Prop}(ho:s.heap.get? a=ba (seqObj "list" vs.toArray n))(h64:vs.length < 64)
  (hkind:2<=vs.length->∀h',(∀b o,b≠a->s.heap.get? b=ba o->h'.get? b=ba o)->∀Q:PK->Kx->Prop,Q κ { s with heap:=h' }->wpAny (model prog w) A (keyKind' vs.toArray) Q (λ_ _=>L7) { s with heap:=h' })
  (hlt:2<=vs.length->∀h',(∀b o,b≠a->s.heap.get? b=ba o->h'.get? b=ba o)->∀i j,i < vs.length->j < vs.length->∀Q:Lf->Kx->Prop,Q (lt i j) { s with heap:=h' }->
   wpAny (model prog w) A (keyLt' κ (vs.getD i LG) (vs.getD j LG)) Q (λ_ _=>L7) { s with heap:=h' })
  (h:∀h' c,(∀b o,b≠a->s.heap.get? b=ba o->h'.get? b=ba o)->h'.get? a=ba (seqObj "list" (d4 lt LG vs).toArray c)->P (.done (.ret .none)) { s with heap:=h' }) :
  wpAny (model prog w) A (NK.«list.sort» #[[.ref a],[]]) P E s:=by
 have ha:a < s.heap.objs.size:=K1 ho;obtain⟨e1,ho1⟩ : ∃e1,(s.heap.update a (Mb λ_=>(#[]:Lg Ku))).get? a=ba (seqObj "list" #[] e1):=#[_,Qc ho λ_=>#[]]
 have keep:∀b o,b≠a->s.heap.get? b=ba o->(((s.heap.update a (Mb λ_=>(#[]:Lg Ku))).push (seqObj "tuple" vs.toArray 0)).push (seqObj "list" #[] 0)).get? b=ba o:=λb o hb e=>
  Kw _ (Kw _ ((N3 _ _ _ _ hb).trans e))
 have ho3:(((s.heap.update a (Mb λ_=>(#[]:Lg Ku))).push (seqObj "tuple" vs.toArray 0)).push (seqObj "list" #[] 0)).get? a=ba (seqObj "list" #[] e1):=Kw _ (Kw _ ho1)
 have fin:∀(out:Kr Ku),out.length=vs.length->out=d4 lt LG vs->P (.done (.ret .none)) { s with heap:=(((s.heap.update a (Mb λ_=>(#[]:Lg Ku))).push (seqObj "tuple" vs.toArray 0)).push (seqObj "list" #[] 0)).update a (Mb λ_=>out.toArray) }:=λout hl e=>by
  obtain⟨c2,hc2⟩ : ∃c2,((((s.heap.update a (Mb λ_=>(#[]:Lg Ku))).push (seqObj "tuple" vs.toArray 0)).push (seqObj "list" #[] 0)).update a (Mb λ_=>out.toArray)).get? a=ba (seqObj "list" out.toArray c2):=#[_,Qc ho3 λ_=>out.toArray]
  exact h _ c2 (λb o hb q=>(N3 _ _ _ _ hb).trans (keep b o hb q)) (e ▸ hc2)
 rw[list_sort_plain];refine Ks (Rx ho rfl ?_);refine Ks (PB ho rfl ?_ (by rw[KR,LD]; omega) (Mm _))
 refine Ks (R4 ho1 rfl ?_);refine Ks (Qr ?_ (by show vs.length<=_; rw[LD]; omega))
 refine Ks (PC ?_ (Mm _));refine LQ ?_;show wpAny (model prog w) A _ P E { s with heap:=((s.heap.update a (Mb λ_=>(#[]:Lg Ku))).push (seqObj "tuple" vs.toArray 0)).push (seqObj "list" #[] 0) }
 dsimp only
 by_cases h2:vs.length < 2
 ·rw[La (by rw[KR]; exact h2),La (by rw[KR]; exact h2)]
  refine Ks (Ky (Ks ?_));rw[StateT.run_pure];refine Ky ?_;dsimp only;refine Ks (R4 ho3 rfl ?_);have hs:((arrOf (SortSt.mk' general' (vs.toArray.zip vs.toArray) #[] 7 gV)).map (·.2))=vs.toArray:=by
   show(vs.toArray.zip vs.toArray).map (·.2)=vs.toArray
   apply Array.toList_inj.mp;rw[PL,Array.toList_zip];exact List.map_snd_zip (KH _)
  rw[hs];refine Ks (PB ho3 rfl ?_ (Mm _) (by rw[KR,LD]; omega))
  simp only[Ry,Ld,L4];exact Ky (fin vs rfl (by unfold d4; rw[La h2]))
 ·have hn2:¬ vs.toArray.size < 2:=by rw[KR]; exact h2
  have h2':2<=vs.length:=∅
  rw[Li hn2,Li hn2];refine Ks (Mz (hkind h2' _ keep (λ(k:PK) (s':Kx)=>k=κ/\s'={ s with heap:=((s.heap.update a (Mb λ_=>(#[]:Lg Ku))).push (seqObj "tuple" vs.toArray 0)).push (seqObj "list" #[] 0) }) #[rfl,rfl]) ?_ λ_ _ x=>x.elim)
  rintro _ _ ⟨rfl,rfl⟩;refine Ks (Mz (PySem.W.kat_run (Q:=λst' s'=>∃p:Lg KC,p.size=vs.length/\arrOf st'=p.map (kas_item (vs.toArray.zip vs.toArray))/\failedOf st'=gV/\p=cD lt (kas_sort vs.length)/\s'={ s with heap:=((s.heap.update a (Mb λ_=>(#[]:Lg Ku))).push (seqObj "tuple" vs.toArray 0)).push (seqObj "list" #[] 0) })
   (G:=λp s'=>p=cD lt (kas_sort vs.length)/\s'={ s with heap:=((s.heap.update a (Mb λ_=>(#[]:Lg Ku))).push (seqObj "tuple" vs.toArray 0)).push (seqObj "list" #[] 0) }) rfl h2' h64 (λp' st' s' a1 a2 a3 a4=>#[p',a1,a2,a3,a4])
   (oT (lt:=lt) (λi j hi hj C hC=>hlt h2' _ keep i j hi hj C hC) (lG (n:=vs.length) ∅) #[rfl,rfl])) ?_ λ_ _ e=>e)
  rintro⟨⟨⟩,st'⟩ s' ⟨p,hp,har,hf,ep,rfl⟩;dsimp only;have hout:=PySem.W.kat_snds rfl har;have hsz:(p.toList.map λi=>vs.getD i LG).length=vs.length:=by rw[Kt,KW,hp]
  rw[hout];refine Ks (R4 ho3 rfl ?_);refine Ks (PB ho3 rfl ?_ (Mm _) (by rw[KR,hsz,LD]; omega))
  rw[hf];simp only[Ry,Ld,L4];exact Ky (fin _ hsz (by unfold d4; rw[Li h2,ep]))
theorem xj {x:Ku}{lt:KC->KC->Lf}{κ:PK}{Q:Ku->Kx->Prop}(h64:vs.length < 64)
  (hcol:∀Q':Kr Ku->Kx->Prop,(∀h' tk,(∀b o,s.heap.get? b=ba o->h'.get? b=ba o)->s.heap.objs.size<=h'.objs.size->Q' vs { s with heap:=h',toks:=tk })->wpAny (model prog w) A.in1 (collect x) Q' E s)
  (hkind:2<=vs.length->∀h' tk,(∀b o,s.heap.get? b=ba o->h'.get? b=ba o)->∀Q:PK->Kx->Prop,Q κ { s with heap:=h',toks:=tk }->wpAny (model prog w) A.in1.in1 (keyKind' vs.toArray) Q (λ_ _=>L7) { s with heap:=h',toks:=tk })
  (hlt:2<=vs.length->∀h' tk,(∀b o,s.heap.get? b=ba o->h'.get? b=ba o)->∀i j,i < vs.length->j < vs.length->∀Q:Lf->Kx->Prop,Q (lt i j) { s with heap:=h',toks:=tk }->
   wpAny (model prog w) A.in1.in1 (keyLt' κ (vs.getD i LG) (vs.getD j LG)) Q (λ_ _=>L7) { s with heap:=h',toks:=tk })
  (h:∀D h' tk c,(∀b o,s.heap.get? b=ba o->h'.get? b=ba o)->s.heap.objs.size<=D->h'.get? D=ba (seqObj "list" (d4 lt LG vs).toArray c)->Q (.ref D) { s with heap:=h',toks:=tk }) :
  wpAny (model prog w) A (call (.builtin "sorted") [x]) Q E s:=by
 refine NZ TN Tp Tq (Ts _) ?_;unfold NK.«sorted»;refine Ks (m:=checkCount "sorted" 1 1 _) (Ky ?_);refine Ks (hcol _ λh1 tk1 hk1 hle=>?_)
 refine Ks (PC ?_ (by rw[LD]; omega))
 have hoL:(h1.push (seqObj "list" vs.toArray 0)).get? h1.objs.size=ba (seqObj "list" vs.toArray 0):=KT _ rfl;have kp:∀b o,s.heap.get? b=ba o->(h1.push (seqObj "list" vs.toArray 0)).get? b=ba o:=λb o e=>Kw _ (hk1 b o e)
 have hne:∀b o,s.heap.get? b=ba o->b≠h1.objs.size:=λb o e=>K7 (Lc (K1 e) hle)
 show wpAny _ _ _ _ _ { s with heap:=h1.push (seqObj "list" vs.toArray 0),toks:=tk1 }
 refine Ks (LQ (LU SC #[_,hoL,rfl] Sc ?_ (SD _)));refine oU (s:={ s with heap:=h1.push (seqObj "list" vs.toArray 0),toks:=tk1 }) (lt:=lt) (κ:=κ) hoL h64 (λh2 h' hk Q hq=>hkind h2 h' tk1 (λb o e=>hk b o (hne b o e) (kp b o e)) Q hq)
  (λh2 h' hk i j hi hj Q hq=>hlt h2 h' tk1 (λb o e=>hk b o (hne b o e) (kp b o e)) i j hi hj Q hq) λh' c hk hD=>?_
 exact#[_,rfl,Ky #[_,rfl,h _ h' tk1 c (λb o e=>hk b o (hne b o e) (kp b o e)) hle hD]]
end
end Mi
namespace Mi
open PySem PySem.Spec PyProof.Rows L2
noncomputable def gB:T->L8
 | .int _=>"int"|.str _=>"str"|.tup _=>"tuple"
noncomputable def bZ:T->Kz T
 | .tup (x::_)=>ba x
 | _=>gV
noncomputable def uq (ks:Kr T):Kz KC:=
 if ks.all (λk=>gB k == "int")then ba 0
 else if ks.all (λk=>gB k == "str")then ba 1
 else if ks.all (λk=>(bZ k).any λf=>gB f == "int")then ba 2
 else if ks.all (λk=>(bZ k).any λf=>gB f == "str")then ba 3
 else if ks.all (λk=>(bZ k).any λf=>gB f == "tuple")then ba 4
 else gV
noncomputable def vw:KC->PK
 | 0=>oneType'|1=>oneType'|2=>tuples' true|3=>tuples' true|_=>tuples' false
noncomputable def iC (ks:Kr T):Lf:=ks.all λx=>ks.all λy=>(nI x y).isSome
noncomputable def rW (ks:Kr T)(i j:KC):Lf:=(nI (ks.getD i (.int 0)) (ks.getD j (.int 0))).getD false
theorem eZ {ks:Kr T}(h:iC ks=true){i j:KC}(hi:i < ks.length)(hj:j < ks.length):nI (ks[i]) (ks[j])=ba (rW ks i j):=by
 unfold iC at h;rw[K2]at h;have h1:=h ks[i] (LL hi);rw[K2]at h1;have h2:=h1 ks[j] (LL hj);unfold rW;rw[show ks.getD i (.int 0)=ks[i] by simp[hi],show ks.getD j (.int 0)=ks[j] by simp[hj]]
 obtain⟨b,hb⟩:=LM.mp h2;rw[hb]; rfl
noncomputable def J6 (c:KC)(x y:T):Prop:=match c with|0=>gB x = "int"/\gB y = "int"|1=>gB x = "str"/\gB y = "str"|2=>∃f g,bZ x=ba f/\bZ y=ba g/\gB f = "int"/\gB g = "int"|3=>∃f g,bZ x=ba f/\bZ y=ba g/\gB f = "str"/\gB g = "str"|_=>∃f g,bZ x=ba f/\bZ y=ba g
section
variable{prog:Lk}{w:Lz}{A:Lr}{E:Ku->Kx->Prop}{s:Kx}
theorem vx {h:LI}{k:T}{v:Ku}(x:IsT h k v):SY (model prog w) h (typeOf v) (.type (gB k)):=by
 cases x with
 | int=>exact .now
 | str=>exact .now
 | tup a c d t=>exact c ▸ ((Ui a).andThen .now:SY (model prog w) h (typeOf (.ref _)) _)
theorem IsTs.mem {h:LI}:∀ {ks:Kr T} {vs:Kr Ku},IsTs h ks vs->∀v∈vs,∃k∈ks,IsT h k v
 | _,_,.cons a b,v,hv=>by
  rcases Le.mp hv with rfl|hv
  ·exact#[_,.head _,a]
  ·obtain⟨k,hk,q⟩:=IsTs.mem b v hv;exact#[k,.tail _ hk,q]
theorem oV {h:LI}{p:T->Lf}:∀ {ks:Kr T} {vs:Kr Ku},IsTs h ks vs->ks.all (λk=>(bZ k).any p)=true->∃fs,PySem.W.KatTups h vs fs/\fs.length=vs.length/\∀v∈fs,∃k,p k=true/\IsT h k v
 | _,_,.nil,_=>#[[],.nil,rfl,λv hv=>nomatch hv]
 | k::ks,_,.cons a b,hp=>by
  rw[LR,KA]at hp;obtain⟨fs,h1,h2,h3⟩:=oV b hp.2;cases a with
  | int=>simp[bZ]at hp
  | str=>simp[bZ]at hp
  | @tup kk ad o items n a1 c1 d1 t1=>
   cases kk with
   | nil=>simp[bZ]at hp
   | cons x xs=>
    have hx:p x=true:=by simpa [bZ]using hp.1
    generalize hit:items.toList=its at t1;cases t1 with
    | @cons _ u _ us q1 q2=>
     refine#[u::fs,.cons a1 c1 d1 (by rw[<- L5,hit]; rfl) h1,by simp[h2],λv hv=>?_]
     rcases Le.mp hv with rfl|hv
     ·exact#[x,hx,q1]
     ·exact h3 v hv
theorem zp {ks:Kr T}{vs:Kr Ku}{c:KC}{Q:PK->Kx->Prop}(h:IsTs s.heap ks vs)(h2:2<=vs.length)(hc:uq ks=ba c)(hq:Q (vw c) s):wpAny (model prog w) A (keyKind' vs.toArray) Q E s:=by
 have one:∀ty:L8,(Mq ty != Mq "tuple")=true->ks.all (λk=>gB k==ty)=true->Q oneType' s->wpAny (model prog w) A (keyKind' vs.toArray) Q E s:=λty hty hall hq=>
  PySem.W.kas_kind (T:=.type ty) h2 (λv hv=>by
   obtain⟨k,hk,x⟩:=h.mem v hv;have:=eq_of_beq (K2.mp hall k hk);exact this ▸ vx x) hty (by simp) hq
 have tup:∀ty:L8,ks.all (λk=>(bZ k).any λf=>gB f==ty)=true->Q (tuples' (Mq ty != Mq "tuple")) s->wpAny (model prog w) A (keyKind' vs.toArray) Q E s:=λty hall hq=>by
  obtain⟨fs,h1,h3,h4⟩:=oV h hall;exact PySem.W.kat_kind (T:=.type ty) h1 ∅ (λv hv=>by
   obtain⟨k,hk,x⟩:=h4 v hv;have:=eq_of_beq hk;exact this ▸ vx x) (by simp) hq
 unfold uq at hc;split at hc
 ·cases hc; exact one "int" #v[] ‹_› hq
 ·split at hc
  ·cases hc; exact one "str" #v[] ‹_› hq
  ·split at hc
   ·cases hc; exact tup "int" ‹_› hq
   ·split at hc
    ·cases hc; exact tup "str" ‹_› hq
    ·split at hc
     ·cases hc; exact tup "tuple" ‹_› hq
     ·cases hc
theorem rX {b:Lf}{Q:Lf->Kx->Prop}{d:KC}(hu:A.units+d < cLine):∀(xs ys:Kr T) (us vs:Kr Ku) (i:KC) (k:Lf),T.depths xs<=d->T.depths ys<=d->IsTs s.heap xs us->IsTs s.heap ys vs->gF xs ys=ba k->
  (b=true->i=0->∀x y,xs.head?=ba x->ys.head?=ba y->(gB x = "int"/\gB y = "int")\/(gB x = "str"/\gB y = "str"))->Q k s->PySem.W.KatLex prog w A b (decide (us.length < vs.length)) Q (us.zip vs) i s
 | [],[],_,_,i,k,_,_,h1,h2,e,hb,hq=>by cases h1; cases h2; cases e; exact Qd (by simpa using hq)
 | [],y::ys,_,_,i,k,_,_,h1,h2,e,hb,hq=>by cases h1; cases h2; cases e; exact Qd (by simpa using hq)
 | x::xs,[],_,_,i,k,_,_,h1,h2,e,hb,hq=>by cases h1; cases h2; cases e; exact Qd (by simpa using hq)
 | x::xs,y::ys,_,_,i,k,d1,d2,h1,h2,e,hb,hq=>by
  simp only[T.depths]at d1 d2;cases h1 with
  | @cons _ u _ us p1 q1=>
   cases h2 with
   | @cons _ v _ vs p2 q2=>
    have he:=w9 d x y _ _ A s ∅ p1 p2 hu ∅
    rw[NE];refine PySem.W.kat_cons (he prog w _ _ ?_);simp only[gF]at e;have hlen:decide ((u::us).length < (v::vs).length)=decide (us.length < vs.length):=by simp
    rw[hlen]
    by_cases hxy:x=y
    ·rw[La hxy]at e;rw[MW hxy];exact PySem.W.kat_yes (rX hu xs ys us vs (i+1) k ∅ ∅ q1 q2 e (λ_ z=>absurd z (RP _)) hq)
    ·rw[Li hxy]at e;rw[Lm hxy];refine PySem.W.kat_no ?_
     by_cases hb0:b=true/\i=0
     ·obtain⟨rfl,rfl⟩:=hb0;rcases hb rfl rfl x y rfl rfl with⟨hx,hy⟩|⟨hx,hy⟩
      ·cases p1 with
       | int=>cases p2 with
        | int=>cases e; exact oneLt_int hq
        | _=>exact absurd hy (by simp[gB])
       | _=>exact absurd hx (by simp[gB])
      ·cases p1 with
       | str=>cases p2 with
        | str=>cases e; exact oneLt_str hq
        | _=>exact absurd hy (by simp[gB])
       | _=>exact absurd hx (by simp[gB])
     ·have hf:(b&&i==0)=false:=by
       cases b with
       | false=>rfl
       | true=>
        have:i≠0:=λz=>hb0 #[rfl,z]
        simpa using this
      rw[hf];exact PySem.W.kat_one _ _ ((Hg d x y _ _ A s k ∅ ∅ p1 p2 hu e) prog w _ _ hq)
theorem vy {c d:KC}{x y:T}{u v:Ku}{k:Lf}{Q:Lf->Kx->Prop}(hu:A.units+d < cLine)(d1:x.depth<=d)(d2:y.depth<=d)(h1:IsT s.heap x u)(h2:IsT s.heap y v)(e:nI x y=ba k)
  (hc:J6 c x y)
  (hq:Q k s):wpAny (model prog w) A (keyLt' (vw c) u v) Q E s:=by
 have tup:∀b:Lf,(∃f g,bZ x=ba f/\bZ y=ba g/\(b=true->(gB f = "int"/\gB g = "int")\/(gB f = "str"/\gB g = "str")))->wpAny (model prog w) A (keyLt' (tuples' b) u v) Q E s:=by
  rintro b ⟨f,g,hf,hg,hb⟩;cases h1 with
  | int=>cases hf
  | str=>cases hf
  | @tup xs a o items n a1 c1 e1 t1=>
   cases h2 with
   | int=>cases hg
   | str=>cases hg
   | @tup ys a' o' items' n' a2 c2 e2 t2=>
    simp only[T.depth]at d1 d2;refine PySem.W.kat_lt a1 e1 a2 e2 ?_;have:=rX (prog:=prog) (w:=w) (b:=b) (Q:=Q) hu xs ys items.toList items'.toList 0 k ∅ ∅ t1 t2 e (λhb' _ p q hp hq'=>by
     cases xs with
     | nil=>cases hp
     | cons x0 xs=>cases ys with
      | nil=>cases hq'
      | cons y0 ys=>cases hp; cases hq'; cases hf; cases hg; exact hb hb') hq
    simpa using this
 match c,hc with
 | 0,#[hx,hy]=>
  cases h1 with
  | int=>cases h2 with
   | int=>cases e; exact PySem.W.kat_lt_int hq
   | _=>exact absurd hy (by simp[gB])
  | _=>exact absurd hx (by simp[gB])
 | 1,#[hx,hy]=>
  cases h1 with
  | str=>cases h2 with
   | str=>cases e; exact PySem.W.kas_lt_str hq
   | _=>exact absurd hy (by simp[gB])
  | _=>exact absurd hx (by simp[gB])
 | 2,#[f,g,h1',h2',h3,h4]=>exact tup true #[f,g,h1',h2',λ_=>.inl #[h3,h4]]
 | 3,#[f,g,h1',h2',h3,h4]=>exact tup true #[f,g,h1',h2',λ_=>.inr #[h3,h4]]
 | n+4,#[f,g,h1',h2']=>exact tup false #[f,g,h1',h2',λz=>nomatch z]
end
theorem vz {ks:Kr T}{c:KC}(h:uq ks=ba c){x y:T}(hx:x∈ks)(hy:y∈ks) :
  J6 c x y:=by
 have one:∀ {ty:L8},ks.all (λk=>gB k==ty)=true->gB x=ty/\gB y=ty:=λha=>#[eq_of_beq (K2.mp ha x hx),eq_of_beq (K2.mp ha y hy)]
 have fst:∀ {ty:L8},ks.all (λk=>(bZ k).any λf=>gB f==ty)=true->∃f g,bZ x=ba f/\bZ y=ba g/\gB f=ty/\gB g=ty:=λ{ty} ha=>by
  have h1:=K2.mp ha x hx;have h2:=K2.mp ha y hy;cases e1:bZ x with
  | none=>rw[e1]at h1; cases h1
  | some f=>
   cases e2:bZ y with
   | none=>rw[e2]at h2; cases h2
   | some g=>
    rw[e1]at h1; rw[e2]at h2
    exact#[f,g,rfl,rfl,eq_of_beq (by simpa using h1),eq_of_beq (by simpa using h2)]
 unfold uq at h;split at h
 ·cases h; exact one ‹_›
 ·split at h
  ·cases h; exact one ‹_›
  ·split at h
   ·cases h; exact fst ‹_›
   ·split at h
    ·cases h; exact fst ‹_›
    ·split at h
     ·cases h;obtain⟨f,g,h1,h2,_⟩:=fst ‹_›;exact#[f,g,h1,h2]
     ·cases h
noncomputable def ff (S:aa):W->Kz (Kr W)
 | .tup xs=>ba xs
 | .ref i=>match ii S i with
  | some xs=>ba xs
  | none=>(kS S i).map λkvs=>kvs.map λp=>p.1.w
 | _=>gV
noncomputable def dh:KC:=8
noncomputable def iN (ks:Kr T):Lf:=decide (ks.length < 64)&&decide (T.depths ks<=dh)&&(decide (ks.length < 2)||((uq ks).isSome&&iC ks))
noncomputable def gm (xs:Kr W)(S:aa):Kz (W×aa):=match xs with
 | [x]=>match ff S x with
  | some ws=>match W.ts ws with
   | some ks=>if iN ks then ba (.ref S.length,S++[.lst (d4 (rW ks) .non ws)])else gV
   | none=>gV
  | none=>gV
 | _=>gV
noncomputable def oW (xs:Kr W)(S:aa):Kz (W×aa):=match xs with
 | [.ref i]=>match kS S i with
  | some kvs=>ba (.ref S.length,S++[.lst (kvs.map λp=>p.1.w)])
  | none=>jf [.ref i] S
 | xs=>jf xs S
noncomputable def ur (xs:Kr W)(S:aa):Kz (W×aa):=match xs with
 | [.ref i]=>match kS S i with
  | some kvs=>ba (.int kvs.length,S)
  | none=>uc [.ref i] S
 | xs=>uc xs S
noncomputable def qc (ks:Kr T):KC:=argBest (rW ks) (ks.length - 1)
noncomputable def Co (xs:Kr W)(S:aa):Kz (W×aa):=match xs with
 | [.ref i]=>match ii S i with
  | some ws=>match W.ts ws with
   | some ks=>if T.depths ks<=dh/\iC ks=true then(ws[qc ks]?).map λw=>(w,S)else gV
   | none=>gV
  | none=>gV
 | _=>gV
noncomputable def iO:Kr W->Kz (Kr Lf)
 | []=>ba []
 | .bl b::ws=>(iO ws).map (b :: ·)
 | _::_=>gV
noncomputable def Cp (xs:Kr W)(S:aa):Kz (W×aa):=match xs with
 | [.ref i]=>match ii S i with
  | some ws=>(iO ws).map λbs=>(.bl (bs.all id),S)
  | none=>gV
 | _=>gV
section
variable{X:Cx}{pins:Kr (KF×Mp)}{σ:L2.St}{H:Hp}{s:Kx}{A:Kr KF}{S:aa}
theorem RelL.pick {K:KM}{ws:Kr W}{vs:Kr V}(r:RelL K A H ws vs)(d:W)(d':V):∀(is:Kr KC),(∀i∈is,i < ws.length)->RelL K A H (is.map λi=>ws.getD i d) (is.map λi=>vs.getD i d')
 | [],_=>.nil
 | i::is,h=>by
  have hi:=h i (.head _);obtain⟨v,h1,h2⟩:=r.get (KI hi);refine .cons ?_ (RelL.pick r d d' is λj hj=>h j (.tail _ hj))
  have e1:ws.getD i d=ws[i]:=by simp[hi]
  have e2:vs.getD i d'=v:=by simp[h1]
  show Rel K A H (ws.getD i d) (vs.getD i d');rw[e1,e2]; exact h2
theorem Vals.pick {vs:Kr V}{us:Kr Ku}(r:Vals vs us)(d:V)(d':Ku):∀(is:Kr KC),(∀i∈is,i < vs.length)->Vals (is.map λi=>vs.getD i d) (is.map λi=>us.getD i d')
 | [],_=>.nil
 | i::is,h=>by
  have hi:=h i (.head _);obtain⟨v,h1,h2⟩:=L2.Vals.get r (KI hi);refine .cons ?_ (Vals.pick r d d' is λj hj=>h j (.tail _ hj))
  have e1:vs.getD i d=vs[i]:=by simp[hi]
  have e2:us.getD i d'=v:=by simp[h1]
  show L2.RelV (vs.getD i d) (us.getD i d');rw[e1,e2]; exact h2
theorem lH {n:KC}{lt:KC->KC->Lf}(hn:0 < n):∀i∈(cD lt (NB n)).toList,i < n:=λi hi=>Ll.mp ((qb (lt:=lt) (lG hn)).mem_iff.mp hi)
theorem zq {K:KM}{lt:KC->KC->Lf}{ws:Kr W}{vs:Kr V}(r:RelL K A H ws vs):RelL K A H (d4 lt .non ws) (d4 lt .non vs):=by
 unfold d4;rw[r.length];split
 ·exact r
 ·exact r.pick _ _ _ λi hi=>by rw[r.length]; exact lH ∅ i hi
theorem xk {lt:KC->KC->Lf}{vs:Kr V}{us:Kr Ku}(r:Vals vs us):Vals (d4 lt .non vs) (d4 lt .none us):=by
 unfold d4;rw[L2.Vals.length r];split
 ·exact r
 ·exact Vals.pick r _ _ _ λi hi=>by rw[L2.Vals.length r]; exact lH ∅ i hi
theorem rY {prog:Lk}{w:Lz}{B:Lr}{E:Ku->Kx->Prop}{l:KF}{vs:Kr Ku}{Q:Kr Ku->Kx->Prop}(hl:Rh s.heap l vs.toArray)(hsz:vs.length<=sizeLine)
  (h:∀h' tk,(∀b o,s.heap.get? b=ba o->h'.get? b=ba o)->s.heap.objs.size<=h'.objs.size->Q vs { s with heap:=h',toks:=tk }):wpAny (model prog w) B (collect (.ref l)) Q E s:=by
 obtain⟨o,ho,hc,n,hd⟩:=id hl;unfold collect;refine Ks (Os (LW entry_proto_collect' ?_));show wpAny _ _ (do again (.builtin "list.__iadd__" #[[<- newList [],.ref l],[]])) _ _ s
 refine Ks (PC (Ky #[Q9 _ (by decide +kernel),LW entry_list_iadd' ?_]))
 show wpAny _ _ (Mk (.ref s.heap.objs.size) (.ref l) (.ref s.heap.objs.size)) _ _ { s with heap:=s.heap.push (seqObj "list" #[] 0) }
 unfold Mk;have ho':(s.heap.push (seqObj "list" #[] 0)).get? l=ba o:=Kw _ ho;refine Ks (ND (T:="tuple") #[o,ho',hc] ?_);have ht:(Mq "tuple" == Mq "tuple")=true:=by rfl
 rw[La (by rw[ht]; simp)]
 refine Ks (Rx ho' hd ?_);refine Ks (Rx (xs:=#[]) (n:=0) (KT _ rfl) rfl ?_);rw[Li (by simp)]
 refine Ks (PB (xs:=#[]) (n:=0) (KT _ rfl) rfl ?_ (Mm _) (by show(#[]++vs.toArray).size<=sizeLine+1; simp only[Array.size_append,KR,MN]; omega))
 refine Ky ?_;show wpAny (model prog w) B (do
   let o <- load s.heap.objs.size
   match o.data with
   | .seq xs _=>pure xs.toList
   | _=>unsupported "internal:collect") Q E { s with heap:=(s.heap.push (seqObj "list" #[] 0)).update s.heap.objs.size (Mb (· ++ vs.toArray)) }
 refine Ks (PV (Qc (KT _ rfl) _) ?_);show wpAny _ _ (pure ((#[]:Lg Ku)++vs.toArray).toList) Q E _;rw[show((#[]:Lg Ku)++vs.toArray).toList=vs by simp]
 refine Ky (h _ s.toks (λb o' e=>(N3 _ _ _ _ (K7 (K1 e))).trans (Kw _ e)) ?_)
 rw[RS,size_push'];exact Nl _
theorem DicAt.raw {wd:Lz}{a:KF}{xs:Kr (T×KF×Ku)}{h:LI}(d:DicAt wd a xs h):∃es ep,RawD a es ep h/\es.toList=xs.map (yM wd):=
 let ⟨_,_,_,o,es,ep,h1,h2,h3,h4⟩:=d; #[es,ep,#[o,h1,h2,h3],h4]
theorem KRel.keysL {kvs:Kr (T×W)}{xs:Kr (T×KF×Ku)}(r:KRel X.K A H kvs xs):RelL X.K A H (kvs.map λp=>p.1.w) (xs.map λq=>V.ref q.2.1):=by
 unfold KRel at r
 induction r with
 | nil=>exact .nil
 | cons h t ih=>exact .cons h.2.2.2.1 ih
theorem oX (xs:Kr (T×KF×Ku)):Vals (xs.map λq=>V.ref q.2.1) (xs.map λq=>Lq q.2.1):=by
 induction xs with
 | nil=>exact .nil
 | cons x xs ih=>exact .cons rfl ih
theorem mj {wd:Lz}{es:Lg M2}{xs:Kr (T×KF×Ku)}(he:es.toList=xs.map (yM wd)){acc:Lg Ku}(ha:P1 (λi v=>∃e,es[i]?=ba e/\e.key=v) acc es.size):acc.toList=xs.map λq=>Lq q.2.1:=by
 have hl:es.size=xs.length:=by rw[<- KW,he,Kt]
 apply OE
 ·rw[KW,ha.1,Kt,hl]
 ·intro i h1 h2;rw[KW]at h1;obtain⟨e,q1,q2⟩:=ha.2 i acc[i] (by simp[h1])
  rw[<- L5,he,KD]at q1;rw[Kt]at h2;rw[KI h2]at q1;simp only[Lw,Lv]at q1;subst q1;rw[RT,OJ];exact q2.symm
theorem xl {x:W}{a:V}{u:Ku}{ws:Kr W}(hh:X.A.handled=gV)(I:Inv X pins σ H s)(so:StoreOk X.w X.K A H S)(rx:Rel X.K A H x a)(ru:RelV a u)(e:ff S x=ba ws):∃vs us,RelL X.K A H ws vs/\Vals vs us/\us.length<=sizeLine/\
  ∀(B:Lr) (hB:B.handled=gV) (E:Ku->Kx->Prop) (Q':Kr Ku->Kx->Prop),(∀h' tk,(∀b o,s.heap.get? b=ba o->h'.get? b=ba o)->s.heap.objs.size<=h'.objs.size->Q' us { s with heap:=h',toks:=tk })->wpAny (model X.prog X.w) B (collect u) Q' E s:=by
 cases rx with
 | tup h1 r1=>
  cases e;obtain⟨its,rv,ht,hz⟩:=I.tuple h1;obtain rfl:u=Lq _:=ru;exact#[_,its,r1,rv,by rw[<- L2.Vals.length rv]; exact hz,λB hB E Q' h=>rY ht (by rw[<- L2.Vals.length rv]; exact hz) h]
 | ref ea=>
  simp only[ff]at e;split at e
  ·rename_i xs hx;cases e;obtain⟨vs,h1,r1⟩:=c8 so hx ea;obtain⟨its,rv,p,hz⟩:=I.list h1;obtain rfl:u=Lq _:=ru;refine#[_,its,r1,rv,by rw[<- L2.Vals.length rv]; exact hz,λB hB E Q' h=>collect_list p.isList (h _ s.toks (λb o' e=>(N3 _ _ _ _ (K7 (K1 e))).trans (Kw _ e)) ?_) (by rw[<- L2.Vals.length rv]; exact hz)]
   rw[RS,size_push'];exact Nl _
  ·rw[Kv]at e;obtain⟨kvs,hk,rfl⟩:=e;obtain⟨xs,rd,kr⟩:=gL so hk ea;have d:=dg I rd;obtain⟨es,ep,raw,he⟩:=d.raw;obtain rfl:u=Lq _:=ru;have hl:es.size=xs.length:=by rw[<- KW,he,Kt]
   refine#[_,_,kr.keysL,oX xs,by rw[Kt]; exact d.1,λB hB E Q' h=>rS (vp d.2.1) hB raw (by rw[hl]; exact d.1) λh' tk acc hk' hle ha=>?_]
   rw[mj he ha];exact h h' tk hk' hle
 | _=>cases e
theorem oY {h':LI}{tk c:KC}{D:KF}{ws:Kr W}{vs:Kr V}{us:Kr Ku}(I:Inv X pins σ H s)(so:StoreOk X.w X.K A H S)(r:RelL X.K A H ws vs)(rv:Vals vs us)(hz:us.length<=sizeLine)(hk:∀b o,s.heap.get? b=ba o->h'.get? b=ba o)(hD:s.heap.objs.size<=D)
  (ho:h'.get? D=ba { cls:=.type "list",data:=.seq us.toArray c }):eC X pins σ A H (S++[.lst ws]) (.ref S.length) (.ref D) { s with heap:=h',toks:=tk }:=by
 have hn:H D=gV:=I.hok.fresh hD;refine#[.ref D,_,A++[D],I.laid (a:=D) (o:=.lst vs) (t':=tk) hk hD #[by rw[L2.Vals.length rv]; exact hz,us,c,rv,ho],rfl,dD hn,so.push hn r,.ref ?_]
 rw[<- so.len]; simp
theorem qd (hh:X.A.handled=gV)(hu:X.A.units+12 < cLine):LCall X (.builtin "sorted") gm:=by
 intro pins s σ H A S xs vs us w S' I so rl rv e;cases rl with
 | nil=>cases e
 | cons r t=>
  cases t with
  | cons _ _=>cases e
  | nil=>
   cases rv with
   | cons ru rv2=>
    cases rv2;simp only[gm]at e;split at e
    ·rename_i ws hw;split at e
     ·rename_i ks hk;split at e
      ·rename_i hok;cases e;obtain⟨vs',us',r1,rv1,hz,hcol⟩:=xl hh I so r ru hw;simp only[iN,KA,K5]at hok;obtain⟨⟨h64,hd⟩,hok⟩:=hok;have hws:T.ws ks=ws:=W.ts_w hk;have hT:IsTs s.heap ks us':=fI I ks (hws ▸ r1) rv1;have hl:us'.length=ks.length:=hT.length.symm;have sk:2<=us'.length->(uq ks).isSome=true/\iC ks=true:=λh2=>by
        rcases Mx _ _ ▸ hok with h|h
        ·simp only[K5]at h; omega
        ·simpa using h
       refine xj (vs:=us') (lt:=rW ks) (κ:=vw ((uq ks).getD 0)) ∅ (λQ' hQ'=>hcol X.A.in1 hh _ Q' hQ') (λh2 h' tk hk' Q hq=>?_) (λh2 h' tk hk' i j hi hj Q hq=>?_) λD h' tk c hk' hD ho=>?_
       ·obtain⟨q1,q2⟩:=sk h2;obtain⟨c,hc⟩:=LM.mp q1;rw[hc]at hq;exact zp (s:={ s with heap:=h',toks:=tk }) (hT.kept λb o _ e=>hk' b o e) h2 hc hq
       ·obtain⟨q1,q2⟩:=sk h2;obtain⟨c,hc⟩:=LM.mp q1;rw[hc];have hi':i < ks.length:=∅
        have hj':j < ks.length:=∅
        have g:=(hT.kept (h':=h') λb o _ e=>hk' b o e)
        have e1:us'.getD i LG=us'[i]:=by simp[hi]
        have e2:us'.getD j LG=us'[j]:=by simp[hj]
        rw[e1,e2];have b1:=da (ks:=ks) i hi';have b2:=da (ks:=ks) j hj';exact vy (s:={ s with heap:=h',toks:=tk }) (d:=dh) (c:=c) (by rw[aY,aY]; unfold dh; omega) (KQ ‹_› ‹_›) (KQ ‹_› ‹_›) (g.get i hi' hi) (g.get j hj' hj) (eZ q2 hi' hj') (vz hc (LL hi') (LL hj')) hq
       ·exact oY I so (zq r1) (xk rv1) (by rw[rV]; exact hz) hk' hD ho
      ·cases e
     ·cases e
    ·cases e
theorem rZ (hh:X.A.handled=gV):LCall X (.type "list") oW:=by
 intro pins s σ H A S xs vs us w S' I so rl rv e
 by_cases hd:∃i kvs,xs=[.ref i]/\kS S i=ba kvs
 ·obtain⟨i,kvs,rfl,hk⟩:=hd;simp only[oW,hk]at e;cases e;cases rl with
  | cons r t=>
   cases t;cases rv with
   | cons ru rv2=>
    cases rv2;cases r with
    | ref ea=>
     obtain⟨xs,rd,kr⟩:=gL so hk ea;have d:=dg I rd;obtain⟨es,ep,raw,he⟩:=d.raw;obtain rfl:_=Lq _:=ru;have hl:es.size=xs.length:=by rw[<- KW,he,Kt]
     refine PySem.W.kdl_call (vp d.2.1) hh raw (by rw[hl]; exact d.1) λh' tk acc' c' hk' hD ha=>?_
     have ea':=mj he ha;refine oY (us:=acc'.toList) I so kr.keysL (ea' ▸ oX xs) (by rw[ea',Kt]; exact d.1) hk' (KH _) (c:=c') ?_
     simpa using hD
 ·have:oW xs S=jf xs S:=by
   unfold oW;split
   ·rename_i i;split
    ·rename_i kvs hk;exact absurd #[i,kvs,rfl,hk] hd
    ·rfl
   ·rfl
  rw[this]at e;exact iM pins s σ H A S xs vs us w S' I so rl rv e
end
open PySem.W (KasT kas_sort kas_asc kas_desc kas_tail3 kas_descPart kas_count kas_place kas_bin kas_rev)
theorem eS {α β:Type}{lt:KC->KC->Lf}{f:α->KasT β}:∀t:KasT α,cD lt (t.bind f)=cD lt (f (cD lt t))
 | .ret _=>rfl
 | .ask i j k=>eS (k (lt i j))
structure Lin (n:KC)(lt:KC->KC->Lf):Prop where
 tr:∀i j k,i < n->j < n->k < n->lt i j=true->lt j k=true->lt i k=true
 as:∀i j,i < n->j < n->lt i j=true->lt j i=false
 to:∀i j,i < n->j < n->i≠j->lt j i=false->lt i j=true
noncomputable def gt (p:Lg KC)(i:KC):KC:=p.getD i 0
theorem jS {p:Lg KC}{i:KC}:gt p i=(p[i]?).getD 0:=by unfold gt; simp[Array.getD_eq_getD_getElem?]
theorem Pm.inj {n:KC}{p:Lg KC}(h:Pm n p){i j:KC}(hi:i < n)(hj:j < n)(hne:i≠j):gt p i≠gt p j:=by
 have nd:p.toList.Nodup:=h.nodup_iff.mpr List.nodup_range;have hi':i < p.toList.length:=by rw[KW,h.size]; exact hi
 have hj':j < p.toList.length:=by rw[KW,h.size]; exact hj
 intro e;have e1:gt p i=p.toList[i]:=by unfold gt; simp[Oc,h.size,hi]
 have e2:gt p j=p.toList[j]:=by unfold gt; simp[Oc,h.size,hj]
 rw[e1,e2]at e;have pw:=N1.mp nd;rcases Ra hne with h|h
 ·exact pw i j hi' hj' h e
 ·exact pw j i hj' hi' h e.symm
noncomputable def Up (lt:KC->KC->Lf)(p:Lg KC)(m:KC):Prop:=∀i j,i < j->j < m->lt (gt p i) (gt p j)=true
section
variable{n:KC}{lt:KC->KC->Lf}(L:Lin n lt)
include L
theorem Up.more {p:Lg KC}{a:KC}(hp:Pm n p)(ha:1<=a)(han:a < n)(h:Up lt p a)(hl:lt (gt p (a - 1)) (gt p a)=true):Up lt p (a+1):=by
 have hn:0 < n:=∅
 intro i j hij hj
 by_cases e:j=a
 ·subst e
  by_cases e2:i=j - 1
  ·subst e2; exact hl
  ·exact L.tr _ _ _ (hp.lt hn _) (hp.lt hn _) (hp.lt hn _) (h i (j - 1) ∅ ∅) hl
 ·exact h i j hij ∅
theorem ut {p:Lg KC}(hp:Pm n p):∀(f a:KC),1<=a->a+f=n->Up lt p a->Up lt p (cD lt (kas_asc p f a))/\a<=cD lt (kas_asc p f a)/\cD lt (kas_asc p f a)<=n/\(cD lt (kas_asc p f a) < n->lt (gt p (cD lt (kas_asc p f a))) (gt p (cD lt (kas_asc p f a) - 1))=true)
 | 0,a,h1,h2,h=>#[h,KH _,by show a<=n; omega,λz=>by have:a < n:=z; omega]
 | f+1,a,h1,h2,h=>by
  have hn:0 < n:=∅
  have e:cD lt (kas_asc p (f+1) a)=cD lt (if lt (gt p a) (gt p (a - 1))=true then .ret a else kas_asc p f (a+1)):=rfl
  rw[e];cases c:lt (gt p a) (gt p (a - 1))with
  | true=>exact#[h,KH _,by show a<=n; omega,λ_=>c]
  | false=>
   have l:lt (gt p (a - 1)) (gt p a)=true:=L.to _ _ (hp.lt hn (a - 1)) (hp.lt hn a) (hp.inj ∅ ∅ ∅) c
   obtain⟨q1,q2,q3,q4⟩:=ut hp f (a+1) ∅ ∅ (Up.more L hp h1 ∅ h l)
   exact#[q1,by show a<=cD lt (kas_asc p f (a+1)); omega,q3,q4]
noncomputable def Dn (lt:KC->KC->Lf)(p:Lg KC)(m:KC):Prop:=∀i j,i < j->j < m->lt (gt p j) (gt p i)=true
theorem vA {p:Lg KC}(hp:Pm n p):∀(f a:KC),1<=a->a+f=n->Dn lt p a->∃m,cD lt (kas_desc f p a 0)=(p,m,0)/\a<=m/\m<=n/\Dn lt p m
 | 0,a,h1,h2,h=>#[a,rfl,KH _,∅,h]
 | f+1,a,h1,h2,h=>by
  have hn:0 < n:=∅
  have e:cD lt (kas_desc (f+1) p a 0)=cD lt (if lt (gt p a) (gt p (a - 1))=true then(if 0 > 0 then kas_desc f (kas_rev p (a - (0+1)) a) (a+1) 0 else kas_desc f p (a+1) 0)else .ask (gt p (a - 1)) (gt p a) λd=>if d=true then .ret (p,a,0)else kas_desc f p (a+1) (0+1)):=rfl
  rw[e];cases c:lt (gt p a) (gt p (a - 1))with
  | true=>
   obtain⟨m,q1,q2,q3,q4⟩:=vA hp f (a+1) ∅ ∅ λi j hij hj=>by
    by_cases e:j=a
    ·subst e
     by_cases e2:i=j - 1
     ·subst e2; exact c
     ·exact L.tr _ _ _ (hp.lt hn _) (hp.lt hn _) (hp.lt hn _) c (h i (j - 1) ∅ ∅)
    ·exact h i j hij ∅
   exact#[m,q1,∅,q3,q4]
  | false=>
   have l:lt (gt p (a - 1)) (gt p a)=true:=L.to _ _ (hp.lt hn (a - 1)) (hp.lt hn a) (hp.inj ∅ ∅ ∅) c
   refine#[a,?_,KH _,∅,h]
   show cD lt (if lt (gt p (a - 1)) (gt p a)=true then .ret (p,a,0)else kas_desc f p (a+1) (0+1))=_
   rw[l]; rfl
omit L in
theorem Fb {p:Lg KC}{m:KC}(hp:Pm n p)(hm:m<=n)(h:Dn lt p m):Up lt (kas_rev p 0 m) m:=by
 intro i j hij hj;have g:∀k,k < m->gt (kas_rev p 0 m) k=gt p (m - 1 - k):=λk hk=>by
  rw[jS,jS];show((mirror p 0 m ((m - 0) / 2))[k]?).getD 0=_;rw[getElem?_mirror_all (by rw[hp.size]; exact hm),La #[Mm _,hk],Nat.zero_add]
 rw[g i ∅,g j hj]
 exact h _ _ ∅ ∅
theorem zr {p:Lg KC}(hp:Pm n p)(hn:1<=n):∃m p',cD lt (kas_count n p)=(m,p')/\Pm n p'/\1<=m/\m<=n/\Up lt p' m:=by
 unfold kas_count;rw[eS];obtain⟨q1,q2,q3,q4⟩:=ut L hp (n - 1) 1 (KH _) ∅ λi j hij hj=>∅
 generalize cD lt (kas_asc p (n - 1) 1)=m at q1 q2 q3 q4
 by_cases hm:m=n
 ·subst hm;rw[La (LK _)];exact#[m,p,rfl,hp,q2,KH _,q1]
 ·rw[Li (by simp[hm])]
  by_cases h1:m > 1
  ·rw[La h1];have l:=q1 0 (m - 1) ∅ ∅
   refine#[m,p,?_,hp,q2,q3,q1];show cD lt (if lt (gt p 0) (gt p (m - 1))=true then .ret (m,p)else kas_descPart m n (kas_rev p 0 m))=_
   rw[l]; rfl
  ·rw[Li h1];obtain rfl:m=1:=∅
   unfold kas_descPart;rw[eS];have l:=q4 ∅
   obtain⟨m,e,r1,r2,r3⟩:=vA L hp (n - (1+1)) (1+1) ∅ ∅ λi j hij hj=>by
    obtain rfl:j=1:=∅
    obtain rfl:i=0:=∅
    exact l
   rw[e];dsimp only;rw[Li ∅]
   unfold kas_tail3;rw[eS];have hp':Pm n (kas_rev p 0 m):=hp.rev 0 m;obtain⟨z1,z2,z3,z4⟩:=ut L hp' (n - m) m ∅ ∅ (Fb hp r2 r3)
   exact#[_,_,rfl,hp',∅,z3,z1]
theorem mn {p:Lg KC}{k:KC}(hp:Pm n p)(hk:k < n)(hu:Up lt p k):∀(f l r:KC),l<=r->r<=k->r - l<=f->(∀i,i < l->lt (gt p i) (gt p k)=true)->(∀i,r<=i->i < k->lt (gt p k) (gt p i)=true)->
  ∃m,cD lt (kas_place p k f l r)=m/\m<=k/\(∀i,i < m->lt (gt p i) (gt p k)=true)/\(∀i,m<=i->i < k->lt (gt p k) (gt p i)=true)
 | 0,l,r,h1,h2,h3,ha,hb=>#[l,rfl,∅,ha,λi hi=>hb i ∅]
 | f+1,l,r,h1,h2,h3,ha,hb=>by
  have hn:0 < n:=∅
  unfold kas_place
  by_cases hge:l>=r
  ·rw[La hge];exact#[l,rfl,∅,ha,λi hi=>hb i ∅]
  ·rw[Li hge];show ∃m,cD lt (if lt (gt p k) (gt p ((l+r) / 2))=true then kas_place p k f l ((l+r) / 2)else kas_place p k f ((l+r) / 2+1) r)=m/\_
   cases c:lt (gt p k) (gt p ((l+r) / 2))with
   | true=>
    rw[La rfl];refine mn hp hk hu f l ((l+r) / 2) ∅ ∅ ∅ ha λi hi hik=>?_
    by_cases e:i=(l+r) / 2
    ·rw[e]; exact c
    ·exact L.tr _ _ _ (hp.lt hn _) (hp.lt hn _) (hp.lt hn _) c (hu _ _ ∅ hik)
   | false=>
    rw[Li K8];have l':=L.to _ _ (hp.lt hn ((l+r) / 2)) (hp.lt hn k) (hp.inj ∅ ∅ ∅) c
    refine mn hp hk hu f ((l+r) / 2+1) r ∅ h2 ∅ (λi hi=>?_) hb
    by_cases e:i=(l+r) / 2
    ·rw[e]; exact l'
    ·exact L.tr _ _ _ (hp.lt hn _) (hp.lt hn _) (hp.lt hn _) (hu i ((l+r) / 2) ∅ ∅) l'
theorem zt:∀(f:KC) (p:Lg KC) (k:KC),Pm n p->k+f=n->Up lt p k->Pm n (cD lt (kas_bin f p k))/\Up lt (cD lt (kas_bin f p k)) n
 | 0,p,k,hp,h,hu=>by
  have:k=n:=∅
  exact#[hp,this ▸ hu]
 | f+1,p,k,hp,h,hu=>by
  unfold kas_bin;rw[eS];obtain⟨m,e,h1,ha,hb⟩:=mn L hp ∅ hu k 0 k (Mm _) (KH _) ∅ (λi hi=>∅) λi h1 h2=>∅
  rw[e];refine zt f _ (k+1) (hp.bub _ _) ∅ λi j hij hj=>?_
  have g:∀i,gt (bubble p k (k - m)) i=if i=m then gt p k else if m < i/\i<=k then gt p (i - 1)else gt p i:=λi=>by
   rw[jS,jS,jS,jS,getElem?_bubble (by rw[hp.size]; omega) _ ∅,show k - (k - m)=m by omega]
   split
   ·rfl
   ·split <;> rfl
  rw[g,g]
  repeat' split
  all_goals first
   | (exfalso; omega)
   | exact ha _ ∅
   | exact hb _ ∅ ∅
   | exact hu _ _ ∅ ∅
theorem Cq (hn:1<=n):Pm n (cD lt (kas_sort n))/\Up lt (cD lt (kas_sort n)) n:=by
 unfold kas_sort;rw[eS];obtain⟨m,p',e,h1,h2,h3,h4⟩:=zr L (p:=(K9 n).toArray) (by unfold Pm; simp) hn
 rw[e];dsimp only
 by_cases hm:m < n
 ·rw[La hm];have:max m 1=m:=∅
  rw[this];exact zt L _ _ _ h1 ∅ h4
 ·rw[Li hm];have:m=n:=∅
  exact#[h1,this ▸ h4]
end
end Mi
namespace Mi
open PySem PySem.Spec PyProof.Rows L2
mutual
theorem qg:∀x y:T,gk x=true->nI x y=ba true->nI y x=ba false
 | .int a,.int b,_,h=>by
  dsimp only[nI]at h; simp only[Lv,K5]at h
  dsimp only[nI]; simp only[Lv,PM]
  omega
 | .str _,_,h,_=>by cases h
 | .tup xs,.tup ys,hn,h=>vB xs ys hn h
 | .int _,.str _,_,h|.int _,.tup _,_,h|.tup _,.int _,_,h|.tup _,.str _,_,h=>by cases h
theorem vB:∀xs ys:Kr T,dQ xs=true->gF xs ys=ba true->gF ys xs=ba false
 | [],[],_,h=>by cases h
 | [],_::_,_,_=>rfl
 | _::_,[],_,h=>by cases h
 | x::xs,y::ys,hn,h=>by
  simp only[dQ,KA]at hn;dsimp only[gF]at h ⊢
  by_cases e:x=y
  ·rw[La e]at h;rw[La e.symm];exact vB xs ys hn.2 h
  ·rw[Li e]at h;rw[Li (Ne.symm e)];exact qg x y hn.1 h
end
mutual
theorem zu:∀x y:T,gk x=true->x≠y->nI y x=ba false->nI x y=ba true
 | .int a,.int b,_,hne,h=>by
  dsimp only[nI]at h; simp only[Lv,PM]at h
  dsimp only[nI]; simp only[Lv,K5]
  have:a≠b:=λe=>hne (e ▸ rfl)
  omega
 | .str _,_,h,_,_=>by cases h
 | .tup xs,.tup ys,hn,hne,h=>vC xs ys hn (λe=>hne (e ▸ rfl)) h
 | .int _,.str _,_,_,h|.int _,.tup _,_,_,h|.tup _,.int _,_,_,h|.tup _,.str _,_,_,h=>by cases h
theorem vC:∀xs ys:Kr T,dQ xs=true->xs≠ys->gF ys xs=ba false->gF xs ys=ba true
 | [],[],_,h,_=>absurd rfl h
 | [],_::_,_,_,_=>rfl
 | _::_,[],_,_,h=>by cases h
 | x::xs,y::ys,hn,hne,h=>by
  simp only[dQ,KA]at hn;dsimp only[gF]at h ⊢
  by_cases e:x=y
  ·rw[La e.symm]at h;rw[La e];exact vC xs ys hn.2 (λz=>hne (by rw[e,z])) h
  ·rw[Li (Ne.symm e)]at h;rw[Li e];exact zu x y hn.1 e h
end
mutual
theorem zv:∀x y z:T,gk x=true->gk y=true->nI x y=ba true->nI y z=ba true->nI x z=ba true
 | .int a,.int b,.int c,_,_,h,h'=>by
  dsimp only[nI]at h h' ⊢; simp only[Lv,K5]at h h' ⊢
  omega
 | .tup xs,.tup ys,.tup zs,hn,hn',h,h'=>vD xs ys zs hn hn' h h'
 | .str _,_,_,h,_,_,_=>by cases h
 | .int _,.str _,_,_,_,h,_|.int _,.tup _,_,_,_,h,_|.tup _,.int _,_,_,_,h,_|.tup _,.str _,_,_,_,h,_=>by cases h
 | .int _,.int _,.str _,_,_,_,h|.int _,.int _,.tup _,_,_,_,h|.tup _,.tup _,.int _,_,_,_,h|.tup _,.tup _,.str _,_,_,_,h=>by cases h
theorem vD:∀xs ys zs:Kr T,dQ xs=true->dQ ys=true->gF xs ys=ba true->gF ys zs=ba true->gF xs zs=ba true
 | [],[],_,_,_,h,_=>by cases h
 | _::_,[],_,_,_,h,_=>by cases h
 | _,_::_,[],_,_,_,h=>by cases h
 | [],_::_,_::_,_,_,_,_=>rfl
 | x::xs,y::ys,z::zs,hn,hn',h,h'=>by
  simp only[dQ,KA]at hn hn';dsimp only[gF]at h h' ⊢
  by_cases e:x=y
  ·subst e;rw[La rfl]at h
   by_cases e':x=z
   ·rw[La e']at h' ⊢;exact vD xs ys zs hn.2 hn'.2 h h'
   ·rw[Li e']at h' ⊢;exact h'
  ·rw[Li e]at h
   by_cases e':y=z
   ·subst e';rw[Li e];exact h
   ·rw[Li e']at h';have t:=zv x y z hn.1 hn'.1 h h';have e2:x≠z:=λe2=>by
     subst e2;have:=qg x x hn.1 t;rw[t]at this; cases this
    rw[Li e2];exact t
end
noncomputable def ID (ks:Kr T):Prop:=ks.Pairwise λx y=>nI x y=ba true
noncomputable def fJ (ks:Kr T):Kr T:=d4 (rW ks) (.int 0) ks
structure Nice (ks:Kr T):Prop where
 num:∀x∈ks,gk x=true
 lt:iC ks=true
 nd:ks.Nodup
theorem Nice.lin {ks:Kr T}(h:Nice ks):Lin ks.length (rW ks):=by
 have nm:∀i (hi:i < ks.length),gk ks[i]=true:=λi hi=>h.num _ (LL hi)
 refine#[λi j k hi hj hk a b=>?_,λi j hi hj a=>?_,λi j hi hj hne a=>?_]
 ·have e1:=eZ h.lt hi hj;have e2:=eZ h.lt hj hk;have e3:=eZ h.lt hi hk;rw[a]at e1; rw[b]at e2
  rw[zv _ _ _ (nm i hi) (nm j hj) e1 e2]at e3;exact(LV e3).symm
 ·have e1:=eZ h.lt hi hj;have e2:=eZ h.lt hj hi;rw[a]at e1;rw[qg _ _ (nm i hi) e1]at e2;exact(LV e2).symm
 ·have e1:=eZ h.lt hj hi;have e2:=eZ h.lt hi hj;rw[a]at e1;have hne':ks[i]≠ks[j]:=λe=>by
   have pw:=N1.mp h.nd;rcases Ra hne with q|q
   ·exact pw i j hi hj q e
   ·exact pw j i hj hi q e.symm
  rw[zu _ _ (nm i hi) hne' e1]at e2;exact(LV e2).symm
theorem fj {α:Type}{lt:KC->KC->Lf}{d:α}{xs:Kr α}:(d4 lt d xs).Perm xs:=by
 unfold d4;split
 ·exact .refl _
 ·have p:Pm xs.length (cD lt (NB xs.length)):=qb (lG ∅)
  refine(Uy _ p).trans ?_;have:(K9 xs.length).map (λi=>xs.getD i d)=xs:=by
   apply OE
   ·simp
   ·intro k h1 h2; simp[h2]
  rw[this]
theorem jo {ks:Kr T}(h:Nice ks):ID (fJ ks):=by
 unfold fJ d4 ID;split
 ·rename_i hl
  match ks,hl with
  | [],_=>exact .nil
  | [x],_=>simp
  | _::_::_,hl=>simp only[LJ]at hl; omega
 ·rename_i hl;obtain⟨p,u⟩:=Cq h.lin ∅
  rw[N1];intro i j hi hj hij;rw[Kt,KW,p.size]at hi hj;have hn:0 < ks.length:=by exact Rz ‹_›
  have l:=u i j hij hj;have e1:=eZ h.lt (p.lt hn i) (p.lt hn j);have g:∀k (hk:k < ks.length),(cD (rW ks) (NB ks.length)).getD k 0=(cD (rW ks) (NB ks.length)).toList[k]'(by rw[KW,p.size]; exact hk):=λk hk=>by simp[Oc,p.size,hk]
  have l':rW ks ((cD (rW ks) (NB ks.length)).getD i 0) ((cD (rW ks) (NB ks.length)).getD j 0)=true:=l;rw[l']at e1;have gd:∀k (hk:k < ks.length),ks.getD k (.int 0)=ks[k]:=λk hk=>by simp[hk]
  simp only[RT];rw[<- g i hi,<- g j hj,gd _ (p.lt hn i),gd _ (p.lt hn j)];exact e1
theorem mo:∀ {a b:Kr T},(∀x∈a,gk x=true)->a.Perm b->ID a->ID b->a=b
 | [],b,_,p,_,_=>(Uj p)
 | x::a,[],_,p,_,_=>absurd p.length_eq (by simp)
 | x::a,y::b,hn,p,h,h'=>by
  have e:x=y:=by
   rcases Le.mp (p.mem_iff.mp (L3))with e|e
   ·exact e
   ·rcases Le.mp (p.mem_iff.mpr (L3))with e'|e'
    ·exact e'.symm
    ·have l1:=Pi h e';have l2:=Pi h' e;have:=qg _ _ (hn x (.head _)) l1;rw[l2]at this; cases this
  subst e;rw[mo (λz hz=>hn z (.tail _ hz)) ((List.perm_cons x).mp p) (Rb.mp h).2 (Rb.mp h').2]
theorem Nice.of_sub {ks us:Kr T}(h:Nice ks)(hs:∀x∈us,x∈ks)(hd:us.Nodup):Nice us:=by
 refine#[λx hx=>h.num x (hs x hx),?_,hd]
 have:=h.lt;unfold iC at this ⊢;rw[K2]at this ⊢;intro x hx;have h2:=this x (hs x hx);rw[K2]at h2 ⊢;exact λy hy=>h2 y (hs y hy)
theorem xm {us ks:Kr T}(h:Nice ks)(p:us.Perm ks):fJ us=fJ ks:=by
 have hu:Nice us:=h.of_sub (λx hx=>p.mem_iff.mp hx) (p.nodup_iff.mpr h.nd)
 have pu:(fJ us).Perm us:=fj;have pk:(fJ ks).Perm ks:=fj;exact mo (λx hx=>hu.num x (pu.mem_iff.mp hx)) (pu.trans (p.trans pk.symm)) (jo hu) (jo h)
theorem zw {us ks:Kr T}(h:Nice ks)(p:us.Sublist (fJ ks)):fJ us=us:=by
 have pk:(fJ ks).Perm ks:=fj;have hu:Nice us:=h.of_sub (λx hx=>pk.mem_iff.mp (p.subset hx)) (p.nodup (pk.nodup_iff.mpr h.nd))
 have pu:(fJ us).Perm us:=fj;exact mo (λx hx=>hu.num x (pu.mem_iff.mp hx)) pu (jo hu) ((jo h).sublist p)
mutual
noncomputable def oZ:T->KO
 | .int i=>hashInt i
 | .str _=>0
 | .tup xs=>reduceHash (NY (qh xs))
noncomputable def qh:Kr T->Kr KO
 | []=>[]
 | x::xs=>oZ x::qh xs
end
mutual
theorem r0 {w:Lz}:∀x:T,gk x=true->fG w x=oZ x
 | .int _,_=>rfl
 | .str _,h=>by cases h
 | .tup xs,h=>by simp only[fG,oZ]; rw[o4 xs h]
theorem o4 {w:Lz}:∀xs:Kr T,dQ xs=true->iJ w xs=qh xs
 | [],_=>rfl
 | x::xs,h=>by
  simp only[dQ,KA]at h;simp only[iJ,qh];rw[r0 x h.1,o4 xs h.2]
end
theorem r4 {w:Lz}:∀(ks:Kr T) (st:Lg (KO×T)×L1),(∀x∈ks,gk x=true)->ks.foldlM (bY (fG w)) st=ks.foldlM (bY oZ) st
 | [],_,_=>rfl
 | x::ks,st,h=>by
  rw[NA,NA];have e:bY (fG w) st x=bY oZ st x:=by unfold bY; rw[r0 x (h x (.head _))]
  rw[e];congr 1
  funext st'
  exact r4 ks st' λy hy=>h y (.tail _ hy)
noncomputable def r6 (l:Lf)(ks:Kr T):Kz (Lg (KO×T)×L1):=ks.foldlM (bY oZ) (#[],.fresh 0 0 l)
noncomputable def kW (ks:Kr T):Kz (Kr T):=match r6 true ks with
 | some r=>if gj r.2 r.1.size then ba (r.1.toList.map (·.2))else gV
 | none=>gV
noncomputable def gG (b:Lf)(t:L1):L1:={ t with led:=b }
theorem uu {b:Lf}{t:L1}{ha:KC->KO}{h:KO}:∀(f:KC) (p:O8),Pq (gG b t) ha h f p=Pq t ha h f p
 | 0,_=>rfl
 | f+1,p=>by
  unfold Pq;rw[show(gG b t).slot p.j=t.slot p.j from rfl]
  cases t.slot p.j with
  | empty=>rfl
  | dummy=>exact uu f _
  | live i=>
   dsimp only;split
   ·rfl
   ·exact uu f _
theorem kX {b:Lf}{es:Lg (KO×T)}{t:L1}{x:T}{h:KO}:∀(f:KC) (st:Kz O8),eH es (gG b t) x h f st=eH es t x h f st
 | 0,_=>rfl
 | f+1,st=>by
  unfold eH;have e:∀p,(gG b t).probe (λi=>(es[i]?.map (·.1)).getD 0) h p=t.probe (λi=>(es[i]?.map (·.1)).getD 0) h p:=λp=>uu _ _
  rw[show(gG b t).probeStart h=t.probeStart h from rfl,e]
  split
  ·rfl
  ·rfl
  ·rfl
  ·rename_i j i next _;cases es[i]? with
   | none=>rfl
   | some q=>
    dsimp only;split
    ·rfl
    ·rw[show(gG b t).slot j=t.slot j from rfl]
     split
     ·exact kX f _
     ·rfl
theorem uw {b:Lf}{t:L1}{hs:Lg KO}{n:KC}:(gG b t).relaid hs n=(t.relaid hs n).map λr=>(gG b r.1,r.2):=by
 unfold Um Uz;show(do let owner <- RA (Pa n - 1) hs; _)=_
 cases RA (Pa n - 1) hs <;> rfl
theorem uy {b:Lf}{hf:T->KO}{es:Lg (KO×T)}{t:L1}{x:T}:bY hf (es,gG b t) x=(bY hf (es,t) x).map λr=>(r.1,gG b r.2):=by
 unfold bY;dsimp only;rw[kX];cases eH es t x (hf x) 100 gV with
 | none=>rfl
 | some f=>
  cases f with
  | there=>rfl
  | free slot=>
   dsimp only;rw[show(gG b t).put slot=(gG b (t.put slot).1,(t.put slot).2)from rfl]
   dsimp only;rw[show ∀n,d0 (gG b (t.put slot).1) n=d0 (t.put slot).1 n from λ_=>rfl,show(gG b (t.put slot).1).tooFull=(t.put slot).1.tooFull from rfl,uw]
   split
   ·split
    ·split
     ·cases(t.put slot).1.relaid ((Lu es (t.put slot).2 (hf x,x)).map (·.1)) (Ot (es.size+1))with
      | none=>rfl
      | some q=>
       obtain⟨t2,order⟩:=q;dsimp only[Lw];rw[show ∀n,d0 (gG b t2) n=d0 t2 n from λ_=>rfl]
       split <;> rfl
     ·rfl
    ·rfl
   ·rfl
theorem r8 {b:Lf}{hf:T->KO}:∀(ks:Kr T) (es:Lg (KO×T)) (t:L1),ks.foldlM (bY hf) (es,gG b t)=(ks.foldlM (bY hf) (es,t)).map λr=>(r.1,gG b r.2)
 | [],_,_=>rfl
 | x::ks,es,t=>by
  rw[NA,NA,uy];cases bY hf (es,t) x with
  | none=>rfl
  | some r=>exact r8 ks r.1 r.2
theorem xn {ks us:Kr T}(h:kW ks=ba us)(l:Lf):∃r,r6 l ks=ba r/\r.1.toList.map (·.2)=us/\r.2.led=l/\(r.2.plain=true->gj r.2 r.1.size=true):=by
 unfold kW at h;have e:r6 l ks=(r6 true ks).map λr=>(r.1,gG l r.2):=r8 (b:=l) ks #[] (.fresh 0 0 true)
 cases hr:r6 true ks with
 | none=>rw[hr]at h; cases h
 | some r=>
  rw[hr]at h e;dsimp only at h;split at h
  ·rename_i hok;cases h;exact#[_,e,rfl,rfl,λ_=>hok]
  ·cases h
theorem qi {α:Type}{xs:Lg α}{p:KC}{x y:α}(h:y∈(Lu xs p x).toList):y∈xs.toList\/y=x:=by
 unfold Lu at h;rw[OU,Pn,Ln,Ln]at h;rcases h with(h|h)|h
 ·rw[NS]at h;refine .inl ?_;simp only[Tt]at h;exact NT (MY h)
 ·exact .inr (KS.mp h)
 ·rw[NS]at h;refine .inl ?_;simp only[Tt]at h;exact NT (MY h)
theorem uz {hf:T->KO}{es:Lg (KO×T)}{t:L1}{x:T}{r:Lg (KO×T)×L1}(h:bY hf (es,t) x=ba r):∀y∈r.1.toList,y∈es.toList\/y.2=x:=by
 intro y hy;unfold bY at h;dsimp only at h;split at h
 ·cases h
 ·cases h; exact .inl hy
 ·rename_i slot _;have ins:∀y∈(Lu es (t.put slot).2 (hf x,x)).toList,y∈es.toList\/y.2=x:=λy hy=>(qi hy).imp id λe=>by rw[e]
  split at h
  ·split at h
   ·split at h
    ·split at h
     ·cases h
     ·rename_i t2 order _;split at h
      ·cases h;refine ins y ?_;simp only[Array.toList_filterMap,O1]at hy;obtain⟨i,_,hi⟩:=hy;rw[NR];exact Oz hi
      ·cases h
    ·cases h
   ·cases h; exact ins y hy
  ·cases h
theorem r9 {hf:T->KO}:∀(ks:Kr T) (es:Lg (KO×T)) (t:L1) (r:Lg (KO×T)×L1),ks.foldlM (bY hf) (es,t)=ba r->∀y∈r.1.toList,y∈es.toList\/y.2∈ks
 | [],_,_,_,h,y,hy=>by cases h; exact .inl hy
 | x::ks,es,t,r,h,y,hy=>by
  rw[NA]at h;cases hs:bY hf (es,t) x with
  | none=>rw[hs]at h; cases h
  | some q=>
   rw[hs]at h;rcases r9 ks q.1 q.2 r h y hy with h1|h1
   ·rcases uz hs y h1 with h2|h2
    ·exact .inl h2
    ·exact .inr (h2 ▸ L3)
   ·exact .inr (.tail _ h1)
theorem zx {ks us:Kr T}(h:kW ks=ba us):∀k∈us,k∈ks:=by
 unfold kW at h;split at h
 ·rename_i r hr;split at h
  ·cases h;intro k hk;obtain⟨y,hy,rfl⟩:=K6.mp hk;rcases r9 ks _ _ r hr y hy with h1|h1
   ·simp at h1
   ·exact h1
  ·cases h
 ·cases h
noncomputable def zy (k:T):Lf:=gk k&&k.isTup&&decide (k.depth<=aC)
noncomputable def mq (xs:Kr W)(S:aa):Kz (W×aa):=match xs with
 | [.ref i]=>match ii S i with
  | some ws=>match W.ts ws with
   | some ks=>if ks.all zy then(kW ks).map λus=>(.ref S.length,S++[.stt us])else gV
   | none=>gV
  | none=>gV
 | _=>gV
noncomputable def Gq (S:aa)(i:KC):Kz (Kr T):=match S[i]? with
 | some (.stt us)=>ba us
 | _=>gV
noncomputable def mr (us:Kr T):Lf:=us.all gk&&iC us&&decide us.Nodup&&iN us
noncomputable def dE (xs:Kr W)(S:aa):Kz (W×aa):=match xs with
 | [.ref i]=>match Gq S i with
  | some us=>if mr us then ba (.ref S.length,S++[.lst (T.ws (fJ us))])else gV
  | none=>gV
 | _=>gV
noncomputable def mw (xs:Kr W)(S:aa):Kz (W×aa):=match xs with
 | [.ref i]=>match y8 S i with
  | some (lo,hi)=>if -(2 ^ 62)<=lo/\lo < 2 ^ 62/\-(2 ^ 62)<=hi/\hi < 2 ^ 62/\(hi - lo).toNat<=sizeLine then ba (.tup (Cm lo (hi - lo).toNat),S)else gV
  | none=>lW [.ref i] S
 | xs=>lW xs S
theorem zz:∀ks:Kr T,T.ws ks=ks.map T.w
 | []=>rfl
 | x::xs=>by simp only[T.ws,L0,zz xs]
theorem xo {h:LI}{us vs:Kr Ku}(p:us.Perm vs):∀ {ks:Kr T},IsTs h ks vs->∃js,IsTs h js us/\js.Perm ks:=by
 induction p with
 | nil=>intro ks i; exact#[ks,i,.refl _]
 | cons x p ih=>
  intro ks i;cases i with
  | cons a b=>obtain⟨js,h1,h2⟩:=ih b; exact#[_,.cons a h1,h2.cons _]
 | swap x y l=>
  intro ks i;cases i with
  | cons a b=>cases b with
   | cons b c=>exact#[_,.cons b (.cons a c),.swap _ _ _]
 | trans p q ih1 ih2=>
  intro ks i;obtain⟨js,h1,h2⟩:=ih2 i;obtain⟨is,h3,h4⟩:=ih1 h1;exact#[is,h3,h4.trans h2]
theorem zA {p:T->Lf}{js ks:Kr T}(h:js.Perm ks):js.all p=ks.all p:=by
 rw[OQ,K2,K2];exact#[λq x hx=>q x (h.mem_iff.mpr hx),λq x hx=>q x (h.mem_iff.mp hx)]
theorem zB {js ks:Kr T}(h:js.Perm ks):uq js=uq ks:=by unfold uq; simp only[zA h]
theorem jp:∀ {ks:Kr T} {d:KC},(∀x∈ks,x.depth<=d)->T.depths ks<=d
 | [],_,_=>Mm _
 | x::ks,d,h=>by
  have h1:=h x (.head _);have h2:=jp λy hy=>h y (.tail _ hy)
  simp only[T.depths]; omega
theorem o5 {h:LI}{js:Kr T}{us:Kr Ku}(r:IsTs h js us):∀is:Kr KC,(∀i∈is,i < js.length)->IsTs h (is.map λi=>js.getD i (.int 0)) (is.map λi=>us.getD i .none)
 | [],_=>.nil
 | i::is,hl=>by
  have hi:=hl i (.head _);have hi':i < us.length:=by rw[<- r.length]; exact hi
  have e1:js.getD i (.int 0)=js[i]:=by simp[hi]
  have e2:us.getD i .none=us[i]:=by simp[hi']
  have:=r.get i hi hi';refine .cons ?_ (o5 r is λj hj=>hl j (.tail _ hj))
  show IsT h (js.getD i (.int 0)) (us.getD i .none);rw[e1,e2]; exact this
theorem xp {h:LI}{lt:KC->KC->Lf}{js:Kr T}{us:Kr Ku}(r:IsTs h js us):IsTs h (d4 lt (.int 0) js) (d4 lt LG us):=by
 unfold d4;rw[<- r.length];split
 ·exact r
 ·exact o5 r _ λi hi=>lH ∅ i hi
section
variable{prog:Lk}{w:Lz}{A:Lr}{E:Ku->Kx->Prop}{s:Kx}
theorem nO {Q:Kr Ku->Kx->Prop}{r:KF}{a b c:KO}{t u v:UB}{n:KC}(hh:A.handled=gV)(hr:Ud s.heap r a b c t u v)(hsmall:OV a b c=true)
  (hn:MB a b c=n) (hlen:n<=2 ^ 24)
  (hQ:∀h' tk (acc:Lg Ku),(∀b o,s.heap.get? b=ba o->h'.get? b=ba o)->s.heap.objs.size<=h'.objs.size->P1 (λi v=>∃t,v=.int (a+i*c) t) acc n->Q acc.toList { s with heap:=h',toks:=tk }):wpAny (model prog w) A (collect (.ref r)) Q E s:=by
 unfold collect;refine Ks (Os (LW F.entry_proto_collect ?_));rw[LN F.plain_proto_collect _];show wpAny _ A.in1 (newList [] >>= λl=>again (.builtin "list.__iadd__" #[[l,.ref r],[]])) _ _ s
 refine Ks (LA ?_);refine Ky #[ME F.plain_list_iadd _,LW F.entry_list_iadd ?_];rw[LN F.plain_list_iadd _];show wpAny _ A.in1 (Mk (.ref s.heap.objs.size) (.ref r) (.ref s.heap.objs.size)) _ _ _;have hS:(s.heap.push { cls:=.type "list",data:=.seq ([]:Kr Ku).toArray }).get? s.heap.objs.size=ba { cls:=.type "list",data:=.seq #[] 0 }:=KT _ rfl;have fin':∀s',(∃h' tk acc c',s'={ s with heap:=h',toks:=tk }/\(∀b o,s.heap.get? b=ba o->h'.get? b=ba o)/\h'.get? s.heap.objs.size=ba { cls:=.type "list",dict:=gV,data:=.seq acc c',slots:=#[] }/\P1 (λi v=>∃t,v=.int (a+i*c) t) acc n)->wpAny (model prog w) A (do
   let o <- load s.heap.objs.size
   match o.data with
   | .seq xs _=>pure xs.toList
   | _=>unsupported "internal:collect") Q E s':=by
  rintro s' ⟨h',tk,acc,c',rfl,hk,hS',hacc⟩;exact Ks (PV hS' (Ky (hQ h' tk acc hk (MF (K1 hS')) hacc)))
 refine Mz (wpAny_extend_range (A:=A) (s:={ s with heap:=s.heap.push { cls:=.type "list",data:=.seq ([]:Kr Ku).toArray } }) (R:=λr s'=>r=.ok (.ret (.ref s.heap.objs.size))/\∃h' tk acc c',s'={ s with heap:=h',toks:=tk }/\(∀b o,s.heap.get? b=ba o->h'.get? b=ba o)/\h'.get? s.heap.objs.size=ba { cls:=.type "list",dict:=gV,data:=.seq acc c',slots:=#[] }/\P1 (λi v=>∃t,v=.int (a+i*c) t) acc n) hh (Kw _ hr) hsmall hn hlen _ _ 0 hS λh' tk acc' c' hk hS' hacc=>#[rfl,h',tk,acc',c',rfl,λb o e=>hk b o (K7 (K1 e)) (Kw _ e),hS',hacc]) (λfin s' h=>?_) (λe s' h=>?_)
 ·cases fin with
  | done f=>
   obtain⟨e,h⟩:=h;cases e;exact fin' s' h
  | again c'=>exact#[h.1,Ol h.2 λr s'' hr=>by obtain⟨rfl,hr⟩:=hr; exact fin' s'' hr]
 ·exact absurd h.1 (by simp)
theorem jT {Q₁:Ku->Kx->Prop}{r:KF}{a b c:KO}{t u v:UB}{n:KC}(hh:A.handled=gV)(hr:Ud s.heap r a b c t u v)(hsmall:OV a b c=true)
  (hn:MB a b c=n) (hlen:n<=2 ^ 24)
  (h:∀(h':LI) (tk:KC) (acc:Lg Ku),(∀b o,s.heap.get? b=ba o->h'.get? b=ba o)->s.heap.objs.size<=h'.objs.size->P1 (λi v=>∃t,v=.int (a+i*c) t) acc n->Q₁ (.ref h'.objs.size) { s with heap:=h'.push { cls:=.type "tuple",data:=.seq acc },toks:=tk }) :
  codeAny (model prog w) A (.call (.builtin "tuple.__new__") #[[.type "tuple",.ref r],[]]) (wants Q₁ E) s:=by
 refine P8 ?_;show wpAny _ A.in1 (do checkBuiltinCall "tuple.__new__" #[[.type "tuple",.ref r],[]]; again (.builtin "tuple.__new__" #[[.type "tuple",.ref r],[]])) _ _ s
 refine Ks (Og (F.newCall_tuple_1 _) (Ky #[ME F.plain_tuple_new _,LW F.entry_tuple_new ?_]));rw[LN F.plain_tuple_new _];have hsub:=PySem.sub_tuple_self;have hinit:=PySem.init_tuple_lookup;have hmh:=PySem.madeHere_tuple;have hTI:s.TypeIs (.ref r) "range":=#[_,hr,rfl];have hh1:A.in1.handled=gV:=by simp[hh]
 wp_walk using ND hTI,nO (A:=A.in1) hh1 hr hsmall hn hlen
 intro h' tk acc hk hle hacc;show wpAny _ _ (Mv acc.toList.toArray >>= λv=>ret v) _ _ _
 unfold Mv;refine Ks (LA ?_ (by show acc.toList.toArray.size<=sizeLine; simp only[Array.toArray_toList]; rw[hacc.1,LD]; assumption))
 refine Ky ?_;have e:acc.toList.toArray=acc:=by simp
 rw[e];exact h h' tk acc hk hle hacc
theorem jU {Q:Ku->Kx->Prop}{r:KF}{a b c:KO}{t u v:UB}{n:KC}(hh:A.handled=gV)(hr:Ud s.heap r a b c t u v)(hsmall:OV a b c=true)
  (hn:MB a b c=n) (hlen:n<=2 ^ 24)
  (hQ:∀(h':LI) (tk:KC) (acc:Lg Ku),(∀b o,s.heap.get? b=ba o->h'.get? b=ba o)->s.heap.objs.size<=h'.objs.size->P1 (λi v=>∃t,v=.int (a+i*c) t) acc n->Q (.ref h'.objs.size) { s with heap:=h'.push { cls:=.type "tuple",data:=.seq acc },toks:=tk }) :
  wpAny (model prog w) A (call (.type "tuple") [.ref r]) Q E s:=by
 refine callType_codes (Q₁:=λobj s₁=>s₁.TypeIs obj "tuple"/\Q obj s₁) F.called_tuple (F.typeCall_tuple_1 _) F.entry_object_init
  (jT (by simp[hh]) hr hsmall hn hlen λh' tk acc hk hle hacc=>#[#[_,KT _ rfl,rfl],hQ h' tk acc hk hle hacc]) λobj s₁ h₁=>?_
 exact#[h₁.1,F.args_object_init_2 obj _,object_init_meets F.called_tuple.init.lookup F.called_tuple.made #v[] prog w A.in1 _ s₁ #[h₁.1,rfl,h₁.2]]
theorem sa {a:KF}{o:Mp}{es:Lg (KO×Ku)}{ep:KC}{t:L1}{ks:Kr T}{Q:Ku->Kx->Prop}(hh:A.handled=gV)(hu:A.units+12 < cLine)(ho:s.heap.get? a=ba o)(hex:o.ExactSet)(hd:o.data=.set es ep t)(hz:es.size<=sizeLine)(fit:t.fits es.size=true)(led:t.led = !fU w)(pl:t.plain=true->es.size=0\/gj t es.size=true)
  (hT:IsTs s.heap ks (es.toList.map (·.2))) (hok:mr ks=true)
  (h:∀D h' tk dr c us,(∀b u,s.heap.get? b=ba u->h'.get? b=ba u)->s.heap.objs.size<=D->h'.get? D=ba (seqObj "list" us.toArray c)->IsTs s.heap (fJ ks) us->us.Perm (es.toList.map (·.2))->Q (.ref D) { s with heap:=h',toks:=tk,drawn:=dr }) :
  wpAny (model prog w) A (call (.builtin "sorted") [.ref a]) Q E s:=by
 simp only[mr,KA,K5]at hok;obtain⟨⟨⟨hnum,halt⟩,hnd⟩,hok⟩:=hok;have hN:Nice ks:=#[λx hx=>K2.mp hnum x hx,halt,hnd]
 refine NZ TN Tp Tq (Ts _) ?_;unfold NK.«sorted»;refine Ks (m:=checkCount "sorted" 1 1 _) (Ky ?_);refine Ks (rJ (A:=A.in1) (by simp[hh]) ho hex hd hz fit led pl λh1 tk dr us kp hle hP=>?_)
 obtain⟨js,hjs,hperm⟩:=xo hP hT;simp only[iN,KA,K5]at hok;obtain⟨⟨h64,hdp⟩,hok⟩:=hok;have hl:us.length=ks.length:=by rw[hjs.length.symm,hperm.length_eq]
 have hJ:Nice js:=hN.of_sub (λx hx=>hperm.mem_iff.mp hx) (hperm.nodup_iff.mpr hN.nd)
 have hsk:2<=us.length->(uq js).isSome=true:=λh2=>by
  have h3:(uq ks).isSome=true:=by
   rcases Mx _ _ ▸ hok with h|h
   ·simp only[K5]at h; omega
   ·simp only[KA]at h; exact h.1
  rw[zB hperm]; exact h3
 have hdj:T.depths js<=dh:=jp λx hx=>by
  obtain⟨i,hi,rfl⟩:=NQ.mp (hperm.mem_iff.mp hx);exact KQ (da i hi) hdp
 refine Ks (PC ?_ (by rw[LD]; omega))
 have hoL:(h1.push (seqObj "list" us.toArray 0)).get? h1.objs.size=ba (seqObj "list" us.toArray 0):=KT _ rfl;have kp2:∀b o,s.heap.get? b=ba o->(h1.push (seqObj "list" us.toArray 0)).get? b=ba o:=λb o e=>Kw _ (kp b o e)
 have hne:∀b o,s.heap.get? b=ba o->b≠h1.objs.size:=λb o e=>K7 (Lc (K1 e) hle)
 show wpAny _ _ _ _ _ { s with heap:=h1.push (seqObj "list" us.toArray 0),toks:=tk,drawn:=dr }
 refine Ks (LQ (LU SC #[_,hoL,rfl] Sc ?_ (SD _)));refine oU (s:={ s with heap:=h1.push (seqObj "list" us.toArray 0),toks:=tk,drawn:=dr }) (lt:=rW js) (κ:=vw ((uq js).getD 0)) hoL ∅ (λh2 h' hk Q hq=>?_) (λh2 h' hk i j hi hj Q hq=>?_) λh' c hk hD=>?_
 ·obtain⟨c,hc⟩:=LM.mp (hsk h2);rw[hc]at hq;exact zp (s:={ s with heap:=h',toks:=tk,drawn:=dr }) (hjs.kept λb o _ e=>hk b o (hne b o e) (kp2 b o e)) h2 hc hq
 ·obtain⟨c,hc⟩:=LM.mp (hsk h2);rw[hc];have hjl:=hjs.length;have hi':i < js.length:=∅
  have hj':j < js.length:=∅
  have g:=(hjs.kept (h':=h') λb o _ e=>hk b o (hne b o e) (kp2 b o e))
  have e1:us.getD i LG=us[i]:=by simp[hi]
  have e2:us.getD j LG=us[j]:=by simp[hj]
  rw[e1,e2];have b1:=da (ks:=js) i hi';have b2:=da (ks:=js) j hj';exact vy (s:={ s with heap:=h',toks:=tk,drawn:=dr }) (d:=dh) (c:=c) (by rw[aY,aY]; unfold dh; omega) (KQ ‹_› ‹_›) (KQ ‹_› ‹_›) (g.get i hi' hi) (g.get j hj' hj) (eZ hJ.lt hi' hj') (vz hc (LL hi') (LL hj')) hq
 ·refine#[_,rfl,Ky #[_,rfl,h _ h' tk dr c (d4 (rW js) LG us) (λb o e=>hk b o (hne b o e) (kp2 b o e)) hle hD ?_ (fj.trans hP)]]
  rw[<- xm hN hperm];exact xp hjs
end
section
variable{X:Cx}{pins:Kr (KF×Mp)}{σ:L2.St}{H:Hp}{s:Kx}{A:Kr KF}{S:aa}
theorem o7:∀as:Kr KF,Vals (as.map V.ref) (as.map Lq)
 | []=>.nil
 | _::as=>.cons rfl (o7 as)
theorem zC:∀ {ks:Kr T} {as:Kr KF},RelL X.K A H (T.ws ks) (as.map V.ref)->∀b∈as,∃k∈ks,Rel X.K A H k.w (.ref b)
 | [],[],_,_,h=>nomatch h
 | [],_::_,r,_,_=>nomatch r
 | _::_,[],r,_,_=>nomatch r
 | k::ks,a::as,r,b,h=>by
  cases r with
  | cons r1 r2=>
   rcases Le.mp h with rfl|h
   ·exact#[k,.head _,r1]
   ·obtain⟨k',h1,h2⟩:=zC r2 b h;exact#[k',.tail _ h1,h2]
theorem zD (I:Inv X pins σ H s):∀ {js:Kr T} {us:Kr Ku},IsTs s.heap js us->(∀u∈us,∃k b,u=Lq b/\Rel X.K A H (T.w k) (.ref b))->∃vs,RelL X.K A H (T.ws js) vs/\Vals vs us
 | _,_,.nil,_=>#[[],.nil,.nil]
 | _,_,.cons a b,h=>by
  obtain⟨k,c,rfl,r⟩:=h _ (.head _);obtain⟨vs,h1,h2⟩:=zD I b λu hu=>h u (.tail _ hu)
  have:IsT s.heap k (.ref c):=md I k r rfl;obtain rfl:=a.inj this;exact#[.ref c::vs,.cons r h1,.cons rfl h2]
theorem sd (hh:X.A.handled=gV)(hu:X.A.units+12 < cLine):LCall X (.builtin "sorted") dE:=by
 intro pins s σ H A S xs vs us w S' I so rl rv e;unfold dE at e;split at e
 ·rename_i i;obtain⟨a,ea,rfl⟩:=lD (xs:=[]) rl rv;split at e
  ·rename_i ks hs;split at e
   ·rename_i hb;cases e;unfold Gq at hs;split at hs
    ·rename_i us hx;cases hs;obtain⟨o,φ,as,q,⟨hex,es,ep,t,hd,hz,fit,led,pl,he⟩,r⟩:=so.obj i _ a hx ea;have ho:s.heap.get? a=ba o:=(show ObjOk X.prog X.w H s.heap a (.frz o (.ext φ))from I.hok a _ q).1
     have hT:IsTs s.heap ks (es.toList.map (·.2)):=by rw[he]; exact fI I ks r (o7 as)
     refine sa hh hu ho hex hd hz fit led pl hT hb λD h' tk dr c us hk hD oD hU hP=>?_
     obtain⟨vs,h1,h2⟩:=zD I hU λu hu=>by
      have:=hP.mem_iff.mp hu;rw[he]at this;obtain⟨b,hb,rfl⟩:=K6.mp this;obtain⟨k,_,rk⟩:=zC r b hb;exact#[k,b,rfl,rk]
     have hl:us.length<=sizeLine:=by rw[hP.length_eq,Kt,KW]; exact hz
     exact jj (u:=.lst vs) I so hk hD #[by rw[L2.Vals.length h2]; exact hl,us,c,h2,oD] λhn=>#[_,bv,h1.mono (dD hn)]
    ·cases hs
   ·cases e
  ·cases e
 ·cases e
theorem uA (hh:X.A.handled=gV)(hu:X.A.units+12 < cLine):LCall X (.type "set") mq:=by
 intro pins s σ H A S xs vs us w S' I so rl rv e;unfold mq at e;split at e
 ·rename_i i;obtain⟨a,ea,rfl⟩:=lD (xs:=[]) rl rv;split at e
  ·rename_i ws hw;split at e
   ·rename_i ks hs;split at e
    ·rename_i hb;rw[Kv]at e;obtain⟨us,hp,e⟩:=e;cases e;have hkk:∀x∈ks,gk x=true/\x.isTup=true/\x.depth<=aC:=λx hx=>by
      have:=K2.mp hb x hx;simp only[zy,KA,K5]at this;exact#[this.1.1,this.1.2,this.2]
     obtain⟨vs',h1,r1⟩:=c8 so hw ea;obtain⟨its,rv',p,hzz⟩:=I.list h1;have hws:T.ws ks=ws:=W.ts_w hs;rw[<- hws]at r1;have hT:IsTs s.heap ks its:=fI I ks r1 rv';obtain⟨res,hplay,hkeys,hled,hpl⟩:=xn hp (!fU X.w);have itm:∀(j:KC) (u:Ku),its[j]?=ba u->∃k b,ks[j]?=ba k/\u=Lq b/\Rel X.K A H (T.w k) (.ref b):=λj u hj=>by
      have hjl:=(KJ.mp hj).1;have hjk:j < ks.length:=by rw[hT.length]; exact hjl
      have hkw:(T.ws ks)[j]?=ba (T.w ks[j]):=by rw[zz,KD,KI hjk]; rfl
      obtain⟨v,hv,rkv⟩:=r1.get hkw;obtain⟨u',hu',ruv⟩:=L2.Vals.get rv' hv;rw[hj]at hu';cases hu';have ht:=(hkk _ (LL hjk)).2.1;generalize hk0:ks[j]=k0 at rkv ht;cases k0 with
      | int _=>cases ht
      | str _=>cases ht
      | tup ys=>
       cases rkv with
       | tup q1 q2=>
        obtain rfl:u=Lq _:=ruv;exact#[.tup ys,_,by rw[<- hk0]; exact KI hjk,rfl,.tup q1 q2]
     refine xg (ks:=ks) (res:=res) hh p.isList (by simpa using hT) (λx hx=>#[(hkk x hx).1,(hkk x hx).2.2]) (λj v hj=>?_) (by show _+aC < cLine; rw[aY,aY,aY]; unfold aC; omega) (by rw[r4 ks _ λx hx=>(hkk x hx).1]; exact hplay) λh' tk zs ep ho ez hok hz hy hk=>?_
     ·obtain⟨k,b,_,hb,_⟩:=itm j v (by simpa using hj)
      exact#[b,hb]
     ·have ezt:zs.toList.map (λz=>z.2.1)=us:=by
       rw[<- hkeys,<- ez,PL,MJ]; rfl
      have hsz:res.1.size=zs.size:=by rw[<- ez,L9]
      refine jj (dr:=s.drawn) (u:=.frz (ma X.w zs ep res.2) (.ext λh=>h.get? s.heap.objs.size=ba (ma X.w zs ep res.2))) I so hk (KH _) #[ho,ho,#[_,ho],λh1 h2 q k=>k _ q] λhn=>#[_,_,zs.toList.map λz=>z.2.2,bv,#[#[rfl,rfl,rfl],zs.map zV,ep,res.2,rfl,?_,?_,hled,?_,?_],?_]
      ·rw[L9,LD];simp only[d0,KA,K5]at hok;have:=hok.2; exact KQ ‹_› (KU rfl)
      ·rw[L9];simp only[d0,KA,K5]at hok;exact hok.1.1
      ·rw[L9,<- hsz]; exact λz=>.inr (hpl z)
      ·rw[PL,MJ,MJ]; rfl
      ·rw[<- ezt];have all:∀z∈zs.toList,Rel X.K (A++[s.heap.objs.size]) (cv H s.heap.objs.size (.frz (ma X.w zs ep res.2) (.ext λh=>h.get? s.heap.objs.size=ba (ma X.w zs ep res.2)))) (T.w z.2.1) (.ref z.2.2):=λz hz'=>by
        obtain⟨j,g1,g2⟩:=hy z hz';obtain⟨k,b,g3,g4,g5⟩:=itm j _ (by simpa using g2)
        rw[g1]at g3;cases g3; cases g4
        exact g5.mono (dD hn)
       clear hy ezt;generalize zs.toList=l at all
       induction l with
       | nil=>exact .nil
       | cons z l ih=>exact .cons (all z (.head _)) (ih λy hy=>all y (.tail _ hy))
    ·cases e
   ·cases e
  ·cases e
 ·cases e
theorem qj (hh:X.A.handled=gV):LCall X (.type "tuple") mw:=by
 intro pins s σ H A S xs vs us w S' I so rl rv e;unfold mw at e;split at e
 ·rename_i i;split at e
  ·rename_i lo hi hr;split at e
   ·rename_i hb;cases e;obtain⟨a,ea,rfl⟩:=lD (xs:=[]) rl rv;obtain⟨b1,b2,b3,b4,b5⟩:=hb;have hH:H a=ba (.rng lo hi):=by
     unfold y8 at hr;split at hr
     ·rename_i hx; cases hr; exact so.obj i _ a hx ea
     ·cases hr
    obtain⟨t,u,v,ho⟩:=I.hok a _ hH;have hn:MB lo hi 1=((hi - lo).toNat:KC):=by rw[QN]; split <;> omega
    refine jU hh ho (Td b1 b2 b3 b4) hn b5 λh' tk acc hk hle hacc=>?_
    have hv:Vals ((K9 (hi - lo).toNat).map λ(k:KC)=>V.int (lo+(k:KO))) acc.toList:=by
     refine pZ (by rw[Kt,Ls,KW,hacc.1]) λi v u e1 e2=>?_
     rw[KD,Kv]at e1;obtain⟨k,e1,rfl⟩:=e1;obtain⟨hk,rfl⟩:=KJ.mp e1;obtain⟨t,rfl⟩:=hacc.2 i u (by rw[<- L5]; exact e2)
     exact#[t,by simp]
    have hnn:H h'.objs.size=gV:=I.hok.fresh hle;refine#[.ref h'.objs.size,_,A,I.laid (a:=h'.objs.size) (o:=.tup ((K9 (hi - lo).toNat).map λ(k:KC)=>V.int (lo+(k:KO)))) (t':=tk) (λb o e=>Kw _ (hk b o e)) hle #[by simpa using b5,acc.toList,hv,?_],rfl,dU (.inl hnn),so.lay hnn,.tup (.inl (.inl bv)) (p4 _)]
    exact#[_,KT _ rfl,rfl,0,by simp]
   ·cases e
  ·exact kP pins s σ H A S _ vs us w S' I so rl rv e
 ·exact kP pins s σ H A S _ vs us w S' I so rl rv e
end
section
variable{X:Cx}{pins:Kr (KF×Mp)}{σ:L2.St}{H:Hp}{s:Kx}{A:Kr KF}{S:aa}
theorem xq (hh:X.A.handled=gV)(hu:X.A.units+12 < cLine):LCall X (.builtin "min") Co:=by
 intro pins s σ H A S xs vs us w S' I so rl rv e;cases rl with
 | nil=>cases e
 | cons r t=>
  cases t with
  | cons _ _=>cases r <;> cases e
  | nil=>
   cases rv with
   | cons ru rv2=>
    cases rv2;cases r with
    | ref ea=>
     simp only[Co]at e;split at e
     ·rename_i ws hw;split at e
      ·rename_i ks hk;split at e
       ·rename_i hc;rw[Kv]at e;obtain⟨w',e1,e2⟩:=e;cases e2;obtain⟨vs',h1,r1⟩:=c8 so hw ea;obtain⟨its,rv1,p,hz⟩:=I.list h1;obtain rfl:_=Lq _:=ru;have hws:T.ws ks=ws:=W.ts_w hk;have hT:IsTs s.heap ks its:=fI I ks (hws ▸ r1) rv1;have hl:its.length=ks.length:=hT.length.symm;have hlw:ws.length=ks.length:=by rw[r1.length,L2.Vals.length rv1,hl]
        have hn:0 < ks.length:=by
         have:=(KJ.mp e1).1;omega
        refine zm (items:=its.toArray) (bt:=rW ks) hh p.isList (by simpa [hl]using hn) (λi j vi vj s' Q E hk' hi hj hq=>?_) λv h' tk hv hk'=>?_
        ·have hi':i < ks.length:=by
          have:=(Mo.mp hi).1
          simpa [hl]using this
         have hj':j < ks.length:=by
          have:=(Mo.mp hj).1
          simpa [hl]using this
         have g:=hT.kept (h':=s'.heap) λb o _ e=>hk' b o e
         have e1:vi=its[i]'∅:=by
          have:=(Mo.mp hi).2
          simpa using this.symm
         have e2:vj=its[j]'∅:=by
          have:=(Mo.mp hj).2
          simpa using this.symm
         subst e1 e2;have b1:=da (ks:=ks) i hi';have b2:=da (ks:=ks) j hj';exact Hg dh _ _ _ _ X.A.in1 s' _ ∅ ∅ (g.get i hi' ∅) (g.get j hj' ∅) (by rw[aY]; unfold dh; omega) (eZ hc.2 hi' hj') X.prog X.w _ _ hq
        ·have hv':its[qc ks]?=ba v:=by
          have:its.toArray.size=ks.length:=by simpa using hl
          rw[this]at hv
          simpa [qc]using hv
         obtain⟨v',q1,q2⟩:=r1.get e1;obtain⟨u',q3,q4⟩:=L2.Vals.get rv1 q1;rw[hv']at q3;cases q3;exact#[v',H,A,I.kept hk',q4,.refl,so,q2]
       ·cases e
      ·cases e
     ·cases e
    | _=>cases e
theorem o8:∀ {ws:Kr W} {bs:Kr Lf},iO ws=ba bs->ws=bs.map W.bl
 | [],bs,h=>by cases h; rfl
 | .bl b::ws,bs,h=>by
  simp only[iO,Kv]at h;obtain⟨r,h1,h2⟩:=h;subst h2;rw[o8 h1]; rfl
 | .non::_,_,h|.int _::_,_,h|.str _::_,_,h|.tup _::_,_,h|.ref _::_,_,h=>by cases h
theorem uB {bs:Kr Lf}{vs:Kr V}{us:Kr Ku}(r:RelL X.K A H (bs.map W.bl) vs)(rv:Vals vs us):us=bs.map NN:=by
 induction bs generalizing vs us with
 | nil=>cases r; cases rv; rfl
 | cons b bs ih=>
  cases r with
  | cons r1 r2=>
   cases rv with
   | cons v1 v2=>
    cases r1;obtain rfl:_=NN b:=v1;rw[ih r2 v2]; rfl
theorem xr (bs:Kr Lf):(K9 bs.length).all (λi=>bs.getD i false)=bs.all id:=by
 induction bs with
 | nil=>rfl
 | cons b bs ih=>simp[PZ,Tl,RB]at ih ⊢; rw[ih]
theorem Fc {id:L8}{fb:Kr Lf->Lf}{g:Kr W->aa->Kz (W×aa)}(hg:∀xs S,g xs S=match xs with|[.ref i]=>(match ii S i with|some ws=>(iO ws).map λbs=>(.bl (fb bs),S)|none=>gV)|_=>gV)
  (hcall:∀ {s:Kx} {x:Ku} {Q:Ku->Kx->Prop} {E:Ku->Kx->Prop} {bs:Kr Lf},wpAny (model X.prog X.w) X.A.in1 (pyIter x) (λit s₂=>∃I fp wr P St,it=.ref I/\R0 X.prog X.w X.A.in1 I fp wr bs.length P St/\St 0 s₂.heap/\TruthOf X.prog X.w X.A.in1 P (λi=>bs.getD i false)/\
   ∀h' tk,(∀b o,b∉wr->s₂.heap.get? b=ba o->h'.get? b=ba o)->Q (.bool (fb bs)) { s₂ with heap:=h',toks:=tk }) E s->wpAny (model X.prog X.w) X.A (call (.builtin id) [x]) Q E s)
  (hh:X.A.handled=gV):LCall X (.builtin id) g:=by
 intro pins s σ H A S xs vs us w S' I so rl rv e;rw[hg]at e;cases rl with
 | nil=>cases e
 | cons r t=>
  cases t with
  | cons _ _=>cases r <;> cases e
  | nil=>
   cases rv with
   | cons ru rv2=>
    cases rv2;cases r with
    | @ref ri ad ea=>
     simp only at e;split at e
     ·rename_i ws hw;rw[Kv]at e;obtain⟨bs,e1,e2⟩:=e;cases e2;obtain⟨vs',h1,r1⟩:=c8 so hw ea;obtain⟨its,rv1,p,hz⟩:=I.list h1;obtain rfl:_=Lq _:=ru;rw[o8 e1]at r1;have hits:=uB r1 rv1;refine hcall (bs:=bs) ?_;refine Ov p.isList ?_;have hlt:ad < s.heap.objs.size:=by obtain⟨_,ho,_⟩:=p.isList; exact K1 ho
      have W:=SA (prog:=X.prog) (w:=X.w) (A:=X.A.in1) hh s.heap.objs.size ad (K7 hlt) its.toArray;have hsz:its.toArray.size=bs.length:=by rw[KR,hits,Kt]
      rw[hsz]at W;refine#[_,_,_,_,_,rfl,W,#[#[_,KT _ rfl,rfl,rfl],?_],λi v s' Q E hi hq=>?_,λh' tk hk=>?_]
      ·obtain⟨o,ho,hc⟩:=p.isList;exact#[o,Kw _ ho,hc]
      ·have hb:bs[i]?.map NN=ba v:=by rw[<- KD,<- hits]; simpa using hi
       cases q:bs[i]? with
       | none=>rw[q]at hb; cases hb
       | some b=>
        rw[q]at hb;cases hb;have eb:bs.getD i false=b:=by simp[q]
        have hq:Q (bs.getD i false) s':=hq;rw[eb]at hq;exact M1 hq
      ·refine#[.bl (fb bs),H,A,I.kept (λb o e=>hk b o (λz=>?_) (Kw _ e)),rfl,.refl,so,.bl]
       have hb:=K1 e;rw[KS.mp z]at hb;exact Mg _ hb
     ·cases e
    | _=>cases e
theorem xt (hh:X.A.handled=gV):LCall X (.builtin "all") Cp:=
 Fc (fb:=λbs=>bs.all id) (λxs S=>rfl) (λ{s x Q E bs} h=>call_all_walk (Mz h (λit s₂ #[I,fp,wr,P,St',a,b,c,d,f]=>#[I,fp,wr,_,P,St',_,a,b,c,d,λh' tk hk=>by rw[xr]; exact f h' tk hk]) λ_ _ e=>e)) hh
end
noncomputable abbrev FA:=Fm->aa->Kz (Kr W×aa)
noncomputable abbrev FT:=Fm->aa->Kz (Lf×aa)
inductive Out where
 | nx (ρ:Fm)|rt (w:W)|bk (ρ:Fm)|ct (ρ:Fm)
noncomputable abbrev FS:=Fm->aa->Kz (Out×aa)
section
variable (X:Cx)
noncomputable def tE (f:FE):TE:=λσ H Q=>∃A ρ S w S',EnvRel X.K A H ρ σ/\StoreOk X.w X.K A H S/\f ρ S=ba (w,S')/\∀v H',EndV X.w X.K A H S' w v H'->Q v H'
noncomputable def EndB (A:Kr KF)(H:Hp)(S':aa)(k:Lf):Lf->Hp->Prop:=λb H'=>b=k/\∃A',Ext X.K A H A' H'/\StoreOk X.w X.K A' H' S'
noncomputable def tT (f:FT):TT:=λσ H Q=>∃A ρ S k S',EnvRel X.K A H ρ σ/\StoreOk X.w X.K A H S/\f ρ S=ba (k,S')/\∀b H',EndB X A H S' k b H'->Q b H'
noncomputable def Fd (A:Kr KF)(H:Hp)(S':aa)(ws:Kr W):Kr V->Hp->Prop:=λvs H'=>∃A',Ext X.K A H A' H'/\StoreOk X.w X.K A' H' S'/\RelL X.K A' H' ws vs
noncomputable def tA (f:FA):TA:=λσ H Q=>∃A ρ S ws S',EnvRel X.K A H ρ σ/\StoreOk X.w X.K A H S/\f ρ S=ba (ws,S')/\∀vs H',Fd X A H S' ws vs H'->Q vs H'
noncomputable def EndS (A:Kr KF)(H:Hp)(o:Out)(S':aa):Ends where
 nx:=λσ' H'=>∃ρ' A',o=.nx ρ'/\Ext X.K A H A' H'/\StoreOk X.w X.K A' H' S'/\EnvRel X.K A' H' ρ' σ'
 rt:=λv H'=>∃w A',o=.rt w/\Ext X.K A H A' H'/\StoreOk X.w X.K A' H' S'/\Rel X.K A' H' w v
 bk:=λσ' H'=>∃ρ' A',o=.bk ρ'/\Ext X.K A H A' H'/\StoreOk X.w X.K A' H' S'/\EnvRel X.K A' H' ρ' σ'
 ct:=λσ' H'=>∃ρ' A',o=.ct ρ'/\Ext X.K A H A' H'/\StoreOk X.w X.K A' H' S'/\EnvRel X.K A' H' ρ' σ'
structure Imp (E D:Ends):Prop where
 nx:∀σ H,E.nx σ H->D.nx σ H
 rt:∀v H,E.rt v H->D.rt v H
 bk:∀σ H,E.bk σ H->D.bk σ H
 ct:∀σ H,E.ct σ H->D.ct σ H
noncomputable def tS (f:FS):TS:=λD σ H=>∃A ρ S o S',EnvRel X.K A H ρ σ/\StoreOk X.w X.K A H S/\f ρ S=ba (o,S')/\Imp (EndS X A H o S') D
noncomputable abbrev GE (e:Lb)(f:FE):Prop:=PE X e (tE X f)
noncomputable abbrev GT (e:Lb)(f:FT):Prop:=PT X e (tT X f)
noncomputable abbrev GW (e:Lb)(f:FT):Prop:=PW X e (tT X f)
noncomputable abbrev GA (es:Kr Lb)(f:FA):Prop:=PA X es (tA X f)
noncomputable abbrev GS (st:No)(f:FS):Prop:=PS X st (tS X f)
noncomputable abbrev GSs (sts:Kr No)(f:FS):Prop:=PSs X sts (tS X f)
end
theorem Imp.trans {E D F:Ends}(a:Imp E D)(b:Imp D F):Imp E F:=#[λ_ _ h=>b.nx _ _ (a.nx _ _ h),λ_ _ h=>b.rt _ _ (a.rt _ _ h),λ_ _ h=>b.bk _ _ (a.bk _ _ h),λ_ _ h=>b.ct _ _ (a.ct _ _ h)]
section
variable{X:Cx}
theorem GE.of {e:Lb}{t:TE}{f:FE}(h:PE X e t)(hf:∀(σ:L2.St) (H:Hp) (A:Kr KF) (ρ:Fm) (S:aa) (w:W) (S':aa),EnvRel X.K A H ρ σ->StoreOk X.w X.K A H S->f ρ S=ba (w,S')->∀Q:VK,(∀v H',EndV X.w X.K A H S' w v H'->Q v H')->t σ H Q):GE X e f:=
 λpins s σ H Q I #[A,ρ,S,w,S',er,so,e1,hq]=>h pins s σ H Q I (hf σ H A ρ S w S' er so e1 Q hq)
theorem GT.of {e:Lb}{t:TT}{f:FT}(h:PT X e t)(hf:∀(σ:L2.St) (H:Hp) (A:Kr KF) (ρ:Fm) (S:aa) (k:Lf) (S':aa),EnvRel X.K A H ρ σ->StoreOk X.w X.K A H S->f ρ S=ba (k,S')->∀Q:Lf->Hp->Prop,(∀b H',EndB X A H S' k b H'->Q b H')->t σ H Q):GT X e f:=
 λpins s σ H Q I #[A,ρ,S,w,S',er,so,e1,hq]=>h pins s σ H Q I (hf σ H A ρ S w S' er so e1 Q hq)
theorem GW.of {e:Lb}{t:TT}{f:FT}(h:PW X e t)(hf:∀(σ:L2.St) (H:Hp) (A:Kr KF) (ρ:Fm) (S:aa) (k:Lf) (S':aa),EnvRel X.K A H ρ σ->StoreOk X.w X.K A H S->f ρ S=ba (k,S')->∀Q:Lf->Hp->Prop,(∀b H',EndB X A H S' k b H'->Q b H')->t σ H Q):GW X e f:=
 λwh pins s σ H Q I #[A,ρ,S,w,S',er,so,e1,hq]=>h wh pins s σ H Q I (hf σ H A ρ S w S' er so e1 Q hq)
theorem GA.of {es:Kr Lb}{t:TA}{f:FA}(h:PA X es t)(hf:∀(σ:L2.St) (H:Hp) (A:Kr KF) (ρ:Fm) (S:aa) (ws:Kr W) (S':aa),EnvRel X.K A H ρ σ->StoreOk X.w X.K A H S->f ρ S=ba (ws,S')->∀Q:Kr V->Hp->Prop,(∀vs H',Fd X A H S' ws vs H'->Q vs H')->t σ H Q):GA X es f:=
 λpos pins s σ H Q I #[A,ρ,S,w,S',er,so,e1,hq]=>h pos pins s σ H Q I (hf σ H A ρ S w S' er so e1 Q hq)
theorem GS.of {st:No}{t:TS}{f:FS}(h:PS X st t)(hf:∀(σ:L2.St) (H:Hp) (A:Kr KF) (ρ:Fm) (S:aa) (o:Out) (S':aa),EnvRel X.K A H ρ σ->StoreOk X.w X.K A H S->f ρ S=ba (o,S')->∀D:Ends,Imp (EndS X A H o S') D->t D σ H):GS X st f:=
 λpins s σ H D I #[A,ρ,S,o,S',er,so,e1,hq]=>h pins s σ H D I (hf σ H A ρ S o S' er so e1 D hq)
theorem GSs.of {st:Kr No}{t:TS}{f:FS}(h:PSs X st t)(hf:∀(σ:L2.St) (H:Hp) (A:Kr KF) (ρ:Fm) (S:aa) (o:Out) (S':aa),EnvRel X.K A H ρ σ->StoreOk X.w X.K A H S->f ρ S=ba (o,S')->∀D:Ends,Imp (EndS X A H o S') D->t D σ H):GSs X st f:=
 λpins s σ H D I #[A,ρ,S,o,S',er,so,e1,hq]=>h pins s σ H D I (hf σ H A ρ S o S' er so e1 D hq)
theorem EndV.after {A A1:Kr KF}{H H1:Hp}{S':aa}{w:W}{v:V}{H':Hp}(e:Ext X.K A H A1 H1)(h:EndV X.w X.K A1 H1 S' w v H'):EndV X.w X.K A H S' w v H':=by
 obtain⟨A',x,y,z⟩:=h;exact#[A',e.trans x,y,z]
theorem EndB.after {A A1:Kr KF}{H H1:Hp}{S':aa}{k b:Lf}{H':Hp}(e:Ext X.K A H A1 H1)(h:EndB X A1 H1 S' k b H'):EndB X A H S' k b H':=by
 obtain⟨h1,A',x,y⟩:=h;exact#[h1,A',e.trans x,y]
theorem EndS.after {A A1:Kr KF}{H H1:Hp}{S':aa}{o:Out}(e:Ext X.K A H A1 H1):Imp (EndS X A1 H1 o S') (EndS X A H o S'):=
 #[λ_ _ #[ρ',A',a,b,c,d]=>#[ρ',A',a,e.trans b,c,d],λ_ _ #[ρ',A',a,b,c,d]=>#[ρ',A',a,e.trans b,c,d],λ_ _ #[ρ',A',a,b,c,d]=>#[ρ',A',a,e.trans b,c,d],λ_ _ #[ρ',A',a,b,c,d]=>#[ρ',A',a,e.trans b,c,d]]
noncomputable def fC (w:W):FE:=λ_ S=>ba (w,S)
noncomputable def fV (i:KC):FE:=λρ S=>match ρ[i]? with
 | some (ba w)=>ba (w,S)
 | _=>gV
theorem sf {e:Lb}{v:V}{w:W}(h:PE X e (tC v))(r:∀A H,Rel X.K A H w v):GE X e (fC w):=
 GE.of h λσ H A ρ S w' S' er so e Q hq=>by cases e; exact hq _ _ (.here so (r A H))
theorem Jt {i:KC}{e:Lb}(h:PE X e (Eu i)):GE X e (fV i):=GE.of h λσ H A ρ S w S' er so e Q hq=>by
 unfold fV at e;split at e
 ·rename_i w' hw;cases e;obtain⟨v,h1,h2⟩:=er.2 i _ hw;exact#[v,h1,hq _ _ (.here so h2)]
 ·cases e
noncomputable def Cr (g:W->W->aa->Kz (W×aa))(fa fb:FE):FE:=λρ S=>match fa ρ S with
 | some (x,S1)=>match fb ρ S1 with
  | some (y,S2)=>g x y S2
  | none=>gV
 | none=>gV
theorem IE {fa fb:FE}{g:W->W->aa->Kz (W×aa)}{ρ:Fm}{S:aa}{r:W×aa}(e:Cr g fa fb ρ S=ba r):∃x S1 y S2,fa ρ S=ba (x,S1)/\fb ρ S1=ba (y,S2)/\g x y S2=ba r:=by
 unfold Cr at e;split at e
 ·rename_i x S1 h1;split at e
  ·rename_i y S2 h2;exact#[x,S1,y,S2,h1,h2,e]
  ·cases e
 ·cases e
theorem jq {fa fb:FE}{ρ:Fm}{S S1 S2:aa}{x y:W}{σ:L2.St}{H:Hp}{A:Kr KF}{R:V->V->Hp->Prop}(er:EnvRel X.K A H ρ σ)(so:StoreOk X.w X.K A H S)(h1:fa ρ S=ba (x,S1))(h2:fb ρ S1=ba (y,S2))
  (h:∀a b H2 A2,Ext X.K A H A2 H2->StoreOk X.w X.K A2 H2 S2->Rel X.K A2 H2 x a->Rel X.K A2 H2 y b->R a b H2):tE X fa σ H λa H1=>tE X fb σ H1 λb H2=>R a b H2:=by
 refine#[A,ρ,S,x,S1,er,so,h1,λa H1 #[A1,e1,o1,r1]=>?_]
 refine#[A1,ρ,S1,y,S2,er.mono e1,o1,h2,λb H2 #[A2,e2,o2,r2]=>?_]
 exact h a b H2 A2 (e1.trans e2) o2 (r1.mono e2) r2
theorem LOp.opr {f:Ku->Ku->Tz Ku}{g:W->W->aa->Kz (W×aa)}(h:LOp X f g):OpR X f (λa b H Q=>∃A S x y w S',StoreOk X.w X.K A H S/\Rel X.K A H x a/\Rel X.K A H y b/\g x y S=ba (w,S')/\∀v H',EndV X.w X.K A H S' w v H'->Q v H'):=by
 intro pins s σ H a b u v Q I ru rv ⟨A,S,x,y,w,S',so,rx,ry,e,hq⟩;exact ce (h pins s σ H A S x y a b u v w S' I so rx ru ry rv e) λu' s' #[v',H',A',I',r',e1,o1,z1]=>#[v',H',I',r',hq v' H' #[A',e1,o1,z1]]
theorem DW {a b:Lb}{op:Rl}{pos:M9}{fa fb:FE}{g:W->W->aa->Kz (W×aa)}(ho:LOp X (binaryOp op) g)(ha:GE X a fa)(hb:GE X b fb):GE X (.BinOp a op b pos) (Cr g fa fb):=
 GE.of (GR ho.opr ha hb) λσ H A ρ S w S' er so e Q hq=>by
  obtain⟨x,S1,y,S2,h1,h2,h3⟩:=IE e;exact jq er so h1 h2 λa b H2 A2 e2 o2 r1 r2=>#[A2,S2,x,y,w,S',o2,r1,r2,h3,λv H' z=>hq v H' (z.after e2)]
noncomputable def zE (fa:FE):FE:=λρ S=>match fa ρ S with
 | some (.int i,S1)=>ba (.int (-i),S1)
 | _=>gV
theorem zF {a:Lb}{pos:M9}{fa:FE}(ha:GE X a fa):GE X (.UnaryOp .USub a pos) (zE fa):=
 GE.of (GU EU ha) λσ H A ρ S w S' er so e Q hq=>by
  unfold zE at e;split at e
  ·rename_i i S1 h1;cases e;refine#[A,ρ,S,_,_,er,so,h1,λv H1 #[A1,e1,o1,r1]=>?_]
   cases r1;exact#[_,rfl,hq _ _ #[A1,e1,o1,.int]]
  ·cases e
noncomputable def Cs (o:COp)(fa fb:FE):FE:=Cr (cM o) fa fb
theorem Fe {a b:Lb}{o:COp}{pos:M9}{fa fb:FE}(hu:X.A.units+iK < cLine)(ha:GE X a fa)(hb:GE X b fb)(hm:behindInMarks o.py b=false):GE X (.Compare a [o.py] [b] pos) (Cs o fa fb):=
 GE.of (BO (rP hu o).opr ha hb hm) λσ H A ρ S w S' er so e Q hq=>by
  obtain⟨x,S1,y,S2,h1,h2,h3⟩:=IE e;exact jq er so h1 h2 λa b H2 A2 e2 o2 r1 r2=>#[A2,S2,x,y,w,S',o2,r1,r2,h3,λv H' z=>hq v H' (z.after e2)]
noncomputable def zG (f:FE):FT:=λρ S=>match f ρ S with
 | some (.bl k,S')=>ba (k,S')
 | _=>gV
theorem Ff {a b:Lb}{o:COp}{pos:M9}{fa fb:FE}(hu:X.A.units+iK < cLine)(ha:GE X a fa)(hb:GE X b fb)(hm:behindInMarks o.py b=false):GT X (.Compare a [o.py] [b] pos) (zG (Cs o fa fb)):=
 GT.of (BP (rP hu o).opr ha hb hm) λσ H A ρ S k S' er so e Q hq=>by
  unfold zG at e;split at e
  ·rename_i k' S'' h0;cases e;obtain⟨x,S1,y,S2,h1,h2,h3⟩:=IE h0;refine jq er so h1 h2 λa b H2 A2 e2 o2 r1 r2=>#[A2,S2,x,y,_,_,o2,r1,r2,h3,λv H' #[A',z1,z2,z3]=>?_]
   cases z3;exact#[k,rfl,hq _ _ #[rfl,A',e2.trans z1,z2]]
  ·cases e
noncomputable def im (f:FE):FT:=λρ S=>match f ρ S with
 | some (w,S')=>(gE S' w).map λk=>(k,S')
 | none=>gV
theorem dq {e:Lb}{f:FE}(h:GE X e f)(he:∀whole,isTrue e X.env whole=(do let v <- whole; standAt e.pos; holding [v] (truthy v))):GT X e (im f):=by
 intro pins s σ H Q I ⟨A,ρ,S,k,S',er,so,e1,hq⟩;unfold im at e1;split at e1
 ·rename_i w S1 h1;rw[Kv]at e1;obtain⟨k',ek,e2⟩:=e1;cases e2;refine isTrue_plain (ce (h pins s σ H (EndV X.w X.K A H _ w) I #[A,ρ,S,w,_,er,so,h1,λ_ _ z=>z]) λv s1 #[x,H1,I1,r1,A1,e1,o1,z1]=>?_) (he _)
  exact Jr I1 o1 z1 r1 ek λs' I'=>#[H1,I',hq _ _ #[rfl,A1,e1,o1]]
 ·cases e1
noncomputable def zH (f g:FT):FT:=λρ S=>match f ρ S with
 | some (true,S1)=>g ρ S1
 | some (false,S1)=>ba (false,S1)
 | none=>gV
noncomputable def Hh (f g:FT):FT:=λρ S=>match f ρ S with
 | some (true,S1)=>ba (true,S1)
 | some (false,S1)=>g ρ S1
 | none=>gV
noncomputable def Ct (f:FT):FT:=λρ S=>match f ρ S with
 | some (k,S1)=>ba (!k,S1)
 | none=>gV
theorem zI {f g:FT}{σ:L2.St}{H:Hp}{A:Kr KF}{ρ:Fm}{S:aa}{k:Lf}{S':aa}(er:EnvRel X.K A H ρ σ)(so:StoreOk X.w X.K A H S)(e:zH f g ρ S=ba (k,S'))(Q:Lf->Hp->Prop)(hq:∀b H',EndB X A H S' k b H'->Q b H') :
  Gy (tT X f) (tT X g) σ H Q:=by
 unfold zH at e;split at e
 ·rename_i S1 h1;refine#[A,ρ,S,true,S1,er,so,h1,λb H1 #[z0,A1,z1,z2]=>?_]
  subst z0;rw[La rfl];exact#[A1,ρ,S1,k,S',er.mono z1,z2,e,λb H' q=>hq b H' (q.after z1)]
 ·rename_i S1 h1;cases e;refine#[A,ρ,S,false,_,er,so,h1,λb H1 #[z0,A1,z1,z2]=>?_]
  subst z0;rw[Li K8];exact hq _ _ #[rfl,A1,z1,z2]
 ·cases e
theorem Cu {f g:FT}{σ:L2.St}{H:Hp}{A:Kr KF}{ρ:Fm}{S:aa}{k:Lf}{S':aa}(er:EnvRel X.K A H ρ σ)(so:StoreOk X.w X.K A H S)(e:Hh f g ρ S=ba (k,S'))(Q:Lf->Hp->Prop)(hq:∀b H',EndB X A H S' k b H'->Q b H') :
  J4 (tT X f) (tT X g) σ H Q:=by
 unfold Hh at e;split at e
 ·rename_i S1 h1;cases e;refine#[A,ρ,S,true,_,er,so,h1,λb H1 #[z0,A1,z1,z2]=>?_]
  subst z0;rw[La rfl];exact hq _ _ #[rfl,A1,z1,z2]
 ·rename_i S1 h1;refine#[A,ρ,S,false,S1,er,so,h1,λb H1 #[z0,A1,z1,z2]=>?_]
  subst z0;rw[Li K8];exact#[A1,ρ,S1,k,S',er.mono z1,z2,e,λb H' q=>hq b H' (q.after z1)]
 ·cases e
theorem Cv {a:Lb}{pos:M9}{f:FT}(h:GT X a f):GW X (.BoolOp .And [a] pos) f:=BF h
theorem Fg {a:Lb}{pos:M9}{f:FT}(h:GT X a f):GW X (.BoolOp .Or [a] pos) f:=Ev h
theorem Fh {a b:Lb}{r:Kr Lb}{pos:M9}{f g:FT}(h:GT X a f)(h2:GW X (.BoolOp .And (b::r) pos) g):GW X (.BoolOp .And (a::b::r) pos) (zH f g):=
 GW.of (Ew h h2) λσ H A ρ S k S' er so e Q hq=>zI er so e Q hq
theorem Hi {a b:Lb}{r:Kr Lb}{pos:M9}{f g:FT}(h:GT X a f)(h2:GW X (.BoolOp .Or (b::r) pos) g):GW X (.BoolOp .Or (a::b::r) pos) (Hh f g):=
 GW.of (Gz h h2) λσ H A ρ S k S' er so e Q hq=>Cu er so e Q hq
theorem Fi {a:Lb}{pos:M9}{f:FT}(h:GT X a f):GT X (.UnaryOp .Not a pos) (Ct f):=
 GT.of (Ex h) λσ H A ρ S k S' er so e Q hq=>by
  unfold Ct at e;split at e
  ·rename_i k1 S1 h1;cases e;refine#[A,ρ,S,k1,_,er,so,h1,λb H1 #[z0,A1,z1,z2]=>?_]
   subst z0;exact hq _ _ #[rfl,A1,z1,z2]
  ·cases e
noncomputable def vE (f g:FE):FE:=λρ S=>match f ρ S with
 | some (.bl true,S1)=>g ρ S1
 | some (.bl false,S1)=>ba (.bl false,S1)
 | _=>gV
noncomputable def Cw (f g:FE):FE:=λρ S=>match f ρ S with
 | some (.bl true,S1)=>ba (.bl true,S1)
 | some (.bl false,S1)=>g ρ S1
 | _=>gV
noncomputable def vF (f:FE):FE:=λρ S=>match f ρ S with
 | some (.bl k,S1)=>ba (.bl (!k),S1)
 | _=>gV
theorem Fj {a:Lb}{op:T8}{pos:M9}{f:FE}(h:GE X a f):GE X (.BoolOp op [a] pos) f:=Ey h
theorem Fk {a b:Lb}{r:Kr Lb}{pos:M9}{f g:FE}(h:GE X a f)(h2:GE X (.BoolOp .And (b::r) pos) g):GE X (.BoolOp .And (a::b::r) pos) (vE f g):=
 GE.of (Ez h h2) λσ H A ρ S w S' er so e Q hq=>by
  unfold vE at e;split at e
  ·rename_i S1 h1;refine#[A,ρ,S,_,S1,er,so,h1,λv H1 #[A1,z1,z2,z3]=>?_]
   cases z3;refine#[true,rfl,?_];rw[La rfl];exact#[A1,ρ,S1,w,S',er.mono z1,z2,e,λb H' q=>hq b H' (q.after z1)]
  ·rename_i S1 h1;cases e;refine#[A,ρ,S,_,_,er,so,h1,λv H1 #[A1,z1,z2,z3]=>?_]
   cases z3;refine#[false,rfl,?_];rw[Li K8];exact hq _ _ #[A1,z1,z2,.bl]
  ·cases e
theorem Hj {a b:Lb}{r:Kr Lb}{pos:M9}{f g:FE}(h:GE X a f)(h2:GE X (.BoolOp .Or (b::r) pos) g):GE X (.BoolOp .Or (a::b::r) pos) (Cw f g):=
 GE.of (GD h h2) λσ H A ρ S w S' er so e Q hq=>by
  unfold Cw at e;split at e
  ·rename_i S1 h1;cases e;refine#[A,ρ,S,_,_,er,so,h1,λv H1 #[A1,z1,z2,z3]=>?_]
   cases z3;refine#[true,rfl,?_];rw[La rfl];exact hq _ _ #[A1,z1,z2,.bl]
  ·rename_i S1 h1;refine#[A,ρ,S,_,S1,er,so,h1,λv H1 #[A1,z1,z2,z3]=>?_]
   cases z3;refine#[false,rfl,?_];rw[Li K8];exact#[A1,ρ,S1,w,S',er.mono z1,z2,e,λb H' q=>hq b H' (q.after z1)]
  ·cases e
theorem Fn {a:Lb}{pos:M9}{f:FE}(h:GE X a f):GE X (.UnaryOp .Not a pos) (vF f):=
 GE.of (EA h) λσ H A ρ S w S' er so e Q hq=>by
  unfold vF at e;split at e
  ·rename_i k1 S1 h1;cases e;refine#[A,ρ,S,_,_,er,so,h1,λb H1 #[A1,z1,z2,z3]=>?_]
   cases z3;exact#[_,rfl,hq _ _ #[A1,z1,z2,.bl]]
  ·cases e
noncomputable def Cy (c:FT)(f g:FE):FE:=λρ S=>match c ρ S with
 | some (true,S1)=>f ρ S1
 | some (false,S1)=>g ρ S1
 | none=>gV
theorem Fo {c a b:Lb}{pos:M9}{fc:FT}{f g:FE}(hc:GT X c fc)(ha:GE X a f)(hb:GE X b g):GE X (.IfExp c a b pos) (Cy fc f g):=
 GE.of (yp hc ha hb) λσ H A ρ S w S' er so e Q hq=>by
  unfold Cy at e;split at e
  ·rename_i S1 h1;refine#[A,ρ,S,_,S1,er,so,h1,λb H1 #[z0,A1,z1,z2]=>?_]
   subst z0;rw[La rfl];exact#[A1,ρ,S1,w,S',er.mono z1,z2,e,λb H' q=>hq b H' (q.after z1)]
  ·rename_i S1 h1;refine#[A,ρ,S,_,S1,er,so,h1,λb H1 #[z0,A1,z1,z2]=>?_]
   subst z0;rw[Li K8];exact#[A1,ρ,S1,w,S',er.mono z1,z2,e,λb H' q=>hq b H' (q.after z1)]
  ·cases e
noncomputable def jV:FA:=λ_ S=>ba ([],S)
noncomputable def fm (f:FE)(g:FA):FA:=λρ S=>match f ρ S with
 | some (w,S1)=>match g ρ S1 with
  | some (ws,S2)=>ba (w::ws,S2)
  | none=>gV
 | none=>gV
theorem Fp:GA X [] jV:=GA.of yy λσ H A ρ S ws S' er so e Q hq=>by cases e; exact hq _ _ #[A,.refl,so,.nil]
theorem Cz {e:Lb}{es:Kr Lb}{f:FE}{g:FA}(h:GE X e f)(h2:GA X es g)(hs:starEach (e::es) X.env=(false,eval e X.env)::starEach es X.env):GA X (e::es) (fm f g):=
 GA.of (pL h h2 hs) λσ H A ρ S ws S' er so e Q hq=>by
  unfold fm at e;split at e
  ·rename_i w S1 h1;split at e
   ·rename_i ws2 S2 h2;cases e;refine#[A,ρ,S,w,S1,er,so,h1,λv H1 #[A1,z1,z2,z3]=>?_]
    refine#[A1,ρ,S1,ws2,_,er.mono z1,z2,h2,λvs H2 #[A2,y1,y2,y3]=>?_]
    exact hq _ _ #[A2,z1.trans y1,y2,.cons (z3.mono y1) y3]
   ·cases e
  ·cases e
noncomputable def zJ (f:FA):FE:=λρ S=>match f ρ S with
 | some (ws,S1)=>t9 S1 ws
 | none=>gV
noncomputable def zK (f:FA):FE:=λρ S=>match f ρ S with
 | some (ws,S1)=>nL S1 ws
 | none=>gV
theorem zL {es:Kr Lb}{k:KC}{pos:M9}{f:FA}(h:GA X es f):GE X (.Tuple es k pos) (zJ f):=
 GE.of (EX h) λσ H A ρ S w S' er so e Q hq=>by
  unfold zJ at e;split at e
  ·rename_i ws S1 h1;obtain⟨hl,rfl,rfl⟩:=u8 e;refine#[A,ρ,S,ws,_,er,so,h1,λvs H1 #[A1,z1,z2,z3]=>#[by rw[<- z3.length]; exact hl,λp hp=>?_]]
   exact hq _ _ (EndV.after z1 (.tup z2 z3 hp))
  ·cases e
theorem zM {es:Kr Lb}{pos:M9}{f:FA}(h:GA X es f):GE X (.List es pos) (zK f):=
 GE.of (EY h) λσ H A ρ S w S' er so e Q hq=>by
  unfold zK at e;split at e
  ·rename_i ws S1 h1;obtain⟨hl,rfl,rfl⟩:=lC e;refine#[A,ρ,S,ws,_,er,so,h1,λvs H1 #[A1,z1,z2,z3]=>#[by rw[<- z3.length]; exact hl,λp hp=>?_]]
   exact hq _ _ (EndV.after z1 (.lst z2 z3 hp))
  ·cases e
noncomputable def kY (g:Kr W->aa->Kz (W×aa))(f:FA):FE:=λρ S=>match f ρ S with
 | some (ws,S1)=>g ws S1
 | none=>gV
theorem LCall.callr {v:Ku}{g:Kr W->aa->Kz (W×aa)}(h:LCall X v g):CallR X v (λvs H Q=>∃A S ws w S',StoreOk X.w X.K A H S/\RelL X.K A H ws vs/\g ws S=ba (w,S')/\∀v H',EndV X.w X.K A H S' w v H'->Q v H'):=by
 intro pins s σ H vs us Q I rv ⟨A,S,ws,w,S',so,rl,e,hq⟩;exact ce (h pins s σ H A S ws vs us w S' I so rl rv e) λu' s' #[v',H',A',I',r',e1,o1,z1]=>#[v',H',I',r',hq v' H' #[A',e1,o1,z1]]
theorem o9 {g:Kr W->aa->Kz (W×aa)}{f:FA}{σ:L2.St}{H:Hp}{A:Kr KF}{ρ:Fm}{S:aa}{w:W}{S':aa}(er:EnvRel X.K A H ρ σ)(so:StoreOk X.w X.K A H S)(e:kY g f ρ S=ba (w,S'))(Q:VK)(hq:∀v H',EndV X.w X.K A H S' w v H'->Q v H') :
  tA X f σ H λvs H1=>∃A S ws w S',StoreOk X.w X.K A H1 S/\RelL X.K A H1 ws vs/\g ws S=ba (w,S')/\∀v H',EndV X.w X.K A H1 S' w v H'->Q v H':=by
 unfold kY at e;split at e
 ·rename_i ws S1 h1;exact#[A,ρ,S,ws,S1,er,so,h1,λvs H1 #[A1,z1,z2,z3]=>#[A1,S1,ws,w,S',z2,z3,e,λv H' q=>hq v H' (q.after z1)]]
 ·cases e
theorem vG {id:L8}{x:KZ}{e:Lb}{es:Kr Lb}{p pos:M9}{f:FA}{g:Kr W->aa->Kz (W×aa)}(hc:LCall X (.builtin id) g)(hg:Gl X x)(hm:X.mg x=gV)(hv:bootBuiltins x=ba (.builtin id))(ha:GA X (e::es) f)
  (hn:x≠"__name__") (hdb:(x==("__debug__" : KZ))=false) (hs:starEach (e::es) X.env=(false,eval e X.env)::starEach es X.env) (hpl:(backTo pos (starEach es X.env)).any (·.1)=false):GE X (.Call (.Name x p) (e::es) [] pos) (kY g f):=
 GE.of (rn hc.callr hg hm hv ha hn hdb hs hpl) λσ H A ρ S w S' er so e Q hq=>o9 er so e Q hq
theorem sg {id:L8}{x:KZ}{e:Lb}{es:Kr Lb}{p pos:M9}{f:FA}{g:Kr W->aa->Kz (W×aa)}(hc:LCall X (.type id) g)(hg:Gl X x)(hm:X.mg x=gV)(hv:bootBuiltins x=ba (.type id))(ha:GA X (e::es) f)
  (hn:x≠"__name__") (hdb:(x==("__debug__" : KZ))=false) (hs:starEach (e::es) X.env=(false,eval e X.env)::starEach es X.env) (hpl:(backTo pos (starEach es X.env)).any (·.1)=false):GE X (.Call (.Name x p) (e::es) [] pos) (kY g f):=
 GE.of (wz hc.callr hg hm hv ha hn hdb hs hpl) λσ H A ρ S w S' er so e Q hq=>o9 er so e Q hq
end
noncomputable def tyOk (T:L8)(S:aa):W->Lf
 | .str _=>T == "str"
 | .ref i=>(T == "list" && (ii S i).isSome)||(T == "dict" && (kS S i).isSome)
 | _=>false
noncomputable def Gr (T:L8)(g:W->Kr W->aa->Kz (W×aa))(fo:FE)(f:FA):FE:=λρ S=>match fo ρ S with
 | some (x,S1)=>if tyOk T S1 x then match f ρ S1 with
  | some (ws,S2)=>g x ws S2
  | none=>gV
  else gV
 | none=>gV
noncomputable def Ju (fa fb:FE):FE:=Cr tN fa fb
noncomputable abbrev FO:=Fm->aa->Kz (Kz KO×aa)
noncomputable def Fq:FO:=λ_ S=>ba (gV,S)
noncomputable def vH (f:FE):FO:=λρ S=>match f ρ S with
 | some (.int i,S1)=>ba (ba i,S1)
 | _=>gV
noncomputable def Hk (fa:FE)(fl fh:FO):FE:=λρ S=>match fa ρ S with
 | some (x,S1)=>match fl ρ S1 with
  | some (lo,S2)=>match fh ρ S2 with
   | some (hi,S3)=>re x lo hi S3
   | none=>gV
  | none=>gV
 | none=>gV
section
variable{X:Cx}
theorem LMeth.mtr {id:L8}{g:W->Kr W->aa->Kz (W×aa)}(h:LMeth X id g):MtR X id (λa vs H Q=>∃A S x ws w S',StoreOk X.w X.K A H S/\Rel X.K A H x a/\RelL X.K A H ws vs/\g x ws S=ba (w,S')/\∀v H',EndV X.w X.K A H S' w v H'->Q v H'):=by
 intro pins s σ H a vs u us Q I ru rv ⟨A,S,x,ws,w,S',so,rx,rl,e,hq⟩;exact ce (h pins s σ H A S x a u ws vs us w S' I so rx ru rl rv e) λu' s' #[v',H',A',I',r',e1,o1,z1]=>#[v',H',I',r',hq v' H' #[A',e1,o1,z1]]
theorem tyOk.is {pins:Kr (KF×Mp)}{σ:L2.St}{s:Kx}{A:Kr KF}{H:Hp}{S:aa}{T:L8}{x:W}{a:V}{v:Ku}(I:Inv X pins σ H s)(so:StoreOk X.w X.K A H S)(r:Rel X.K A H x a)(rv:RelV a v)(h:tyOk T S x=true) :
  s.TypeIs v T/\∀b,v=.ref b->∃ob,s.heap.get? b=ba ob/\ob.dict=gV:=by
 cases r with
 | str=>exact yH I rv (show Jn X.K T (.str _) H from eq_of_beq h)
 | ref ea=>
  simp only[tyOk,Mx,KA]at h;rcases h with⟨h1,h2⟩|⟨h1,h2⟩
  ·obtain⟨xs,hx⟩:=LM.mp h2;obtain⟨vs,h3,_⟩:=c8 so hx ea;exact yH I rv (show Jn X.K T (.ref _) H from .inl #[eq_of_beq h1,vs,h3])
  ·obtain⟨kvs,hx⟩:=LM.mp h2;obtain⟨xs,rd,_⟩:=gL so hx ea;obtain⟨_,_,_,o,es,ep,q1,q2,q3,q4⟩:=dg I rd;have e:=eq_of_beq h1;subst e;obtain rfl:v=Lq _:=rv;exact#[#[o,q1,q2.1],λb e=>by cases e; exact#[o,q1,q2.2.1]]
 | _=>cases h
theorem sh {o e:Lb}{es:Kr Lb}{name:KZ}{apos cpos:M9}{T id:L8}{g:W->Kr W->aa->Kz (W×aa)}{fo:FE}{f:FA}(pa:PlainAttrs T)(slot:Slot T name id)(hty:typeOf (.builtin id)=pure (.type "method_descriptor"))(hm:LMeth X id g)
  (ho:GE X o fo) (ha:GA X (e::es) f) (hbase:attributeBase o name X.env (eval o X.env)=eval o X.env)
  (hfew:((backTo cpos (starEach (e::es) X.env)).all (λx=>!x.1)&&(backToKw cpos (keywordEach [] X.env)).all (λx=>x.1.isSome)
   && decide ((e::es).length+([]:Kr Sg).length+(if ([]:Kr Sg).isEmpty then 0 else 1) < 30))=true)
  (hline:(apos.endLine==cpos.line)=true) (hs:starEach (e::es) X.env=(false,eval e X.env)::starEach es X.env) (hplain:(backTo cpos (starEach es X.env)).any (·.1)=false) :
  GE X (.Call (.Attribute o name apos) (e::es) [] cpos) (Gr T g fo f):=by
 intro pins s σ H Q I ⟨A,ρ,S,w,S',er,so,e,hq⟩;unfold Gr at e;split at e
 ·rename_i x S1 h1;split at e
  ·rename_i ht;split at e
   ·rename_i ws S2 h2;refine wpAny_Call_method_late hbase hfew hline rfl (ce (ho pins s σ H (EndV X.w X.K A H S1 x) I #[A,ρ,S,_,_,er,so,h1,λ_ _ z=>z]) λv s1 #[a,H1,I1,r1,A1,e1,o1,z1]=>?_)
    obtain⟨t1,t2⟩:=tyOk.is I1 o1 z1 r1 ht;refine#[T,id,pa,slot,hty,t1,t2,?_];have hA:=ha cpos pins s1 σ H1 (Fd X A1 H1 S2 ws) I1 #[A1,ρ,S1,ws,S2,er.mono e1,o1,h2,λ_ _ z=>z]
    rw[hs]at hA ⊢;refine Calls.callWith_builtin (by show(false||(backTo cpos (starEach es X.env)).any (·.1))=false; rw[hplain] <;> rfl) (Calls.evalArgs_plain ?_)
    refine ce hA λus s2 #[vs,H2,I2,r2,A2,e2,o2,z2]=>?_
    refine ce (hm pins s2 σ H2 A2 S2 x a v ws vs us w S' I2 o2 (z1.mono e2) r1 z2 r2 e) λu' s' #[v',H',A',I',r',e3,o3,z3]=>?_
    exact#[v',H',I',r',hq v' H' #[A',(e1.trans e2).trans e3,o3,z3]]
   ·cases e
  ·cases e
 ·cases e
theorem LIx.ixr {g:W->W->aa->Kz (W×aa)}(h:LIx X g):IxR X (λa b H Q=>∃A S x y w S',StoreOk X.w X.K A H S/\Rel X.K A H x a/\Rel X.K A H y b/\g x y S=ba (w,S')/\∀v H',EndV X.w X.K A H S' w v H'->Q v H'):=by
 intro value slice pins s σ H a b u v Q I ru rv ⟨A,S,x,y,w,S',so,rx,ry,e,hq⟩ hs;exact ce (h value slice pins s σ H A S x y a b u v w S' I so rx ru ry rv e hs) λu' s' #[v',H',A',I',r',e1,o1,z1]=>#[v',H',I',r',hq v' H' #[A',e1,o1,z1]]
theorem Hl {a b:Lb}{pos:M9}{fa fb:FE}(hu:X.A.units+10 < cLine)(ha:GE X a fa)(hb:GE X b fb)(hs:pO b):GE X (.Subscript a b pos) (Ju fa fb):=
 GE.of (G7 (Js hu).ixr ha hb hs) λσ H A ρ S w S' er so e Q hq=>by
  obtain⟨x,S1,y,S2,h1,h2,h3⟩:=IE e;exact jq er so h1 h2 λa b H2 A2 e2 o2 r1 r2=>#[A2,S2,x,y,w,S',o2,r1,r2,h3,λv H' z=>hq v H' (z.after e2)]
noncomputable def tO (X:Cx)(f:FO):TO:=λσ H Q=>∃A ρ S k S',EnvRel X.K A H ρ σ/\StoreOk X.w X.K A H S/\f ρ S=ba (k,S')/\∀H' A',Ext X.K A H A' H'->StoreOk X.w X.K A' H' S'->Q k H'
noncomputable abbrev GO (X:Cx)(e:Kz Lb)(f:FO):Prop:=PO X e (tO X f)
theorem CA:GO X gV Fq:=λpins s σ H Q I #[A,ρ,S,k,S',er,so,e,hq]=>by
 cases e;exact BU pins s σ H Q I (hq H A .refl so)
theorem CB {e:Lb}{f:FE}(h:GE X e f):GO X (ba e) (vH f):=λpins s σ H Q I #[A,ρ,S,k,S',er,so,e,hq]=>by
 unfold vH at e;split at e
 ·rename_i i S1 h1;cases e;refine BV h pins s σ H Q I #[A,ρ,S,_,_,er,so,h1,λv H1 #[A1,z1,z2,z3]=>?_]
  cases z3;exact#[i,rfl,hq H1 A1 z1 z2]
 ·cases e
theorem LSl.slr {g:W->Kz KO->Kz KO->aa->Kz (W×aa)}(h:LSl X g):G6 X (λa lo hi H Q=>∃A S x w S',StoreOk X.w X.K A H S/\Rel X.K A H x a/\g x lo hi S=ba (w,S')/\∀v H',EndV X.w X.K A H S' w v H'->Q v H'):=by
 intro pins s σ H a v vl vu lo hi sl Q I rv hs pl pu ⟨A,S,x,w,S',so,rx,e,hq⟩;obtain⟨T,id,h1,h2,h3⟩:=h pins s σ H A S x a v vl vu lo hi sl w S' I so rx rv hs pl pu e;exact#[T,id,h1,h2,ce h3 λu' s' #[v',H',A',I',r',e1,o1,z1]=>#[v',H',I',r',hq v' H' #[A',e1,o1,z1]]]
theorem Hm {a:Lb}{lo hi:Kz Lb}{p2 pos:M9}{fa:FE}{fl fh:FO}(ha:GE X a fa)(hl:GO X lo fl)(hh:GO X hi fh):GE X (.Subscript a (.Slice lo hi gV p2) pos) (Hk fa fl fh):=
 GE.of (yE Kj.slr ha hl hh) λσ H A ρ S w S' er so e Q hq=>by
  unfold Hk at e;split at e
  ·rename_i x S1 h1;split at e
   ·rename_i l S2 h2;split at e
    ·rename_i h S3 h3;refine#[A,ρ,S,x,S1,er,so,h1,λv H1 #[A1,z1,z2,z3]=>?_]
     refine#[A1,ρ,S1,l,S2,er.mono z1,z2,h2,λH2 A2 y1 y2=>?_]
     refine#[A2,ρ,S2,h,S3,er.mono (z1.trans y1),y2,h3,λH3 A3 x1 x2=>?_]
     exact#[A3,S3,x,w,S',x2,(z3.mono y1).mono x1,e,λv H' q=>hq v H' (q.after ((z1.trans y1).trans x1))]
    ·cases e
   ·cases e
  ·cases e
noncomputable abbrev FF:=Kr W->aa->Kz (W×aa)
noncomputable def zN (wd:Lz)(K:KM)(n:KC)(g:FF):Sp:=λvs H Q _=>∃A S ws w S',StoreOk wd K A H S/\RelL K A H ws vs/\ws.length=n/\g ws S=ba (w,S')/\∀v H',EndV wd K A H S' w v H'->Q v H'
noncomputable def si (n:KC)(g:FF)(f:FA):FE:=λρ S=>match f ρ S with
 | some (ws,S1)=>if ws.length=n then g ws S1 else gV
 | none=>gV
theorem sj {n:KC}{g:FF}{f:FA}{σ:L2.St}{H:Hp}{A:Kr KF}{ρ:Fm}{S:aa}{w:W}{S':aa}{E:XK}(er:EnvRel X.K A H ρ σ)(so:StoreOk X.w X.K A H S)(e:si n g f ρ S=ba (w,S'))(Q:VK)(hq:∀v H',EndV X.w X.K A H S' w v H'->Q v H') :
  yA (zN X.w X.K n g) [] E (tA X f) σ H Q:=by
 unfold si at e;split at e
 ·rename_i ws S1 h1;split at e
  ·rename_i hl;refine#[A,ρ,S,ws,S1,er,so,h1,λvs H1 #[A1,z1,z2,z3]=>?_]
   show zN X.w X.K n g (vs++[]) H1 Q E;rw[Mf];exact#[A1,S1,ws,w,S',z2,z3,hl,e,λv H' q=>hq v H' (q.after z1)]
  ·cases e
 ·cases e
theorem Fs {k n:KC}{fa:KF}{fd:Na}{ps:Kr KZ}{g:FF}{x:KZ}{e:Lb}{es:Kr Lb}{p pos:M9}{f:FA}(F:FnOk X.prog X.w X.K X.mg X.base yg k fa fd ps (zN X.w X.K n g))(hr:Room k X.A)(hg:Gl X x)(hm:X.mg x=ba (.ref fa))(hk:Mn X.K (.ref fa)=true)
  (hb:Binds X.K fd ps []) (ha:GA X (e::es) f) (hdb:(x==("__debug__" : KZ))=false) (he:starEach (e::es) X.env=(false,eval e X.env)::starEach es X.env) (hpl:(backTo pos (starEach es X.env)).any (·.1)=false) :
  GE X (.Call (.Name x p) (e::es) [] pos) (si n g f):=
 GE.of (BQ F hr hg hm hk hb .nil DT ha hdb he hpl) λσ H A ρ S w S' er so e Q hq=>sj er so e Q hq
theorem CC {k n:KC}{fa:KF}{fd:Na}{ps:Kr KZ}{g:FF}{x:KZ}{p pos:M9}(F:FnOk X.prog X.w X.K X.mg X.base yg k fa fd ps (zN X.w X.K n g))(hr:Room k X.A)(hg:Gl X x)(hm:X.mg x=ba (.ref fa))(hk:Mn X.K (.ref fa)=true)
  (hb:Binds X.K fd ps []) (hdb:(x==("__debug__" : KZ))=false):GE X (.Call (.Name x p) [] [] pos) (si n g jV):=
 GE.of (yC F hr hg hm hk hb .nil DT hdb) λσ H A ρ S w S' er so e Q hq=>by
  obtain⟨A1,S1,ws,w1,S1',a1,a2,a3,a4,a5⟩:=sj (f:=jV) (E:=E0) er so e Q hq |> λ#[A,ρ,S,ws,S',b1,b2,b3,b4]=>b4 [] H (by cases b3; exact#[A,.refl,b2,.nil])
  exact#[A1,S1,ws,w1,S1',a1,a2,a3,a4,a5]
theorem CD:GSs X [] (λρ S=>ba (.nx ρ,S)):=GSs.of BG λσ H A ρ S o S' er so e D hd=>by cases e; exact hd.nx _ _ #[ρ,A,rfl,.refl,so,er]
noncomputable def CF (f g:FS):FS:=λρ S=>match f ρ S with
 | some (.nx ρ',S1)=>g ρ' S1
 | some (.rt w,S1)=>ba (.rt w,S1)
 | some (.bk ρ',S1)=>ba (.bk ρ',S1)
 | some (.ct ρ',S1)=>ba (.ct ρ',S1)
 | none=>gV
theorem zO {st:No}{sts:Kr No}{f g:FS}(h:GS X st f)(h2:GSs X sts g):GSs X (st::sts) (CF f g):=GSs.of (yr h h2) λσ H A ρ S o S' er so e D hd=>by
 unfold CF at e;split at e
 ·rename_i ρ1 S1 h1;refine#[A,ρ,S,_,_,er,so,h1,#[λσ' H' #[ρ',A',e1,e2,e3,e4]=>?_,λv H' #[w,A',e1,_]=>(by cases e1),λv H' #[w,A',e1,_]=>(by cases e1),λv H' #[w,A',e1,_]=>(by cases e1)]]
  cases e1;exact#[A',_,S1,o,S',e4,e3,e,(EndS.after e2).trans hd]
 ·rename_i w S1 h1;cases e;exact#[A,ρ,S,_,_,er,so,h1,#[λσ' H' #[w,A',e1,_]=>(by cases e1),hd.rt,hd.bk,hd.ct]]
 ·rename_i w S1 h1;cases e;exact#[A,ρ,S,_,_,er,so,h1,#[λσ' H' #[w,A',e1,_]=>(by cases e1),hd.rt,hd.bk,hd.ct]]
 ·rename_i w S1 h1;cases e;exact#[A,ρ,S,_,_,er,so,h1,#[λσ' H' #[w,A',e1,_]=>(by cases e1),hd.rt,hd.bk,hd.ct]]
 ·cases e
noncomputable def CG (f:FE):FS:=λρ S=>match f ρ S with
 | some (_,S1)=>ba (.nx ρ,S1)
 | none=>gV
theorem Hn {e:Lb}{pos:M9}{f:FE}(h:GE X e f)(hs:swapsWith e gV pos.line X.env=pure false):GS X (.Expr e pos) (CG f):=GS.of (BI h hs) λσ H A ρ S o S' er so e D hd=>by
 unfold CG at e;split at e
 ·rename_i w S1 h1;cases e;exact#[A,ρ,S,w,_,er,so,h1,λv H1 #[A1,z1,z2,z3]=>hd.nx _ _ #[ρ,A1,rfl,z1,z2,er.mono z1]]
 ·cases e
noncomputable def zP:FS:=λρ S=>ba (.nx ρ,S)
theorem Ft {x:KZ}{j:KC}{pos pos':M9}:GS X (.Expr (.Constant (.str x) j pos) pos') zP:=GS.of EC λσ H A ρ S o S' er so e D hd=>by cases e; exact hd.nx _ _ #[ρ,A,rfl,.refl,so,er]
theorem CH {pos:M9}:GS X (.Pass pos) zP:=GS.of BH λσ H A ρ S o S' er so e D hd=>by cases e; exact hd.nx _ _ #[ρ,A,rfl,.refl,so,er]
theorem zQ {pos:M9}:GS X (.Break pos) (λρ S=>ba (.bk ρ,S)):=GS.of yt λσ H A ρ S o S' er so e D hd=>by cases e; exact hd.bk _ _ #[ρ,A,rfl,.refl,so,er]
theorem CI {pos:M9}:GS X (.Continue pos) (λρ S=>ba (.ct ρ,S)):=GS.of rh λσ H A ρ S o S' er so e D hd=>by cases e; exact hd.ct _ _ #[ρ,A,rfl,.refl,so,er]
noncomputable def CJ (f:FE):FS:=λρ S=>match f ρ S with
 | some (w,S1)=>ba (.rt w,S1)
 | none=>gV
theorem Fu {e:Lb}{pos:M9}{f:FE}(h:GE X e f):GS X (.Return (ba e) pos) (CJ f):=GS.of (ED h) λσ H A ρ S o S' er so e D hd=>by
 unfold CJ at e;split at e
 ·rename_i w S1 h1;cases e;exact#[A,ρ,S,w,_,er,so,h1,λv H1 #[A1,z1,z2,z3]=>hd.rt _ _ #[w,A1,rfl,z1,z2,z3]]
 ·cases e
theorem CK {pos:M9}:GS X (.Return gV pos) (λρ S=>ba (.rt .non,S)):=GS.of BJ λσ H A ρ S o S' er so e D hd=>by cases e; exact hd.rt _ _ #[_,A,rfl,.refl,so,.non]
noncomputable def CL (c:FT)(f g:FS):FS:=λρ S=>match c ρ S with
 | some (true,S1)=>f ρ S1
 | some (false,S1)=>g ρ S1
 | none=>gV
theorem Ho {c:Lb}{a b:Kr No}{pos:M9}{fc:FT}{f g:FS}(hc:GT X c fc)(ha:GSs X a f)(hb:GSs X b g):GS X (.If c a b pos) (CL fc f g):=GS.of (GK hc ha hb) λσ H A ρ S o S' er so e D hd=>by
 unfold CL at e;split at e
 ·rename_i S1 h1;refine#[A,ρ,S,_,S1,er,so,h1,λb H1 #[z0,A1,z1,z2]=>?_]
  subst z0;rw[La rfl];exact#[A1,ρ,S1,o,S',er.mono z1,z2,e,(EndS.after z1).trans hd]
 ·rename_i S1 h1;refine#[A,ρ,S,_,S1,er,so,h1,λb H1 #[z0,A1,z1,z2]=>?_]
  subst z0;rw[Li K8];exact#[A1,ρ,S1,o,S',er.mono z1,z2,e,(EndS.after z1).trans hd]
 ·cases e
noncomputable abbrev FG:=W->Fm->aa->Kz (Fm×aa)
noncomputable def tG (X:Cx)(f:FG):TG:=λv σ H Q=>∃A ρ S w ρ' S',EnvRel X.K A H ρ σ/\StoreOk X.w X.K A H S/\Rel X.K A H w v/\f w ρ S=ba (ρ',S')/\∀σ' H' A',Ext X.K A H A' H'->StoreOk X.w X.K A' H' S'->EnvRel X.K A' H' ρ' σ'->Q σ' H'
noncomputable abbrev GG (X:Cx)(tg:Lb)(f:FG):Prop:=PG X tg (tG X f)
noncomputable def CM (i:KC):FG:=λw ρ S=>ba (ρ.set i (ba w),S)
theorem vI {i:KC}{x:KZ}{pos:M9}(hN:X.N.Nodup)(hi:X.N[i]?=ba x)(hx:BC X.env.scope x)(hf:X.fn x=true\/X.env.scope.names.lookup x=ba .local):GG X (.Name x pos) (CM i):=by
 intro pins s σ H v u Q I r ⟨A,ρ,S,w,ρ',S',er,so,rw',e,hq⟩;cases e;exact uY hN hi hx hf pins s σ H v u Q I r (hq _ _ A .refl so (er.set rw' i))
noncomputable def eu:Kr KC->Kr W->Fm->Kz Fm
 | [],[],ρ=>ba ρ
 | i::is,w::ws,ρ=>eu is ws (ρ.set i (ba w))
 | _,_,_=>gV
noncomputable def Gs (is:Kr KC):FG:=λw ρ S=>match w with
 | .tup ws=>(eu is ws ρ).map λρ'=>(ρ',S)
 | _=>gV
theorem xu:∀ {ts:Kr Lb} {is:Kr KC},(∀x∈ts,∃y p,x=.Name y p)->PQ (λ(t:Lb) (i:KC)=>∃x p,t=QH x p/\X.N[i]?=ba x/\BC X.env.scope x/\(X.fn x=true\/X.env.scope.names.lookup x=ba .local)) ts is->X.N.Nodup->
  GL X ts (λvs σ H Q=>∃A ρ ws ρ' S,EnvRel X.K A H ρ σ/\StoreOk X.w X.K A H S/\RelL X.K A H ws vs/\eu is ws ρ=ba ρ'/\∀σ',EnvRel X.K A H ρ' σ'->Q σ' H):=by
 intro ts
 induction ts with
 | nil=>
  intro is _ h hN;cases h;intro pins s σ H vs us Q I r ⟨A,ρ,ws,ρ',S,er,so,rl,e,hq⟩;cases rl with
  | nil=>cases e; exact BK pins s σ H [] us Q I r #[rfl,hq _ er]
  | cons _ _=>cases e
 | cons t ts ih=>
  intro is hs h hN;cases h with
  | cons h1 h2=>
   obtain⟨x,p,rfl,hi,hl,hf⟩:=h1;have:=ih (λy hy=>hs y (LZ _ hy)) h2 hN
   intro pins s σ H vs us Q I r ⟨A,ρ,ws,ρ',S,er,so,rl,e,hq⟩;cases rl with
   | nil=>cases e
   | cons r1 r2=>
    refine yu (uY hN hi hl hf) this rfl pins s σ H _ us Q I r #[_,_,rfl,?_];exact#[A,_,_,ρ',S,er.set r1 _,so,r2,e,hq]
theorem Fv {ts:Kr Lb}{is:Kr KC}{k:KC}{pos:M9}(hc:X.calm=true)(hs:∀x∈ts,∃y p,x=.Name y p)(h:PQ (λ(t:Lb) (i:KC)=>∃x p,t=QH x p/\X.N[i]?=ba x/\BC X.env.scope x/\(X.fn x=true\/X.env.scope.names.lookup x=ba .local)) ts is)(hN:X.N.Nodup)
  (hn:(assignEach ts X.env).length=ts.length) (hst:(assignEach ts X.env).findIdx? (·.1)=gV):GG X (.Tuple ts k pos) (Gs is):=by
 intro pins s σ H v u Q I r ⟨A,ρ,S,w,ρ',S',er,so,rw',e,hq⟩;unfold Gs at e;split at e
 ·rw[Kv]at e;obtain⟨ρ1,e1,e2⟩:=e;cases e2;cases rw' with
  | tup h1 r1=>
   have hl:∀(is:Kr KC) (ws:Kr W) (ρ ρ':Fm),eu is ws ρ=ba ρ'->is.length=ws.length:=by
    intro is
    induction is with
    | nil=>intro ws ρ ρ' e; cases ws <;> first|rfl|cases e
    | cons i is ih=>intro ws ρ ρ' e; cases ws <;> first|cases e|(simp; exact ih _ _ _ e)
   exact EH hc (xu hs h hN) hn hst pins s σ H _ u Q I r #[_,_,rfl,h1,by rw[<- r1.length,<- hl _ _ _ _ e1,<- Pw h],A,ρ,_,_,_,er,so,r1,e1,λσ' z=>hq _ _ A .refl so z]
 ·cases e
noncomputable def CN (fo fi:FE):FG:=λw ρ S=>match fo ρ S with
 | some (o,S1)=>match fi ρ S1 with
  | some (i,S2)=>match jn o i w S2 with
   | some S3=>ba (ρ,S3)
   | none=>gV
  | none=>gV
 | none=>gV
theorem LSet.pset {g:W->W->W->aa->Kz aa}(h:LSet X g):EG X (λao ai av H Q=>∃A S o i w S',StoreOk X.w X.K A H S/\Rel X.K A H o ao/\Rel X.K A H i ai/\Rel X.K A H w av/\g o i w S=ba S'/\∀H' A',Ext X.K A H A' H'->StoreOk X.w X.K A' H' S'->Q H'):=by
 intro pins s σ H ao ai av uo ui uv Q I ro ri rv ⟨A,S,o,i,w,S',so,r1,r2,r3,e,hq⟩;exact ce (h pins s σ H A S o i w ao ai av uo ui uv S' I so r1 ro r2 ri r3 rv e) λ_ s' #[H',A',I',e1,o1]=>#[H',I',hq H' A' e1 o1]
theorem Fw {o i:Lb}{pos:M9}{fo fi:FE}(hu:X.A.units+10 < cLine)(ho:GE X o fo)(hi:GE X i fi)(ha:∀v,assign (.Subscript o i pos) X.env v=(do
   let ov <- holding [v] (eval o X.env)
   let iv <- holding [v,ov] (eval i X.env)
   standAt pos
   holding [v,ov,iv] (setItem ov iv v)
   release [v,ov,iv] [])):GG X (.Subscript o i pos) (CN fo fi):=by
 intro pins s σ H v u Q I r ⟨A,ρ,S,w,ρ',S',er,so,rw',e,hq⟩;unfold CN at e;split at e
 ·rename_i o' S1 h1;split at e
  ·rename_i i' S2 h2;split at e
   ·rename_i S3 h3;cases e;refine EI ho hi (He hu).pset ha pins s σ H v u Q I r ?_;refine#[A,ρ,S,o',S1,er,so,h1,λa H1 #[A1,e1,o1,r1]=>?_]
    refine#[A1,ρ,S1,i',S2,er.mono e1,o1,h2,λb H2 #[A2,e2,o2,r2]=>?_]
    exact#[A2,S2,o',i',w,_,o2,r1.mono e2,r2,rw'.mono (e1.trans e2),h3,λH' A' z1 z2=>hq σ H' A' ((e1.trans e2).trans z1) z2 (er.mono ((e1.trans e2).trans z1))]
   ·cases e
  ·cases e
 ·cases e
noncomputable def mx (f:FE)(g:FG):FS:=λρ S=>match f ρ S with
 | some (w,S1)=>match g w ρ S1 with
  | some (ρ',S2)=>ba (.nx ρ',S2)
  | none=>gV
 | none=>gV
theorem uC {tg e:Lb}{pos:M9}{f:FE}{g:FG}(h:GE X e f)(hg:GG X tg g)(hs:swapsWithSole [tg] e pos.line X.env=pure false)(hw:swappedStores [tg] e X.env=pure gV)(h1:(assignEach [tg] X.env).map (·.2)=[assign tg X.env]) :
  GS X (.Assign [tg] e pos) (mx f g):=GS.of (EJ h hg hs hw h1) λσ H A ρ S o S' er so e D hd=>by
 unfold mx at e;split at e
 ·rename_i w S1 h1;split at e
  ·rename_i ρ1 S2 h2;cases e;refine#[A,ρ,S,w,S1,er,so,h1,λv H1 #[A1,z1,z2,z3]=>?_]
   exact#[A1,ρ,S1,w,ρ1,_,er.mono z1,z2,z3,h2,λσ' H' A' y1 y2 y3=>hd.nx _ _ #[ρ1,A',rfl,z1.trans y1,y2,y3]]
  ·cases e
 ·cases e
noncomputable def CO (i j:KC)(f:FA):FS:=λρ S=>match f ρ S with
 | some ([x,y],S1)=>ba (.nx ((ρ.set i (ba x)).set j (ba y)),S1)
 | _=>gV
theorem Fx {i j:KC}{x y:KZ}{a b:Lb}{f:FA}{px py pt pos:M9}{kt k2:KC}{pt2:M9}(hc:X.calm=true)(hN:X.N.Nodup)(hi:X.N[i]?=ba x)(hj:X.N[j]?=ba y)(hij:i≠j)
  (hx:X.env.scope.names.lookup x=ba .local) (hy:X.env.scope.names.lookup y=ba .local) (ha:GA X [a,b] f)
  (hw:swappedStores [.Tuple [.Name x px,.Name y py] kt pt] (.Tuple [a,b] k2 pt2) X.env=pure (ba [x,y]))
  (hs:swapsWithSole [.Tuple [.Name x px,.Name y py] kt pt] (.Tuple [a,b] k2 pt2) pos.line X.env=pure false) :
  GS X (.Assign [.Tuple [.Name x px,.Name y py] kt pt] (.Tuple [a,b] k2 pt2) pos) (CO i j f):=GS.of (EK hc hN hi hj hij hx hy ha hw hs) λσ H A ρ S o S' er so e D hd=>by
 unfold CO at e;split at e
 ·rename_i x y S1 h1;cases e;refine#[A,ρ,S,_,_,er,so,h1,λvs H1 #[A1,z1,z2,z3]=>?_]
  cases z3 with
  | cons r1 t=>
   cases t with
   | cons r2 t=>
    cases t;exact#[_,_,rfl,hd.nx _ _ #[_,A1,rfl,z1,z2,((er.mono z1).set r1 i).set r2 j]]
 ·cases e
noncomputable def qk (c:FT)(b:FS):KC->FS
 | 0,_,_=>gV
 | n+1,ρ,S=>match c ρ S with
  | some (true,S1)=>match b ρ S1 with
   | some (.nx ρ',S2)=>qk c b n ρ' S2
   | some (.ct ρ',S2)=>qk c b n ρ' S2
   | some (.bk ρ',S2)=>ba (.nx ρ',S2)
   | some (.rt w,S2)=>ba (.rt w,S2)
   | none=>gV
  | some (false,S1)=>ba (.nx ρ,S1)
  | none=>gV
theorem zR {c:Lb}{body:Kr No}{pos:M9}{fc:FT}{fb:FS}(n:KC)(hp:QG (model X.prog X.w) X.A X.env X.xe)(hc:GT X c fc)(hb:GSs X body fb):GS X (.While c body [] pos) (qk fc fb n):=GS.of (yv hp hc hb) λσ H A ρ S o S' er so e D hd=>by
 refine#[λm σ1 H1=>∃A1 ρ1 S1,Ext X.K A H A1 H1/\EnvRel X.K A1 H1 ρ1 σ1/\StoreOk X.w X.K A1 H1 S1/\qk fc fb m ρ1 S1=ba (o,S'),#[n,A,ρ,S,.refl,er,so,e],?_]
 rintro m σ1 H1 ⟨A1,ρ1,S1,e1,er1,so1,w1⟩;cases m with
 | zero=>cases w1
 | succ m=>
  simp only[qk]at w1;split at w1
  ·rename_i S2 h1;refine#[A1,ρ1,S1,_,S2,er1,so1,h1,λb H2 #[z0,A2,z1,z2]=>?_]
   subst z0;rw[La rfl];refine#[λσ3 H3=>∃A3 ρ3 S3,Ext X.K A H A3 H3/\EnvRel X.K A3 H3 ρ3 σ3/\StoreOk X.w X.K A3 H3 S3/\qk fc fb m ρ3 S3=ba (o,S'),λσ' H' h=>#[m,Mh _,h],?_]
   split at w1
   ·rename_i ρ3 S3 h3;refine#[A2,ρ1,S2,_,S3,er1.mono z1,z2,h3,#[λσ' H' #[ρ',A',y0,y1,y2,y3]=>?_,λv H' #[w,A',y0,_]=>(by cases y0),λv H' #[w,A',y0,_]=>(by cases y0),λv H' #[w,A',y0,_]=>(by cases y0)]]
    cases y0;exact#[A',_,S3,(e1.trans z1).trans y1,y3,y2,w1]
   ·rename_i ρ3 S3 h3;refine#[A2,ρ1,S2,_,S3,er1.mono z1,z2,h3,#[λv H' #[w,A',y0,_]=>(by cases y0),λv H' #[w,A',y0,_]=>(by cases y0),λv H' #[w,A',y0,_]=>(by cases y0),λσ' H' #[ρ',A',y0,y1,y2,y3]=>?_]]
    cases y0;exact#[A',_,S3,(e1.trans z1).trans y1,y3,y2,w1]
   ·rename_i ρ3 S3 h3;cases w1;refine#[A2,ρ1,S2,_,_,er1.mono z1,z2,h3,#[λv H' #[w,A',y0,_]=>(by cases y0),λv H' #[w,A',y0,_]=>(by cases y0),λσ' H' #[ρ',A',y0,y1,y2,y3]=>?_,λv H' #[w,A',y0,_]=>(by cases y0)]]
    cases y0;exact hd.nx _ _ #[_,A',rfl,(e1.trans z1).trans y1,y2,y3]
   ·rename_i w3 S3 h3;cases w1;refine#[A2,ρ1,S2,_,_,er1.mono z1,z2,h3,#[λv H' #[w,A',y0,_]=>(by cases y0),λv H' #[w,A',y0,y1,y2,y3]=>?_,λv H' #[w,A',y0,_]=>(by cases y0),λv H' #[w,A',y0,_]=>(by cases y0)]]
    cases y0;exact hd.rt _ _ #[_,A',rfl,(e1.trans z1).trans y1,y2,y3]
   ·cases w1
  ·rename_i S2 h1;cases w1;refine#[A1,ρ1,S1,_,_,er1,so1,h1,λb H2 #[z0,A2,z1,z2]=>?_]
   subst z0;rw[Li K8];exact hd.nx _ _ #[_,A2,rfl,e1.trans z1,z2,er1.mono z1]
  ·cases w1
end
inductive MI where
 | its (ws:Kr W)
 | live (r:KC)
 | zl (r q:KC)
noncomputable def Hq (xs ys:Kr W):Kr W:=K4 (λx y=>.tup [x,y]) xs ys
noncomputable def MI.at (S:aa)(i:KC):MI->Kz (Kz W)
 | .its ws=>ba ws[i]?
 | .live r=>match ii S r with
  | some xs=>ba xs[i]?
  | none=>gV
 | .zl r q=>match ii S r,ii S q with
  | some xs,ba ys=>ba (Hq xs ys)[i]?
  | _,_=>gV
noncomputable def MI.len (S:aa):MI->Kz KC
 | .its ws=>ba ws.length
 | .live r=>(ii S r).map (·.length)
 | .zl r q=>match ii S r,ii S q with
  | some xs,ba ys=>ba (Hq xs ys).length
  | _,_=>gV
noncomputable abbrev FI:=Fm->aa->Kz (MI×aa)
structure MIt (wd:Lz)(K:KM)(mi:MI)(J:It)(A0:Kr KF)(H0:Hp):Prop where
 go:∀A H S i w,Ext K A0 H0 A H->StoreOk wd K A H S->mi.at S i=ba (ba w)->J.go i H/\∀x H',J.yld i H x H'->Ext K A H A H'/\StoreOk wd K A H' S/\Rel K A H' w x
 stop:∀A H S i,Ext K A0 H0 A H->StoreOk wd K A H S->mi.at S i=ba gV->J.stop i H
noncomputable def tI (X:Cx)(f:FI):TI:=λσ H R=>∃A ρ S mi S',EnvRel X.K A H ρ σ/\StoreOk X.w X.K A H S/\f ρ S=ba (mi,S')/\∀J H' A',Ext X.K A H A' H'->StoreOk X.w X.K A' H' S'->MIt X.w X.K mi J A' H'->R J H'
noncomputable abbrev GI (X:Cx)(tg iter:Lb)(f:FI):Prop:=PI X tg iter (tI X f)
noncomputable def CP (f:FE):FI:=λρ S=>match f ρ S with
 | some (.tup ws,S1)=>ba (.its ws,S1)
 | some (.ref r,S1)=>match ii S1 r with
  | some _=>ba (.live r,S1)
  | none=>gV
 | _=>gV
noncomputable def dN (lo:KO)(n:KC):Kr W:=(K9 n).map λ(k:KC)=>.int (lo+(k:KO))
noncomputable def uD (f:FA):FI:=λρ S=>match f ρ S with
 | some ([.int j],S1)=>if -(2 ^ 62)<=j/\j < 2 ^ 62 then ba (.its (dN 0 j.toNat),S1)else gV
 | _=>gV
noncomputable def iRng2 (f:FA):FI:=λρ S=>match f ρ S with
 | some ([.int i,.int j],S1)=>if -(2 ^ 62)<=i/\i < 2 ^ 62/\-(2 ^ 62)<=j/\j < 2 ^ 62 then ba (.its (dN i (j - i).toNat),S1)else gV
 | _=>gV
noncomputable def gM (mi:MI)(g:FG)(b:FS):KC->KC->FS
 | 0,i,ρ,S=>match mi.at S i with
  | some gV=>ba (.nx ρ,S)
  | _=>gV
 | n+1,i,ρ,S=>match mi.at S i with
  | some (ba w)=>match g w ρ S with
   | some (ρ1,S1)=>match b ρ1 S1 with
    | some (.nx ρ2,S2)=>gM mi g b n (i+1) ρ2 S2
    | some (.ct ρ2,S2)=>gM mi g b n (i+1) ρ2 S2
    | some (.bk ρ2,S2)=>ba (.nx ρ2,S2)
    | some (.rt w,S2)=>ba (.rt w,S2)
    | none=>gV
   | none=>gV
  | _=>gV
noncomputable def zS (fi:FI)(g:FG)(b:FS):FS:=λρ S=>match fi ρ S with
 | some (mi,S1)=>match mi.len S1 with
  | some n=>gM mi g b n 0 ρ S1
  | none=>gV
 | none=>gV
section
variable{X:Cx}
theorem CQ {A:Kr KF}{H:Hp}{ws:Kr W}{a:KF}{vs:Kr V}(h:SqT X.K H a vs)(r:RelL X.K A H ws vs):MIt X.w X.K (.its ws) (Go X.K a) A H:=by
 refine#[λA' H' S i w e so hi=>?_,λA' H' S i e so hi=>?_]
 ·simp only[MI.at,Lv]at hi;obtain⟨v,h1,h2⟩:=(r.mono e).get hi;refine#[#[vs,v,e.tp _ _ h,h1],λx H2 #[z1,z2]=>?_]
  subst z1;have:=z2 vs (e.tp _ _ h);rw[h1]at this; cases this
  exact#[.refl,so,h2]
 ·simp only[MI.at,Lv]at hi;refine#[vs,e.tp _ _ h,?_];rw[<- r.length];exact LY.mp hi
theorem CS {A:Kr KF}{H:Hp}{r:KC}{a:KF}(ea:A[r]?=ba a):MIt X.w X.K (.live r) (IX X.K a) A H:=by
 refine#[λA' H' S i w e so hi=>?_,λA' H' S i e so hi=>?_]
 ·simp only[MI.at]at hi;split at hi
  ·rename_i xs hx;simp only[Lv]at hi;obtain⟨vs,h1,r1⟩:=c8 so hx (e.ad _ _ ea);obtain⟨v,h2,h3⟩:=r1.get hi;refine#[#[vs,v,h1,h2],λx H2 #[z1,z2]=>?_]
   subst z1;have:=z2 vs h1;rw[h2]at this; cases this
   exact#[.refl,so,h3]
  ·cases hi
 ·simp only[MI.at]at hi;split at hi
  ·rename_i xs hx;simp only[Lv]at hi;obtain⟨vs,h1,r1⟩:=c8 so hx (e.ad _ _ ea);refine#[vs,h1,?_];rw[<- r1.length];exact LY.mp hi
  ·cases hi
theorem fq {lo:KO}{n i:KC}:(dN lo n)[i]?=if i < n then ba (.int (lo+i))else gV:=by
 unfold dN;rw[KD]
 by_cases h:i < n
 ·rw[La h,M4 h]; rfl
 ·rw[Li h,LY.mpr (by simp; omega)]; rfl
theorem vJ {A:Kr KF}{H:Hp}{lo:KO}{n:KC}:MIt X.w X.K (.its (dN lo n)) (GP lo n) A H:=by
 refine#[λA' H' S i w e so hi=>?_,λA' H' S i e so hi=>?_]
 ·simp only[MI.at,Lv]at hi;rw[fq]at hi;split at hi
  ·cases hi;refine#[by assumption,λx H2 #[z1,z2]=>?_]
   subst z1 z2;exact#[.refl,so,.int]
  ·cases hi
 ·simp only[MI.at,Lv]at hi;rw[fq]at hi;split at hi
  ·cases hi
  ·show n<=i;omega
theorem sn {tg:Lb}{pins:Kr (KF×Mp)}{σ:L2.St}{H1:Hp}{s1:Kx}{R:It->Hp->Prop}{a:KF}{xs:Kr V}{v:Ku}(I1:Inv X pins σ H1 s1)(r1:RelV (.ref a) v)(hq:SqL X.K H1 a xs)(q:R (IX X.K a) H1) :
  wpAny (model X.prog X.w) X.A (pyIter v) (Iy X pins σ tg R) X.xe s1:=by
 cases r1;obtain⟨its,rv,p,hz⟩:=I1.list hq;refine Ov p.isList ?_;refine#[s1.heap.objs.size,[s1.heap.objs.size],_,_,H1,rfl,I1.kept (t':=s1.toks) λb o e=>Kw _ e,wt a _,#[_,KT _ rfl,rfl,rfl],λb hb=>?_,q]
 have e:b=s1.heap.objs.size:=by simpa using hb
 subst e;exact I1.fpOk (KH _) (I1.hok.fresh (KH _))
theorem uE {tg:Lb}{pins:Kr (KF×Mp)}{σ:L2.St}{H1:Hp}{s1:Kx}{R:It->Hp->Prop}{a:KF}{xs:Kr V}{v:Ku}(I1:Inv X pins σ H1 s1)(r1:RelV (.ref a) v)(hq:SqT X.K H1 a xs)(q:R (Go X.K a) H1) :
  wpAny (model X.prog X.w) X.A (pyIter v) (Iy X pins σ tg R) X.xe s1:=by
 cases r1;obtain⟨its,rv,p,hz⟩:=I1.tuple hq;refine Rc (show s1.heap.IsTuple a its.toArray from p) ?_
 refine#[s1.heap.objs.size,[s1.heap.objs.size],_,_,H1,rfl,I1.kept (t':=s1.toks) λb o e=>Kw _ e,tR a _,#[_,KT _ rfl,rfl,rfl],λb hb=>?_,q]
 have e:b=s1.heap.objs.size:=by simpa using hb
 subst e;exact I1.fpOk (KH _) (I1.hok.fresh (KH _))
theorem CT {tg a:Lb}{f:FA}{p pos:M9}(hg:Gl X "range")(hm:X.mg "range" = gV)(ha:GA X [a] f)(hs:starEach [a] X.env=[(false,eval a X.env)]):GI X tg (.Call (.Name "range" p) [a] [] pos) (uD f):=by
 intro pins s σ H R I ⟨A,ρ,S,mi,S',er,so,e,hq⟩;unfold uD at e;split at e
 ·rename_i j S1 h1;split at e
  ·rename_i hj;cases e;refine wu hg hm ha hs pins s σ H R I #[A,ρ,S,_,_,er,so,h1,λvs H1 #[A1,z1,z2,z3]=>?_]
   cases z3 with
   | cons r1 t=>
    cases t;cases r1;exact#[j,rfl,hj.1,hj.2,hq _ _ A1 z1 z2 vJ]
  ·cases e
 ·cases e
theorem CU {tg a b:Lb}{f:FA}{p pos:M9}(hg:Gl X "range")(hm:X.mg "range" = gV)(ha:GA X [a,b] f)(hs:starEach [a,b] X.env=[(false,eval a X.env),(false,eval b X.env)])(hs2:starEach [b] X.env=[(false,eval b X.env)]):GI X tg (.Call (.Name "range" p) [a,b] [] pos) (iRng2 f):=by
 intro pins s σ H R I ⟨A,ρ,S,mi,S',er,so,e,hq⟩;unfold iRng2 at e;split at e
 ·rename_i i j S1 h1;split at e
  ·rename_i hj;cases e;refine ww hg hm ha hs hs2 pins s σ H R I #[A,ρ,S,_,_,er,so,h1,λvs H1 #[A1,z1,z2,z3]=>?_]
   cases z3 with
   | cons r1 t=>
    cases t with
    | cons r2 t=>
     cases t;cases r1;cases r2;exact#[i,j,rfl,hj,hq _ _ A1 z1 z2 vJ]
  ·cases e
 ·cases e
theorem Fy {tg l:Lb}{f:FE}(h:GE X l f):GI X tg l (CP f):=by
 intro pins s σ H R I ⟨A,ρ,S,mi,S',er,so,e,hq⟩;unfold CP at e;split at e
 ·rename_i ws S1 h1;cases e;refine ce (h pins s σ H (EndV X.w X.K A H _ (.tup ws)) I #[A,ρ,S,_,_,er,so,h1,λ_ _ z=>z]) λv s1 #[x,H1,I1,r1,A1,e1,o1,z1]=>?_
  cases z1 with
  | tup hq1 rl=>
   refine uE I1 r1 hq1 (hq _ _ A1 e1 o1 (CQ hq1 rl))
 ·rename_i r S1 h1;split at e
  ·rename_i ys hy;cases e;refine ce (h pins s σ H (EndV X.w X.K A H _ (.ref r)) I #[A,ρ,S,_,_,er,so,h1,λ_ _ z=>z]) λv s1 #[x,H1,I1,r1,A1,e1,o1,z1]=>?_
   cases z1 with
   | ref ea=>
    obtain⟨vs,hl,_⟩:=c8 o1 hy ea;exact sn I1 r1 hl (hq _ _ A1 e1 o1 (CS ea))
  ·cases e
 ·cases e
theorem Fz {tg iter:Lb}{body:Kr No}{pos:M9}{fi:FI}{g:FG}{fb:FS}(hp:QG (model X.prog X.w) X.A X.env X.xe)(hc:X.calm=true)(hi:GI X tg iter fi)(hg:GG X tg g)(hb:GSs X body fb)
  (hs:∀x,foldedSetIterable iter X.env x=pure x):GS X (.For tg iter body [] pos) (zS fi g fb):=GS.of (EM hp hc hi hg hb hs) λσ H A ρ S o S' er so e D hd=>by
 unfold zS at e;split at e
 ·rename_i mi S1 h1;split at e
  ·rename_i n hn;refine#[A,ρ,S,mi,S1,er,so,h1,λJ H1 A1 z1 z2 mit=>?_]
   refine#[λi m σ2 H2=>∃A2 ρ2 S2,Ext X.K A1 H1 A2 H2/\EnvRel X.K A2 H2 ρ2 σ2/\StoreOk X.w X.K A2 H2 S2/\gM mi g fb m i ρ2 S2=ba (o,S'),#[n,A1,ρ,S1,.refl,er.mono z1,z2,e],?_]
   rintro i m σ2 H2 ⟨A2,ρ2,S2,e2,er2,so2,w2⟩;cases m with
   | zero=>
    dsimp only[gM]at w2;split at w2
    ·rename_i hs;cases w2;exact .inl #[mit.stop A2 H2 _ i e2 so2 hs,hd.nx _ _ #[_,A2,rfl,z1.trans e2,so2,er2]]
    ·cases w2
   | succ m=>
    dsimp only[gM]at w2;split at w2
    ·rename_i w hw;obtain⟨go,yl⟩:=mit.go A2 H2 S2 i w e2 so2 hw;refine .inr #[go,λσ3 H3=>∃A3 ρ3 S3,Ext X.K A1 H1 A3 H3/\EnvRel X.K A3 H3 ρ3 σ3/\StoreOk X.w X.K A3 H3 S3/\gM mi g fb m (i+1) ρ3 S3=ba (o,S'),λσ' H' h=>#[m,Mh _,h],λx H3 hy=>?_]
     obtain⟨x1,x2,x3⟩:=yl x H3 hy;split at w2
     ·rename_i ρ3 S3 h3;refine#[A2,ρ2,S2,w,ρ3,S3,er2.mono x1,x2,x3,h3,λσ4 H4 A4 y1 y2 y3=>?_]
      have ex:Ext X.K A1 H1 A4 H4:=(e2.trans x1).trans y1;split at w2
      ·rename_i ρ5 S5 h5;refine#[A4,ρ3,S3,_,S5,y3,y2,h5,#[λσ' H' #[ρ',A',u0,u1,u2,u3]=>?_,λv H' #[w,A',y0,_]=>(by cases y0),λv H' #[w,A',y0,_]=>(by cases y0),λv H' #[w,A',y0,_]=>(by cases y0)]]
       cases u0;exact#[A',_,S5,ex.trans u1,u3,u2,w2]
      ·rename_i ρ5 S5 h5;refine#[A4,ρ3,S3,_,S5,y3,y2,h5,#[λv H' #[w,A',y0,_]=>(by cases y0),λv H' #[w,A',y0,_]=>(by cases y0),λv H' #[w,A',y0,_]=>(by cases y0),λσ' H' #[ρ',A',u0,u1,u2,u3]=>?_]]
       cases u0;exact#[A',_,S5,ex.trans u1,u3,u2,w2]
      ·rename_i ρ5 S5 h5;cases w2;refine#[A4,ρ3,S3,_,_,y3,y2,h5,#[λv H' #[w,A',y0,_]=>(by cases y0),λv H' #[w,A',y0,_]=>(by cases y0),λσ' H' #[ρ',A',u0,u1,u2,u3]=>?_,λv H' #[w,A',y0,_]=>(by cases y0)]]
       cases u0;exact hd.nx _ _ #[_,A',rfl,(z1.trans ex).trans u1,u2,u3]
      ·rename_i w5 S5 h5;cases w2;refine#[A4,ρ3,S3,_,_,y3,y2,h5,#[λv H' #[w,A',y0,_]=>(by cases y0),λv H' #[w,A',u0,u1,u2,u3]=>?_,λv H' #[w,A',y0,_]=>(by cases y0),λv H' #[w,A',y0,_]=>(by cases y0)]]
       cases u0;exact hd.rt _ _ #[_,A',rfl,(z1.trans ex).trans u1,u2,u3]
      ·cases w2
     ·cases w2
    ·cases w2
  ·cases e
 ·cases e
end
section
variable{prog:Lk}{w:Lz}{B:Lr}{E:Ku->Kx->Prop}{s:Kx}
theorem CV {d:KF}{es:Lg M2}{ep:KC}{Q:Ku->Kx->Prop}(hd:(d==sysModules)=false)(hm:RawD d es ep s.heap)(hfit:(es.size:KO) < 2 ^ 63)
  (h:Q (.int es.size (s.toks+1)) { s with toks:=s.toks+1+1 }):wpAny (model prog w) B (call (.builtin "len") [.ref d]) Q E s:=by
 have hT:=hm.type;obtain⟨o,ho,hc,hdat⟩:=id hm;refine NZ kind_len plain_len entry_len (args_len1 _) ?_;unfold NK.«len»;refine Ks (m:=oneArg "len" _) (Ky ?_);refine Ks (m:=callSpecial? (.ref d) (MT "__len__")) (LS (name:=MT "__len__") hT F.slot_dict_len (LU F.slot_dict_len hT F.entry_dict_len ?_ (F.args_dict_len_1 _)));show wpAny _ _ (dictSize d >>= _) _ _ s;unfold dictSize;refine Ks (Ks (Ow ho hdat (Ky ?_)));show wpAny _ _ (SJ d >>= _) _ _ s;refine Ks (wpAny_pendingCount_other hd ?_);refine wpAny_ret_mkInt ?_;rw[Nat.add_zero];show wpAny _ _ _ _ _ { s with toks:=s.toks+1 }
 refine Ks (LQ (Ky ?_));refine Ks (OL ?_);show wpAny _ _ (if ((es.size:KC):KO) < 0 then _ else _) _ _ _
 rw[Li ∅]
 show wpAny _ _ (if ((es.size:KC):KO)>=2 ^ 63 then _ else _) _ _ _
 rw[Li ∅]
 exact Ks (R1 (Ky #[_,rfl,h]))
end
section
variable{X:Cx}{pins:Kr (KF×Mp)}{σ:L2.St}{H:Hp}{s:Kx}{A:Kr KF}{S:aa}
theorem uF:LCall X (.builtin "len") ur:=by
 intro pins s σ H A S xs vs us w S' I so rl rv e
 by_cases hd:∃i kvs,xs=[.ref i]/\kS S i=ba kvs
 ·obtain⟨i,kvs,rfl,hk⟩:=hd;simp only[ur,hk]at e;cases e;cases rl with
  | cons r t=>
   cases t;cases rv with
   | cons ru rv2=>
    cases rv2;cases r with
    | ref ea=>
     obtain⟨xs,rd,kr⟩:=gL so hk ea;have d:=dg I rd;obtain⟨es,ep,raw,he⟩:=d.raw;obtain rfl:_=Lq _:=ru;have hl:es.size=xs.length:=by rw[<- KW,he,Kt]
     have hz:=d.1;have hs:sizeLine=16777216:=LD;refine CV d.2.1 raw ∅ #[.int kvs.length,H,A,I.tok _,#[_,by rw[kr.length,hl]],.refl,so,.int]
 ·have:ur xs S=uc xs S:=by
   unfold ur;split
   ·rename_i i;split
    ·rename_i kvs hk;exact absurd #[i,kvs,rfl,hk] hd
    ·rfl
   ·rfl
  rw[this]at e;exact wQ pins s σ H A S xs vs us w S' I so rl rv e
noncomputable def IF (S:aa):W->Kz L8
 | .non=>ba "NoneType"|.bl _=>ba "bool"|.int _=>ba "int"|.str _=>ba "str"|.tup _=>ba "tuple"
 | .ref i=>match ii S i with
  | some _=>ba "list"
  | none=>(kS S i).map λ_=>"dict"
noncomputable def sr:Kr L8:=["bool","int","str","tuple","list","dict"]
noncomputable def xv (S:aa)(x:W)(c:L8):Kz Lf:=match IF S x with
 | some t=>if sr.contains c then ba (t==c||(t == "bool" && c == "int"))else gV
 | none=>gV
theorem iP {K:KM}{t c:L8}(ht:t∈["NoneType","bool","int","str","tuple","list","dict"])(hc:c∈sr):PySem.W.kitOne K (.type t) (.type c)=ba (t==c||(t == "bool" && c == "int")):=by
 simp only[sr,Le,LP,Nb]at ht hc;rcases ht with rfl|rfl|rfl|rfl|rfl|rfl|rfl <;> rcases hc with rfl|rfl|rfl|rfl|rfl|rfl <;> rfl
theorem zU:CallR X (.builtin "isinstance") (λvs H Q=>∃A S x v c b,vs=[v,.ty c]/\StoreOk X.w X.K A H S/\Rel X.K A H x v/\xv S x c=ba b/\Q (.bl b) H):=by
 intro pins s σ H vs us Q I rv ⟨A,S,x,v,c,b,e1,so,rx,e2,hq⟩;subst e1;cases rv with
 | cons r1 rv2=>cases rv2 with
  | cons r2 rv3=>
   cases rv3;obtain rfl:_=Mq c:=r2;unfold xv at e2;split at e2
   ·rename_i t ht;split at e2
    ·rename_i hc;cases e2;have hc':c∈sr:=by simpa using hc
     have fin:∀tk,EP X pins σ Q (.bool (t==c||(t == "bool" && c == "int"))) { s with toks:=tk }:=λtk=>#[.bl _,H,I.tok _,rfl,hq]
     cases rx with
     | non=>cases ht; cases(show _=LG from r1); exact Ni PySem.W.kitx_none I.kIn OF (iP (by simp) hc') (λz=>nomatch z) fin
     | bl=>cases ht; cases(show _=NN _ from r1); exact Ni PySem.W.kitx_bool I.kIn OF (iP (by simp) hc') (λz=>nomatch z) fin
     | int=>cases ht; obtain⟨t',q⟩:=(show ∃t,_=PF _ t from r1); cases q; exact Ni PySem.W.kitx_int I.kIn OF (iP (by simp) hc') (λz=>nomatch z) fin
     | str=>cases ht; obtain⟨t',q⟩:=(show ∃t,_=OA _ t from r1); cases q; exact Ni PySem.W.kitx_str I.kIn OF (iP (by simp) hc') (λz=>nomatch z) fin
     | tup h1 r1'=>
      cases ht;obtain⟨its,rv,⟨o,q1,q2,_⟩,hz⟩:=I.tuple h1;cases(show _=Lq _ from r1)
      exact Ni PySem.W.kitx_tuple I.kIn #[o,q1,q2] (iP (by simp) hc') (λz=>nomatch z) fin
     | ref ea=>
      cases(show _=Lq _ from r1)
      simp only[IF]at ht;split at ht
      ·rename_i ws hw;cases ht;obtain⟨vs,h1,_⟩:=c8 so hw ea;obtain⟨its,rv,p,hz⟩:=I.list h1;obtain⟨o,q1,q2,_⟩:=p.isList;exact Ni PySem.W.kitx_list I.kIn #[o,q1,q2] (iP (by simp) hc') (λz=>nomatch z) fin
      ·rw[Kv]at ht;obtain⟨kvs,hk,rfl⟩:=ht;obtain⟨xs,rd,kr⟩:=gL so hk ea;obtain⟨es,ep,⟨o,q1,q2,_⟩,he⟩:=(dg I rd).raw;exact Ni PySem.W.kitx_dict I.kIn #[o,q1,q2.1] (iP (by simp) hc') (λz=>nomatch z) fin
    ·cases e2
   ·cases e2
noncomputable def zW (c:L8)(f:FE):FE:=λρ S=>match f ρ S with
 | some (x,S1)=>(xv S1 x c).map λb=>(.bl b,S1)
 | none=>gV
theorem FB {cn:KZ}{c:L8}{e:Lb}{p p2 pos:M9}{f:FE}(hg:Gl X "isinstance")(hm:X.mg "isinstance" = gV)(hg2:Gl X cn)(hm2:X.mg cn=gV)(hv2:bootBuiltins cn=ba (.type c))(hn2:cn≠"__name__")(hd2:(cn==("__debug__" : KZ))=false)
  (he:GE X e f) (hs:starEach [e,.Name cn p2] X.env=(false,eval e X.env)::starEach [.Name cn p2] X.env):GE X (.Call (.Name "isinstance" p) [e,.Name cn p2] [] pos) (zW c f):=
 GE.of (rn (zU) hg hm rfl (pL he (pL (BE (v:=.ty c) hg2 hm2 hv2 rfl hn2 hd2) yy) hs) #v[] #v[] hs rfl) λσ H A ρ S w S' er so e Q hq=>by
  unfold zW at e;split at e
  ·rename_i x1 S1 h1;rw[Kv]at e;obtain⟨b,e1,e2⟩:=e;cases e2;exact#[A,ρ,S,x1,_,er,so,h1,λv H1 #[A1,z1,z2,z3]=>#[A1,_,x1,v,c,b,rfl,z2,z3,e1,hq _ _ #[A1,z1,z2,.bl]]]
  ·cases e
end
noncomputable def ey:Kr (T×W)->Kr W->Kz (Kr (T×W))
 | kvs,[]=>ba kvs
 | kvs,k::v::ws=>match ik k with
  | some t=>ey (fE kvs t v) ws
  | none=>gV
 | _,[_]=>gV
noncomputable def DX:FE:=λ_ S=>ba (.ref S.length,S++[.dic []])
noncomputable def su (f:FA):FE:=λρ S=>match f ρ (S++[.dic []])with
 | some (ws,S1)=>match S1[S.length]? with
  | some (.dic [])=>match ey [] ws with
   | some kvs=>ba (.ref S.length,S1.set S.length (.dic kvs))
   | none=>gV
  | _=>gV
 | none=>gV
section
variable (K:KM) (A:Kr KF) (H:Hp)
inductive RelP:Kr W->Kr (V×V)->Prop
 | nil:RelP [] []
 | cons {k v:W} {a b:V} {ws:Kr W} {ps:Kr (V×V)}:Rel K A H k a->Rel K A H v b->RelP ws ps->RelP (k::v::ws) ((a,b)::ps)
end
theorem RelP.mono {K:KM}{A A':Kr KF}{H H':Hp}(e:Ext K A H A' H'){ws:Kr W}{ps:Kr (V×V)}(h:RelP K A H ws ps):RelP K A' H' ws ps:=by
 induction h with
 | nil=>exact .nil
 | cons a b c ih=>exact .cons (a.mono e) (b.mono e) ih
section
variable{X:Cx}{pins:Kr (KF×Mp)}{σ:L2.St}{H:Hp}{s:Kx}{A:Kr KF}{S:aa}
noncomputable def Jv (X:Cx)(A:Kr KF)(H:Hp)(S':aa)(ws:Kr W):Kr (V×V)->Hp->Prop:=λps H'=>∃A',Ext X.K A H A' H'/\StoreOk X.w X.K A' H' S'/\RelP X.K A' H' ws ps
noncomputable def Hr (X:Cx)(pos:M9)(keys:Kr (Kz Lb))(values:Kr Lb)(f:FA):Prop:=
 ∀(pins:Kr (KF×Mp)) (s:Kx) (σ:L2.St) (H:Hp) (A:Kr KF) (ρ:Fm) (S:aa) (ws:Kr W) (S':aa),Inv X pins σ H s->EnvRel X.K A H ρ σ->StoreOk X.w X.K A H S->f ρ S=ba (ws,S')->
  wpAny (model X.prog X.w) X.A (evalPairs (pairTrees keys values X.env pos)) (λvs s'=>∃ps H',Inv X pins σ H' s'/\VV ps vs/\Jv X A H S' ws ps H') X.xe s
theorem CW {pos:M9}:Hr X pos [] [] jV:=λpins s σ H A ρ S ws S' I er so e=>by
 cases e;exact pairTrees_nil_walk #[[],H,I,.nil,A,.refl,so,.nil]
theorem zX {pos:M9}{k v:Lb}{ks:Kr (Kz Lb)}{vs:Kr Lb}{fk fv:FE}{f:FA}(hk:GE X k fk)(hv:GE X v fv)(hr:Hr X pos ks vs f):Hr X pos (ba k::ks) (v::vs) (fm fk (fm fv f)):=λpins s σ H A ρ S ws S' I er so e=>by
 unfold fm at e;split at e
 ·rename_i w1 S1 h1;split at e
  ·rename_i w2 S2 h2;cases e;split at h2
   ·rename_i w3 S3 h3;split at h2
    ·rename_i w4 S4 h4;cases h2;refine pairTrees_cons_walk (ce (hk pins s σ H (EndV X.w X.K A H S1 w1) I #[A,ρ,S,_,_,er,so,h1,λ_ _ z=>z]) λu s1 #[x,H1,I1,r1,A1,e1,o1,z1]=>
      ce (hv pins s1 σ H1 (EndV X.w X.K A1 H1 S3 w3) I1 #[A1,ρ,S1,_,_,er.mono e1,o1,h3,λ_ _ z=>z]) λu2 s2 #[x2,H2,I2,r2,A2,e2,o2,z2]=>
      ce (hr pins s2 σ H2 A2 ρ S3 _ _ I2 (er.mono (e1.trans e2)) o2 h4) λvs' s3 #[ps,H3,I3,rel,A3,e3,o3,z3]=>?_)
     exact#[(x,x2)::ps,H3,I3,.cons #[r1,r2] rel,A3,e1.trans (e2.trans e3),o3,.cons (z1.mono (e2.trans e3)) (z2.mono e3) z3]
    ·cases h2
   ·cases h2
  ·cases e
 ·cases e
theorem pb {r:KC}{d:KF}{E:Ku->Kx->Prop}(hu:X.A.units+10 < cLine):∀(vs:Kr (Ku×Ku)) (ps:Kr (V×V)) (ws:Kr W) (kvs kvs':Kr (T×W)) (s:Kx) (H:Hp) (S:aa) (Q:PUnit->Kx->Prop),
  Inv X pins σ H s->StoreOk X.w X.K A H S->p8 S r=ba kvs->A[r]?=ba d->RelP X.K A H ws ps->VV ps vs->ey kvs ws=ba kvs'->kvs.length+vs.length<=30->
  (∀s' H',Inv X pins σ H' s'->Ext X.K A H A H'->StoreOk X.w X.K A H' (S.set r (.dic kvs'))->Q Q7 s')->
  wpAny (model X.prog X.w) X.A (forIn vs Q7 λ(x:Ku×Ku) (_:PUnit)=>(do dictSet d x.1 x.2; pure (My Q7):Tz (ForInStep PUnit))) Q E s
 | [],_,_,kvs,kvs',s,H,S,Q,I,so,hr,ea,rp,vv,e,hl,hq=>by
  cases vv;cases rp;cases e;rw[SF];refine Ky (hq s H I .refl ?_);have hS:=jm hr;have:S.set r (.dic kvs)=S:=by
   apply Pp;intro j;rw[MH];split
   ·rename_i e; subst e
    split
    ·exact hS.symm
    ·rename_i h; exact absurd (KJ.mp hS).1 h
   ·rfl
  rw[this]; exact so
 | (ku,vu)::vs,_,_,kvs,kvs',s,H,S,Q,I,so,hr,ea,rp,vv,e,hl,hq=>by
  cases vv with
  | cons hv vv2=>
   cases rp with
   | @cons wk wv va vb ws2 ps2 rk rv' rp2=>
    simp only[ey]at e;split at e
    ·rename_i t ht;rw[Qa];obtain⟨xs,hH,kr⟩:=vm so hr ea;have dd0:=dg I (.inl hH);have dd:=dd0.dict I kr;obtain⟨bk,e1,e2,rkk⟩:=jl ht rk hv.1;have e2:ku=Lq bk:=e2;subst e2;obtain⟨q1,q2,q3⟩:=eR ht;rw[LJ]at hl;have hz:xs.length<=sizeLine:=dd0.1;refine Ks (Ks (wpAny_dictSet_heap (hsz:=hz) (show X.A.units+aC < cLine by unfold aC; omega) (jR I rkk q3) dd λh' dd' hs=>Ky ?_))
     have kr':=kr.put q2 q3 rkk rv' hv.2;have hz':(storedH xs t bk vu).length<=sizeLine:=by
      rw[<- kr'.length];have h2:=dv kvs t wv;rw[LD];omega
     have dn:DicAt X.w d (storedH xs t bk vu) h':=.of hz' dd0.2.1 dd';obtain⟨so',ex⟩:=so.writeO (jm hr) rfl ea (u:=eY X.w d (storedH xs t bk vu)) (n:=.dic (fE kvs t wv)) #[_,bv,kr'.mono (dU (.ext hH))];have I':Inv X pins σ (cv H d (eY X.w d (storedH xs t bk vu))) { s with heap:=h',toks:=s.toks+(bL X.prog X.w).draws t }:=pS I (by rw[hH]; exact OF) hs (let ⟨q,_,_,hq,_⟩:=dd'; #[q,hq]) dn.ok
     have hl':(S.set r (.dic (fE kvs t wv)))[r]?=ba (.dic (fE kvs t wv)):=by
      rw[MH,La rfl,La (KJ.mp (jm hr)).1]
     refine pb hu vs _ _ (fE kvs t wv) kvs' _ _ _ Q I' so' (by unfold p8; rw[hl']) ea (rp2.mono ex) vv2 e (by have:=dv kvs t wv; omega) λs' H' I2 ex2 so2=>?_
     rw[List.set_set]at so2;exact hq s' H' I2 (ex.trans ex2) so2
    ·cases e
theorem CY {pos:M9}:GE X (.Dict [] [] pos) DX:=λpins s σ H Q I #[A,ρ,S,w,S',er,so,e,hq]=>by
 cases e;have hn:=I.hok.fresh (KH s.heap.objs.size);have dn:DicAt X.w s.heap.objs.size [] (s.heap.push { cls:=.type "dict",data:=.dict #[] }):=#[Mm _,OS.mpr (Ne.symm (K7 I.big)),Qx,_,#[],0,KT _ rfl,#[rfl,rfl,rfl],rfl,rfl];refine wpAny_Dict_empty #[.ref s.heap.objs.size,_,I.laid (a:=s.heap.objs.size) (o:=eY X.w s.heap.objs.size []) (t':=s.toks) (λ_ _ q=>Kw _ q) (KH _) dn.ok,rfl,hq _ _ #[A++[s.heap.objs.size],dD hn,so.pushO hn #[[],bv,.nil],.ref ?_]]
 rw[<- so.len]; simp
theorem CZ {pos:M9}{keys:Kr (Kz Lb)}{values:Kr Lb}{f:FA}(hu:X.A.units+10 < cLine)(h:Hr X pos keys values f)(hall:keys.all (·.isSome)=true)(hl:keys.length=values.length)(h0:keys≠[])(h15:keys.length<=15):GE X (.Dict keys values pos) (su f):=by
 intro pins s σ H Q I ⟨A,ρ,S,w,S',er,so,e,hq⟩;unfold su at e;split at e
 ·rename_i ws S1 h1;split at e
  ·rename_i hS1;split at e
   ·rename_i kvs hp;cases e;have hn:=I.hok.fresh (KH s.heap.objs.size);have dn:DicAt X.w s.heap.objs.size [] (s.heap.push { cls:=.type "dict",data:=.dict #[] }):=#[Mm _,OS.mpr (Ne.symm (K7 I.big)),Qx,_,#[],0,KT _ rfl,#[rfl,rfl,rfl],rfl,rfl];have I1:=I.laid (a:=s.heap.objs.size) (o:=eY X.w s.heap.objs.size []) (h':=s.heap.push { cls:=.type "dict",data:=.dict #[] }) (t':=s.toks) (λ_ _ q=>Kw _ q) (KH _) dn.ok
    have ex0:Ext X.K A H (A++[s.heap.objs.size]) (cv H s.heap.objs.size (eY X.w s.heap.objs.size [])):=dD hn;have so0:StoreOk X.w X.K (A++[s.heap.objs.size]) (cv H s.heap.objs.size (eY X.w s.heap.objs.size [])) (S++[.dic []]):=so.pushO hn #[[],bv,.nil];have hlen:=pairTrees_length keys values X.env pos hall hl;have hne:pairTrees keys values X.env pos≠[]:=λhe=>by
     rw[he]at hlen;exact h0 (M3.mp hlen.symm)
    rw[arm_eval_Dict,zip_pairTrees keys values X.env pos hall hl,dictDisplay_pairs _ hne ∅]
    refine Ks (OG (Ks ?_));unfold subDict;refine Ks (TL ?_);refine Ks (LQ ?_);rw[La ∅]
    refine Ks (Mz (wpAny_evalPairs_len (h pins _ σ _ _ ρ _ _ _ I1 (er.mono ex0) so0 h1)) (λvs s₁ h₁=>?_) λ_ _ e=>e)
    obtain⟨hvl,ps,H2,I2,vv,A2,ex2,so2,rp⟩:=h₁;refine LQ ?_;have ea:A2[S.length]?=ba s.heap.objs.size:=ex2.ad _ _ (by rw[<- so.len]; simp)
    refine Ks (pb hu vs ps ws [] kvs s₁ H2 S1 _ I2 so2 (by unfold p8; rw[hS1]) ea rp vv hp (by rw[MN]; omega) λs' H' I3 ex3 so3=>?_)
    exact Ky (Ky (Ky #[.ref s.heap.objs.size,H',I3,rfl,hq _ _ #[A2,ex0.trans (ex2.trans ex3),so3,.ref ea]]))
   ·cases e
  ·cases e
 ·cases e
end
noncomputable def J7 (wd:Lz)(a:KF)(o:Mp)(xs:Kr (T×KF×Ku)):It:=
 #[λi H=>H a=ba (.frz o (eY wd a xs))/\i < xs.length,λi H x H'=>H'=H/\∃q,xs[i]?=ba q/\x=.ref q.2.1,λi H=>H a=ba (.frz o (eY wd a xs))/\xs.length<=i]
theorem xw {P:Lk}{w:Lz}{K:KM}{tg:Lb}(a it:KF){o:Mp}{es:Lg M2}{ep:KC}{xs:Kr (T×KF×Ku)}(hx:o.ExactDict)(hd:o.data=.dict es ep)(he:es.toList=xs.map (yM w)) :
  Turn P w K tg (J7 w a o xs) [it] it (λi h=>h.IsKeyIter it a i es.size ep) where
 mem:=by simp
 obj:=λi h st b hb=>by
  have e:b=it:=by simpa using hb
  subst e;obtain⟨o,e,c,d⟩:=st;exact#[o,e,λv z=>by rw[d]at z; cases z]
 keep:=λi h h' st k=>st.at λo e=>k it (by simp) o e
 item:=by
  intro X hP hw hK hc i pins s σ H E I hf st hg;subst hP hw hK;obtain⟨hH,hi⟩:=hg;have ho:s.heap.get? a=ba o:=(show ObjOk X.prog X.w H s.heap a (.frz o (eY X.w a xs))from I.hok a _ hH).1
  have hl:es.size=xs.length:=by rw[<- KW,he,Kt]
  have hi':i < es.size:=∅
  obtain⟨f0,f1,f2,f3,f4,f5⟩:=hf it (by simp)
  have hk:es[i].key=.ref (xs[i]).2.1:=by
   have:es.toList[i]?=ba (yM X.w xs[i]):=by rw[he,KD,KI hi]; rfl
   rw[L5,MP hi']at this;have:=LV this;rw[this]; rfl
  refine rR st #[o,ho,hx,hd] hi' λh' st' sb=>?_
  have I1:Inv X pins σ H { s with heap:=h' }:=I.turned (t':=s.toks) (λb o hb e=>(sb.2 b hb).trans e) f0 f1 f3 f4 f5
  obtain⟨o',e,c,d⟩:=id st';exact#[_,rfl,uZ (s:={ s with heap:=h' }) e c d #v[] #[.ref (xs[i]).2.1,H,I1,hk,#[rfl,xs[i],KI hi,rfl],st',λb hb=>(hf b hb).1]]
 done:=by
  intro X hP hw hK hc i pins s σ H E I hf st hg;subst hP hw hK;obtain⟨hH,hi⟩:=hg;have ho:s.heap.get? a=ba o:=(show ObjOk X.prog X.w H s.heap a (.frz o (eY X.w a xs))from I.hok a _ hH).1
  have hl:es.size=xs.length:=by rw[<- KW,he,Kt]
  obtain⟨f0,f1,f2,f3,f4,f5⟩:=hf it (by simp)
  exact vo (I.ok.hd hc) st #[o,ho,hx,hd] ∅ λh' eb=>#[rfl,I.turned (t':=s.toks) (λb o hb e=>eb b o hb e) f0 f1 f3 f4 f5]
 self:=λ_ _ _ _ _ st h=>Qv st h
noncomputable def fW (f:FE):FI:=λρ S=>match f ρ S with
 | some (.tup ws,S1)=>ba (.its ws,S1)
 | some (.ref r,S1)=>match ii S1 r with
  | some _=>ba (.live r,S1)
  | none=>match kS S1 r with
   | some kvs=>ba (.its (kvs.map λp=>p.1.w),S1.set r (.frd kvs))
   | none=>gV
 | _=>gV
section
variable{X:Cx}{pins:Kr (KF×Mp)}{σ:L2.St}{H:Hp}{s:Kx}{A:Kr KF}{S:aa}
theorem zY {a:KF}{o:Mp}{kvs:Kr (T×W)}{xs:Kr (T×KF×Ku)}(hH:H a=ba (.frz o (eY X.w a xs)))(kr:KRel X.K A H kvs xs):MIt X.w X.K (.its (kvs.map λp=>p.1.w)) (J7 X.w a o xs) A H:=by
 refine#[λA' H' S i w e so hi=>?_,λA' H' S i e so hi=>?_]
 ·simp only[MI.at,Lv]at hi;obtain⟨v,h1,h2⟩:=((kr.mono e).keysL).get hi;rw[KD,Kv]at h1;obtain⟨q,q1,q2⟩:=h1;refine#[#[e.fz _ _ _ hH,(KJ.mp q1).1],λx H2 #[z1,q',z2,z3]=>?_]
  subst z1 z3;rw[q1]at z2; cases z2
  exact#[.refl,so,by rw[q2]; exact h2]
 ·simp only[MI.at,Lv]at hi;refine#[e.fz _ _ _ hH,?_];have:=LY.mp hi;rw[Kt,kr.length]at this;exact this
theorem C0 {tg l:Lb}{f:FE}(h:GE X l f):GI X tg l (fW f):=by
 intro pins s σ H R I ⟨A,ρ,S,mi,S',er,so,e,hq⟩
 by_cases hd:∃r S1 kvs,f ρ S=ba (.ref r,S1)/\ii S1 r=gV/\kS S1 r=ba kvs
 ·obtain⟨r,S1,kvs,h1,h2,h3⟩:=hd;simp only[fW,h1,h2,h3]at e;cases e;refine ce (h pins s σ H (EndV X.w X.K A H S1 (.ref r)) I #[A,ρ,S,_,_,er,so,h1,λ_ _ z=>z]) λv s1 #[x,H1,I1,r1,A1,e1,o1,z1]=>?_
  cases z1 with
  | @ref _ a ea=>
   obtain rfl:v=Lq a:=r1;have fz:∃o xs H2,Inv X pins σ H2 s1/\Ext X.K A1 H1 A1 H2/\StoreOk X.w X.K A1 H2 (S1.set r (.frd kvs))/\H2 a=ba (.frz o (eY X.w a xs))/\KRel X.K A1 H2 kvs xs:=by
    unfold kS at h3;split at h3
    ·rename_i k hk;cases h3;obtain⟨xs,hH,kr⟩:=o1.obj r _ a hk ea;have d:=dg I1 (.inl hH);obtain⟨_,_,_,o,es,ep,q1,q2,q3,q4⟩:=id d;obtain⟨so',ex⟩:=o1.writeO hk rfl ea (u:=.frz o (eY X.w a xs)) (n:=.frd kvs) #[o,xs,bv,kr.mono (dU (.ext hH))];exact#[o,xs,_,pS (h':=s1.heap) (t':=s1.toks) (ob:=.frz o (eY X.w a xs)) I1 (by rw[hH]; exact OF) (Rv _ _) #[o,q1] #[q1,d.ok],ex,so',bv,kr.mono ex]
    ·rename_i k hk;cases h3;obtain⟨o,xs,hH,kr⟩:=o1.obj r _ a hk ea;have:S1.set r (.frd kvs)=S1:=by
      apply Pp;intro j;rw[MH];split
      ·rename_i e; subst e
       split
       ·exact hk.symm
       ·rename_i h; exact absurd (KJ.mp hk).1 h
      ·rfl
     rw[this];exact#[o,xs,H1,I1,.refl,o1,hH,kr]
    ·cases h3
   obtain⟨o,xs,H2,I2,ex,so2,hH,kr⟩:=fz;have d:=dg I2 (.inr #[o,hH]);have ho:s1.heap.get? a=ba o:=(show ObjOk X.prog X.w H2 s1.heap a (.frz o (eY X.w a xs))from I2.hok a _ hH).1
   obtain⟨_,hsm,_,o',es,ep,q1,q2,q3,q4⟩:=id d;rw[ho]at q1;cases q1;refine rQ hsm #[o,ho,q2,q3] ?_;refine#[s1.heap.objs.size,[s1.heap.objs.size],_,_,H2,rfl,I2.kept (t':=s1.toks) λb o e=>Kw _ e,xw a _ q2 q3 q4,#[_,KT _ rfl,rfl,rfl],λb hb=>?_,hq _ _ A1 (e1.trans ex) so2 (zY hH kr)]
   have e:b=s1.heap.objs.size:=by simpa using hb
   subst e;exact I2.fpOk (KH _) (I2.hok.fresh (KH _))
 ·have:fW f ρ S=CP f ρ S:=by
   unfold fW CP;cases hf:f ρ S with
   | none=>rfl
   | some p=>
    obtain⟨w,S1⟩:=p;cases w with
    | ref r=>
     cases h2:ii S1 r with
     | some _=>simp only[h2]
     | none=>
      cases h3:kS S1 r with
      | none=>simp only[h2,h3]
      | some kvs=>exact absurd #[r,S1,kvs,hf,h2,h3] hd
    | _=>rfl
  rw[this]at e;exact Fy h pins s σ H R I #[A,ρ,S,mi,S',er,so,e,hq]
end
noncomputable def ci (mi:MI)(g:FG)(c:FT)(f:FE):KC->KC->Fm->aa->Kz (Kr W×aa)
 | 0,i,_,S=>match mi.at S i with
  | some gV=>ba ([],S)
  | _=>gV
 | n+1,i,ρ,S=>match mi.at S i with
  | some (ba w)=>match g w ρ S with
   | some (ρ1,S1)=>match c ρ1 S1 with
    | some (true,S2)=>match f ρ1 S2 with
     | some (y,S3)=>match ci mi g c f n (i+1) ρ1 S3 with
      | some (ys,S4)=>ba (y::ys,S4)
      | none=>gV
     | none=>gV
    | some (false,S2)=>ci mi g c f n (i+1) ρ1 S2
    | none=>gV
   | none=>gV
  | _=>gV
noncomputable def gn (cap:Kr (Kz KC))(ρ:Fm):Fm:=cap.map λo=>match o with
 | some j=>(ρ[j]?).join
 | none=>gV
noncomputable def my (fi:FI)(g:FG)(c:FT)(f:FE)(cap:Kr (Kz KC)):FE:=λρ S=>match fi ρ S with
 | some (mi,S1)=>match mi.len S1 with
  | some n=>match ci mi g c f n 0 (gn cap ρ) S1 with
   | some (ys,S2)=>nL S2 ys
   | none=>gV
  | none=>gV
 | none=>gV
noncomputable def DY:FT:=λ_ S=>ba (true,S)
noncomputable def nJ (X:Cx)(scope:NJ)(cl:Kr (KZ×KF))(C:KF)(N:Kr KZ)(s0:Kx)(H0:Hp)(ex:Kr KF):Cx:=
 { X with env:=compEnvC scope cl C X.env,N:=N,s₀:=s0,H₀:=H0,outer:=X.stack,stack:=X.stack,ex:=ex,fn:=λ_=>false,pn:=[],xe:=λ_ _=>L7 }
structure CompOk (X:Cx)(scope:NJ)(cl:Kr (KZ×KF))(N:Kr KZ)(cap:Kr (Kz KC)):Prop where
 clos:closureFor scope X.env=pure cl
 kind:scope.kind=.function
 names:∀y∈scope.names,y.2=.local->scope.names.lookup y.1=ba .local
 nocell:∀y∈scope.names,y.2≠.cell
 sub:∀x c,cl.lookup x=ba c->X.env.cells.lookup x=ba c
 has:∀x,((relabel scope X.env).names.lookup x=ba .cell\/(relabel scope X.env).names.lookup x=ba .free)->∃c,cl.lookup x=ba c
 len:cap.length=N.length
 cap:∀(i j:KC) (x:KZ),cap[i]?=ba (ba j)->N[i]?=ba x->X.N[j]?=ba x/\(X.env.kindOf x=ba .cell\/X.env.kindOf x=ba .free)/\((relabel scope X.env).names.lookup x=ba .cell\/(relabel scope X.env).names.lookup x=ba .free)
theorem io {prog:Lk}{w:Lz}{A:Lr}{R:RJ->Kx->Prop}{s:Kx}{elt target iter:Lb}{ifs:Kr Lb}{scope:NJ}{pos:M9}{it acc:Ku}{env:Ri}(I:KC->Kx->Prop)
    (turn:∀n s,I n s->wpAny (model prog w) A (pyNext it) (λr s₁=>match r with
      | none=>R (.ok .next) s₁
      | some v=>wpAny (model prog w) A (letOwnedTupleGo target it v) (λ_ s₁=>wpAny (model prog w) A (assign target env v) (λ_ s₂=>
          wpAny (model prog w) A (forIn ifs true λc r=>if r=true then do let ok <- isTrue c env (eval c env); pure (My ok)else pure (My r)) (λok s₃=>
            if ok=true then wpAny (model prog w) A (eval elt env) (λx s₄=>
              wpAny (model prog w) A (call (.builtin "list.append") [acc,x]) (λ_ s₅=>∃m,m < n/\I m s₅) (λ_ _=>L7) s₄) (λ_ _=>L7) s₃
            else ∃m,m < n/\I m s₃) (λ_ _=>L7) s₂) (λ_ _=>L7) s₁) (λ_ _=>L7) s₁) (λ_ _=>L7) s)
    (n:KC) (h:I n s) :
    codeAny (model prog w) A (.compLoop (.ListComp elt [#[target,iter,ifs,0]] scope pos) 0 it acc env) R s:=by
  refine codeAny_loop rfl I (λn s hI=>?_) n h
  show wpAny _ A ((compTurn (.ListComp elt [#[target,iter,ifs,0]] scope pos) 0 it acc env).onRaise (λx=>do noteFrame x env; theTreesLotGoes x)) _ _ s
  refine wpAny_noted ?_;rw[compTurn_list];refine Ks (OG (Ks (Mz (turn n s hI) (λr s₁ h₁=>?_) λ_ _ h'=>h'.elim)))
  cases r with
  | none=>exact Ky h₁
  | some v=>
    refine Ks (Mz h₁ (λ_ s₁ h₁=>?_) λ_ _ h'=>h'.elim)
    refine Ks (Mz h₁ (λ_ s₂ h₂=>Ks (Mz h₂ (λok s₃ h₃=>?_) λ_ _ h'=>h'.elim)) λ_ _ h'=>h'.elim)
    cases ok with
    | false=>exact Ky #[rfl,h₃]
    | true=>
      exact Ks (Ks (Mz h₃ (λx s₄ h₄=>Ks (Mz h₄ (λ_ s₅ h₅=>Ky (Ky #[rfl,h₅])) λ_ _ h'=>h'.elim)) λ_ _ h'=>h'.elim))
section
variable{X:Cx}{pins:Kr (KF×Mp)}{σ:L2.St}{H:Hp}{s:Kx}
theorem Inv.adopt {D:KF}{o:HO}(I:Inv X pins σ H s)(hn:H D=gV)(h1:D∈X.ex\/X.s₀.heap.objs.size<=D)(hL:D≠X.env.locals)(h2:∀x c,X.env.cells.lookup x=ba c->c≠D)(h3:∀p∈X.pn++pins,p.1≠D)
  (new:ObjOk X.prog X.w (cv H D o) s.heap D o):Inv X pins σ (cv H D o) s:=by
 have nit:∀b u,H b=ba u->b≠D:=λb u e z=>by rw[z,hn]at e; cases e
 have key:Inv X pins σ (cv H D o) { s with heap:=s.heap,gens:=s.gens,drawn:=s.drawn,toks:=s.toks }:=by
  refine I.step (g':=s.gens) (d':=s.drawn) (t':=s.toks) (h':=s.heap) (ch:=[D]) (λb hb=>?_) (λb o _ _ hc e _=>e) (λb o _ _ hc e _=>#[o.slots,e]) (λb o hc e n=>?_)
   (λb o hc e=>#[o,e]) (λb xs e=>?_) (λb o xs e=>?_) (λb ps e=>#[#[],?_]) (λm hm=>hm) (λb u e=>?_) I.bare
  ·have e:b=D:=by simpa using hb
   subst e;exact#[h1,hL,h2,h3]
  ·rw[aO (λz=>hc (by simp[z]))]; exact n
  ·rw[aO (nit b _ e)]; exact e
  ·rw[aO (nit b _ e)]; exact e
  ·rw[aO (nit b _ e),e]; simp
  ·by_cases hb:b=D
   ·subst hb; rw[bv]at e; cases e; exact new
   ·rw[aO hb]at e;refine(I.hok b u e).stay (λc v hc q=>q) (λc q=>?_) λc xs q=>?_
    ·rw[aO (nit c _ q)]; exact q
    ·rw[aO (nit c _ q)]; exact q
 exact key
theorem FC {scope:NJ}{cl:Kr (KZ×KF)}{N:Kr KZ}{cap:Kr (Kz KC)}{C:KF}{s0:Kx}{ex:Kr KF}(I:Inv X pins σ H s)(ck:CompOk X scope cl N cap)(hs:s.heap.objs.size<=s0.heap.objs.size)(hC:s0.heap.objs.size<=C)
  (hk:∀b o,s.heap.get? b=ba o->s0.heap.get? b=ba o) (hex:∀b∈ex,(b≠C)/\(∀x c,X.env.cells.lookup x=ba c->c≠b)/\(∀o,X.base.get? b≠ba o)/\b∉tQ X.stack) :
  (nJ X scope cl C N s0 H ex).Ok where
 mod:=I.ok.mod
 kind:=ck.kind
 glob:=I.ok.glob
 blt:=I.ok.blt
 above:=hC
 inj:=λx y c h1 h2=>I.ok.inj x y c (ck.sub x c h1) (ck.sub y c h2)
 has:=λx h=>ck.has x h
 cab:=λx c h=>by cases h
 hd:=I.ok.hd
 frames:=I.ok.frames
 stk:=.inl rfl
 exf:=λb hb=>#[(hex b hb).1,λx c h=>(hex b hb).2.1 x c (ck.sub x c h)]
 bs:=λb o e=>#[hk b o (I.bk b o e),(I.bs b o e).2]
 bsz:=KQ (KQ I.ok.bsz I.sz) hs
 noex:=λb o e hb=>(hex b hb).2.2.1 o e
 exfs:=λb hb=>(hex b hb).2.2.2
 funs:=I.stack.of_keeps λb o e _=>#[o,hk b o e,rfl]
 frf:=I.stkFree
structure BlockOk (X:Cx)(scope:NJ)(cl:Kr (KZ×KF))(N:Kr KZ)(tg elt:Lb)(ifs:Kr Lb)(g:FG)(c:FT)(f:FE):Prop where
 tgt:∀C s0 H0 ex,GG (nJ X scope cl C N s0 H0 ex) tg g
 tst:∀C s0 H0 ex pins s σ H Q,Inv (nJ X scope cl C N s0 H0 ex) pins σ H s->tT (nJ X scope cl C N s0 H0 ex) c σ H Q->
  wpAny (model X.prog X.w) X.A (forIn ifs true λc r=>if r=true then do let ok <- isTrue c (compEnvC scope cl C X.env) (eval c (compEnvC scope cl C X.env)); pure (My ok)else pure (My r)) (TP (nJ X scope cl C N s0 H0 ex) pins σ Q) (λ_ _=>L7) s
 elt:∀C s0 H0 ex,GE (nJ X scope cl C N s0 H0 ex) elt f
theorem ql {prog:Lk}{w:Lz}{B:Lr}{s:Kx}{E:Ku->Kx->Prop}{Q:Ku->Kx->Prop}{D:KF}{its:Kr Ku}{n:KC}{u:Ku}(e:s.heap.get? D=ba { cls:=.type "list",data:=.seq its.toArray n })(hz:its.length < sizeLine)
  (h:∀h' n',h'.get? D=ba { cls:=.type "list",data:=.seq (its++[u]).toArray n' }->(∀b o,b≠D->s.heap.get? b=ba o->h'.get? b=ba o)->Q .none { s with heap:=h' }) :
  wpAny (model prog w) B (call (.builtin "list.append") [.ref D,u]) Q E s:=by
 refine O4 F.slot_list_append #[_,e,rfl] F.entry_list_append (F.args_list_append_2 _ _) (Rq D its.toArray n u (by rw[KR]; exact MF ‹_›)) #[e,?_]
 have q:=RN e (λa=>a.push u)
 have e2:its.toArray.push u=(its++[u]).toArray:=by simp
 rw[e2]at q;exact h _ _ q (λb o hb ho=>(LB s.heap (Mb λa=>a.push u) (Ne.symm hb)).trans ho)
theorem pc {scope:NJ}{cl:Kr (KZ×KF)}{N:Kr KZ}{cap:Kr (Kz KC)}{tg elt iter:Lb}{ifs:Kr Lb}{g:FG}{c:FT}{f:FE}{pos:M9}{A:Kr KF}{ρ:Fm}{S S':aa}{mi:MI}{n:KC}{ws:Kr W}{E:Ku->Kx->Prop}
  {it:KF} {fp:Kr KF} {tn:KC->LI->Prop} {J:It} {RR:Ku->KF->RJ->Kx->Prop}
  (I:Inv X pins σ H s) (hc:X.calm=true) (er:EnvRel X.K A H ρ σ) (so:StoreOk X.w X.K A H S) (ck:CompOk X scope cl N cap) (bk:BlockOk X scope cl N tg elt ifs g c f)
  (T:Turn X.prog X.w X.K tg J fp it tn) (t0:tn 0 s.heap) (hfp:∀b∈fp,jL X pins H b) (mit:MIt X.w X.K mi J A H) (e:ci mi g c f n 0 (gn cap ρ) S=ba (ws,S')) (hz:ws.length<=sizeLine)
  (fin:∀D C s' H' A' vs m,s'.heap.Ns C m->H' D=gV->D≠C->C≠X.env.locals->C∉X.fs->H' C=gV->X.s₀.heap.objs.size<=C->(∀x c,X.env.cells.lookup x=ba c->c≠C)->(∀p∈X.pn++pins,p.1≠C)->
   Inv X pins σ (cv H' D (.lst vs)) s'->Ext X.K A H A' H'->StoreOk X.w X.K A' H' S'->RelL X.K A' H' ws vs->RR (.ref D) C (.ok .next) s') :
  wpAny (model X.prog X.w) X.A (newList []) (λacc s₃=>wpAny (model X.prog X.w) X.A (newFunctionEnv scope X.env.globals cl [] X.env.qual gV .none (ba X.env)) (λcenv s₄=>
   codeAny (model X.prog X.w) X.A (.compStart (.ListComp elt [#[tg,iter,ifs,0]] scope pos) 0 (.ref it) acc { cenv with scope:=relabel scope X.env }) (RR acc cenv.locals) s₄) E s₃) E s:=by
 refine LA (wpAny_newFunctionEnv ck.nocell (by intro y hy; simp at hy) (λh₁ hns₁ hsb₁=>?_) ck.kind)
 dsimp only at hns₁ hsb₁ ⊢;generalize hH2:s.heap.push { cls:=.type "list",dict:=gV,data:=.seq ([]:Kr Ku).toArray }=h2 at hns₁ hsb₁ ⊢;have hCs:h2.objs.size=s.heap.objs.size+1:=by rw[<- hH2,Ny]
 have k2:∀b o,s.heap.get? b=ba o->h2.get? b=ba o:=λb o z=>hH2 ▸ Kw _ z
 have lt2:∀b o,h2.get? b=ba o->b < h2.objs.size:=λb o z=>K1 z
 have k1:∀b o,h2.get? b=ba o->h₁.get? b=ba o:=λb o z=>hsb₁.extBut b o (K7 (lt2 b o z)) (Kw _ z)
 have hD2:h2.get? s.heap.objs.size=ba { cls:=.type "list",data:=.seq ([]:Kr Ku).toArray }:=hH2 ▸ KT _ rfl;have hDC:s.heap.objs.size≠h2.objs.size:=by rw[hCs]; omega
 have fresh:∀a,s.heap.objs.size<=a->H a=gV:=λa ha=>I.hok.fresh ha
 have cellLt:∀x c,X.env.cells.lookup x=ba c->c < s.heap.objs.size:=λx c z=>let ⟨_,q⟩:=I.cell x c z; q.lt
 have fpLt:∀b∈fp,b < s.heap.objs.size:=λb hb=>let ⟨_,q,_⟩:=T.obj 0 s.heap t0 b hb; K1 q
 have stkLt:∀b∈tQ X.stack,b < s.heap.objs.size:=λb hb=>let ⟨_,o,q,_⟩:=I.stack.mem hb; K1 q
 have baseLt:∀b o,X.base.get? b=ba o->b < s.heap.objs.size:=λb o z=>K1 (I.bk b o z)
 have fpStk:∀b∈fp,b∉tQ X.stack:=λb hb z=>by
  rcases Le.mp (I.stkSub b z)with q|q
  ·exact(hfp b hb).2.1 q
  ·exact(hfp b hb).2.2.1 q
 have fpBase:∀b∈fp,∀o,X.base.get? b≠ba o:=λb hb o z=>by
  rcases(hfp b hb).2.2.2.1 with q|q
  ·exact I.ok.noex b o z q
  ·exact absurd (Lc (K1 (I.ok.bs b o z).1) q) (Mg _)
 have ltC:∀ {b:KF},b < s.heap.objs.size->b≠h2.objs.size:=λhb=>by rw[hCs]; exact K7 (Nm hb)
 let s3:Kx:={ s with heap:=h2 }
 have ok':(nJ X scope cl h2.objs.size N s3 H (fp++[s.heap.objs.size])).Ok:=by
  refine FC I ck (show s.heap.objs.size<=h2.objs.size by rw[hCs]; omega) (KH _) k2 λb hb=>?_
  rcases Ln.mp hb with hb|hb
  ·exact#[ltC (fpLt b hb),(hfp b hb).2.2.2.2.1,fpBase b hb,fpStk b hb]
  ·have eb:b=s.heap.objs.size:=by simpa using hb
   subst eb;exact#[hDC,λx c z=>K7 (cellLt x c z),λo z=>Mg _ (baseLt _ o z),λz=>Mg _ (stkLt _ z)]
 obtain⟨m0,hn0,hl0⟩:=I.loc;have I0:Inv (nJ X scope cl h2.objs.size N s3 H (fp++[s.heap.objs.size])) [] (cap.map λo=>match o with|some j=>(σ[j]?).join|none=>gV) H { s3 with heap:=h₁,toks:=s3.toks+([]:Kr (KZ×Ku)).length }:=by
  refine#[ok',rfl,I.bare,Un.kept k1,#[_,hns₁,λi x v e1 e2 e3=>?_],λx cc z=>?_,fresh _ (show s.heap.objs.size<=h2.objs.size by rw[hCs]; exact Nl _),λx cc z=>I.freeC x cc (ck.sub x cc z),λp hp=>absurd hp (by simp[nJ]),(I.hok.kept k2).kept k1,by rw[Kt]; exact ck.len]
  ·rw[KD]at e2;cases q:cap[i]? with
   | none=>rw[q]at e2; cases e2
   | some oj=>
    rw[q]at e2;cases oj with
    | none=>cases e2
    | some j=>
     obtain⟨z1,z2,z3⟩:=ck.cap i j x q e1;have e2':(σ[j]?).join=ba v:=by simpa using e2
     have e2'':σ[j]?=ba (ba v):=by
      cases r:σ[j]? with
      | none=>rw[r]at e2'; cases e2'
      | some y=>rw[r]at e2'; exact congrArg ba e2'
     obtain⟨u,ru,lk⟩:=hl0 j x v z1 e2'' (by
      rcases z2 with z|z
      ·exact .inr (.inl z)
      ·exact .inr (.inr z))
     refine#[u,ru,?_];rcases lk with⟨zk,_⟩|⟨_,cc,zc,zi⟩
     ·rcases z2 with z|z <;> (rw[zk]at z; cases z)
     ·obtain⟨c2,hc2⟩:=ck.has x z3;have:=ck.sub x c2 hc2;rw[zc]at this; cases this
      refine .inr #[z3,cc,hc2,?_];obtain⟨o,ho,hd⟩:=zi;exact#[o,k1 _ _ (k2 _ _ ho),hd]
  ·obtain⟨v,o,ho,hd⟩:=I.cell x cc (ck.sub x cc z);exact#[v,o,k1 _ _ (k2 _ _ ho),hd]
 have er0:EnvRel X.K A H (gn cap ρ) (cap.map λo=>match o with|some j=>(σ[j]?).join|none=>gV):=by
  refine#[by simp[gn],λi w q=>?_]
  unfold gn at q;rw[KD]at q ⊢;cases r:cap[i]? with
  | none=>rw[r]at q; cases q
  | some oj=>
   rw[r]at q;cases oj with
   | none=>cases q
   | some j=>
    have q':(ρ[j]?).join=ba w:=by simpa using q
    have q'':ρ[j]?=ba (ba w):=by
     cases z:ρ[j]? with
     | none=>rw[z]at q'; cases q'
     | some y=>rw[z]at q'; exact congrArg ba q'
    obtain⟨v,z1,z2⟩:=er.2 j w q'';exact#[v,by simp[z1],z2]
 have t1:tn 0 h₁:=T.keep 0 s.heap h₁ t0 λb hb o z=>k1 b o (k2 b o z)
 have fpOk':∀ {H':Hp} {pp:Kr (KF×Mp)},(∀b∈fp,H' b=gV)->(∀p∈pp,p.1=s.heap.objs.size)->∀b∈fp,jL (nJ X scope cl h2.objs.size N s3 H (fp++[s.heap.objs.size])) pp H' b:=λhn hp b hb=>
  #[hn b hb,ltC (fpLt b hb),fpStk b hb,.inl (MU _ hb),λx cc z=>(hfp b hb).2.2.2.2.1 x cc (ck.sub x cc z),λp hpp=>by
   rw[hp p (by simpa [nJ]using hpp)]
   exact(K7 (fpLt b hb)).symm]
 have DinEx:s.heap.objs.size∈fp++[s.heap.objs.size]:=Lp _ (by simp)
 have cellD:∀x c,cl.lookup x=ba c->c≠s.heap.objs.size:=λx cc z=>K7 (cellLt x cc (ck.sub x cc z))
 have fpD:∀b∈fp,b≠s.heap.objs.size:=λb hb=>K7 (fpLt b hb)
 have theEnd:∀s' σ' H' A' vs its nn,Inv (nJ X scope cl h2.objs.size N s3 H (fp++[s.heap.objs.size])) [] σ' H' s'->s'.heap.get? s.heap.objs.size=ba { cls:=.type "list",data:=.seq its nn }->∀(hits:∃l:Kr Ku,its=l.toArray/\Vals vs l),H' s.heap.objs.size=gV->Ext X.K A H A' H'->StoreOk X.w X.K A' H' S'->RelL X.K A' H' ws vs->
   RR (.ref s.heap.objs.size) h2.objs.size (.ok .next) s':=by
  intro s' σ' H' A' vs its nn I' hD hits hDn ex so' rl;obtain⟨l,rfl,rv⟩:=hits;obtain⟨m,hn,_⟩:=id I'.loc;have un:Un (tQ X.stack) (fp++[s.heap.objs.size]) H H' s.heap s'.heap:=(Un.kept k2).trans I'.base;have hch:∀b∈fp++[s.heap.objs.size],(b∈X.ex\/X.s₀.heap.objs.size<=b)/\b≠X.env.locals/\(∀x c,X.env.cells.lookup x=ba c->c≠b)/\∀p∈X.pn++pins,p.1≠b:=λb hb=>by
   rcases Ln.mp hb with hb|hb
   ·exact#[(hfp b hb).2.2.2.1,(hfp b hb).2.1,(hfp b hb).2.2.2.2.1,(hfp b hb).2.2.2.2.2]
   ·have eb:b=s.heap.objs.size:=by simpa using hb
    subst eb;exact#[.inr I.sz,(K7 I.lt).symm,λx cc z=>K7 (cellLt x cc z),λp hp=>K7 (K1 (I.pin p hp).1)]
  have I2:Inv X pins σ H' s':=I.call' (show s'.os=s.os from I'.os) un I'.hok I'.bare hch
  have I3:Inv X pins σ (cv H' s.heap.objs.size (.lst vs)) s':=Inv.adopt I2 hDn (hch _ DinEx).1 (hch _ DinEx).2.1 (hch _ DinEx).2.2.1 (hch _ DinEx).2.2.2 #[by rw[<- rl.length]; exact hz,l,nn,rv,hD]
  have hCle:s.heap.objs.size<=h2.objs.size:=by rw[hCs]; exact Nl _
  exact fin _ _ s' H' A' vs m hn hDn hDC (Lx (Lc I.lt hCle)) (I.nofs hCle) I'.free (KQ I.sz hCle) (λx cc z=>K7 (Lc (cellLt x cc z) hCle))
   (λp hp=>K7 (Lc (K1 (I.pin p hp).1) hCle)) I3 ex so' rl
 have loop:∀s4:Kx,s4={ s3 with heap:=h₁,toks:=s3.toks+([]:Kr (KZ×Ku)).length }->
   codeAny (model X.prog X.w) X.A (.compLoop (.ListComp elt [#[tg,iter,ifs,0]] scope pos) 0 (.ref it) (.ref s.heap.objs.size) (compEnvC scope cl h2.objs.size X.env)) (RR (.ref s.heap.objs.size) h2.objs.size) s4:=by
  rintro s4 rfl;refine io (λk s5=>∃i σ5 H5 A5 ρ5 S5 done its nn vs ys,Inv (nJ X scope cl h2.objs.size N s3 H (fp++[s.heap.objs.size])) [] σ5 H5 s5/\tn i s5.heap/\(∀b∈fp,H5 b=gV)/\s5.heap.get? s.heap.objs.size=ba { cls:=.type "list",data:=.seq (its:Kr Ku).toArray nn }/\H5 s.heap.objs.size=gV/\Vals vs its/\
   Ext X.K A H A5 H5/\EnvRel X.K A5 H5 ρ5 σ5/\StoreOk X.w X.K A5 H5 S5/\RelL X.K A5 H5 done vs/\ws=done++ys/\ci mi g c f k i ρ5 S5=ba (ys,S')) ?_ n
   #[0,_,H,A,_,S,[],[],0,[],ws,I0,t1,λb hb=>(hfp b hb).1,k1 _ _ hD2,fresh _ (KH _),.nil,.refl,er0,so,.nil,rfl,e]
  rintro k s5 ⟨i,σ5,H5,A5,ρ5,S5,done,its,nn,vs,ys,I5,t5,f5,d5,n5,v5,e5,er5,so5,rl5,hw5,w5⟩;have pinD:Inv (nJ X scope cl h2.objs.size N s3 H (fp++[s.heap.objs.size])) [(s.heap.objs.size,{ cls:=.type "list",data:=.seq its.toArray nn })] σ5 H5 s5:=I5.pins_of λp hp=>by
   have hp':p=(s.heap.objs.size,{ cls:=.type "list",data:=.seq its.toArray nn }):=by simpa using hp
   subst hp';exact#[d5,n5,hDC,λz=>Mg _ (stkLt _ z),λv z=>by cases z]
  have oneD:∀p∈[(s.heap.objs.size,({ cls:=.type "list",data:=.seq its.toArray nn }:Mp))],p.1=s.heap.objs.size:=λp hp=>by
   have hp':p=(s.heap.objs.size,{ cls:=.type "list",data:=.seq its.toArray nn }):=by simpa using hp
   rw[hp']
  cases k with
  | zero=>
   dsimp only[ci]at w5;split at w5
   ·rename_i hst;cases w5;rw[Mf]at hw5;subst hw5;refine ce (T.done (nJ X scope cl h2.objs.size N s3 H (fp++[s.heap.objs.size])) rfl rfl rfl hc i _ s5 σ5 H5 _ pinD (fpOk' f5 oneD) t5 (mit.stop A5 H5 _ i e5 so5 hst)) λr s6 #[hr,I6]=>?_
    subst hr;have p6:=I6.pin _ (Lp _ (KS.mpr rfl));exact theEnd s6 σ5 H5 A5 vs _ nn (I6.pins_of λp hp=>absurd hp (by simp)) p6.1 #[its,rfl,v5] n5 e5 so5 rl5
   ·cases w5
  | succ k=>
   dsimp only[ci]at w5;split at w5
   ·rename_i w hw;obtain⟨go,yl⟩:=mit.go A5 H5 S5 i w e5 so5 hw;refine ce (T.item (nJ X scope cl h2.objs.size N s3 H (fp++[s.heap.objs.size])) rfl rfl rfl hc i _ s5 σ5 H5 _ pinD (fpOk' f5 oneD) t5 go) λr s6 #[u,hr,h6]=>?_
    subst hr;refine ce h6 λ_ s7 #[x,H7,I7,r7,y7,t7,f7]=>?_
    obtain⟨x1,x2,x3⟩:=yl x H7 y7;have I7':=I7.pinned (fpOk' f7 oneD) (T.obj _ _ t7);split at w5
    ·rename_i ρ8 S8 h8;refine ce (bk.tgt _ _ _ _ _ s7 σ5 H7 x u (λσ' H'=>∃A',Ext X.K A5 H5 A' H'/\StoreOk X.w X.K A' H' S8/\EnvRel X.K A' H' ρ8 σ') I7' r7 #[A5,ρ5,S5,w,ρ8,S8,er5.mono x1,x2,x3,h8,λσ' H' A' q1 q2 q3=>#[A',x1.trans q1,q2,q3]]) λ_ s8 #[σ8,H8,I8,A8,e58,so8,er8]=>?_
     have e8:Ext X.K A H A8 H8:=e5.trans e58;have pD:∀ {σ':L2.St} {H':Hp} {s':Kx},Inv (nJ X scope cl h2.objs.size N s3 H (fp++[s.heap.objs.size])) ([(s.heap.objs.size,{ cls:=.type "list",data:=.seq its.toArray nn })]++jM fp s7.heap) σ' H' s'->s'.heap.get? s.heap.objs.size=ba { cls:=.type "list",data:=.seq its.toArray nn }/\H' s.heap.objs.size=gV:=λI'=>
      let q:=I'.pin _ (Lp _ (MU _ (KS.mpr rfl)))
      #[q.1,q.2.1]
     have pF:∀ {σ':L2.St} {H':Hp} {s':Kx},Inv (nJ X scope cl h2.objs.size N s3 H (fp++[s.heap.objs.size])) ([(s.heap.objs.size,{ cls:=.type "list",data:=.seq its.toArray nn })]++jM fp s7.heap) σ' H' s'->(∀b∈fp,H' b=gV)/\∀b∈fp,∀o,s7.heap.get? b=ba o->s'.heap.get? b=ba o:=λI'=>
      #[λb hb=>by
       obtain⟨o,eo,_⟩:=T.obj _ _ t7 b hb;exact(I'.pin (b,o) (Lp _ (Lp _ (gh hb eo)))).2.1,
       λb hb o eo=>(I'.pin (b,o) (Lp _ (Lp _ (gh hb eo)))).1]
     split at w5
     ·rename_i S9 h9;refine ce (bk.tst _ _ _ _ _ s8 σ8 H8 (λb H'=>b=true/\∃A',Ext X.K A8 H8 A' H'/\StoreOk X.w X.K A' H' S9) I8 #[A8,ρ8,S8,true,S9,er8,so8,h9,λb H' #[z0,A',z1,z2]=>#[z0,A',z1,z2]]) λb s9 #[H9,I9,z0,A9,e9,so9]=>?_
      subst z0;rw[La rfl];split at w5
      ·rename_i y S10 h10;split at w5
       ·rename_i ys' S4 h11;cases w5;refine ce (bk.elt _ _ _ _ _ s9 σ8 H9 (EndV X.w X.K A9 H9 S10 y) I9 #[A9,ρ8,S9,y,S10,er8.mono e9,so9,h10,λ_ _ z=>z]) λu10 s10 #[v10,H10,I10,r10,A10,e10,so10,rl10]=>?_
        obtain⟨d10,n10⟩:=pD I10;obtain⟨f10,k10⟩:=pF I10;have hlen:its.length < sizeLine:=by
         have l1:=v5.length;have l2:=rl5.length;rw[hw5,KG,LJ]at hz;omega
        refine ql d10 hlen λh' n' hd' hk'=>?_
        have Ib:Inv (nJ X scope cl h2.objs.size N s3 H (fp++[s.heap.objs.size])) [] σ8 H10 { s10 with heap:=h' }:=by
         have Ia:Inv (nJ X scope cl h2.objs.size N s3 H (fp++[s.heap.objs.size])) [] σ8 H10 s10:=I10.pins_of λp hp=>absurd hp (by simp)
         exact Ia.turned (t':=s10.toks) (it:=s.heap.objs.size) hk' n10 hDC (.inl DinEx) cellD (λp hp=>absurd hp (by simp[nJ]))
        refine#[k,Mh k,i+1,σ8,H10,A10,ρ8,S10,done++[y],its++[u10],n',vs++[v10],ys',Ib,?_,f10,hd',n10,v5.append #v[r10],(e8.trans e9).trans e10,(er8.mono e9).mono e10,so10,?_,?_,h11]
        ·exact T.keep (i+1) s7.heap h' t7 λb hb o eo=>hk' b o (fpD b hb) (k10 b hb o eo)
        ·exact(rl5.mono ((e58.trans e9).trans e10)).append #v[rl10]
        ·rw[hw5,Mu]; rfl
       ·cases w5
      ·cases w5
     ·rename_i S9 h9;refine ce (bk.tst _ _ _ _ _ s8 σ8 H8 (λb H'=>b=false/\∃A',Ext X.K A8 H8 A' H'/\StoreOk X.w X.K A' H' S9) I8 #[A8,ρ8,S8,false,S9,er8,so8,h9,λb H' #[z0,A',z1,z2]=>#[z0,A',z1,z2]]) λb s9 #[H9,I9,z0,A9,e9,so9]=>?_
      subst z0;rw[Li K8];obtain⟨d9,n9⟩:=pD I9;obtain⟨f9,k9⟩:=pF I9;refine#[k,Mh k,i+1,σ8,H9,A9,ρ8,S9,done,its,nn,vs,ys,I9.pins_of λp hp=>absurd hp (by simp),T.keep (i+1) s7.heap _ t7 k9,f9,d9,n9,v5,e8.trans e9,er8.mono e9,so9,rl5.mono (e58.trans e9),hw5,w5]
     ·cases w5
    ·cases w5
   ·cases w5
 exact codeAny_compStart_list (loop _ rfl) (T.self X.A 0 _ _ _ t1 (loop _ rfl))
theorem sv {fi:FI}{g:FG}{c:FT}{f:FE}{cap:Kr (Kz KC)}{ρ:Fm}{S:aa}{w:W}{S':aa}(e:my fi g c f cap ρ S=ba (w,S')) :
  ∃mi S1 n ys S2,fi ρ S=ba (mi,S1)/\mi.len S1=ba n/\ci mi g c f n 0 (gn cap ρ) S1=ba (ys,S2)/\ys.length<=sizeLine/\w=.ref S2.length/\S'=S2++[.lst ys]:=by
 unfold my at e;split at e
 ·rename_i mi S1 h1;split at e
  ·rename_i n h2;split at e
   ·rename_i ys S2 h3;obtain⟨h4,h5,h6⟩:=lC e;exact#[mi,S1,n,ys,S2,h1,h2,h3,h4,h5,h6]
   ·cases e
  ·cases e
 ·cases e
theorem C3 {scope:NJ}{N:Kr KZ}{cap:Kr (Kz KC)}{tg elt iter:Lb}{ifs:Kr Lb}{fi:FI}{g:FG}{c:FT}{f:FE}{pos:M9}(hc:X.calm=true)(hi:GI X tg iter fi)(hck:X.Ok->∃cl,CompOk X scope cl N cap/\BlockOk X scope cl N tg elt ifs g c f)
  (hs:∀x,foldedSetIterable iter X.env x=pure x):GE X (.ListComp elt [#[tg,iter,ifs,0]] scope pos) (my fi g c f cap):=by
 intro pins s σ H Q I ⟨A,ρ,S,w,S',er,so,e,hq⟩;obtain⟨mi,S1,n,ys,S2,h1,h2,h3,h4,rfl,rfl⟩:=sv e;obtain⟨cl,ck,bk⟩:=hck I.ok;rw[eval_ListComp];refine PD (use:=gV) rfl hs ck.clos ck.kind ck.names (ce (hi pins s σ H (λJ H'=>∃A',Ext X.K A H A' H'/\StoreOk X.w X.K A' H' S1/\MIt X.w X.K mi J A' H') I #[A,ρ,S,mi,S1,er,so,h1,λJ H' A' z1 z2 z3=>#[A',z1,z2,z3]]) λv s1 q1=>ce q1 λitv s2 q2=>?_)
 obtain⟨it,fp,tn,J,H2,rfl,I2,T,t0,hfp,A2,e2,so2,mit⟩:=q2;refine pc (RR:=λacc C=>compPost (model X.prog X.w) X.A X.xe gV (EP X pins σ Q) acc C) I2 hc (er.mono e2) so2 ck bk T t0 hfp mit h3 h4 ?_
 intro D C s' H' A' vs m hn hDn hDC hCL hCf hCn hCs hCc hCp I3 ex so3 rl;refine#[m,hn,λh' hs'=>?_]
 have I4:Inv X pins σ (cv H' D (.lst vs)) { s' with heap:=h' }:=I3.turned (t':=s'.toks) (it:=C) (λb o hb eo=>hs'.extBut b o hb eo) (by rw[aO (Ne.symm hDC)]; exact hCn) hCL (.inr hCs) hCc hCp
 exact#[.ref D,_,I4,rfl,hq _ _ (EndV.after (e2.trans ex) (.lst so3 rl hDn))]
theorem uG {scope:NJ}{N:Kr KZ}{cap:Kr (Kz KC)}{tg elt iter:Lb}{ifs:Kr Lb}{fi:FI}{g:FG}{c:FT}{f:FE}{pos py spos:M9}{y:KZ}{i:KC}(hc:X.calm=true)(hi:GI X tg iter fi)(hck:X.Ok->∃cl,CompOk X scope cl N cap/\BlockOk X scope cl N tg elt ifs g c f)
  (hs:∀x,foldedSetIterable iter X.env x=pure x) (hsw:swapsWith (.ListComp elt [#[tg,iter,ifs,0]] scope pos) (ba (.Name y py)) spos.line X.env=pure true) (hN:X.N.Nodup) (hy:X.N[i]?=ba y) (hl:X.env.scope.names.lookup y=ba .local) :
  GS X (.Assign [.Name y py] (.ListComp elt [#[tg,iter,ifs,0]] scope pos) spos) (mx (my fi g c f cap) (CM i)):=by
 intro pins s σ H Dd I ⟨A,ρ,S,o,S',er,so,e,hd⟩;unfold mx at e;split at e
 ·rename_i w S0 h0;simp only[CM]at e;cases e;obtain⟨mi,S1,n,ys,S2,h1,h2,h3,h4,rfl,rfl⟩:=sv h0;obtain⟨cl,ck,bk⟩:=hck I.ok;rw[exec_Assign_Name_used _ _ _ _ hsw];refine Ks (OG (Ks ?_));show wpAny _ X.A (do let _ <- comprehension (.ListComp elt [⟨tg,iter,ifs,0⟩] scope pos) scope X.env _ (newList []) false (eval iter X.env) (ba (assign (.Name y py) X.env))) _ _ s
  refine Ks (Mz (PD (use:=ba (assign (.Name y py) X.env)) (Q:=λ_ s'=>SP X pins Dd .next s') rfl hs ck.clos ck.kind ck.names
   (ce (hi pins s σ H (λJ H'=>∃A',Ext X.K A H A' H'/\StoreOk X.w X.K A' H' S1/\MIt X.w X.K mi J A' H') I #[A,ρ,S,mi,S1,er,so,h1,λJ H' A' z1 z2 z3=>#[A',z1,z2,z3]]) λv s1 q1=>ce q1 λitv s2 q2=>?_)) (λ_ s' hq=>Ky (Ky hq)) λ_ _ e=>e)
  obtain⟨it,fp,tn,J,H2,rfl,I2,T,t0,hfp,A2,e2,so2,mit⟩:=q2;refine pc (RR:=λacc C=>compPost (model X.prog X.w) X.A X.xe (ba (assign (.Name y py) X.env)) (λ_ s'=>SP X pins Dd .next s') acc C) I2 hc (er.mono e2) so2 ck bk T t0 hfp mit h3 h4 ?_
  intro D C s' H' A' vs m hn hDn hDC hCL hCf hCn hCs hCc hCp I3 ex so3 rl;obtain⟨oC,esC,epC,hoC,hdC,hrC⟩:=id hn;have I3':Inv X (pins++[(C,oC)]) σ (cv H' D (.lst vs)) s':=I3.pins_of λp hp=>by
   rcases Ln.mp hp with hp|hp
   ·exact I3.pin p (Lp _ hp)
   ·have hp':p=(C,oC):=by simpa using hp
    subst hp';exact#[hoC,by rw[aO (Ne.symm hDC)]; exact hCn,hCL,hCf,λv z=>by rw[hdC]at z; cases z]
  show wpAny _ X.A (assign (.Name y py) X.env (.ref D)) _ _ _;refine Rj (jc I3' hN hy (.inl hl) (v:=.ref D) rfl (λs4 I4=>?_) (.inr hl))
  have pC:=I4.pin (C,oC) (Lp _ (Lp _ (KS.mpr rfl)));refine#[m,#[oC,esC,epC,pC.1,hdC,hrC],λh' hs'=>?_]
  have I5:Inv X pins (σ.set i (ba (.ref D))) (cv H' D (.lst vs)) s4:=I4.pins_of λp hp=>I4.pin p (Lp _ (MU _ hp))
  have I6:Inv X pins (σ.set i (ba (.ref D))) (cv H' D (.lst vs)) { s4 with heap:=h' }:=I5.turned (t':=s4.toks) (it:=C) (λb o hb eo=>hs'.extBut b o hb eo) (by rw[aO (Ne.symm hDC)]; exact hCn) hCL (.inr hCs) hCc hCp
  obtain⟨Af,f1,f2,f3⟩:=EndV.after (e2.trans ex) (EndV.lst so3 rl hDn);exact#[_,_,I6,hd.nx _ _ #[_,Af,rfl,f1,f2,(er.mono f1).set f3 i]]
 ·cases e
end
open PySem.Builtin.SmallTypes (nextOf)
section
variable{prog:Lk}{w:Lz}
structure Zit (prog:Lk)(w:Lz)(it:KF)(T:KC->LI->Prop)(C:LI->Prop)(i:KC)(U:Kz (Ku->Prop)):Prop where
 keep:∀j h h',T j h->(∀o,h.get? it=ba o->h'.get? it=ba o)->T j h'
 next:∀V,U=ba V->∀(B:Lr) (s:Kx) (Q:Ku->Kx->Prop) (E:Ku->Kx->Prop),T i s.heap->C s.heap->(∀u h' tk,V u->T (i+1) h'->Mw it s.heap h'->Q u { s with heap:=h',toks:=tk })->wpAny (model prog w) B (nextOf (.ref it)) Q E s
 stop:U=gV->∀(B:Lr) (s:Kx) (Q:Ku->Kx->Prop) (E:Ku->Kx->Prop),B.handled=gV->T i s.heap->C s.heap->(∀h' e,Qu it s.heap h'->(∃o,h'.get? e=ba o/\o.cls=.type "StopIteration")->E (.ref e) { s with heap:=h' })->wpAny (model prog w) B (nextOf (.ref it)) Q E s
variable{B:Lr}{E:Ku->Kx->Prop}{s:Kx}{z p q i1 i2:KF}{T1 T2:KC->LI->Prop}{C1 C2:LI->Prop}{i:KC}{a b:Ku}
noncomputable def Zc (z q i1 i2:KF)(C:LI->Prop):Prop:=∀h h',C h->(∀c o,c≠z->c≠q->c≠i1->c≠i2->h.get? c=ba o->h'.get? c=ba o)->C h'
end
end Mi
namespace Mi
open PySem PySem.Spec PyProof.Rows L2
open PySem.Builtin.SmallTypes (nextOf)
noncomputable def uH (prog:Lk)(w:Lz)(v:Ku)(o:Mp)(C:LI->Prop):Prop:=∀(B:Lr) (s:Kx) (Q:Ku->Kx->Prop) (E:Ku->Kx->Prop),C s.heap->Q (.ref s.heap.objs.size) { s with heap:=s.heap.push o }->wpAny (model prog w) B (pyIter v) Q E s
end Mi
namespace Mi
open PySem PySem.Spec PyProof.Rows L2
open PySem.Builtin.SmallTypes (nextOf)
section
variable{prog:Lk}{w:Lz}{A:Lr}{E:Ku->Kx->Prop}{s:Kx}
theorem Hs {it t:KF}{i:KC}{items:Lg Ku}{x:Ku}{Q:Ku->Kx->Prop}(hit:s.heap.IsTupleIter it t i)(ht:s.heap.IsTuple t items)(hx:items[i]?=ba x)
  (hQ:∀h',h'.IsTupleIter it t (i+1)->Mw it s.heap h'->Q x { s with heap:=h' }):wpAny (model prog w) A (nextOf (.ref it)) Q E s:=by
 obtain⟨o,ho,hc,hd⟩:=id hit;obtain⟨ot,hot,_,nt,hdt⟩:=ht;unfold Pj;refine Ks (LS (name:=MT "__next__") hit.typeIs F.slot_tuple_iterator_next (LU F.slot_tuple_iterator_next hit.typeIs F.entry_tuple_iterator_next ?_ (F.args_tuple_iterator_next_1 _)));show wpAny _ _ (field (.ref it) 0 >>= _) _ _ s;refine Ks (MV ho hd (x:=.ref t) rfl ?_);show wpAny _ _ (if (Lq t==LG)=true then _ else _) _ _ s
 rw[Li (show ¬ ((Lq t==LG)=true)from K8)]
 show wpAny _ _ (field (.ref it) 1 >>= _) _ _ s;refine Ks (MV ho hd (x:=.int i 0) rfl (Ks (MX hot hdt ?_)));simp only[KN,hx];refine Ks (Pb ho hd (by simp) (Ky #[x,rfl,Ky (hQ _ #[_,Mj _ ho (Qm (Oe hd _)),(Rw ..).trans hc,?_] (Nu ..))]))
 rw[Oe hd]; simp[rawInt]
theorem Ht {it t:KF}{i:KC}{items:Lg Ku}{Q:Ku->Kx->Prop}(hh:A.handled=gV)(hit:s.heap.IsTupleIter it t i)(ht:s.heap.IsTuple t items)(hx:items[i]?=gV)
  (hE:∀h' e,Qu it s.heap h'->(∃o,h'.get? e=ba o/\o.cls=.type "StopIteration")->E (.ref e) { s with heap:=h' }):wpAny (model prog w) A (nextOf (.ref it)) Q E s:=by
 obtain⟨o,ho,hc,hd⟩:=id hit;obtain⟨ot,hot,_,nt,hdt⟩:=ht;unfold Pj;refine Ks (LS (name:=MT "__next__") hit.typeIs F.slot_tuple_iterator_next (LU F.slot_tuple_iterator_next hit.typeIs F.entry_tuple_iterator_next ?_ (F.args_tuple_iterator_next_1 _)));show wpAny _ _ (field (.ref it) 0 >>= _) _ _ s;refine Ks (MV ho hd (x:=.ref t) rfl ?_);show wpAny _ _ (if (Lq t==LG)=true then _ else _) _ _ s
 rw[Li (show ¬ ((Lq t==LG)=true)from K8)]
 show wpAny _ _ (field (.ref it) 1 >>= _) _ _ s;refine Ks (MV ho hd (x:=.int i 0) rfl (Ks (MX hot hdt ?_)));simp only[KN,hx];refine Ks (PU (Ks (Pb ho hd (by simp) ?_)))
 show wpAny _ _ (newExc (.type "StopIteration") [] >>= _) _ _ _;refine Ks ?_;simp only[newExc,newTuple];refine Ks (LA ?_ (by size_fits))
 refine Ks (m:=firstArgMember _ _) (Og (a:=LG) (by first|rfl|(simp only[firstArgMember]; rfl)) (LA ?_ (by size_fits)))
 simp only[raiseNew];refine Ks (QR ?_)
 first|rw[show A.in1.handled=gV from hh]|rw[hh]
 exact Ks (Ky (RZ (hE _ _ (((Nu ..).extBut.push _).push _) #[_,KT _ rfl,rfl])))
end
inductive Zs where|tup (a:KF)|lst (a:KF)|txt (x:KZ)
noncomputable def Zs.T (it:KF):Zs->KC->LI->Prop
 | .tup a,i,h=>h.IsTupleIter it a i
 | .lst a,i,h=>h.IsListIter it a i
 | .txt x,i,h=>∃t,h.IsStrIter it "str_ascii_iterator" x t i\/h.IsStrIter it "str_iterator" x t i
noncomputable def Zs.at (K:KM)(H:Hp)(i:KC)(v:V):Zs->Prop
 | .tup a=>∃xs,SqT K H a xs/\xs[i]?=ba v
 | .lst a=>∃xs,SqL K H a xs/\xs[i]?=ba v
 | .txt x=>∃c,x.cps[i]?=ba c/\v=.str #[[c].toArray]
noncomputable def Zs.out (K:KM)(H:Hp)(i:KC):Zs->Prop
 | .tup a=>∃xs,SqT K H a xs/\xs.length<=i
 | .lst a=>∃xs,SqL K H a xs/\xs.length<=i
 | .txt x=>x.cps.size<=i
theorem Zs.keep {S:Zs}{it:KF}{j:KC}{h h':LI}(t:S.T it j h)(k:∀o,h.get? it=ba o->h'.get? it=ba o):S.T it j h':=by
 cases S with
 | tup a=>exact t.at k
 | lst a=>exact t.at k
 | txt x=>
  obtain⟨tk,t⟩:=t;exact#[tk,t.imp (λ#[o,e,r]=>#[o,k _ e,r]) λ#[o,e,r]=>#[o,k _ e,r]]
section
variable{X:Cx}{pins:Kr (KF×Mp)}{σ:L2.St}{H:Hp}{s:Kx}
theorem zZ (I:Inv X pins σ H s){a b:KF}{o:Mp}(h:X.K.lookup a=ba o)(f:jL X pins H b):a≠b:=λz=>by
 subst z;have hb:=I.ok.mod.kin a o h;rcases f.2.2.2.1 with q|q
 ·exact I.ok.noex a o hb q
 ·exact absurd (Lc (K1 (I.ok.bs a o hb).1) q) (Mg _)
end
end Mi
namespace Mi
open PySem PySem.Spec PyProof.Rows L2
open PySem.Builtin.SmallTypes (nextOf)
section
variable{X:Cx}{pins:Kr (KF×Mp)}{σ:L2.St}{H:Hp}{s:Kx}{h':LI}
theorem Aa {a b:KF}{u:HO}(h:Rd H a u)(f:H b=gV):a≠b:=λz=>by
 subst z;rcases h with h|⟨o,h⟩ <;> (rw[f]at h; cases h)
theorem Inv.turnedL {t':KC}{ch:Kr KF}(I:Inv X pins σ H s)(k:∀b o,b∉ch->s.heap.get? b=ba o->h'.get? b=ba o)(hf:∀b∈ch,jL X pins H b):Inv X pins σ H { s with heap:=h',toks:=t' }:=by
 have nit:∀b u,H b=ba u->b∉ch:=λb u e z=>by have:=(hf b z).1; rw[e]at this; cases this
 refine I.step (g':=s.gens) (d':=s.drawn) (ch:=ch) (λb hb=>?_) (λb o _ _ hc e _=>k b o hc e) (λb o _ _ hc e _=>#[o.slots,k b o hc e]) (λ_ _ _ _ n=>n) (λb o hc e=>#[o,k b o hc e]) (λ_ _ e=>e) (λ_ _ _ e=>e) (λb ps e=>#[#[],by rw[e]; simp]) (λm hm=>?_) (λb u e=>?_) I.bare
 ·obtain⟨_,f1,_,f3,f4,f5⟩:=hf b hb;exact#[f3,f1,f4,f5]
 ·obtain⟨o,es,ep,ho,r⟩:=hm;exact#[o,es,ep,k _ o (λz=>(hf _ z).2.1 rfl) ho,r]
 ·refine(I.hok b u e).stay (λc v hc q=>k c v ?_ q) (λ_ q=>q) λ_ _ q=>q
  rcases hc with z|z
  ·rw[z]; exact nit b u e
  ·exact nit c _ z
theorem Zs.zit {S:Zs}{it z q i1 i2:KF}{i:KC}{U:Kz V}(I:Inv X pins σ H s)(hf:∀b∈[z,q,i1,i2],jL X pins H b)(g:match U with|some v=>S.at X.K H i v|none=>S.out X.K H i) :
  ∃C,Zit X.prog X.w it (S.T it) C i (U.map λv u=>RelV v u)/\C s.heap/\Zc z q i1 i2 C:=by
 have zc:∀(a:KF) (P:LI->Prop),(∀h h',P h->(∀o,h.get? a=ba o->h'.get? a=ba o)->P h')->(∀b∈[z,q,i1,i2],a≠b)->Zc z q i1 i2 P:=λa P hP hn h h' p k=>
  hP h h' p λo e=>k a o (hn z (by simp)) (hn q (by simp)) (hn i1 (by simp)) (hn i2 (by simp)) e
 have sep:∀ {a:KF} {u:HO} {o:Mp} {b:KF},(Rd H a u\/X.K.lookup a=ba o)->b∈[z,q,i1,i2]->a≠b:=λh hb=>h.elim (λr=>Aa r (hf _ hb).1) λr=>zZ I r (hf _ hb)
 cases S with
 | tup a=>
  obtain⟨xs,hq,hx⟩ : ∃xs,SqT X.K H a xs/\(match U with|some v=>xs[i]?=ba v|none=>xs.length<=i):=by
   cases U <;> exact g
  obtain⟨its,rv,p,_⟩:=I.tuple hq;have hne:∀b∈[z,q,i1,i2],a≠b:=λb hb=>by
   rcases hq with r|⟨o,_,_,r,_⟩
   ·exact Aa r (hf b hb).1
   ·exact zZ I r (hf b hb)
  refine#[λh=>h.IsTuple a its.toArray,#[λj h h' t k=>Zs.keep (S:=.tup a) t k,λV hV B s2 Q E t c hQ=>?_,λhU B s2 Q E hh t c hE=>?_],p,zc a _ (λh h' #[o,e,r] k=>#[o,k _ e,r]) hne]
  ·cases U with
   | none=>cases hV
   | some v=>
    cases hV;obtain⟨u,hu,ru⟩:=rv.get hx;exact Hs t c (x:=u) (by simpa using hu) λh' t' sb=>hQ u h' s2.toks ru t' sb
  ·cases U with
   | some v=>cases hU
   | none=>
    have:=L2.Vals.length rv;have hx':xs.length<=i:=hx;exact Ht hh t c (by simp; omega) hE
 | lst a=>
  obtain⟨xs,hq,hx⟩ : ∃xs,SqL X.K H a xs/\(match U with|some v=>xs[i]?=ba v|none=>xs.length<=i):=by
   cases U <;> exact g
  obtain⟨its,rv,p,_⟩:=I.list hq;have hne:∀b∈[z,q,i1,i2],a≠b:=λb hb=>by
   rcases hq with r|⟨o,_,_,r,_⟩
   ·exact Aa r (hf b hb).1
   ·exact zZ I r (hf b hb)
  refine#[λh=>h.IsList a its.toArray,#[λj h h' t k=>Zs.keep (S:=.lst a) t k,λV hV B s2 Q E t c hQ=>?_,λhU B s2 Q E hh t c hE=>?_],p.isList,zc a _ (λh h' #[o,e,r] k=>#[o,k _ e,r]) hne]
  ·cases U with
   | none=>cases hV
   | some v=>
    cases hV;obtain⟨u,hu,ru⟩:=rv.get hx;exact wpAny_nextOf_list_item t c (x:=u) (by simpa using hu) λh' t' sb=>hQ u h' s2.toks ru t' sb
  ·cases U with
   | some v=>cases hU
   | none=>
    have:=L2.Vals.length rv;have hx':xs.length<=i:=hx;exact wpAny_nextOf_list_end hh t c (by simp; omega) hE
 | txt x=>
  refine#[λ_=>Rg,#[λj h h' t k=>Zs.keep (S:=.txt x) t k,λV hV B s2 Q E t _ hQ=>?_,λhU B s2 Q E hh t _ hE=>?_],trivial,λ_ _ _ _=>trivial]
  ·cases U with
   | none=>cases hV
   | some v=>
    cases hV;obtain⟨c,hc,rfl⟩ : ∃c,x.cps[i]?=ba c/\v=.str #[[c].toArray]:=g;obtain⟨tk,t|t⟩:=t
    ·exact wpAny_nextOf_ascii_item t hc λh' t' sb=>hQ _ h' _ #[_,rfl] #[tk,.inl t'] sb
    ·exact wpAny_nextOf_wide_item t hc λh' t' sb=>hQ _ h' _ #[_,rfl] #[tk,.inr t'] sb
  ·cases U with
   | some v=>cases hU
   | none=>
    have hx:x.cps[i]?=gV:=by simpa using(show x.cps.size<=i from g)
    obtain⟨tk,t|t⟩:=t
    ·exact wpAny_nextOf_ascii_end hh t hx hE
    ·exact wpAny_nextOf_wide_end hh t hx hE
end
noncomputable def Zs.is (K:KM)(H:Hp)(i:KC)(v:V):Zs->Prop
 | .tup a=>∀xs,SqT K H a xs->xs[i]?=ba v
 | .lst a=>∀xs,SqL K H a xs->xs[i]?=ba v
 | .txt x=>∃c,x.cps[i]?=ba c/\v=.str #[[c].toArray]
theorem Zs.at_is {S:Zs}{X:Cx}{pins:Kr (KF×Mp)}{σ:L2.St}{H:Hp}{s:Kx}{i:KC}{v:V}(I:Inv X pins σ H s)(h:S.at X.K H i v):S.is X.K H i v:=by
 cases S with
 | tup a=>obtain⟨xs,hq,hx⟩:=h; exact λys hy=>by rw[I.tuple_inj hy hq]; exact hx
 | lst a=>obtain⟨xs,hq,hx⟩:=h; exact λys hy=>by rw[I.list_inj hy hq]; exact hx
 | txt x=>exact h
end Mi
namespace Mi
open PySem PySem.Spec PyProof.Rows L2
noncomputable def Jw:W->Kz (Kr W)
 | .tup xs=>ba xs
 | .str x=>ba (x.cps.toList.map λc=>.str #[[c].toArray])
 | _=>gV
section
variable{X:Cx}{pins:Kr (KF×Mp)}{σ:L2.St}{H:Hp}{s:Kx}{A:Kr KF}
noncomputable def ZRel (K:KM)(A:Kr KF)(H:Hp)(xs:Kr W):Zs->Prop
 | .tup a=>∃vs,SqT K H a vs/\RelL K A H xs vs
 | .lst a=>L7
 | .txt x=>xs=x.cps.toList.map λc=>.str #[[c].toArray]
theorem ZRel.mono {K:KM}{A A':Kr KF}{H H':Hp}{xs:Kr W}{S:Zs}(e:Ext K A H A' H')(h:ZRel K A H xs S):ZRel K A' H' xs S:=by
 cases S with
 | tup a=>obtain⟨vs,h1,h2⟩:=h; exact#[vs,e.tp _ _ h1,h2.mono e]
 | lst a=>exact h
 | txt x=>exact h
theorem ZRel.at {K:KM}{xs:Kr W}{S:Zs}{i:KC}{w:W}(h:ZRel K A H xs S)(hi:xs[i]?=ba w):∃v,S.at K H i v/\Rel K A H w v:=by
 cases S with
 | tup a=>obtain⟨vs,h1,h2⟩:=h; obtain⟨v,h3,h4⟩:=h2.get hi; exact#[v,#[vs,h1,h3],h4]
 | lst a=>exact h.elim
 | txt x=>
  have h:xs=x.cps.toList.map λc=>.str #[[c].toArray]:=h
  subst h;rw[KD,Kv]at hi;obtain⟨c,hc,rfl⟩:=hi;exact#[.str #[[c].toArray],#[c,by rw[<- L5]; exact hc,rfl],.str]
theorem ZRel.is {K:KM}{xs:Kr W}{S:Zs}{i:KC}{w:W}{v:V}(h:ZRel K A H xs S)(hi:xs[i]?=ba w)(z:S.is K H i v):Rel K A H w v:=by
 obtain⟨v',h1,h2⟩:=h.at hi;cases S with
 | tup a=>
  obtain⟨vs,q,e⟩:=h1;have:=z vs q;rw[e]at this; cases this
  exact h2
 | lst a=>exact h.elim
 | txt x=>
  obtain⟨c,e,rfl⟩:=h1;obtain⟨c',e',rfl⟩:=z;rw[e]at e'; cases e'
  exact h2
theorem ZRel.out {K:KM}{xs:Kr W}{S:Zs}{i:KC}(h:ZRel K A H xs S)(hi:xs.length<=i):S.out K H i:=by
 cases S with
 | tup a=>obtain⟨vs,h1,h2⟩:=h; exact#[vs,h1,by rw[<- h2.length]; exact hi]
 | lst a=>exact h.elim
 | txt x=>
  have h:xs=x.cps.toList.map λc=>.str #[[c].toArray]:=h
  subst h;show x.cps.size<=i
  simpa using hi
theorem C4 {x:W}{v:V}{u:Ku}{xs:Kr W}(I:Inv X pins σ H s)(r:Rel X.K A H x v)(ru:RelV v u)(e:Jw x=ba xs) :
  ∃(S:Zs) (o:Mp) (C:LI->Prop),ZRel X.K A H xs S/\uH X.prog X.w u o C/\C s.heap/\(∀h o,C h->C (h.push o))/\o.isFreed=false/\∀it h,h.get? it=ba o->S.T it 0 h:=by
 cases r with
 | @tup ws a vs hq rl=>
  cases e;obtain⟨its,rv,p,_⟩:=I.tuple hq;obtain rfl:u=Lq a:=ru;exact#[.tup a,{ cls:=.type "tuple_iterator",data:=.fields [.ref a,.int 0 0].toArray },λh=>h.IsTuple a its.toArray,#[vs,hq,rl],λB s Q E c hQ=>Rc c hQ,p,λh o #[ot,e,r]=>#[ot,Kw _ e,r],rfl,λit h e=>#[_,e,rfl,rfl]]
 | @str x=>
  cases e;obtain⟨t,rfl⟩:=ru;cases ha:x.cps.all (· < 128)with
  | false=>exact#[.txt x,{ cls:=.type "str_iterator",data:=.fields [.str x t,.int 0 0].toArray },λ_=>Rg,rfl,λB s Q E _ hQ=>wpAny_pyIter_wide ha hQ,trivial,λ_ _ _=>trivial,rfl,λit h e=>#[t,.inr #[_,e,rfl,rfl]]]
  | true=>exact#[.txt x,{ cls:=.type "str_ascii_iterator",data:=.fields [.str x t,.int 0 0].toArray },λ_=>Rg,rfl,λB s Q E _ hQ=>wpAny_pyIter_ascii ha hQ,trivial,λ_ _ _=>trivial,rfl,λit h e=>#[t,.inl #[_,e,rfl,rfl]]]
 | _=>cases e
end
open PySem.Builtin.SmallTypes (nextOf)
section
variable{prog:Lk}{w:Lz}{B:Lr}{E:Ku->Kx->Prop}{s:Kx}{e it:KF}{T:KC->LI->Prop}{C:LI->Prop}{i:KC}{old:Ku}
structure EnAt (h0 h:LI)(e it:KF)(fs:Lg Ku)(T:LI->Prop):Prop where
 here:h.get? e=ba { cls:=.type "enumerate",dict:=gV,data:=.fields fs,slots:=#[] }
 turn:T h
 kept:∀b o,b≠e->b≠it->h0.get? b=ba o->h.get? b=ba o
theorem EnAt.put {h0:LI}{fs:Lg Ku}{T:LI->Prop}{k:KC}{v:Ku}{Q:Ut->Kx->Prop}(x:EnAt h0 s.heap e it fs T)(hne:e≠it)(kT:∀h h',T h->(∀o,h.get? it=ba o->h'.get? it=ba o)->T h')(hk:k < fs.size)
  (q:∀h',EnAt h0 h' e it (fs.setIfInBounds k v) T->Mw e s.heap h'->Q () { s with heap:=h' }):wpAny (model prog w) B (setField (.ref e) k v) Q E s:=
 Q6 x.here hk λh' y sb=>q h' #[y,kT _ _ x.turn λo z=>sb.extBut _ _ (Ne.symm hne) z,λb o h1 h2 z=>sb.extBut b o h1 (x.kept b o h1 h2 z)] sb
theorem pd {U:Kz (Ku->Prop)}{Q:Ku->Kx->Prop}(Z:Zit prog w it T C i U)(hh:B.handled=gV)(he:T9 s.heap e it (i:KO) old)(t:T i s.heap)(c:C s.heap)(hne:e≠it)
  (hI:∀V,U=ba V->∀u h' tk tk0,V u->IsEnumOut h' e it ((i:KO)+1) u s.heap.objs.size->T (i+1) h'->h'.get? s.heap.objs.size=ba { cls:=.type "tuple",data:=.seq [.int i tk0,u].toArray }->
   (∀b o,b≠e->b≠it->s.heap.get? b=ba o->h'.get? b=ba o)->Q (.ref s.heap.objs.size) { s with heap:=h',toks:=tk })
  (hE:U=gV->∀h' x,Qu it s.heap h'->(∃o,h'.get? x=ba o/\o.cls=.type "StopIteration")->E (.ref x) { s with heap:=h' }) :
  wpAny (model prog w) B (NK.«enumerate.__next__» #[[.ref e],[]]) (λfin s'=>∃v,fin=.done (.ret v)/\Q v s') E s:=by
 obtain⟨hp,g,d,tk,os⟩:=s;show wpAny _ _ (field (.ref e) 2 >>= _) _ _ _;refine Ks (MV he rfl (x:=.ref it) rfl (Ks ?_));cases U with
 | none=>exact Z.stop rfl _ _ _ _ hh t c λh' x a b=>hE rfl h' x a b
 | some V=>
  refine Z.next V rfl _ _ _ _ t c λu ha tka hu ta sba=>?_
  have kT:=Z.keep (i+1);have xa:EnAt hp ha e it [.none,.bool false,.ref it,rawInt i,.none,old].toArray (T (i+1)):=#[(sba.2 e hne).trans he,ta,λb o _ h2 z=>sba.extBut b o h2 z]
  have za:ha.objs.size=hp.objs.size:=sba.1;clear sba ta;show wpAny _ _ (field (.ref e) 3 >>= _) _ _ #[ha,g,d,tka,os];refine Ks (MV xa.here rfl (x:=rawInt i) rfl ?_);show wpAny _ _ (field (.ref e) 4 >>= _) _ _ #[ha,g,d,tka,os];refine Ks (MV xa.here rfl (x:=.none) rfl ?_);show wpAny _ _ (mkInt i >>= _) _ _ #[ha,g,d,tka,os];refine Ks (R1 (Ks (xa.put (s:=#[ha,g,d,tka+1,os]) hne kT (by simp) λhb xb sb1=>Ks (xb.put (s:=#[hb,g,d,tka+1,os]) hne kT (by simp) λhc xc sb2=>Ks (Qr ?_)))))
  have zc:hc.objs.size=hp.objs.size:=by rw[sb2.1,<- za]; exact sb1.1
  have hel:hp.objs.size≠e:=Lx (K1 he);have new:=KT hc (o:={ cls:=.type "tuple",data:=.seq [.int i tka,u].toArray }) rfl;have xd:EnAt hp (hc.push { cls:=.type "tuple",data:=.seq [.int i tka,u].toArray }) e it [.none,.bool false,.ref it,rawInt ((i:KO)+1),.none,old].toArray (T (i+1)):=#[Kw _ xc.here,kT _ _ xc.turn λo z=>Kw _ z,λb o h1 h2 z=>Kw _ (xc.kept b o h1 h2 z)]
  rw[zc]at new;show wpAny _ _ (N6 (.ref e) >>= _) _ _ #[hc.push _,g,d,tka+1,os];rw[zc];generalize hc.push { cls:=.type "tuple",data:=.seq [.int i tka,u].toArray }=hd at new xd ⊢;clear zc sb2 xc sb1 xb hb xa za;refine Ks ?_;unfold N6;refine Ks (MV xd.here rfl (x:=.none) rfl (Ky ?_));simp only[Mt];refine Ks (PU (Ks (MV xd.here rfl (x:=old) rfl (Ks (xd.put (s:=#[hd,g,d,tka+1,os]) hne kT (by simp) λh1 x1 s1=>Ks ?_)))))
  unfold QL;refine Ks (x1.put (s:=#[h1,g,d,tka+1,os]) hne kT (by simp) λh2 x2 s2=>x2.put (s:=#[h2,g,d,tka+1,os]) hne kT (by simp) λh3 x3 s3=>Ks (OL (Ky #[_,rfl,hI V rfl u h3 (tka+1) tka hu x3.here x3.turn ?_ x3.kept])))
  exact s3.extBut _ _ hel (s2.extBut _ _ hel (s1.extBut _ _ hel new))
variable{v:Ku}{o:Mp}
theorem sw (h1:uH prog w v o C) :
  MeetsIn prog w (NK.«enumerate.__new__» #[[.type "enumerate",v],[]]) (λ_ R s=>C s.heap/\R (.ok (.ret (.ref (s.heap.push o).objs.size))) { s with heap:=(s.heap.push o).push { cls:=.type "enumerate",data:=.fields [.none,.bool false,.ref s.heap.objs.size,rawInt 0,.none,.none].toArray } }):=
 .of_wp λA R s h=>by
  obtain⟨hp,g,d,tk,os⟩:=s;obtain⟨c,h⟩:=h;have hsub:=sub_enumerate;have d1:∀(B:Lr) (Q:Ku->Kx->Prop) (E:Ku->Kx->Prop),Q (.ref hp.objs.size) #[hp.push o,g,d,tk,os]->wpAny (model prog w) B (pyIter v) Q E #[hp,g,d,tk,os]:=λB Q E q=>h1 B #[hp,g,d,tk,os] Q E c q
  wp_walk
  refine wpAny_stack_any λst=>Ky ?_
  split
  ·rename_i c _ _ _ _ _;cases(c==Mq "enumerate")
   ·wp_walk using d1 _ _ _
    exact#[_,rfl,h]
   ·wp_walk using d1 _ _ _
    exact#[_,rfl,h]
  ·wp_walk using d1 _ _ _
   exact#[_,rfl,h]
theorem xx {Q:Ku->Kx->Prop}(h1:uH prog w v o C)(c:C s.heap)(n1:o.isFreed=false)
  (h:∀h',T9 h' (s.heap.objs.size+1) s.heap.objs.size 0 .none->h'.get? s.heap.objs.size=ba o->(∀b o,s.heap.get? b=ba o->h'.get? b=ba o)->Q (.ref (s.heap.objs.size+1)) { s with heap:=h' }) :
  wpAny (model prog w) B (call (.type "enumerate") [v]) Q E s:=by
 refine callType_newIn F.called_enumerate #v[] (F.typeCall_enumerate_1 _) (F.newCall_enumerate_1 _) (λobj=>F.args_object_init_2 obj _) F.entry_enumerate_new (sw h1) #[c,?_]
 have hz:(s.heap.push o).objs.size=s.heap.objs.size+1:=Ny ..;show _/\_;rw[hz];have he:T9 ((s.heap.push o).push { cls:=.type "enumerate",data:=.fields [.none,.bool false,.ref s.heap.objs.size,rawInt 0,.none,.none].toArray }) (s.heap.objs.size+1) s.heap.objs.size 0 .none:=by
  have:=KT (s.heap.push o) (o:={ cls:=.type "enumerate",data:=.fields [.none,.bool false,.ref s.heap.objs.size,rawInt 0,.none,.none].toArray }) rfl;rw[hz]at this; exact this
 exact#[#[_,he,rfl],h _ he (Kw _ (KT _ n1)) λb o x=>Kw _ (Kw _ x)]
end
noncomputable def J8 (K:KM)(S1:Zs):It:=
 #[λi H=>∃x,S1.at K H i x,λi H v H'=>∃p x,S1.is K H i x/\v=.ref p/\H p=gV/\H'=cv H p (.tup [.int i,x]),λi H=>S1.out K H i]
theorem xy {P:Lk}{w:Lz}{K:KM}{els:Kr Lb}{k0:KC}{tp:M9}{S1:Zs}{z i1:KF}(D:z≠i1) :
  Turn P w K (.Tuple els k0 tp) (J8 K S1) [z,i1] z (λi h=>(∃old,T9 h z i1 i old)/\S1.T i1 i h) where
 mem:=by simp
 obj:=λi h #[#[old,a],d] b' hb=>by
  have it:∀ {S:Zs} {it:KF},S.T it i h->∃o,h.get? it=ba o/\∀v,o.data≠.cell v:=λ{S it} t=>by
   cases S with
   | tup a=>obtain⟨o,e,_,d⟩:=t; exact#[o,e,λv z=>by rw[d]at z; cases z]
   | lst a=>obtain⟨o,e,_,d⟩:=t; exact#[o,e,λv z=>by rw[d]at z; cases z]
   | txt x=>obtain⟨tk,⟨o,e,_,d⟩|⟨o,e,_,d⟩⟩:=t <;> exact#[o,e,λv z=>by rw[d]at z; cases z]
  simp only[Le,LP,Nb]at hb;rcases hb with rfl|rfl
  ·exact#[_,a,λv z=>by cases z]
  ·exact it d
 keep:=λi h h' #[#[old,a],d] k=>#[#[old,k z (by simp) _ a],Zs.keep d (k i1 (by simp))]
 item:=by
  intro X hP hw hK hc i pins s σ H E I hf st hg;subst hP hw hK;obtain⟨x,g1⟩:=hg;obtain⟨⟨old,a⟩,d⟩:=st;have hf4:∀b∈[z,z,i1,i1],jL X pins H b:=λb hb=>hf b (by simp only[Le,LP,Nb]at hb ⊢; rcases hb with h|h|h|h <;> simp[h])
  obtain⟨C1,Z1,c1,k1⟩:=Zs.zit (it:=i1) (U:=ba x) I hf4 g1;have hT:s.TypeIs (.ref z) "enumerate":=#[_,a,rfl];unfold pyNext;refine Ks (OH (LS (name:=MT "__next__") hT F.slot_enumerate_next (LU F.slot_enumerate_next hT F.entry_enumerate_next ?_ (F.args_enumerate_next_1 _))));refine pd Z1 (I.ok.hd hc) a d c1 D (λV e1 u g tk tk0 r1 zg t1 ng kp=>?_) (λz=>by cases z)
  cases e1;refine Ky #[_,rfl,?_];refine wpAny_letOwnedTupleGo_enum (s:={ s with heap:=g,toks:=tk }) zg λg' zg' sb=>?_
  have N0:H s.heap.objs.size=gV:=I.hok.fresh (KH _);have lt:∀ {b:KF},b∈[z,i1]->s.heap.objs.size≠b:=λ{b} hb=>by
   have:∃o,s.heap.get? b=ba o:=by
    have it:∀ {S:Zs} {it:KF},S.T it i s.heap->∃o,s.heap.get? it=ba o:=λ{S it} t=>by
     cases S with
     | tup a=>obtain⟨o,e,_⟩:=t; exact#[o,e]
     | lst a=>obtain⟨o,e,_⟩:=t; exact#[o,e]
     | txt x=>obtain⟨tk,⟨o,e,_⟩|⟨o,e,_⟩⟩:=t <;> exact#[o,e]
    simp only[Le,LP,Nb]at hb;rcases hb with rfl|rfl
    ·exact#[_,a]
    ·exact it d
   obtain⟨o,e⟩:=this;exact Lx (K1 e)
  have up:∀b o,b∉[z,i1]->s.heap.get? b=ba o->g'.get? b=ba o:=λb o hb e=>by
   simp only[Le,LP,Nb,T7]at hb;exact sb.extBut _ _ hb.1 (kp b o hb.1 hb.2 e)
  have I1:Inv X pins σ H { s with heap:=g',toks:=tk }:=Mi.Inv.turnedL I up hf
  have ng':g'.get? s.heap.objs.size=ba { cls:=.type "tuple",data:=.seq [.int i tk0,u].toArray }:=sb.extBut _ _ (lt (by simp)) ng
  have I2:Inv X pins σ (cv H s.heap.objs.size (.tup [.int i,x])) { s with heap:=g',toks:=tk }:=by
   refine Mi.Inv.adopt I1 N0 (.inr I.sz) (Lx I.lt) (λw c e=>?_) (λp hp=>?_) #[by show 2<=sizeLine; decide,[.int i tk0,u],.cons #[_,rfl] #v[r1],#[_,ng',rfl,0,rfl]]
   ·obtain⟨v,q⟩:=I.cell w c e;exact K7 q.lt
   ·exact K7 (K1 (I.pin p hp).1)
  refine#[.ref s.heap.objs.size,_,I2,rfl,#[s.heap.objs.size,x,Zs.at_is I g1,rfl,N0,rfl],#[#[_,zg'],Zs.keep t1 λo e=>sb.extBut _ _ (Ne.symm D) e],λb hb=>?_]
  rw[aO (Ne.symm (lt hb))];exact(hf b hb).1
 done:=by
  intro X hP hw hK hc i pins s σ H E I hf st hg;subst hP hw hK;obtain⟨⟨old,a⟩,d⟩:=st;have hf4:∀b∈[z,z,i1,i1],jL X pins H b:=λb hb=>hf b (by simp only[Le,LP,Nb]at hb ⊢; rcases hb with h|h|h|h <;> simp[h])
  obtain⟨C1,Z1,c1,k1⟩:=Zs.zit (it:=i1) (U:=gV) I hf4 hg;have hT:s.TypeIs (.ref z) "enumerate":=#[_,a,rfl];unfold pyNext;refine Ks (OH (LS (name:=MT "__next__") hT F.slot_enumerate_next (LU F.slot_enumerate_next hT F.entry_enumerate_next ?_ (F.args_enumerate_next_1 _))));refine pd Z1 (I.ok.hd hc) a d c1 D (λV e1=>by cases e1) λ_ h' e k #[o,ho,hc]=>?_
  exact Ks (NW (T:="StopIteration") (b:=true) #[o,ho,hc] Qq (Ky #[rfl,Mi.Inv.turnedL (t':=s.toks) I (λb o hb e=>by
    simp only[Le,LP,Nb,T7]at hb;exact k b o hb.2 e) hf]))
 self:=λ_ _ _ _ _ st h=>by obtain⟨⟨old,a⟩,_⟩:=st; exact RC a h
noncomputable def qm (xs:Kr W):Kr W:=xs.zipIdx.map λp=>.tup [.int (p.2:KC),p.1]
theorem sx {xs:Kr W}{i:KC}{w:W}(h:(qm xs)[i]?=ba w):∃x,xs[i]?=ba x/\w=.tup [.int i,x]:=by
 unfold qm at h;rw[KD,List.getElem?_zipIdx,Sz,Kv]at h;obtain⟨x,h1,rfl⟩:=h;exact#[x,h1,by simp]
noncomputable def C5 (f:FA):FI:=λρ S=>match f ρ S with
 | some ([x],S1)=>match Jw x with
  | some xs=>ba (.its (qm xs),S1)
  | none=>gV
 | _=>gV
section
variable{X:Cx}{pins:Kr (KF×Mp)}{σ:L2.St}{H:Hp}{s:Kx}{A:Kr KF}
theorem Ab {S1:Zs}{xs:Kr W}(z1:ZRel X.K A H xs S1):MIt X.w X.K (.its (qm xs)) (J8 X.K S1) A H:=by
 refine#[λA' H' S i w e so hi=>?_,λA' H' S i e so hi=>?_]
 ·simp only[MI.at,Lv]at hi;obtain⟨x,e1,rfl⟩:=sx hi;obtain⟨v,g1,r1⟩:=(z1.mono e).at e1;refine#[#[v,g1],λp H2 #[a,v',q1,hp,hn,hH]=>?_]
  subst hp hH;have ex:Ext X.K A' H' A' (cv H' a (.tup [.int i,v'])):=dU (.inl hn);exact#[ex,so.lay hn,.tup (.of bv) #v[.int,((z1.mono e).is e1 q1).mono ex]]
 ·simp only[MI.at,Lv,LY,qm,Kt,List.length_zipIdx]at hi;exact(z1.mono e).out hi
theorem xz:bootBuiltins "enumerate" = ba (.type "enumerate"):=rfl
theorem C6 {els:Kr Lb}{k0:KC}{tp:M9}{a:Lb}{f:FA}{p pos:M9}(hg:Gl X "enumerate")(hm:X.mg "enumerate" = gV)(ha:GA X [a] f)(hs:starEach [a] X.env=[(false,eval a X.env)]) :
  GI X (.Tuple els k0 tp) (.Call (.Name "enumerate" p) [a] [] pos) (C5 f):=by
 intro pins s σ H R I ⟨A,ρ,S,mi,S',er,so,e,hq⟩;unfold C5 at e;split at e
 ·rename_i x S1 h1;split at e
  ·rename_i xs e1;cases e;refine Call_ (jK I hg hm xz (M5 (ce (ha pos pins s σ H _ I #[A,ρ,S,_,_,er,so,h1,λ_ _ z=>z]) λus s1 #[vs,H1,I1,r1,A1,z1,z2,z3]=>?_) (by rw[hs]; rfl) (by rfl)))
   cases z3 with
   | cons ra t=>
    cases t;cases r1 with
    | cons ua t=>
     cases t;obtain⟨Sa,oa,Ca,za,ia,ca,ka,na,ta⟩:=C4 I1 ra ua e1;refine xx ia ca na λh' hz g1 kp=>?_
     have I2:Inv X pins σ H1 { s1 with heap:=h' }:=I1.kept (t':=s1.toks) kp
     refine RC (s:={ s1 with heap:=h' }) hz ?_
     refine#[s1.heap.objs.size+1,_,_,_,H1,rfl,I2,xy (S1:=Sa) (i1:=s1.heap.objs.size) (by simp),#[#[_,hz],ta _ _ g1],λb hb=>?_,hq _ _ A1 z1 z2 (Ab za)]
     have hb':s1.heap.objs.size<=b:=by
      simp only[Le,LP,Nb]at hb;rcases hb with rfl|rfl
      ·exact PJ _ _
      ·exact KH _
     exact I1.fpOk hb' (I1.hok.fresh hb')
  ·cases e
 ·cases e
end
end Mi
namespace Mi
open PySem PySem.Spec PyProof.Rows L2
noncomputable def C7 (g1 g2:Kr W->aa->Kz (W×aa))(xs:Kr W)(S:aa):Kz (W×aa):=match g1 xs S with
 | some r=>ba r
 | none=>g2 xs S
theorem sy {X:Cx}{f:Ku}{g1 g2:Kr W->aa->Kz (W×aa)}(h1:LCall X f g1)(h2:LCall X f g2):LCall X f (C7 g1 g2):=by
 intro pins s σ H A S xs vs us w S' I so rl rv e;unfold C7 at e;split at e
 ·rename_i r hr;cases e;exact h1 pins s σ H A S xs vs us w S' I so rl rv hr
 ·exact h2 pins s σ H A S xs vs us w S' I so rl rv e
inductive Bi where|len|list|tuple|int|set|sorted|range|all|min
 deriving NM
noncomputable def Bi.fn:Bi->Kr W->aa->Kz (W×aa)
 | .len=>ur|.list=>C7 kR oW|.tuple=>mw|.int=>Hb|.set=>mq|.sorted=>C7 dE gm|.range=>pY|.all=>Cp|.min=>Co
noncomputable def Bi.name:Bi->KZ
 | .len=>"len"|.list=>"list"|.tuple=>"tuple"|.int=>"int"|.set=>"set"|.sorted=>"sorted"|.range=>"range"|.all=>"all"|.min=>"min"
inductive Me where|append|extend|join|pop|get
 deriving NM
noncomputable def Me.fn:Me->W->Kr W->aa->Kz (W×aa)
 | .append=>jg|.extend=>jh|.join=>vg|.pop=>E9|.get=>vn
noncomputable def Me.name:Me->KZ
 | .append=>"append"|.extend=>"extend"|.join=>"join"|.pop=>"pop"|.get=>"get"
noncomputable def Me.ty:Me->L8
 | .append=>"list"|.extend=>"list"|.join=>"str"|.pop=>"list"|.get=>"dict"
inductive Tg where
 | nm (i:KC)|tp (is:Kr KC)
set_option genSizeOf false in
set_option genInjectivity false in
mutual
inductive E where
 | c (w:W)|v (i:KC)
 | op (o:BOp) (a b:E)
 | cmp (o:COp) (a b:E)
 | and (a b:E)|or (a b:E)|not (a:E)
 | own (f:KZ) (n:KC) (es:Es)|bi (b:Bi) (es:Es)|me (m:Me) (o:E) (es:Es)
 | ix (a b:E)|sl (a:E) (lo hi:Ep)|tup (es:Es)|lst (es:Es)
 | isi (c:L8) (a:E)
 | neg (a:E)|dnew|disp (es:Es)|ite (t a b:E)
 | comp (elt:E) (tg:Tg) (it:Ie) (cs:Es) (cap:Kr (Kz KC))
inductive Es where
 | nil|cons (e:E) (es:Es)
inductive Ep where
 | no|yes (e:E)
inductive Ie where
 | seq (e:E)|rng (es:Es)|rng2 (es:Es)|enu (es:Es)
end
set_option genSizeOf false in
set_option genInjectivity false in
mutual
inductive Sm where
 | set (i:KC) (e:E)|asg (is:Kr KC) (e:E)|par (i j:KC) (es:Es)|put (o k e:E)
 | ex (e:E)|ret (e:E)|retN|pass|brk|cont|bad
 | ite (t:E) (a b:Ss)|whl (t:E) (b:Ss)|loop (tg:Tg) (it:Ie) (b:Ss)
inductive Ss where
 | nil|cons (s:Sm) (ss:Ss)
end
noncomputable def gC:Tg->FG
 | .nm i=>CM i
 | .tp is=>Gs is
section
variable (Φ:KZ->FF)
mutual
noncomputable def aJ:E->FE
 | .c w=>fC w
 | .v i=>fV i
 | .op o a b=>Cr (gJ o) (aJ a) (aJ b)
 | .cmp o a b=>Cs o (aJ a) (aJ b)
 | .and a b=>vE (aJ a) (aJ b)
 | .or a b=>Cw (aJ a) (aJ b)
 | .not a=>vF (aJ a)
 | .own f n es=>si n (Φ f) (dR es)
 | .bi b es=>kY b.fn (dR es)
 | .me m o es=>Gr m.ty m.fn (aJ o) (dR es)
 | .ix a b=>Ju (aJ a) (aJ b)
 | .sl a lo hi=>Hk (aJ a) (vK lo) (vK hi)
 | .tup es=>zJ (dR es)
 | .lst es=>zK (dR es)
 | .isi c a=>zW c (aJ a)
 | .neg a=>zE (aJ a)
 | .dnew=>DX
 | .disp es=>su (dR es)
 | .ite t a b=>Cy (dO t) (aJ a) (aJ b)
 | .comp elt tg it cs cap=>my (lI it) (gC tg) (C8 cs) (aJ elt) cap
noncomputable def dO:E->FT
 | .cmp o a b=>zG (Cs o (aJ a) (aJ b))
 | .and a b=>zH (dO a) (dO b)
 | .or a b=>Hh (dO a) (dO b)
 | .not a=>Ct (dO a)
 | .c w=>im (fC w)
 | .v i=>im (fV i)
 | .op o a b=>im (Cr (gJ o) (aJ a) (aJ b))
 | .own f n es=>im (si n (Φ f) (dR es))
 | .bi b es=>im (kY b.fn (dR es))
 | .me m o es=>im (Gr m.ty m.fn (aJ o) (dR es))
 | .ix a b=>im (Ju (aJ a) (aJ b))
 | .sl a lo hi=>im (Hk (aJ a) (vK lo) (vK hi))
 | .tup es=>im (zJ (dR es))
 | .lst es=>im (zK (dR es))
 | .isi c a=>im (zW c (aJ a))
 | .neg a=>im (zE (aJ a))
 | .dnew=>λ_ _=>gV
 | .disp _=>λ_ _=>gV
 | .ite _ _ _=>λ_ _=>gV
 | .comp _ _ _ _ _=>λ_ _=>gV
noncomputable def dR:Es->FA
 | .nil=>jV
 | .cons e es=>fm (aJ e) (dR es)
noncomputable def C8:Es->FT
 | .nil=>DY
 | .cons e .nil=>dO e
 | .cons _ (.cons _ _)=>λ_ _=>gV
noncomputable def vK:Ep->FO
 | .no=>Fq
 | .yes e=>vH (aJ e)
noncomputable def lI:Ie->FI
 | .seq e=>fW (aJ e)
 | .rng es=>uD (dR es)
 | .rng2 es=>iRng2 (dR es)
 | .enu es=>C5 (dR es)
end
variable (fuel:KC)
mutual
noncomputable def gN:Sm->FS
 | .set i e=>mx (aJ Φ e) (CM i)
 | .asg is e=>mx (aJ Φ e) (Gs is)
 | .par i j es=>CO i j (dR Φ es)
 | .put o k e=>mx (aJ Φ e) (CN (aJ Φ o) (aJ Φ k))
 | .ex e=>CG (aJ Φ e)
 | .ret e=>CJ (aJ Φ e)
 | .retN=>λ_ S=>ba (.rt .non,S)
 | .pass=>zP
 | .brk=>λρ S=>ba (.bk ρ,S)
 | .cont=>λρ S=>ba (.ct ρ,S)
 | .bad=>λ_ _=>gV
 | .ite t a b=>CL (dO Φ t) (gO a) (gO b)
 | .whl t b=>qk (dO Φ t) (gO b) fuel
 | .loop tg it b=>zS (lI Φ it) (gC tg) (gO b)
noncomputable def gO:Ss->FS
 | .nil=>λρ S=>ba (.nx ρ,S)
 | .cons s ss=>CF (gN s) (gO ss)
end
end
structure Gam where
 sc:Kr (KZ×MC)
 N:Kr KZ
 fns:Kr (KZ×KC)
 blt:Kr KZ
 dfn:Lf
noncomputable def FD:Kz MC->Lf
 | some .local=>true|some .cell=>true|some .free=>true|_=>false
noncomputable def C9:Kz MC->Lf
 | some .cell=>true|some .free=>true|_=>false
noncomputable def gP (names outer:Kr (KZ×MC)):Kr (KZ×MC):=names.map λ(n,k)=>if (k==.free&&outer.lookup n==ba .cell)then(n,.cell)else(n,k)
noncomputable def slot (Γ:Gam)(x:KZ):Kz KC:=if FD (Γ.sc.lookup x) && !(x==("__debug__" : KZ)) && !(x==("__classdict__" : KZ))then Γ.N.findIdx? (· == x)else gV
noncomputable def vL:Rl->Kz BOp
 | .Add=>ba .add|.Sub=>ba .sub|.Mult=>ba .mul|.FloorDiv=>ba .fdiv|.Mod=>ba .mod|.Pow=>ba .pow|_=>gV
noncomputable def vM:Te->Kz COp
 | .Eq=>ba .eq|.NotEq=>ba .ne|.Lt=>ba .lt|.LtE=>ba .le|.Gt=>ba .gt|.GtE=>ba .ge|.In=>ba .isin|.NotIn=>ba .notin|.Is=>ba .is|.IsNot=>ba .isnot
noncomputable def Da (x:KZ):Kz Bi:=[Bi.len,.list,.tuple,.int,.set,.sorted,.range,.all,.min].find? λb=>b.name==x
noncomputable def Db (x:KZ):Kz Me:=[Me.append,.extend,.join,.pop,.get].find? λb=>b.name==x
noncomputable def Hu (Γ:Gam)(x:KZ):Lf:=Γ.sc.lookup x==ba .globalImplicit && !(x==("__debug__" : KZ))
noncomputable def Ac (x:KZ):Kz L8:=if x==("bool" : KZ)then ba "bool" else if x==("int" : KZ)then ba "int" else if x==("str" : KZ)then ba "str" else if x==("tuple" : KZ)then ba "tuple" else if x==("list" : KZ)then ba "list" else if x==("dict" : KZ)then ba "dict" else gV
noncomputable def vN:Kr (Kz Lb)->Kr Lb->Kr Lb
 | some k::ks,v::vs=>k::v::vN ks vs
 | _,_=>[]
noncomputable def Dc (Γ:Gam)(f:Lb->Kz E):Kr Lb->Kz E
 | [a,.Name c _]=>if Hu Γ c&&Γ.blt.contains c then match Ac c,f a with
  | some cs,ba a'=>ba (.isi cs a')
  | _,_=>gV
  else gV
 | _=>gV
noncomputable def hW:Lb->Lf
 | .Name _ _=>true|.Constant _ _ _=>true|.Subscript _ _ _=>true|_=>false
noncomputable def nP (Γ:Gam)(x:KZ):Lf:=Γ.sc.lookup x==ba .globalImplicit && !(x==("__debug__" : KZ))
noncomputable def dS (Γ:Gam)(x:KZ):Kz KC:=if (Γ.sc.lookup x==ba .local)||(Γ.dfn&&Γ.sc.lookup x==ba .cell)then Γ.N.findIdx? (· == x)else gV
noncomputable def cA (f:Lb->Kz E)(es:Kr Lb):Kz Es:=es.foldr (λe acc=>match f e,acc with|some e',ba es'=>ba (.cons e' es')|_,_=>gV) (ba .nil)
noncomputable def cB (f:Lb->Kz E)(op:T8):Kr Lb->Kz E
 | []=>gV
 | [a]=>f a
 | a::b::cf=>match f a,cB f op (b::cf)with
  | some a',ba b'=>ba (match op with|.And=>.and a' b'|.Or=>.or a' b')
  | _,_=>gV
noncomputable def cP (f:Lb->Kz E):Kz Lb->Kz Ep
 | none=>ba .no
 | some e=>(f e).map .yes
noncomputable def isTup:Lb->Lf
 | .Tuple _ _ _=>true
 | _=>false
noncomputable def cI (Γ:Gam)(f:Lb->Kz E)(tg:Lb):Lb->Kz Ie
 | .Call (.Name x p) [a] [] q=>if x==("range" : KZ)&&nP Γ x&&Γ.blt.contains x then(cA f [a]).map .rng else if x==("enumerate" : KZ)&&nP Γ x&&Γ.blt.contains x&&isTup tg then(cA f [a]).map .enu else(f (.Call (.Name x p) [a] [] q)).map .seq
 | .Call (.Name x p) [a,b] [] q=>if x==("range" : KZ)&&nP Γ x&&Γ.blt.contains x then(cA f [a,b]).map .rng2 else(f (.Call (.Name x p) [a,b] [] q)).map .seq
 | e=>(f e).map .seq
noncomputable def Gu (Γ:Gam):Kr Lb->Kz (Kr KC)
 | []=>ba []
 | .Name x _::ts=>match dS Γ x,Gu Γ ts with
  | some i,ba is=>ba (i::is)
  | _,_=>gV
 | _::_=>gV
noncomputable def cT (Γ:Gam):Lb->Kz Tg
 | .Name x _=>(dS Γ x).map .nm
 | .Tuple ts _ _=>(Gu Γ ts).map .tp
 | _=>gV
noncomputable def iD (names:Kr (KZ×MC)):Kr KZ:=(names.filter λp=>p.2==.local||p.2==.free).map (·.1)
noncomputable def hZ (Γ:Gam)(names:Kr (KZ×MC)):Kr (Kz KC):=(iD names).map λx=>if names.lookup x==ba .local then gV else Γ.N.findIdx? (· == x)
noncomputable def Ad (Γ:Gam)(scope:NJ):Lf:=
 (scope.kind==.function)&&scope.names.all (λy=>!(y.2==.local)||scope.names.lookup y.1==ba .local)&&scope.names.all (λy=>!(y.2==.cell)) &&
 scope.names.all (λy=>!(y.2==.free)||(C9 (Γ.sc.lookup y.1)&&scope.names.lookup y.1==ba .free&&(Γ.N.findIdx? (· == y.1)).isSome))&&decide (iD scope.names).Nodup
noncomputable def iE (Γ:Gam)(scope:NJ):Gam:={ Γ with sc:=gP scope.names Γ.sc,N:=iD scope.names,dfn:=false }
noncomputable def Ae (f:Lb->Kz E)(keys:Kr (Kz Lb))(values:Kr Lb):Kz E:=
 if keys.isEmpty&&values.isEmpty then ba .dnew
 else if keys.all (·.isSome)&&decide (keys.length=values.length)&&decide (keys.length<=15)then(cA f (vN keys values)).map .disp else gV
noncomputable def cE:KC->Gam->Lb->Kz E
 | 0,_,_=>gV
 | n+1,Γ,e=>match e with
  | .Constant (.int i) _ _=>ba (.c (.int i))
  | .Constant (.str x) _ _=>ba (.c (.str x))
  | .Constant (.bool b) _ _=>ba (.c (.bl b))
  | .Constant .none _ _=>ba (.c .non)
  | .Name x _=>match slot Γ x with
   | some i=>ba (.v i)
   | none=>gV
  | .BinOp a op b _=>match vL op,cE n Γ a,cE n Γ b with
   | some o,ba a',ba b'=>ba (.op o a' b')
   | _,_,_=>gV
  | .UnaryOp .Not a _=>(cE n Γ a).map .not
  | .UnaryOp .USub a _=>(cE n Γ a).map .neg
  | .BoolOp op vs _=>cB (cE n Γ) op vs
  | .Compare a [op] [b] _=>match vM op,cE n Γ a,cE n Γ b with
   | some o,ba a',ba b'=>ba (.cmp o a' b')
   | _,_,_=>gV
  | .IfExp t a b _=>match cE n Γ t,cE n Γ a,cE n Γ b with
   | some t',ba a',ba b'=>ba (.ite t' a' b')
   | _,_,_=>gV
  | .Call (.Name f _) args [] _=>if nP Γ f then match Γ.fns.lookup f with
    | some k=>(cA (cE n Γ) args).map (.own f k)
    | none=>if f==("isinstance" : KZ)then(if Γ.blt.contains f then Dc Γ (cE n Γ) args else gV)else match Da f,args with
     | some b,a::as=>if Γ.blt.contains f then(cA (cE n Γ) (a::as)).map (.bi b)else gV
     | _,_=>gV
   else gV
  | .Call (.Attribute o m apos) (a::as) [] cpos=>match Db m,cE n Γ o,cA (cE n Γ) (a::as)with
   | some m',ba o',ba es=>if hW o&&(apos.endLine==cpos.line)&&decide ((a::as).length < 29)then ba (.me m' o' es)else gV
   | _,_,_=>gV
  | .Subscript a (.Slice lo hi gV _) _=>match cE n Γ a,cP (cE n Γ) lo,cP (cE n Γ) hi with
   | some a',ba lo',ba hi'=>ba (.sl a' lo' hi')
   | _,_,_=>gV
  | .Subscript a b _=>match cE n Γ a,cE n Γ b with
   | some a',ba b'=>ba (.ix a' b')
   | _,_=>gV
  | .Tuple es _ _=>(cA (cE n Γ) es).map .tup
  | .List es _=>(cA (cE n Γ) es).map .lst
  | .Dict keys values _=>Ae (cE n Γ) keys values
  | .ListComp elt [#[tg,iter,ifs,asy]] scope _=>if (asy==0)&&(Ad Γ scope&&decide (ifs.length<=1))then
    match cI Γ (cE n Γ) tg iter,cT (iE Γ scope) tg,cA (cE n (iE Γ scope)) ifs,cE n (iE Γ scope) elt with
    | some it,ba t,ba cs,ba el=>ba (.comp el t it cs (hZ Γ scope.names))
    | _,_,_,_=>gV
   else gV
  | _=>gV
structure CtxOk (Φ:KZ->FF)(X:Cx)(Γ:Gam):Prop where
 names:X.env.scope.names=Γ.sc
 kind:X.env.scope.kind=.function
 N:X.N=Γ.N
 nd:Γ.N.Nodup
 calm:X.calm=true
 xe:X.xe=λ_ _=>L7
 un:X.A.units+iK < cLine
 dfn:Γ.dfn=true->∀x,X.fn x=true
 blt:∀x∈Γ.blt,X.mg x=gV
 fns:∀f n,Γ.fns.lookup f=ba n->∃k fa fd ps,FnOk X.prog X.w X.K X.mg X.base yg k fa fd ps (zN X.w X.K n (Φ f))/\Room k X.A/\X.mg f=ba (.ref fa)/\Mn X.K (.ref fa)=true/\Binds X.K fd ps []
theorem bg {α:Type}{x:α}{P:Prop}(h:(gV:Kz α)=ba x):P:=nomatch h
noncomputable def iQ:Lb->Lf
 | .Starred _ _=>false
 | _=>true
theorem aF {e:Lb}{es:Kr Lb}{env:Ri}(h:iQ e=true):starEach (e::es) env=(false,eval e env)::starEach es env:=by
 cases e <;> first|rfl|cases h
theorem bM {env:Ri}{pos:M9}:∀ {es:Kr Lb},es.all iQ=true->(backTo pos (starEach es env)).any (·.1)=false
 | [],_=>rfl
 | e::es,h=>by
  rw[LR,KA]at h;rw[aF h.1];show(false||(backTo pos (starEach es env)).any (·.1))=false
  rw[bM h.2];rfl
theorem sA {env:Ri}{pos:M9}:∀ {es:Kr Lb},es.all iQ=true->(backTo pos (starEach es env)).all (λx=>!x.1)=true
 | [],_=>rfl
 | e::es,h=>by
  rw[LR,KA]at h;rw[aF h.1];show(true&&(backTo pos (starEach es env)).all (λx=>!x.1))=true
  rw[sA h.2];rfl
theorem jW {n:KC}{Γ:Gam}{e:Lb}{e':E}(h:cE n Γ e=ba e'):iQ e=true:=by
 cases n with
 | zero=>cases h
 | succ n=>cases e <;> first|rfl|(exact bg h)
theorem jr {f:Lb->Kz E}{e:Lb}{es:Kr Lb}{r:Es}(h:cA f (e::es)=ba r):∃e' es',f e=ba e'/\cA f es=ba es'/\r=.cons e' es':=by
 simp only[cA,Sd]at h;split at h
 ·rename_i e' es' h1 h2;cases h;exact#[e',es',h1,h2,rfl]
 ·cases h
theorem dy {n:KC}{Γ:Gam}:∀ {es:Kr Lb} {r:Es},cA (cE n Γ) es=ba r->es.all iQ=true
 | [],_,_=>rfl
 | e::es,r,h=>by
  obtain⟨e',es',h1,h2,_⟩:=jr h;rw[LR,jW h1,dy h2];rfl
theorem d6 {N:Kr KZ}{x:KZ}{i:KC}(h:N.findIdx? (· == x)=ba i):N[i]?=ba x:=by
 obtain⟨hl,h1,_⟩:=List.findIdx?_eq_some_iff_getElem.mp h;rw[KI hl];exact congrArg ba (eq_of_beq h1)
section
variable{Φ:KZ->FF}{X:Cx}{Γ:Gam}
theorem lJ {e:Lb}:GT X e (λ_ _=>gV):=λpins s σ H Q I #[A,ρ,S,k,S',er,so,e1,hq]=>by cases e1
theorem Ag {x:KZ}(h:FD (X.env.scope.names.lookup x)=true):Ix X.env.scope x:=by
 unfold FD at h;split at h
 ·exact .inl ‹_›
 ·exact .inr (.inl ‹_›)
 ·exact .inr (.inr ‹_›)
 ·cases h
theorem Ah (K:CtxOk Φ X Γ){x:KZ}{pos:M9}{i:KC}(h:slot Γ x=ba i):GE X (.Name x pos) (fV i):=by
 unfold slot at h;split at h
 ·rename_i hc;rw[KA,KA]at hc;obtain⟨⟨h1,h2⟩,h3⟩:=hc;refine Jt (yk (by rw[K.N]; exact d6 h) (Ag (by rw[K.names]; exact h1)) (by simpa using h2) (by simpa using h3))
 ·cases h
theorem mz (K:CtxOk Φ X Γ){x:KZ}(h:nP Γ x=true):Gl X x/\(x==("__debug__" : KZ))=false:=by
 unfold nP at h;rw[KA]at h;refine#[?_,by simpa using h.2]
 show X.env.scope.names.lookup x=_;rw[K.names];exact eq_of_beq h.1
theorem Ai {o:Te}{c:COp}(h:vM o=ba c):c.py=o:=by
 cases o <;> (simp only[vM,Lv]at h; subst h; rfl)
theorem Aj {o:Rl}{c:BOp}(h:vL o=ba c):c.py=o:=by
 cases o <;> simp only[vL,Lv]at h <;> first|(subst h; rfl)|cases h
theorem xA {x:KZ}{b:Bi}(h:Da x=ba b):b.name=x:=by
 have:=Qe h;exact eq_of_beq this
theorem xB {x:KZ}{b:Me}(h:Db x=ba b):b.name=x:=by
 have:=Qe h;exact eq_of_beq this
theorem eA {n:KC}(ih:∀ {e:Lb} {e':E},cE n Γ e=ba e'->GE X e (aJ Φ e')):∀ {es:Kr Lb} {r:Es},cA (cE n Γ) es=ba r->GA X es (dR Φ r)
 | [],r,h=>by cases h; exact Fp
 | e::es,r,h=>by
  obtain⟨e',es',h1,h2,rfl⟩:=jr h;exact Cz (ih h1) (eA ih h2) (aF (jW h1))
theorem Hv (K:CtxOk Φ X Γ){n:KC}{f:KZ}{p pos:M9}{args:Kr Lb}{k:KC}{r:Es}(hg:nP Γ f=true)(hf:Γ.fns.lookup f=ba k)(ha:cA (cE n Γ) args=ba r)(h:GA X args (dR Φ r)):GE X (.Call (.Name f p) args [] pos) (si k (Φ f) (dR Φ r)):=by
 obtain⟨d,fa,fd,ps,F,hr,hm,hk,hb⟩:=K.fns f k hf;obtain⟨g1,g2⟩:=mz K hg;cases args with
 | nil=>cases ha; exact CC F hr g1 hm hk hb g2
 | cons a as=>
  have ns:=dy ha;rw[LR,KA]at ns;exact Fs F hr g1 hm hk hb h g2 (aF ns.1) (bM ns.2)
theorem Jx (K:CtxOk Φ X Γ){n:KC}{f:KZ}{p pos:M9}{a:Lb}{as:Kr Lb}{b:Bi}{r:Es}(hg:nP Γ f=true)(hb:Da f=ba b)(hc:Γ.blt.contains f=true)(ha:cA (cE n Γ) (a::as)=ba r)(h:GA X (a::as) (dR Φ r)):GE X (.Call (.Name f p) (a::as) [] pos) (kY b.fn (dR Φ r)):=by
 obtain⟨g1,g2⟩:=mz K hg;have hm:X.mg f=gV:=K.blt f (by simpa using hc)
 have ns:=dy ha;rw[LR,KA]at ns;have e:=xA hb;subst e;have hu:X.A.units+12 < cLine:=by have:=K.un; have:iK=20:=rfl; omega
 have calm:∀ {f:Ku} {g:Kr W->aa->Kz (W×aa)},(X.A.handled=gV->LCall X f g)->LCall X f g:=λh pins s σ H A S xs vs us w S' I=>h (I.ok.hd K.calm) pins s σ H A S xs vs us w S' I
 cases b with
 | len=>exact vG uF g1 hm PySem.boot_len h #v[] g2 (aF ns.1) (bM ns.2)
 | list=>exact sg (calm λhh=>sy (rL hh) (rZ hh)) g1 hm rfl h #v[] g2 (aF ns.1) (bM ns.2)
 | tuple=>exact sg (calm qj) g1 hm rfl h #v[] g2 (aF ns.1) (bM ns.2)
 | int=>exact sg wR g1 hm rfl h #v[] g2 (aF ns.1) (bM ns.2)
 | set=>exact sg (calm λhh=>uA hh hu) g1 hm rfl h #v[] g2 (aF ns.1) (bM ns.2)
 | sorted=>exact vG (calm λhh=>sy (sd hh hu) (qd hh hu)) g1 hm rfl h #v[] g2 (aF ns.1) (bM ns.2)
 | range=>exact sg rK g1 hm rfl h #v[] g2 (aF ns.1) (bM ns.2)
 | all=>exact vG (calm xt) g1 hm rfl h #v[] g2 (aF ns.1) (bM ns.2)
 | min=>exact vG (calm λhh=>xq hh hu) g1 hm rfl h #v[] g2 (aF ns.1) (bM ns.2)
theorem Ak {x:KZ}{c:L8}(h:Ac x=ba c):bootBuiltins x=ba (.type c)/\x≠"__name__":=by
 unfold Ac at h;split at h
 ·rename_i e; cases h; rw[eq_of_beq e]; exact#[rfl,#v[]]
 ·split at h
  ·rename_i e; cases h; rw[eq_of_beq e]; exact#[rfl,#v[]]
  ·split at h
   ·rename_i e; cases h; rw[eq_of_beq e]; exact#[rfl,#v[]]
   ·split at h
    ·rename_i e; cases h; rw[eq_of_beq e]; exact#[rfl,#v[]]
    ·split at h
     ·rename_i e; cases h; rw[eq_of_beq e]; exact#[rfl,#v[]]
     ·split at h
      ·rename_i e; cases h; rw[eq_of_beq e]; exact#[rfl,#v[]]
      ·cases h
theorem Hw (K:CtxOk Φ X Γ){n:KC}{f:KZ}{p pos:M9}{args:Kr Lb}{r:E}(hg:nP Γ f=true)(hb:(f==("isinstance" : KZ))=true)(hc:Γ.blt.contains f=true)(ih:∀ {e:Lb} {e':E},cE n Γ e=ba e'->GE X e (aJ Φ e'))(h:Dc Γ (cE n Γ) args=ba r) :
  GE X (.Call (.Name f p) args [] pos) (aJ Φ r)/\∃a c,r=.isi c a:=by
 obtain⟨g1,g2⟩:=mz K hg;have hm:X.mg f=gV:=K.blt f (by simpa using hc)
 have e:=eq_of_beq hb;subst e;unfold Dc at h;split at h
 ·rename_i a c q;split at h
  ·rename_i hcc;rw[KA]at hcc;obtain⟨g3,g4⟩:=mz K (x:=c) hcc.1;have hm2:X.mg c=gV:=K.blt c (by simpa using hcc.2)
   split at h
   ·rename_i cs a' h1 h2;cases h;obtain⟨b1,b2⟩:=Ak h1;exact#[FB g1 hm g3 hm2 b1 b2 g4 (ih h2) (aF (jW h2)),a',cs,rfl]
   ·cases h
  ·cases h
 ·cases h
theorem fX {o:Lb}{name:KZ}{env:Ri}(h:hW o=true):attributeBase o name env (eval o env)=eval o env:=by
 cases o <;> first|rfl|cases h
theorem vO {n:KC}{pos:M9}(ih:∀ {e:Lb} {e':E},cE n Γ e=ba e'->GE X e (aJ Φ e')):∀(keys:Kr (Kz Lb)) (values:Kr Lb) {r:Es},keys.all (·.isSome)=true->keys.length=values.length->cA (cE n Γ) (vN keys values)=ba r->Hr X pos keys values (dR Φ r)
 | [],[],r,_,_,h=>by cases h; exact CW
 | [],_::_,r,_,hl,_=>by cases hl
 | _::_,[],r,_,hl,_=>by cases hl
 | none::_,_::_,r,ha,_,_=>by cases ha
 | some k::ks,v::vs,r,ha,hl,h=>by
  dsimp only[vN]at h;obtain⟨e1,es1,h1,h2,rfl⟩:=jr h;obtain⟨e2,es2,h3,h4,rfl⟩:=jr h2;rw[LR,KA]at ha;exact zX (ih h1) (ih h3) (vO ih ks vs ha.2 (by simpa using hl) h4)
theorem Jy (K:CtxOk Φ X Γ){n:KC}{m:KZ}{apos cpos:M9}{o a:Lb}{as:Kr Lb}{b:Me}{o':E}{r:Es}(hm:Db m=ba b)(hr:hW o=true)(hl:(apos.endLine==cpos.line)=true)(hn:(a::as).length < 29)(ho:GE X o (aJ Φ o'))(ha:cA (cE n Γ) (a::as)=ba r)(h:GA X (a::as) (dR Φ r)) :
  GE X (.Call (.Attribute o m apos) (a::as) [] cpos) (Gr b.ty b.fn (aJ Φ o') (dR Φ r)):=by
 have ns:=dy ha;have ns':=ns;rw[LR,KA]at ns;have lh:((backTo cpos (starEach (a::as) X.env)).all (λx=>!x.1)&&(backToKw cpos (keywordEach [] X.env)).all (λx=>x.1.isSome)&&decide ((a::as).length+([]:Kr Sg).length+(if ([]:Kr Sg).isEmpty then 0 else 1) < 30))=true:=by
  rw[sA ns',N7,KA];exact#[rfl,MW (by simp only[MN,List.isEmpty_nil,Mt]; omega)]
 have e:=xB hm;subst e;cases b with
 | append=>exact sh Oh PySem.F.slot_list_append PySem.F.type_list_append pW ho h (fX hr) lh hl (aF ns.1) (bM ns.2)
 | extend=>exact sh Oh PySem.F.slot_list_extend PySem.F.type_list_extend pX ho h (fX hr) lh hl (aF ns.1) (bM ns.2)
 | join=>exact sh PySem.F.plainAttrs_str PySem.F.slot_str_join PySem.F.type_str_join ud ho h (fX hr) lh hl (aF ns.1) (bM ns.2)
 | pop=>exact sh Oh PySem.F.slot_list_pop PySem.F.type_list_pop wW ho h (fX hr) lh hl (aF ns.1) (bM ns.2)
 | get=>exact sh PySem.F.plainAttrs_dict Qj PySem.F.type_dict_get (uj (by have:=K.un; have:iK=20:=rfl; omega)) ho h (fX hr) lh hl (aF ns.1) (bM ns.2)
theorem sB {n:KC}{Γ:Gam}{e:Lb}{e':E}{op:Te}(h:cE n Γ e=ba e'):behindInMarks op e=false:=by
 cases n with
 | zero=>cases h
 | succ n=>cases e <;> first|rfl|(exact bg h)
theorem uI {n:KC}{Γ:Gam}{e:Lb}{e':E}(h:cE n Γ e=ba e'):pO e:=by
 cases n with
 | zero=>cases h
 | succ n=>cases e <;> first|(intro o i; rfl)|(exact bg h)
theorem qo {n:KC}{Γ:Gam}{f:Lb->Kz E}{e:Lb}{i:Ie}{env:Ri}{tg:Lb}(hf:∀el k p,f (.Set el k p)=gV)(h:cI Γ f tg e=ba i):∀x,foldedSetIterable e env x=pure x:=by
 intro x;cases e <;> first|rfl|(simp[cI,hf]at h)
theorem qp {n:KC}{op:T8}{pos:M9}(ih:∀ {e:Lb} {e':E},cE n Γ e=ba e'->GE X e (aJ Φ e')):∀ {vs:Kr Lb} {r:E},cB (cE n Γ) op vs=ba r->GE X (.BoolOp op vs pos) (aJ Φ r)
 | [],r,h=>by cases h
 | [a],r,h=>Fj (ih h)
 | a::b::cf,r,h=>by
  simp only[cB]at h;split at h
  ·rename_i a' b' h1 h2;cases h;cases op with
   | And=>exact Fk (ih h1) (qp ih h2)
   | Or=>exact Hj (ih h1) (qp ih h2)
  ·cases h
theorem qr {n:KC}{op:T8}{pos:M9}(ih:∀ {e:Lb} {e':E},cE n Γ e=ba e'->GT X e (dO Φ e')):∀ {vs:Kr Lb} {r:E},cB (cE n Γ) op vs=ba r->GW X (.BoolOp op vs pos) (dO Φ r)
 | [],r,h=>by cases h
 | [a],r,h=>by
  cases op with
  | And=>exact Cv (ih h)
  | Or=>exact Fg (ih h)
 | a::b::cf,r,h=>by
  simp only[cB]at h;split at h
  ·rename_i a' b' h1 h2;cases h;cases op with
   | And=>exact Fh (ih h1) (qr ih h2)
   | Or=>exact Hi (ih h1) (qr ih h2)
  ·cases h
theorem Al {n:KC}(ih:∀ {e:Lb} {e':E},cE n Γ e=ba e'->GE X e (aJ Φ e')){o:Kz Lb}{p:Ep}(h:cP (cE n Γ) o=ba p):GO X o (vK Φ p):=by
 cases o with
 | none=>cases h; exact CA
 | some e=>
  simp only[cP,Kv]at h;obtain⟨e',h1,rfl⟩:=h;exact CB (ih h1)
theorem uJ (K:CtxOk Φ X Γ){n:KC}(ih:∀ {e:Lb} {e':E},cE n Γ e=ba e'->GE X e (aJ Φ e')){tg e:Lb}{i:Ie}(h:cI Γ (cE n Γ) tg e=ba i):GI X tg e (lI Φ i):=by
 have gen:(cE n Γ e).map Ie.seq=ba i->GI X tg e (lI Φ i):=λh=>by
  rw[Kv]at h;obtain⟨e',h1,rfl⟩:=h;exact C0 (ih h1)
 unfold cI at h;split at h
 ·rename_i x p a pos;split at h
  ·rename_i hc;rw[KA,KA]at hc;obtain⟨⟨h1,h2⟩,h3⟩:=hc;have hx:=eq_of_beq h1;subst hx;rw[Kv]at h;obtain⟨r,hr,rfl⟩:=h;have ns:=dy hr;rw[LR,KA]at ns;exact CT (mz K h2).1 (K.blt _ (by simpa using h3)) (eA ih hr) (aF ns.1)
  ·split at h
   ·rename_i hc;rw[KA,KA,KA]at hc;obtain⟨⟨⟨h1,h2⟩,h3⟩,h4⟩:=hc;have hx:=eq_of_beq h1;subst hx;rw[Kv]at h;obtain⟨r,hr,rfl⟩:=h;have ns:=dy hr;rw[LR,KA]at ns;cases tg with
    | Tuple els k0 tp=>exact C6 (mz K h2).1 (K.blt _ (by simpa using h3)) (eA ih hr) (aF ns.1)
    | _=>cases h4
   ·exact gen h
 ·rename_i x p a b pos;split at h
  ·rename_i hc;rw[KA,KA]at hc;obtain⟨⟨h1,h2⟩,h3⟩:=hc;have hx:=eq_of_beq h1;subst hx;rw[Kv]at h;obtain⟨r,hr,rfl⟩:=h;have ns:=dy hr;rw[LR,LR,KA,KA]at ns;exact CU (mz K h2).1 (K.blt _ (by simpa using h3)) (eA ih hr) (by rw[aF ns.1,aF ns.2.1]; rfl) (aF ns.2.1)
  ·exact gen h
 ·exact gen h
theorem qt (K:CtxOk Φ X Γ){x:KZ}{i:KC}(h:dS Γ x=ba i):X.N[i]?=ba x/\BC X.env.scope x/\(X.fn x=true\/X.env.scope.names.lookup x=ba .local):=by
 unfold dS at h;split at h
 ·rename_i hc;refine#[by rw[K.N]; exact d6 h,?_]
  unfold L2.BC;rw[K.names];rw[Mx,KA]at hc;rcases hc with hc|⟨hd,hc⟩
  ·have:=eq_of_beq hc;exact#[.inl this,.inr this]
  ·exact#[.inr (eq_of_beq hc),.inl (K.dfn hd x)]
 ·cases h
theorem sC (K:CtxOk Φ X Γ):∀ {ts:Kr Lb} {is:Kr KC},Gu Γ ts=ba is->(∀x∈ts,∃y p,x=QH y p)/\PQ (λ(t:Lb) (i:KC)=>∃x p,t=QH x p/\X.N[i]?=ba x/\BC X.env.scope x/\(X.fn x=true\/X.env.scope.names.lookup x=ba .local)) ts is
 | [],is,h=>by cases h; exact#[λx hx=>by simp at hx,.nil]
 | t::ts,is,h=>by
  cases t with
  | Name x p=>
   dsimp only[Gu]at h;split at h
   ·rename_i i is' h1 h2;cases h;obtain⟨a,b⟩:=sC K h2;exact#[λy hy=>(Le.mp hy).elim (λe=>#[x,p,e]) (a y),.cons #[x,p,rfl,qt K h1] b]
   ·cases h
  | _=>cases h
theorem iR {env:Ri}:∀ {ts:Kr Lb},(∀x∈ts,∃y p,x=QH y p)->(assignEach ts env).length=ts.length/\(assignEach ts env).findIdx? (·.1)=gV
 | [],_=>#[rfl,rfl]
 | t::ts,h=>by
  obtain⟨y,p,rfl⟩:=h t L3;obtain⟨a,b⟩:=iR (env:=env) λx hx=>h x (LZ _ hx)
  refine#[by show(assignEach ts env).length+1=ts.length+1; rw[a],?_]
  show List.findIdx? (·.1) ((false,assign (.Name y p) env)::assignEach ts env)=gV
  rw[List.findIdx?_cons,b];rfl
theorem vP (K:CtxOk Φ X Γ){tg:Lb}{t:Tg}(h:cT Γ tg=ba t):GG X tg (gC t):=by
 have hN:X.N.Nodup:=by rw[K.N]; exact K.nd
 cases tg with
 | Name x p=>
  dsimp only[cT]at h; simp only[Kv]at h
  obtain⟨i,h1,rfl⟩:=h;obtain⟨a,b,c⟩:=qt K h1;exact vI hN a b c
 | Tuple ts k p=>
  dsimp only[cT]at h; simp only[Kv]at h
  obtain⟨is,h1,rfl⟩:=h;obtain⟨a,b⟩:=sC K h1;exact Fv K.calm a b hN (iR a).1 (iR a).2
 | _=>cases h
end
noncomputable def fQ (env:Ri):Kr (KZ×MC)->Kr (KZ×KF)->Kr (KZ×KF)
 | [],cs=>cs
 | (n,k)::r,cs=>fQ env r (if k==.free then(n,(env.cells.lookup n).getD 0)::cs else cs)
theorem jX {env:Ri}:∀(names:Kr (KZ×MC)) (cs:Kr (KZ×KF)),(∀y∈names,y.2=.free->(env.cells.lookup y.1).isSome=true)->
  (forIn names cs λx r=>match x with|(name,kind)=>if (kind==N8)=true then do let a <- cellOf env name; pure (My ((name,a)::r))else pure (My r):Tz (Kr (KZ×KF)))=pure (fQ env names cs)
 | [],cs,_=>by rw[SF]; rfl
 | (n,k)::r,cs,h=>by
  rw[Qa];have hr:=λy hy=>h y (LZ _ hy)
  by_cases hk:(k==N8)=true
  ·obtain⟨c,hc⟩:=LM.mp (h (n,k) L3 (eq_of_beq hk));have e1:cellOf env n=pure c:=by unfold cellOf; rw[hc]
   simp only[hk,Mt,e1,pure_bind];rw[jX r _ hr];simp only[fQ,hk,Mt,hc,RV]
  ·have hk':(k==N8)=false:=by simpa using hk
   simp only[hk',Ld,L4,pure_bind];rw[jX r _ hr];simp only[fQ,hk',Ld,L4]
theorem lg {scope:NJ}{env:Ri}(h:∀y∈scope.names,y.2=.free->(env.cells.lookup y.1).isSome=true):closureFor scope env=pure (fQ env scope.names []):=by
 have:=jX scope.names [] h;unfold closureFor;simp only[this,pure_bind]
theorem mB {env:Ri}:∀(names:Kr (KZ×MC)) (cs:Kr (KZ×KF)),(∀y∈names,y.2=.free->(env.cells.lookup y.1).isSome=true)->(∀x c,cs.lookup x=ba c->env.cells.lookup x=ba c)->
  ∀x c,(fQ env names cs).lookup x=ba c->env.cells.lookup x=ba c
 | [],cs,_,h,x,c,e=>h x c e
 | (n,k)::r,cs,hn,h,x,c,e=>by
  refine mB r _ (λy hy=>hn y (LZ _ hy)) (λx c e=>?_) x c e
  split at e
  ·rename_i hk;rw[MD]at e;split at e
   ·rename_i hx;cases e;have:=eq_of_beq hx;subst this;obtain⟨c,hc⟩:=LM.mp (hn (x,k) L3 (eq_of_beq hk));rw[hc]; rfl
   ·exact h x c e
  ·exact h x c e
theorem kZ {env:Ri}{x:KZ}:∀(names:Kr (KZ×MC)) (cs:Kr (KZ×KF)),(∃c,cs.lookup x=ba c)->∃c,(fQ env names cs).lookup x=ba c
 | [],cs,h=>h
 | (n,k)::r,cs,h=>by
  refine kZ r _ ?_;split
  ·rw[MD];split
   ·exact#[_,rfl]
   ·exact h
  ·exact h
theorem mC {env:Ri}{x:KZ}:∀(names:Kr (KZ×MC)) (cs:Kr (KZ×KF)),(x,N8)∈names->∃c,(fQ env names cs).lookup x=ba c
 | [],cs,h=>by simp at h
 | (n,k)::r,cs,h=>by
  rcases Le.mp h with e|h
  ·cases e;refine kZ r _ ?_;simp[MD]
  ·exact mC r _ h
theorem mD {x:KZ}{k:MC}:∀ {l:Kr (KZ×MC)},l.lookup x=ba k->(x,k)∈l
 | [],h=>by simp at h
 | (n,j)::r,h=>by
  rw[MD]at h;split at h
  ·rename_i hx;cases h;have:=eq_of_beq hx;subst this;exact L3
  ·exact LZ _ (mD h)
theorem fR {X:Cx}{Φ:KZ->FF}{Γ:Gam}(K:CtxOk Φ X Γ)(scope:NJ):(relabel scope X.env).names=gP scope.names Γ.sc:=by
 unfold relabel gP P2;rw[K.kind,K.names];refine Ms λ#[n,k] _=>?_
 have e:(Re==Re)=true:=rfl;simp only[e,N5]
theorem ft {outer:Kr (KZ×MC)}{x:KZ}:∀ {names:Kr (KZ×MC)},(gP names outer).lookup x=(names.lookup x).map λk=>if (k==.free&&outer.lookup x==ba .cell)then .cell else k
 | []=>rfl
 | (n,k)::r=>by
  have ih:=ft (outer:=outer) (x:=x) (names:=r);show List.lookup x ((if (k==N8&&outer.lookup n==ba .cell)=true then(n,UA)else(n,k))::gP r outer)=_
  cases hx:x==n with
  | true=>
   have:=eq_of_beq hx;subst this;simp only[MD,LK,Lw];split <;> simp[MD]
  | false=>
   simp only[MD,hx];split <;> (simp only[MD,hx]; exact ih)
section
variable{Φ:KZ->FF}{X:Cx}{Γ:Gam}
structure ScOk (Γ:Gam)(scope:NJ):Prop where
 kind:scope.kind=.function
 names:∀y∈scope.names,y.2=.local->scope.names.lookup y.1=ba .local
 nocell:∀y∈scope.names,y.2≠.cell
 free:∀y∈scope.names,y.2=.free->C9 (Γ.sc.lookup y.1)=true/\scope.names.lookup y.1=ba .free/\(Γ.N.findIdx? (· == y.1)).isSome=true
 nd:(iD scope.names).Nodup
theorem vQ {scope:NJ}(h:Ad Γ scope=true):ScOk Γ scope:=by
 unfold Ad at h;rw[KA,KA,KA,KA]at h;obtain⟨⟨⟨⟨h1,h2⟩,h3⟩,h4⟩,h5⟩:=h;refine#[eq_of_beq h1,λy hy e=>?_,λy hy e=>?_,λy hy e=>?_,LH h5]
 ·have:=K2.mp h2 y hy;rw[e]at this
  simpa using this
 ·have:=K2.mp h3 y hy;rw[e]at this;simp at this
 ·have:=K2.mp h4 y hy;rw[e]at this;simp only[LK,Nq,Pz,KA]at this;exact#[this.1.1,eq_of_beq this.1.2,this.2]
theorem vR {o:Kz MC}(h:C9 o=true):o=ba .cell\/o=ba .free:=by
 unfold C9 at h;split at h
 ·exact .inl rfl
 ·exact .inr rfl
 ·cases h
theorem pe (K:CtxOk Φ X Γ)(ok:X.Ok){scope:NJ}(sc:ScOk Γ scope):CompOk X scope (fQ X.env scope.names []) (iD scope.names) (hZ Γ scope.names):=by
 have cells:∀y∈scope.names,y.2=.free->(X.env.cells.lookup y.1).isSome=true:=λy hy e=>by
  have hk:=vR (sc.free y hy e).1;obtain⟨c,hc⟩:=ok.has y.1 (by unfold P2; rw[K.names]; exact hk)
  rw[hc]; rfl
 have relab:∀x,((relabel scope X.env).names.lookup x=ba .cell\/(relabel scope X.env).names.lookup x=ba .free)->(x,N8)∈scope.names:=λx h=>by
  rw[fR K,ft]at h;cases q:scope.names.lookup x with
  | none=>rw[q]at h; rcases h with h|h <;> cases h
  | some k=>
   rw[q]at h;have hm:=mD q;cases k with
   | free=>exact hm
   | cell=>exact absurd rfl (sc.nocell _ hm)
   | _=>rcases h with h|h <;> simp at h
 refine#[lg cells,sc.kind,sc.names,sc.nocell,mB _ _ cells (λx c e=>by cases e),λx h=>mC _ _ (relab x h),by simp[hZ],λi j x hi hx=>?_]
 unfold hZ at hi;rw[KD,hx]at hi;simp only[Lw,Lv]at hi;split at hi
 ·cases hi
 ·rename_i hl;have hx2:x∈iD scope.names:=KY hx;unfold iD at hx2;obtain⟨⟨x',k⟩,hf,e⟩:=K6.mp hx2;obtain⟨hm,hk⟩:=N9.mp hf;have e':x'=x:=e;subst e';have hkf:k=.free:=by
   simp only[Mx]at hk;rcases hk with hk|hk
   ·have:k=.local:=eq_of_beq hk;subst this;have:=sc.names (x',.local) hm rfl;rw[this]at hl;simp at hl
   ·exact eq_of_beq hk
  subst hkf;obtain⟨f1,f2,f3⟩:=sc.free _ hm rfl;refine#[by rw[K.N]; exact d6 hi,by unfold P2; rw[K.names]; exact vR f1,?_]
  rw[fR K,ft,f2];simp only[Lw,Lv,LK,N7];split
  ·exact .inl rfl
  ·exact .inr rfl
theorem fY (K:CtxOk Φ X Γ){scope:NJ}(sc:ScOk Γ scope)(C:KF)(s0:Kx)(H0:Hp)(ex:Kr KF):CtxOk Φ (nJ X scope (fQ X.env scope.names []) C (iD scope.names) s0 H0 ex) (iE Γ scope) where
 names:=fR K scope
 kind:=sc.kind
 N:=rfl
 nd:=sc.nd
 calm:=K.calm
 xe:=rfl
 un:=K.un
 dfn:=λh=>by cases h
 blt:=K.blt
 fns:=K.fns
theorem sD {cs:Es}{n:KC}{ifs:Kr Lb}{Γ:Gam}(hl:ifs.length<=1)(hc:cA (cE n Γ) ifs=ba cs){Y:Cx}(ih:∀ {e:Lb} {e':E},cE n Γ e=ba e'->GT Y e (dO Φ e'))(hx:Y.xe=λ_ _=>L7) :
  ∀pins s σ H Q,Inv Y pins σ H s->tT Y (C8 Φ cs) σ H Q->
  wpAny (model Y.prog Y.w) Y.A (forIn ifs true λc r=>if r=true then do let ok <- isTrue c Y.env (eval c Y.env); pure (My ok)else pure (My r)) (TP Y pins σ Q) (λ_ _=>L7) s:=by
 intro pins s σ H Q I h
 match ifs,hl,hc with
 | [],_,hc=>
  cases hc;obtain⟨A,ρ,S,k,S',er,so,e,hq⟩:=h;cases e;exact wpAny_tests_nil #[H,I,hq _ _ #[rfl,A,.refl,so]]
 | [c],_,hc=>
  obtain⟨e',es',h1,h2,rfl⟩:=jr hc;cases h2;have:=ih h1 pins s σ H Q I h;rw[hx]at this;exact wpAny_tests_one this
theorem cG:∀(n:KC) {Γ:Gam} {X:Cx} {e:Lb} {e':E},CtxOk Φ X Γ->cE n Γ e=ba e'->GE X e (aJ Φ e')/\GT X e (dO Φ e'):=by
 intro n
 induction n with
 | zero=>intro Γ X e e' K h; cases h
 | succ n ih=>
  intro Γ X e e' K h;have ihE:∀ {e:Lb} {e':E},cE n Γ e=ba e'->GE X e (aJ Φ e'):=λq=>(ih K q).1
  have ihT:∀ {e:Lb} {e':E},cE n Γ e=ba e'->GT X e (dO Φ e'):=λq=>(ih K q).2
  have hu10:X.A.units+10 < cLine:=by have:=K.un; have:iK=20:=rfl; omega
  cases e with
  | Constant c k p=>
   cases c <;> cases h
   all_goals first
    | exact#[sf yn (λ_ _=>.non),dq (sf yn (λ_ _=>.non)) λ_=>rfl]
    | exact#[sf DR (λ_ _=>.bl),dq (sf DR (λ_ _=>.bl)) λ_=>rfl]
    | exact#[sf ym (λ_ _=>.int),dq (sf ym (λ_ _=>.int)) λ_=>rfl]
    | exact#[sf yo (λ_ _=>.str),dq (sf yo (λ_ _=>.str)) λ_=>rfl]
  | Name x p=>
   replace h:(match slot Γ x with|some i=>ba (E.v i)|none=>gV)=ba e':=h
   split at h
   ·rename_i i h1;cases h;exact#[Ah K h1,dq (Ah K h1) λ_=>rfl]
   ·cases h
  | BinOp a op b p=>
   replace h:(match vL op,cE n Γ a,cE n Γ b with|some o,ba a',ba b'=>ba (E.op o a' b')|_,_,_=>gV)=ba e':=h
   split at h
   ·rename_i o a' b' h1 h2 h3;cases h;have e:=Aj h1;subst e;exact#[DW (u9 o) (ihE h2) (ihE h3),dq (DW (u9 o) (ihE h2) (ihE h3)) λ_=>rfl]
   ·cases h
  | UnaryOp op a p=>
   cases op with
   | Not=>
    replace h:(cE n Γ a).map E.not=ba e':=h;rw[Kv]at h;obtain⟨a',h1,rfl⟩:=h;exact#[Fn (ihE h1),Fi (ihT h1)]
   | USub=>
    replace h:(cE n Γ a).map E.neg=ba e':=h;rw[Kv]at h;obtain⟨a',h1,rfl⟩:=h;exact#[zF (ihE h1),dq (zF (ihE h1)) λ_=>rfl]
   | _=>exact bg h
  | BoolOp op vs p=>
   replace h:cB (cE n Γ) op vs=ba e':=h;exact#[qp ihE h,(qr ihT h).pt]
  | Compare a ops cs p=>
   match ops,cs,h with
   | [op],[b],h=>
    replace h:(match vM op,cE n Γ a,cE n Γ b with|some o,ba a',ba b'=>ba (E.cmp o a' b')|_,_,_=>gV)=ba e':=h
    split at h
    ·rename_i o a' b' h1 h2 h3;cases h;have e:=Ai h1;subst e;exact#[Fe K.un (ihE h2) (ihE h3) (sB h3),Ff K.un (ihE h2) (ihE h3) (sB h3)]
    ·cases h
   | [],_,h=>exact bg h
   | [_],[],h=>exact bg h
   | [_],_::_::_,h=>exact bg h
   | _::_::_,_,h=>exact bg h
  | IfExp t a b p=>
   replace h:(match cE n Γ t,cE n Γ a,cE n Γ b with|some t',ba a',ba b'=>ba (E.ite t' a' b')|_,_,_=>gV)=ba e':=h
   split at h
   ·rename_i t' a' b' h1 h2 h3;cases h;exact#[Fo (ihT h1) (ihE h2) (ihE h3),lJ]
   ·cases h
  | Call f args kws p=>
   cases kws with
   | cons _ _=>cases f <;> first|(exact bg h)|(cases args <;> (exact bg h))
   | nil=>
    cases f with
    | Name x q=>
     replace h:(if nP Γ x then match Γ.fns.lookup x with|some k=>(cA (cE n Γ) args).map (E.own x k)|none=>if x==("isinstance" : KZ)then(if Γ.blt.contains x then Dc Γ (cE n Γ) args else gV)else match (generalizing:=false) Da x,args with|some b,a::as=>if Γ.blt.contains x then(cA (cE n Γ) (a::as)).map (E.bi b)else gV|_,_=>gV else gV)=ba e':=h
     split at h
     ·rename_i hg;split at h
      ·rename_i k hk;rw[Kv]at h;obtain⟨r,hr,rfl⟩:=h;have g:=Hv (pos:=p) (p:=q) K hg hk hr (eA ihE hr);exact#[g,dq g λ_=>rfl]
      ·split at h
       ·rename_i his;split at h
        ·rename_i hc;obtain⟨g,a',c',rfl⟩:=Hw (pos:=p) (p:=q) K hg his hc ihE h;exact#[g,dq g λ_=>rfl]
        ·cases h
       ·split at h
        ·rename_i bb a as hb;split at h
         ·rename_i hc;rw[Kv]at h;obtain⟨r,hr,rfl⟩:=h;have g:=Jx (pos:=p) (p:=q) K hg hb hc hr (eA ihE hr);exact#[g,dq g λ_=>rfl]
         ·cases h
        ·cases h
     ·cases h
    | Attribute o m q=>
     cases args with
     | nil=>exact bg h
     | cons a as=>
      replace h:(match Db m,cE n Γ o,cA (cE n Γ) (a::as)with|some m',ba o',ba es=>if hW o&&(q.endLine==p.line)&&decide ((a::as).length < 29)then ba (E.me m' o' es)else gV|_,_,_=>gV)=ba e':=h
      split at h
      ·rename_i m' o' es h1 h2 h3;split at h
       ·rename_i hc;rw[KA,KA,K5]at hc;cases h;have g:=Jy K (cpos:=p) (apos:=q) h1 hc.1.1 hc.1.2 hc.2 (ihE h2) h3 (eA ihE h3);exact#[g,dq g λ_=>rfl]
       ·cases h
      ·cases h
    | _=>exact bg h
  | Subscript a b p=>
   have plain:(match cE n Γ a,cE n Γ b with|some a',ba b'=>ba (E.ix a' b')|_,_=>gV)=ba e'->GE X (.Subscript a b p) (aJ Φ e')/\GT X (.Subscript a b p) (dO Φ e'):=λh=>by
    split at h
    ·rename_i a' b' h1 h2;cases h;have g:=Hl (pos:=p) hu10 (ihE h1) (ihE h2) (uI h2);exact#[g,dq g λ_=>rfl]
    ·cases h
   cases b with
   | Slice lo hi st q=>
    cases st with
    | none=>
     replace h:(match cE n Γ a,cP (cE n Γ) lo,cP (cE n Γ) hi with|some a',ba lo',ba hi'=>ba (E.sl a' lo' hi')|_,_,_=>gV)=ba e':=h
     split at h
     ·rename_i a' lo' hi' h1 h2 h3;cases h;have g:=Hm (pos:=p) (p2:=q) (ihE h1) (Al ihE h2) (Al ihE h3);exact#[g,dq g λ_=>rfl]
     ·cases h
    | some z=>exact plain h
   | _=>exact plain h
  | Tuple es k p=>
   replace h:(cA (cE n Γ) es).map E.tup=ba e':=h;rw[Kv]at h;obtain⟨r,h1,rfl⟩:=h;exact#[zL (eA ihE h1),dq (zL (eA ihE h1)) λ_=>rfl]
  | List es p=>
   replace h:(cA (cE n Γ) es).map E.lst=ba e':=h;rw[Kv]at h;obtain⟨r,h1,rfl⟩:=h;exact#[zM (eA ihE h1),dq (zM (eA ihE h1)) λ_=>rfl]
  | Dict keys values p=>
   replace h:Ae (cE n Γ) keys values=ba e':=h;unfold Ae at h;split at h
   ·rename_i hc;cases h;rw[KA]at hc;have k0:keys=[]:=RW.mp hc.1;have v0:values=[]:=RW.mp hc.2;subst k0 v0;exact#[CY,lJ]
   ·rename_i hc0;split at h
    ·rename_i hc;rw[KA,KA,K5,K5]at hc;rw[Kv]at h;obtain⟨r,hr,rfl⟩:=h;have h0:keys≠[]:=λz=>by
      subst z;have v0:values=[]:=M3.mp hc.1.2.symm;subst v0;exact hc0 rfl
     exact#[CZ (pos:=p) hu10 (vO ihE keys values hc.1.1 hc.1.2 hr) hc.1.1 hc.1.2 h0 hc.2,lJ]
    ·cases h
  | ListComp elt gens scope p=>
   match gens,h with
   | [#[tg,iter,ifs,asy]],h=>
    replace h:(if (asy==0)&&(Ad Γ scope&&decide (ifs.length<=1))then match cI Γ (cE n Γ) tg iter,cT (iE Γ scope) tg,cA (cE n (iE Γ scope)) ifs,cE n (iE Γ scope) elt with|some it,ba t,ba cs,ba el=>ba (E.comp el t it cs (hZ Γ scope.names))|_,_,_,_=>gV else gV)=ba e':=h
    split at h
    ·rename_i hc;rw[KA,KA,K5]at hc;have e0:asy=0:=eq_of_beq hc.1;subst e0;replace hc:=hc.2;split at h
     ·rename_i it t cs el h1 h2 h3 h4;cases h;have sc:=vQ hc.1;refine#[C3 K.calm (uJ K ihE h1) (λok=>#[_,pe K ok sc,?_]) (qo (n:=n) (λel k p=>by cases n <;> rfl) h1),lJ]
      refine#[λC s0 H0 ex=>vP (fY K sc C s0 H0 ex) h2,λC s0 H0 ex pins s σ H Q I q=>?_,λC s0 H0 ex=>(ih (fY K sc C s0 H0 ex) h4).1]
      exact sD hc.2 h3 (λz=>(ih (fY K sc C s0 H0 ex) z).2) rfl pins s σ H Q I q
     ·cases h
    ·cases h
   | [],h=>exact bg h
   | #[_,_,_,_]::_::_,h=>exact bg h
  | _=>exact bg h
end
noncomputable abbrev cH:KC:=30
noncomputable def DZ:Lb->Lf
 | .Constant (.str _) _ _=>true
 | _=>false
noncomputable def jY:Lb->Lf
 | .ListComp _ _ _ _=>true
 | _=>false
noncomputable def vS:Lb->Lf
 | .Slice _ _ _ _=>true
 | _=>false
noncomputable def xC (f:No->Kz Sm)(ss:Kr No):Kz Ss:=ss.foldr (λs acc=>match f s,acc with|some s',ba ss'=>ba (.cons s' ss')|_,_=>gV) (ba .nil)
noncomputable def FH (Γ:Gam):Kr Lb->Lb->Kz Sm
 | [.Name x px,.Name y py],.Tuple [a,b] _ _=>match Γ.N.findIdx? (· == x),Γ.N.findIdx? (· == y),cA (cE cH Γ) [a,b]with
  | some i,ba j,ba es=>if !(i==j)&&(Γ.sc.lookup x==ba .local)&&(Γ.sc.lookup y==ba .local)&&(py.line==px.line) && !([a,b].all (foldedForSure 8)) && !([a,b].all (constantsAlone 8))then ba (.par i j es)else gV
  | _,_,_=>gV
 | _,_=>gV
noncomputable def cS:KC->Gam->No->Kz Sm
 | 0,_,_=>gV
 | n+1,Γ,st=>match st with
  | .Assign [.Name x _] e _=>match dS Γ x,cE cH Γ e with
   | some i,ba e'=>ba (.set i e')
   | _,_=>gV
  | .Assign [.Tuple ts _ _] e _=>if isTup e then FH Γ ts e else if jY e then gV else match Gu Γ ts,cE cH Γ e with
   | some is,ba e'=>ba (.asg is e')
   | _,_=>gV
  | .Assign [.Subscript o k _] e _=>if vS k then gV else match cE cH Γ o,cE cH Γ k,cE cH Γ e with
   | some o',ba k',ba e'=>ba (.put o' k' e')
   | _,_,_=>gV
  | .Expr e _=>if DZ e then ba .pass else if jY e then gV else(cE cH Γ e).map .ex
  | .Return (ba e) _=>(cE cH Γ e).map .ret
  | .Return gV _=>ba .retN
  | .Pass _=>ba .pass
  | .Raise _ _ _=>ba .bad
  | .Break _=>ba .brk
  | .Continue _=>ba .cont
  | .If t a b _=>match cE cH Γ t,xC (cS n Γ) a,xC (cS n Γ) b with
   | some t',ba a',ba b'=>ba (.ite t' a' b')
   | _,_,_=>gV
  | .While t b [] _=>match cE cH Γ t,xC (cS n Γ) b with
   | some t',ba b'=>ba (.whl t' b')
   | _,_=>gV
  | .For tg it b [] _=>match cT Γ tg,cI Γ (cE cH Γ) tg it,xC (cS n Γ) b with
   | some t,ba i,ba b'=>ba (.loop t i b')
   | _,_,_=>gV
  | _=>gV
section
variable{Φ:KZ->FF}{X:Cx}{Γ:Gam}{fuel:KC}
theorem Am {f:No->Kz Sm}{s:No}{ss:Kr No}{r:Ss}(h:xC f (s::ss)=ba r):∃s' ss',f s=ba s'/\xC f ss=ba ss'/\r=.cons s' ss':=by
 simp only[xC,Sd]at h;split at h
 ·rename_i e' es' h1 h2;cases h;exact#[e',es',h1,h2,rfl]
 ·cases h
theorem ib {n:KC}(ih:∀ {st:No} {s':Sm},cS n Γ st=ba s'->GS X st (gN Φ fuel s')):∀ {ss:Kr No} {r:Ss},xC (cS n Γ) ss=ba r->GSs X ss (gO Φ fuel r)
 | [],r,h=>by cases h; exact CD
 | s::ss,r,h=>by
  obtain⟨s',ss',h1,h2,rfl⟩:=Am h;exact zO (ih h1) (ib ih h2)
theorem mE {e:Lb}{t:Kz Lb}{l:KC}{env:Ri}(h:jY e=false)(n:KC){Γ:Gam}{e':E}(hc:cE n Γ e=ba e'):swapsWith e t l env=pure false:=by
 cases n with
 | zero=>cases hc
 | succ n=>cases e <;> first|(exfalso; exact bg hc)|rfl|cases h
theorem uK (K:CtxOk Φ X Γ){n:KC}{elt:Lb}{gens:Kr Comprehension}{scope:NJ}{p:M9}{e':E}(h:cE (n+1) Γ (.ListComp elt gens scope p)=ba e') :
  ∃tg iter ifs fi g c f cap,gens=[#[tg,iter,ifs,0]]/\aJ Φ e'=my fi g c f cap/\GI X tg iter fi/\(X.Ok->∃cl,CompOk X scope cl (iD scope.names) cap/\BlockOk X scope cl (iD scope.names) tg elt ifs g c f)/\∀x,foldedSetIterable iter X.env x=pure x:=by
 match gens,h with
 | [#[tg,iter,ifs,asy]],h=>
  replace h:(if (asy==0)&&(Ad Γ scope&&decide (ifs.length<=1))then match cI Γ (cE n Γ) tg iter,cT (iE Γ scope) tg,cA (cE n (iE Γ scope)) ifs,cE n (iE Γ scope) elt with|some it,ba t,ba cs,ba el=>ba (E.comp el t it cs (hZ Γ scope.names))|_,_,_,_=>gV else gV)=ba e':=h
  split at h
  ·rename_i hc;rw[KA,KA,K5]at hc;have e0:asy=0:=eq_of_beq hc.1;subst e0;replace hc:=hc.2;split at h
   ·rename_i it t cs el h1 h2 h3 h4;cases h;have sc:=vQ hc.1;refine#[tg,iter,ifs,_,_,_,_,_,rfl,rfl,uJ K (λz=>(cG n K z).1) h1,λok=>#[_,pe K ok sc,?_],qo (n:=n) (λel k p=>by cases n <;> rfl) h1]
    refine#[λC s0 H0 ex=>vP (fY K sc C s0 H0 ex) h2,λC s0 H0 ex pins s σ H Q I q=>?_,λC s0 H0 ex=>(cG n (fY K sc C s0 H0 ex) h4).1]
    exact sD hc.2 h3 (λz=>(cG n (fY K sc C s0 H0 ex) z).2) rfl pins s σ H Q I q
   ·cases h
  ·cases h
 | [],h=>exact bg h
 | #[_,_,_,_]::_::_,h=>exact bg h
theorem Hx (K:CtxOk Φ X Γ){x:KZ}{px pos:M9}{e:Lb}{i:KC}{e':E}(hi:dS Γ x=ba i)(he:cE cH Γ e=ba e'):GS X (.Assign [.Name x px] e pos) (mx (aJ Φ e') (CM i)):=by
 obtain⟨a,b,c⟩:=qt K hi;have hN:X.N.Nodup:=by rw[K.N]; exact K.nd
 have plain:swapsWith e (ba (.Name x px)) pos.line X.env=pure false->GS X (.Assign [.Name x px] e pos) (mx (aJ Φ e') (CM i)):=λhs=>uC (cG _ K he).1 (vI hN a b c) hs (by cases e <;> rfl) rfl
 cases hc:jY e with
 | false=>exact plain (mE hc _ he)
 | true=>
  cases e with
  | ListComp elt gens scope p=>
   cases hsw:(X.env.blockKind==.function&&X.env.kindOf x==ba .local&&px.line==p.line && !(scope.names.any λ(n,k)=>n==x&&(k==.local||k==.cell)))with
   | false=>
    refine plain ?_;show(pure (X.env.blockKind==.function&&X.env.kindOf x==ba .local&&px.line==p.line && !(scope.names.any λ(n,k)=>n==x&&(k==.local||k==.cell))):Tz Lf)=pure false
    rw[hsw]
   | true=>
    have hsw':swapsWith (.ListComp elt gens scope p) (ba (.Name x px)) pos.line X.env=pure true:=by
     show(pure (X.env.blockKind==.function&&X.env.kindOf x==ba .local&&px.line==p.line && !(scope.names.any λ(n,k)=>n==x&&(k==.local||k==.cell))):Tz Lf)=pure true
     rw[hsw]
    rw[KA,KA,KA]at hsw;have hl:X.env.scope.names.lookup x=ba .local:=eq_of_beq hsw.1.1.2;obtain⟨tg,iter,ifs,fi,g,c',f,cap,rfl,e2,gi,hck,hs⟩:=uK K he;rw[e2];exact uG K.calm gi hck hs hsw' hN a hl
  | _=>cases hc
theorem sE (K:CtxOk Φ X Γ){x y:KZ}{px py pt pt2:M9}{kt k2:KC}{a b:Lb}(hxy:x≠y)(hx:Γ.sc.lookup x=ba .local)(hy:Γ.sc.lookup y=ba .local)(hl:(py.line==px.line)=true)(h1:[a,b].all (foldedForSure 8)=false)(h2:[a,b].all (constantsAlone 8)=false)(hs:iQ a=true)(hs2:iQ b=true) :
  swappedStores [.Tuple [.Name x px,.Name y py] kt pt] (.Tuple [a,b] k2 pt2) X.env=pure (ba [x,y]):=by
 have kx:(X.env.kindOf x==ba .local)=true:=by unfold P2; rw[K.names,hx]; rfl
 have ky:(X.env.kindOf y==ba .local)=true:=by unfold P2; rw[K.names,hy]; rfl
 have bk:(X.env.blockKind != .function)=false:=by
  unfold Env.blockKind;rw[K.kind];rfl
 have hp:(px.line==px.line)=true:=by simp
 have ed:([x,y].eraseDups.length != [x,y].length)=false:=by
  have:(y==x)=false:=by simpa using Ne.symm hxy
  simp[QM,this]
 have kx':X.env.kindOf x=ba .local:=eq_of_beq kx;have ky':X.env.kindOf y=ba .local:=eq_of_beq ky;have hl':py.line=px.line:=eq_of_beq hl;have bk':X.env.blockKind=.function:=by simpa using bk
 have yx:(y==x)=false:=by simpa using Ne.symm hxy
 have h1':(foldedForSure 8 a&&foldedForSure 8 b)=false:=by simpa using h1
 have h2':(constantsAlone 8 a&&constantsAlone 8 b)=false:=by simpa using h2
 unfold swappedStores;simp only[M7,List.any_nil,QQ,N2,List.filterMap_nil,kx',ky',bk',List.head?_cons,Lw,RV,LJ,MN,LR,List.all_nil,N5,h1',h2'];refine Eq.trans (Li ?_) (Eq.trans (Li ?_) ?_)
 ·decide
 ·rw[Mx];rintro(hh|hh)
  ·clear h1 h2 h1' h2';cases a <;> first|(cases hh; done)|(cases hs; done)
  ·clear h1 h2 h1' h2';cases b <;> first|(cases hh; done)|(cases hs2; done)
 ·dsimp only[Expr.pos]; simp[hl',yx,QM]
theorem De (fuel:KC)(K:CtxOk Φ X Γ):∀(n:KC) {st:No} {s':Sm},cS n Γ st=ba s'->GS X st (gN Φ fuel s'):=by
 have hN:X.N.Nodup:=by rw[K.N]; exact K.nd
 have own:QG (model X.prog X.w) X.A X.env X.xe:=by rw[K.xe]; exact Uo
 intro n
 induction n with
 | zero=>intro st s' h; cases h
 | succ n ih=>
  intro st s' h;cases st with
  | Expr e p=>
   replace h:(if DZ e then ba Sm.pass else if jY e then gV else(cE cH Γ e).map Sm.ex)=ba s':=h
   split at h
   ·rename_i hd;cases h;cases e with
    | Constant c k q=>
     cases c with
     | str x=>exact Ft
     | _=>cases hd
    | _=>cases hd
   ·split at h
    ·cases h
    ·rename_i hd hc;rw[Kv]at h;obtain⟨e',h1,rfl⟩:=h;exact Hn (cG _ K h1).1 (mE (by simpa using hc) _ h1)
  | Return o p=>
   cases o with
   | none=>cases h; exact CK
   | some e=>
    replace h:(cE cH Γ e).map Sm.ret=ba s':=h;rw[Kv]at h;obtain⟨e',h1,rfl⟩:=h;exact Fu (cG _ K h1).1
  | Pass p=>cases h; exact CH
  | Raise exc cause pos=>cases h; exact λpins s D σ H I #[A,ρ,S,o,S',er,so,e,hq]=>nomatch e
  | Break p=>cases h; exact zQ
  | Continue p=>cases h; exact CI
  | If t a b p=>
   replace h:(match cE cH Γ t,xC (cS n Γ) a,xC (cS n Γ) b with|some t',ba a',ba b'=>ba (Sm.ite t' a' b')|_,_,_=>gV)=ba s':=h
   split at h
   ·rename_i t' a' b' h1 h2 h3;cases h;exact Ho (cG _ K h1).2 (ib ih h2) (ib ih h3)
   ·cases h
  | While t b o p=>
   cases o with
   | cons _ _=>exact bg h
   | nil=>
    replace h:(match cE cH Γ t,xC (cS n Γ) b with|some t',ba b'=>ba (Sm.whl t' b')|_,_=>gV)=ba s':=h
    split at h
    ·rename_i t' b' h1 h2;cases h;exact zR fuel own (cG _ K h1).2 (ib ih h2)
    ·cases h
  | For tg it b o p=>
   cases o with
   | cons _ _=>exact bg h
   | nil=>
    replace h:(match cT Γ tg,cI Γ (cE cH Γ) tg it,xC (cS n Γ) b with|some t,ba i,ba b'=>ba (Sm.loop t i b')|_,_,_=>gV)=ba s':=h
    split at h
    ·rename_i t i b' h1 h2 h3;cases h;exact Fz own K.calm (uJ K (λz=>(cG _ K z).1) h2) (vP K h1) (ib ih h3) (qo (n:=cH) (λel k p=>rfl) h2)
    ·cases h
  | Assign ts e p=>
   match ts,h with
   | [],h=>exact bg h
   | a::_::_,h=>cases a <;> exact bg h
   | [t],h=>
    cases t with
    | Name x px=>
     replace h:(match dS Γ x,cE cH Γ e with|some i,ba e'=>ba (Sm.set i e')|_,_=>gV)=ba s':=h
     split at h
     ·rename_i i e' h1 h2;cases h;exact Hx K h1 h2
     ·cases h
    | Subscript o k q=>
     replace h:(if vS k then gV else match cE cH Γ o,cE cH Γ k,cE cH Γ e with|some o',ba k',ba e'=>ba (Sm.put o' k' e')|_,_,_=>gV)=ba s':=h
     split at h
     ·cases h
     ·rename_i hc;split at h
      ·rename_i o' k' e' h1 h2 h3;cases h;refine uC (cG _ K h3).1 (Fw (by have:=K.un; have:iK=20:=rfl; omega) (cG _ K h1).1 (cG _ K h2).1 ?_) (by cases e <;> rfl) (by cases e <;> rfl) rfl
       intro v;cases k <;> first|rfl|exact absurd rfl hc
      ·cases h
    | Tuple ts' k q=>
     have par:∀ {x y:KZ} {px py:M9} {a b:PySem.Expr} {k2:KC} {q2:M9},(match Γ.N.findIdx? (· == x),Γ.N.findIdx? (· == y),cA (cE cH Γ) [a,b]with
       | some i,ba j,ba es=>if !(i==j)&&(Γ.sc.lookup x==ba .local)&&(Γ.sc.lookup y==ba .local)&&(py.line==px.line) && !([a,b].all (foldedForSure 8)) && !([a,b].all (constantsAlone 8))then ba (Sm.par i j es)else gV
       | _,_,_=>gV)=ba s'->GS X (.Assign [.Tuple [.Name x px,.Name y py] k q] (.Tuple [a,b] k2 q2) p) (gN Φ fuel s'):=λ{x y px py a b k2 q2} h=>by
      split at h
      ·rename_i i j es h1 h2 h3;split at h
       ·rename_i hc;cases h;rw[KA,KA,KA,KA,KA]at hc;obtain⟨⟨⟨⟨⟨c1,c2⟩,c3⟩,c4⟩,c5⟩,c6⟩:=hc;have hij:i≠j:=by simpa using c1
        have ns:=dy h3;rw[LR,LR,KA,KA]at ns;have hi:X.N[i]?=ba x:=by rw[K.N]; exact d6 h1
        have hj:X.N[j]?=ba y:=by rw[K.N]; exact d6 h2
        refine Fx K.calm hN hi hj hij (by rw[K.names]; exact eq_of_beq c2) (by rw[K.names]; exact eq_of_beq c3) (eA (λz=>(cG _ K z).1) h3) (sE K ?_ (eq_of_beq c2) (eq_of_beq c3) c4 (by rw[<- NL]; exact c5) (by rw[<- NL]; exact c6) ns.1 ns.2.1) rfl
        rintro rfl;rw[h1]at h2;cases h2;exact hij rfl
       ·cases h
      ·cases h
     replace h:(if isTup e then FH Γ ts' e else if jY e then gV else match Gu Γ ts',cE cH Γ e with|some is,ba e'=>ba (Sm.asg is e')|_,_=>gV)=ba s':=h
     split at h
     ·unfold FH at h;split at h
      ·exact par h
      ·cases h
     ·split at h
      ·cases h
      ·rename_i hc1 hc2;split at h
       ·rename_i is e' h1 h2;cases h;refine uC (cG _ K h2).1 (vP (tg:=.Tuple ts' k q) (t:=.tp is) K (by simp[cT,h1])) (mE (t:=ba (.Tuple ts' k q)) (l:=p.line) (env:=X.env) (by simpa using hc2) _ h2) ?_ rfl
        cases e <;> first|rfl|exact absurd rfl hc1
       ·cases h
    | _=>exact bg h
  | _=>exact bg h
end
structure Df where
 ps:Kr KZ
 N:Kr KZ
 body:Ss
noncomputable def gp (N:Kr KZ)(ws:Kr W):Fm:=ws.map ba++Lo (N.length - ws.length) gV
noncomputable def ar (defs:Kr (KZ×Df))(fuel:KC):KC->KZ->FF
 | 0,_,_,_=>gV
 | d+1,f,ws,S=>match defs.lookup f with
  | some df=>if ws.length=df.ps.length then match gO (ar defs fuel d) fuel df.body (gp df.N ws) S with
    | some (.rt w,S')=>ba (w,S')
    | some (.nx _,S')=>ba (.non,S')
    | _=>gV
   else gV
  | none=>gV
structure Md where
 fns:Kr (KZ×KC)
 blt:Kr KZ
noncomputable def D0 (M:Md)(st:No)(N:Kr KZ):Gam:={ sc:=(ag st).names,N:=N,fns:=M.fns,blt:=M.blt,dfn:=true }
noncomputable def bX (M:Md)(st:No)(df:Df):Prop:=xC (cS 20 (D0 M st df.N)) (dC st)=ba df.body
theorem pf {K:KM}{A:Kr KF}{H:Hp}{ws:Kr W}{vs:Kr V}{N:Kr KZ}(r:RelL K A H ws vs):EnvRel K A H (gp N ws) (gH N vs):=by
 refine#[by simp[gp,L2.gH,r.length],λi w h=>?_]
 unfold gp at h;unfold L2.gH
 by_cases hi:i < ws.length
 ·rw[LF (by simpa using hi),KD]at h
  rw[LF (by rw[Kt,<- r.length]; exact hi),KD]
  cases q:ws[i]? with
  | none=>rw[q]at h; cases h
  | some w'=>
   rw[q]at h;simp only[Lw,Lv]at h;subst h;obtain⟨v,h1,h2⟩:=r.get q;exact#[v,by rw[h1]; rfl,h2]
 ·rw[MG (by simpa using hi)]at h
  have:=KY h;simp at this
section
variable{P:Lk}{w:Lz}{K:KM}{mg:KZ->Kz Ku}{base:LI}
noncomputable def D2 (P:Lk)(w:Lz)(K:KM)(mg:KZ->Kz Ku)(base:LI)(M:Md)(defs:Kr (KZ×Df))(fuel d:KC):Prop:=
 ∀f n,M.fns.lookup f=ba n->∃fa fd ps,FnOk P w K mg base yg d fa fd ps (zN w K n (ar defs fuel d f))/\mg f=ba (.ref fa)/\Mn K (.ref fa)=true/\Binds K fd ps []
structure MdOk (w:Lz)(K:KM)(mg:KZ->Kz Ku)(M:Md):Prop where
 blt:∀y∈M.blt,mg y=gV
theorem D6 {M:Md}{defs:Kr (KZ×Df)}{fuel d:KC}{x qual:KZ}{st:No}{f:KF}{fd:Na}{df:Df}(F:Fun K x qual st f fd)(S:FnScope df.N df.ps (ag st))(hd:defs.lookup x=ba df)(hc:bX M st df)
  (hb:MdOk w K mg M) (prev:D2 P w K mg base M defs fuel d):FnOk P w K mg base yg (d+1) f fd df.ps (zN w K df.ps.length (ar defs fuel (d+1) x)):=by
 refine F.ok S (λvs H Q E h=>?_) (λcdv A outer s H vs Q E hr h=>?_)
 ·obtain⟨A,S,ws,w',S',_,rl,hl,_⟩:=h;rw[<- rl.length]; exact hl
 ·obtain⟨A',St,ws,w',S',so,rl,hl,e,hq⟩:=h;have K':CtxOk (ar defs fuel d) (tX yg P w K mg base df.N qual (ag st) f cdv A outer s H E).nox (D0 M st df.N):=by
   refine#[rfl,S.kind,rfl,S.nd,rfl,rfl,?_,λ_ _=>rfl,hb.blt,λg n hg=>?_]
   ·have:=hr.un;show(A.deeper _).units+20 < cLine;omega
   ·obtain⟨fa,fd',ps',h1,h2,h3,h4⟩:=prev g n hg;exact#[d,fa,fd',ps',h1,hr,h2,h3,h4]
  refine#[tS _ (gO (ar defs fuel d) fuel df.body),ib (λz=>De fuel K' 20 z) hc,?_]
  simp only[ar,hd]at e;rw[La hl]at e;split at e
  ·rename_i w1 S1 h1;cases e;refine#[A',gp df.N ws,St,_,_,pf rl,so,h1,#[λσ' H' #[_,_,z,_]=>(by cases z),λv H' #[w2,A2,z0,z1,z2,z3]=>?_,λσ' H' #[_,_,z,_]=>(by cases z),λσ' H' #[_,_,z,_]=>(by cases z)]]
   cases z0;exact hq v H' #[A2,z1,z2,z3]
  ·rename_i ρ1 S1 h1;cases e;refine#[A',gp df.N ws,St,_,_,pf rl,so,h1,#[λσ' H' #[w2,A2,z0,z1,z2,z3]=>?_,λσ' H' #[_,_,z,_]=>(by cases z),λσ' H' #[_,_,z,_]=>(by cases z),λσ' H' #[_,_,z,_]=>(by cases z)]]
   exact hq _ H' #[A2,z1,z2,.non]
  ·cases e
theorem xD {H:Hp}{a:KF}{ns:Kr KO}(hO:yJ H)(hS:SqL K H a (ns.map V.int)):StoreOk w K [a] H [.fro (ns.map W.int)]/\RelL K [a] H [.ref 0] [.ref a]:=by
 have rl:∀ns:Kr KO,RelL K [a] H (ns.map W.int) (ns.map V.int):=by
  intro ns
  induction ns with
  | nil=>exact .nil
  | cons n ns ih=>exact .cons .int ih
 have fr:FroL K H a (ns.map V.int):=by
  rcases hS with(h|⟨o,h⟩)|h
  ·rcases hO a with z|⟨o,xs,z⟩ <;> (rw[z]at h; cases h)
  ·exact .inl #[o,h]
  ·exact .inr h
 refine#[#[rfl,λi j b o u e1 m1 e2 m2 _ _=>?_,λi o b e1 e2=>?_],.cons (.ref rfl) .nil]
 ·cases i with
  | zero=>simp at e1; subst e1; cases m1
  | succ i=>simp at e1
 ·cases i with
  | zero=>
   simp at e1 e2;subst e1 e2;exact#[_,fr,rl ns]
  | succ i=>simp at e1
theorem FJ {g:FF}{H:Hp}{a:KF}{ns:Kr KO}(h:∃S',g [.ref 0] [.fro (ns.map W.int)]=ba (.bl true,S'))(hO:yJ H)(hS:SqL K H a (ns.map V.int)):zN w K 1 g [.ref a] H (λv _=>v=.bl true) λ_ _ _=>L7:=by
 obtain⟨S',e⟩:=h;obtain⟨so,rl⟩:=xD hO hS;exact#[[a],_,_,_,S',so,rl,rfl,e,λv H' #[A',z1,z2,z3]=>by cases z3; rfl]
end
noncomputable def Wp {α:Type}(o:Kz α)(Q:α->Prop):Prop:=∃a,o=ba a/\Q a
theorem ae {α:Type}{a:α}{Q:α->Prop}:Wp (ba a) Q↔Q a:=#[λ#[b,e,h]=>(by cases e; exact h),λh=>#[a,rfl,h]]
theorem af {α:Type}{Q:α->Prop}:Wp (gV:Kz α) Q↔L7:=#[λ#[b,e,h]=>(by cases e),λh=>h.elim]
theorem Wp.mono {α:Type}{o:Kz α}{Q Q':α->Prop}(h:Wp o Q)(k:∀a,Q a->Q' a):Wp o Q':=let ⟨a,e,q⟩:=h; #[a,e,k a q]
theorem Jz {α β:Type}{o:Kz α}{f:α->β}{Q:β->Prop}:Wp (o.map f) Q↔Wp o λa=>Q (f a):=by cases o <;> simp[ae,af]
section
variable{Φ:KZ->FF}{fuel:KC}{ρ:Fm}{S:aa}
noncomputable abbrev QW:=W×aa->Prop
theorem Kk {w:W}{Q:QW}:Wp (aJ Φ (.c w) ρ S) Q↔Q (w,S):=by(dsimp only[aJ]; simp[fC,ae,af])
theorem J9 {i:KC}{Q:QW}:Wp (aJ Φ (.v i) ρ S) Q↔∃w,ρ[i]?=ba (ba w)/\Q (w,S):=by
 (dsimp only[aJ]; simp only[fV])
 rcases h:ρ[i]? with _|_|w <;> simp[ae,af]
theorem An {g:W->W->aa->Kz (W×aa)}{a b:FE}{Q:QW}:Wp (Cr g a b ρ S) Q↔Wp (a ρ S) λp=>Wp (b ρ p.2) λq=>Wp (g p.1 q.1 q.2) Q:=by
 unfold Cr;rcases h:a ρ S with _|⟨x,S1⟩
 ·simp[ae,af]
 ·rcases h2:b ρ S1 with _|⟨y,S2⟩ <;> simp[ae,af,h2]
theorem JA {o:BOp}{a b:E}{Q:QW}:Wp (aJ Φ (.op o a b) ρ S) Q↔Wp (aJ Φ a ρ S) λp=>Wp (aJ Φ b ρ p.2) λq=>Wp (gJ o p.1 q.1 q.2) Q:=by dsimp only[aJ]; exact An
theorem Ea {o:COp}{a b:E}{Q:QW}:Wp (aJ Φ (.cmp o a b) ρ S) Q↔Wp (aJ Φ a ρ S) λp=>Wp (aJ Φ b ρ p.2) λq=>Wp (cM o p.1 q.1 q.2) Q:=by dsimp only[aJ]; exact An
theorem JB {a b:E}{Q:QW}:Wp (aJ Φ (.ix a b) ρ S) Q↔Wp (aJ Φ a ρ S) λp=>Wp (aJ Φ b ρ p.2) λq=>Wp (tN p.1 q.1 q.2) Q:=by dsimp only[aJ]; exact An
theorem Hy {a b:E}{Q:QW}:Wp (aJ Φ (.and a b) ρ S) Q↔Wp (aJ Φ a ρ S) λp=>∃k,p.1=.bl k/\(k=true->Wp (aJ Φ b ρ p.2) Q)/\(k=false->Q (.bl false,p.2)):=by
 (dsimp only[aJ]; simp only[vE])
 rcases h:aJ Φ a ρ S with _|⟨x,S1⟩
 ·simp[ae,af]
 ·cases x <;> simp[ae,af]
  rename_i b; cases b <;> simp[ae,af]
theorem JC {a b:E}{Q:QW}:Wp (aJ Φ (.or a b) ρ S) Q↔Wp (aJ Φ a ρ S) λp=>∃k,p.1=.bl k/\(k=true->Q (.bl true,p.2))/\(k=false->Wp (aJ Φ b ρ p.2) Q):=by
 (dsimp only[aJ]; simp only[Cw])
 rcases h:aJ Φ a ρ S with _|⟨x,S1⟩
 ·simp[ae,af]
 ·cases x <;> simp[ae,af]
  rename_i b; cases b <;> simp[ae,af]
theorem Hz {a:E}{Q:QW}:Wp (aJ Φ (.not a) ρ S) Q↔Wp (aJ Φ a ρ S) λp=>∃k,p.1=.bl k/\Q (.bl (!k),p.2):=by
 (dsimp only[aJ]; simp only[vF])
 rcases h:aJ Φ a ρ S with _|⟨x,S1⟩
 ·simp[ae,af]
 ·cases x <;> simp[ae,af]
  rename_i k; cases k <;> simp
theorem HA {t a b:E}{Q:QW}:Wp (aJ Φ (.ite t a b) ρ S) Q↔Wp (dO Φ t ρ S) λp=>(p.1=true->Wp (aJ Φ a ρ p.2) Q)/\(p.1=false->Wp (aJ Φ b ρ p.2) Q):=by
 (dsimp only[aJ]; simp only[Cy])
 rcases h:dO Φ t ρ S with _|⟨x,S1⟩
 ·simp[ae,af]
 ·cases x <;> simp[ae,af]
theorem Eb {f:KZ}{n:KC}{es:Es}{Q:QW}:Wp (aJ Φ (.own f n es) ρ S) Q↔Wp (dR Φ es ρ S) λp=>p.1.length=n/\Wp (Φ f p.1 p.2) Q:=by
 (dsimp only[aJ]; simp only[si])
 rcases h:dR Φ es ρ S with _|⟨x,S1⟩
 ·simp[ae,af]
 ·by_cases hl:x.length=n <;> simp[ae,af,hl]
theorem HB {b:Bi}{es:Es}{Q:QW}:Wp (aJ Φ (.bi b es) ρ S) Q↔Wp (dR Φ es ρ S) λp=>Wp (b.fn p.1 p.2) Q:=by
 (dsimp only[aJ]; simp only[kY])
 rcases h:dR Φ es ρ S with _|⟨x,S1⟩ <;> simp[ae,af]
theorem JD {m:Me}{o:E}{es:Es}{Q:QW}:Wp (aJ Φ (.me m o es) ρ S) Q↔Wp (aJ Φ o ρ S) λp=>tyOk m.ty p.2 p.1=true/\Wp (dR Φ es ρ p.2) λq=>Wp (m.fn p.1 q.1 q.2) Q:=by
 (dsimp only[aJ]; simp only[Gr])
 rcases h:aJ Φ o ρ S with _|⟨x,S1⟩
 ·simp[ae,af]
 ·by_cases ht:tyOk m.ty S1 x=true
  ·rcases h2:dR Φ es ρ S1 with _|⟨y,S2⟩ <;> simp[ae,af,ht,h2]
  ·simp[ae,af,ht]
theorem JE {a:E}{lo hi:Ep}{Q:QW}:Wp (aJ Φ (.sl a lo hi) ρ S) Q↔Wp (aJ Φ a ρ S) λp=>Wp (vK Φ lo ρ p.2) λq=>Wp (vK Φ hi ρ q.2) λr=>Wp (re p.1 q.1 r.1 r.2) Q:=by
 (dsimp only[aJ]; simp only[Hk])
 rcases h:aJ Φ a ρ S with _|⟨x,S1⟩
 ·simp[ae,af]
 ·rcases h2:vK Φ lo ρ S1 with _|⟨y,S2⟩
  ·simp[ae,af,h2]
  ·rcases h3:vK Φ hi ρ S2 with _|⟨z,S3⟩ <;> simp[ae,af,h2,h3]
theorem JF {Q:Kz KO×aa->Prop}:Wp (vK Φ .no ρ S) Q↔Q (gV,S):=by(dsimp only[vK]; simp[Fq,ae,af])
theorem HC {a:E}{Q:Kz KO×aa->Prop}:Wp (vK Φ (.yes a) ρ S) Q↔Wp (aJ Φ a ρ S) λp=>∃i,p.1=.int i/\Q (ba i,p.2):=by
 (dsimp only[vK]; simp only[vH])
 rcases h:aJ Φ a ρ S with _|⟨x,S1⟩
 ·simp[ae,af]
 ·cases x <;> simp[ae,af]
theorem HD {es:Es}{Q:QW}:Wp (aJ Φ (.tup es) ρ S) Q↔Wp (dR Φ es ρ S) λp=>p.1.length<=sizeLine/\Q (.tup p.1,p.2):=by
 (dsimp only[aJ]; simp only[zJ,t9])
 rcases h:dR Φ es ρ S with _|⟨x,S1⟩
 ·simp[ae,af]
 ·by_cases hl:x.length<=sizeLine <;> simp[ae,af,hl]
theorem HE {es:Es}{Q:QW}:Wp (aJ Φ (.lst es) ρ S) Q↔Wp (dR Φ es ρ S) λp=>p.1.length<=sizeLine/\Q (.ref p.2.length,p.2++[.lst p.1]):=by
 (dsimp only[aJ]; simp only[zK,nL])
 rcases h:dR Φ es ρ S with _|⟨x,S1⟩
 ·simp[ae,af]
 ·by_cases hl:x.length<=sizeLine <;> simp[ae,af,hl]
theorem Ec {c:L8}{a:E}{Q:QW}:Wp (aJ Φ (.isi c a) ρ S) Q↔Wp (aJ Φ a ρ S) λp=>∃k,xv p.2 p.1 c=ba k/\Q (.bl k,p.2):=by
 (dsimp only[aJ]; simp only[zW])
 rcases h:aJ Φ a ρ S with _|⟨x,S1⟩
 ·simp[ae,af]
 ·cases h2:xv S1 x c <;> simp[ae,af,h2]
  rename_i k; cases k <;> simp
theorem HF {a:E}{Q:QW}:Wp (aJ Φ (.neg a) ρ S) Q↔Wp (aJ Φ a ρ S) λp=>∃i,p.1=.int i/\Q (.int (-i),p.2):=by
 (dsimp only[aJ]; simp only[zE])
 rcases h:aJ Φ a ρ S with _|⟨x,S1⟩
 ·simp[ae,af]
 ·cases x <;> simp[ae,af]
theorem FK {es:Es}{Q:QW}:Wp (aJ Φ (.disp es) ρ S) Q↔Wp (dR Φ es ρ (S++[.dic []])) λp=>p.2[S.length]?=ba (.dic [])/\∃kvs,ey [] p.1=ba kvs/\Q (.ref S.length,p.2.set S.length (.dic kvs)):=by
 have e:aJ Φ (.disp es) ρ S=su (dR Φ es) ρ S:=by dsimp only[aJ]
 rw[e];unfold su;cases dR Φ es ρ (S++[.dic []])with
 | none=>simp[af]
 | some p=>
  obtain⟨x,S1⟩:=p;simp only[ae];cases h2:S1[S.length]? with
  | none=>simp[af]
  | some o=>
   cases o with
   | lst _=>simp[af]
   | fro _=>simp[af]
   | frd _=>simp[af]
   | stt _=>simp[af]
   | rng _ _=>simp[af]
   | dic kvs=>
    cases kvs with
    | nil=>cases h3:ey [] x <;> simp[ae,af]
    | cons a b=>simp[af]
theorem HG {Q:Kr W×aa->Prop}:Wp (dR Φ .nil ρ S) Q↔Q ([],S):=by(dsimp only[dR]; simp[jV,ae,af])
theorem FL {e:E}{es:Es}{Q:Kr W×aa->Prop}:Wp (dR Φ (.cons e es) ρ S) Q↔Wp (aJ Φ e ρ S) λp=>Wp (dR Φ es ρ p.2) λq=>Q (p.1::q.1,q.2):=by
 (dsimp only[dR]; simp only[fm])
 rcases h:aJ Φ e ρ S with _|⟨x,S1⟩
 ·simp[ae,af]
 ·rcases h2:dR Φ es ρ S1 with _|⟨y,S2⟩ <;> simp[ae,af,h2]
noncomputable abbrev QB:=Lf×aa->Prop
theorem HH {f:FE}{Q:QB}:Wp (zG f ρ S) Q↔Wp (f ρ S) λp=>∃k,p.1=.bl k/\Q (k,p.2):=by
 unfold zG;rcases h:f ρ S with _|⟨x,S1⟩
 ·simp[ae,af]
 ·cases x <;> simp[ae,af]
  rename_i k; cases k <;> simp
theorem vT {f:FE}{Q:QB}:Wp (im f ρ S) Q↔Wp (f ρ S) λp=>∃k,gE p.2 p.1=ba k/\Q (k,p.2):=by
 unfold im;rcases h:f ρ S with _|⟨x,S1⟩
 ·simp[ae,af]
 ·cases h2:gE S1 x <;> simp[ae,af,h2]
  rename_i k; cases k <;> simp
theorem HI {o:COp}{a b:E}{Q:QB}:Wp (dO Φ (.cmp o a b) ρ S) Q↔Wp (aJ Φ (.cmp o a b) ρ S) λp=>∃k,p.1=.bl k/\Q (k,p.2):=by dsimp only[dO,aJ]; exact HH
theorem HJ {a b:E}{Q:QB}:Wp (dO Φ (.and a b) ρ S) Q↔Wp (dO Φ a ρ S) λp=>(p.1=true->Wp (dO Φ b ρ p.2) Q)/\(p.1=false->Q (false,p.2)):=by
 (dsimp only[dO]; simp only[zH])
 rcases h:dO Φ a ρ S with _|⟨x,S1⟩
 ·simp[ae,af]
 ·cases x <;> simp[ae,af]
theorem JG {a b:E}{Q:QB}:Wp (dO Φ (.or a b) ρ S) Q↔Wp (dO Φ a ρ S) λp=>(p.1=true->Q (true,p.2))/\(p.1=false->Wp (dO Φ b ρ p.2) Q):=by
 (dsimp only[dO]; simp only[Hh])
 rcases h:dO Φ a ρ S with _|⟨x,S1⟩
 ·simp[ae,af]
 ·cases x <;> simp[ae,af]
theorem HK {a:E}{Q:QB}:Wp (dO Φ (.not a) ρ S) Q↔Wp (dO Φ a ρ S) λp=>Q (!p.1,p.2):=by
 (dsimp only[dO]; simp only[Ct])
 rcases h:dO Φ a ρ S with _|⟨x,S1⟩ <;> simp[ae,af]
theorem Kl {i:KC}{Q:QB}:Wp (dO Φ (.v i) ρ S) Q↔Wp (aJ Φ (.v i) ρ S) λp=>∃k,gE p.2 p.1=ba k/\Q (k,p.2):=by dsimp only[dO,aJ]; exact vT
theorem HL {f:KZ}{n:KC}{es:Es}{Q:QB}:Wp (dO Φ (.own f n es) ρ S) Q↔Wp (aJ Φ (.own f n es) ρ S) λp=>∃k,gE p.2 p.1=ba k/\Q (k,p.2):=by dsimp only[dO,aJ]; exact vT
theorem JH {b:Bi}{es:Es}{Q:QB}:Wp (dO Φ (.bi b es) ρ S) Q↔Wp (aJ Φ (.bi b es) ρ S) λp=>∃k,gE p.2 p.1=ba k/\Q (k,p.2):=by dsimp only[dO,aJ]; exact vT
theorem HM {c:L8}{a:E}{Q:QB}:Wp (dO Φ (.isi c a) ρ S) Q↔Wp (aJ Φ (.isi c a) ρ S) λp=>∃k,gE p.2 p.1=ba k/\Q (k,p.2):=by dsimp only[dO,aJ]; exact vT
noncomputable abbrev QO:=Out×aa->Prop
theorem HN {Q:QO}:Wp (gO Φ fuel .nil ρ S) Q↔Q (.nx ρ,S):=by(dsimp only[gO]; simp[ae,af])
theorem FM {s:Sm}{ss:Ss}{Q:QO}:Wp (gO Φ fuel (.cons s ss) ρ S) Q↔Wp (gN Φ fuel s ρ S) λp=>(∀ρ',p.1=.nx ρ'->Wp (gO Φ fuel ss ρ' p.2) Q)/\((∀ρ',p.1≠.nx ρ')->Q p):=by
 (dsimp only[gO]; simp only[CF])
 rcases h:gN Φ fuel s ρ S with _|⟨o,S1⟩
 ·simp[ae,af]
 ·cases o <;> simp[ae,af]
theorem Ao {f:FE}{g:FG}{Q:QO}:Wp (mx f g ρ S) Q↔Wp (f ρ S) λp=>Wp (g p.1 ρ p.2) λq=>Q (.nx q.1,q.2):=by
 unfold mx;rcases h:f ρ S with _|⟨x,S1⟩
 ·simp[ae,af]
 ·rcases h2:g x ρ S1 with _|⟨y,S2⟩ <;> simp[ae,af,h2]
theorem FN {i:KC}{e:E}{Q:QO}:Wp (gN Φ fuel (.set i e) ρ S) Q↔Wp (aJ Φ e ρ S) λp=>Q (.nx (ρ.set i (ba p.1)),p.2):=by
 dsimp only[gN]; rw[Ao]; simp[CM,ae,af]
theorem FP {is:Kr KC}{e:E}{Q:QO}:Wp (gN Φ fuel (.asg is e) ρ S) Q↔Wp (aJ Φ e ρ S) λp=>∃ws ρ',p.1=.tup ws/\eu is ws ρ=ba ρ'/\Q (.nx ρ',p.2):=by
 dsimp only[gN]; rw[Ao]
 constructor
 ·refine λh=>h.mono λp hp=>?_
  obtain⟨w,S1⟩:=p;obtain⟨q,h1,h2⟩:=hp;cases w with
  | tup ws=>
   simp only[Gs,Kv]at h1;obtain⟨ρ',h3,rfl⟩:=h1;exact#[ws,ρ',rfl,h3,h2]
  | _=>cases h1
 ·refine λh=>h.mono λp hp=>?_
  obtain⟨w,S1⟩:=p;obtain⟨ws,ρ',h0,h1,h2⟩:=hp;subst h0;exact#[(ρ',S1),by simp[Gs,h1],h2]
theorem FQ {i j:KC}{es:Es}{Q:QO}:Wp (gN Φ fuel (.par i j es) ρ S) Q↔Wp (dR Φ es ρ S) λp=>∃x y,p.1=[x,y]/\Q (.nx ((ρ.set i (ba x)).set j (ba y)),p.2):=by
 (dsimp only[gN]; simp only[CO])
 rcases h:dR Φ es ρ S with _|⟨x,S1⟩
 ·simp[af]
 ·match x with
  | []=>simp[ae,af]
  | [_]=>simp[ae,af]
  | [a,b]=>
   simp only[ae];exact#[λh=>#[a,b,rfl,h],λ#[x,y,e,h]=>by cases e; exact h]
  | _::_::_::_=>simp[ae,af]
theorem FR {o k e:E}{Q:QO}:Wp (gN Φ fuel (.put o k e) ρ S) Q↔Wp (aJ Φ e ρ S) λp=>Wp (aJ Φ o ρ p.2) λq=>Wp (aJ Φ k ρ q.2) λr=>∃S',jn q.1 r.1 p.1 r.2=ba S'/\Q (.nx ρ,S'):=by
 dsimp only[gN]; rw[Ao]
 rcases h:aJ Φ e ρ S with _|⟨x,S1⟩
 ·simp[ae,af]
 ·simp only[ae];unfold CN;rcases h2:aJ Φ o ρ S1 with _|⟨y,S2⟩
  ·simp[ae,af]
  ·rcases h3:aJ Φ k ρ S2 with _|⟨z,S3⟩
   ·simp[ae,af,h3]
   ·cases h4:jn y z x S3 <;> simp[ae,af,h3,h4]
theorem HP {e:E}{Q:QO}:Wp (gN Φ fuel (.ex e) ρ S) Q↔Wp (aJ Φ e ρ S) λp=>Q (.nx ρ,p.2):=by
 (dsimp only[gN]; simp only[CG])
 rcases h:aJ Φ e ρ S with _|⟨x,S1⟩ <;> simp[ae,af]
theorem FU {e:E}{Q:QO}:Wp (gN Φ fuel (.ret e) ρ S) Q↔Wp (aJ Φ e ρ S) λp=>Q (.rt p.1,p.2):=by
 (dsimp only[gN]; simp only[CJ])
 rcases h:aJ Φ e ρ S with _|⟨x,S1⟩ <;> simp[ae,af]
theorem FV {t:E}{a b:Ss}{Q:QO}:Wp (gN Φ fuel (.ite t a b) ρ S) Q↔Wp (dO Φ t ρ S) λp=>(p.1=true->Wp (gO Φ fuel a ρ p.2) Q)/\(p.1=false->Wp (gO Φ fuel b ρ p.2) Q):=by
 (dsimp only[gN]; simp only[CL])
 rcases h:dO Φ t ρ S with _|⟨x,S1⟩
 ·simp[ae,af]
 ·cases x <;> simp[ae,af]
end
section
variable{Φ:KZ->FF}{fuel:KC}{ρ:Fm}{S:aa}
noncomputable def Ap (I:Fm->aa->Prop)(Q:QO)(o:Out×aa):Prop:=match o.1 with
 | .nx ρ'=>I ρ' o.2
 | .ct ρ'=>I ρ' o.2
 | .bk ρ'=>Q (.nx ρ',o.2)
 | .rt w=>Q (.rt w,o.2)
theorem jZ {mi:MI}{g:FG}{b:FS}{xs:Kr W}{Q:QO}(I:KC->Fm->aa->Prop)(hat:∀i ρ S,I i ρ S->mi.at S i=ba xs[i]?)
  (hstep:∀i w ρ S,xs[i]?=ba w->I i ρ S->Wp (g w ρ S) λq=>Wp (b q.1 q.2) (Ap (I (i+1)) Q)) (hend:∀ρ S,I xs.length ρ S->Q (.nx ρ,S)):∀(n i:KC) (ρ:Fm) (S:aa),i+n=xs.length->I i ρ S->Wp (gM mi g b n i ρ S) Q
 | 0,i,ρ,S,hl,hI=>by
  have e:mi.at S i=ba gV:=by rw[hat i ρ S hI,NI ∅]
  simp only[gM,e];have hi:i=xs.length:=∅
  exact ae.mpr (hend ρ S (hi ▸ hI))
 | n+1,i,ρ,S,hl,hI=>by
  have hi:i < xs.length:=∅
  have e:mi.at S i=ba (ba xs[i]):=by rw[hat i ρ S hI,KI hi]
  obtain⟨⟨ρ1,S1⟩,h1,⟨o,S2⟩,h2,h3⟩:=hstep i xs[i] ρ S (KI hi) hI;simp only[gM,e,h1,h2];cases o with
  | nx ρ2=>exact jZ I hat hstep hend n (i+1) ρ2 S2 ∅ h3
  | ct ρ2=>exact jZ I hat hstep hend n (i+1) ρ2 S2 ∅ h3
  | bk ρ2=>exact ae.mpr h3
  | rt w=>exact ae.mpr h3
theorem HQ {fi:FI}{g:FG}{b:FS}{Q:QO}:Wp (zS fi g b ρ S) Q↔Wp (fi ρ S) λp=>∃n,p.1.len p.2=ba n/\Wp (gM p.1 g b n 0 ρ p.2) Q:=by
 unfold zS;rcases h:fi ρ S with _|⟨mi,S1⟩
 ·simp[af]
 ·cases h2:mi.len S1 <;> simp[ae,af,h2]
theorem eJ {mi:MI}{g:FG}{c:FT}{f:FE}{xs:Kr W}{Q:Kr W×aa->Prop}(I:KC->Kr W->Fm->aa->Prop)(hat:∀i ys ρ S,I i ys ρ S->mi.at S i=ba xs[i]?)
  (hstep:∀i w ys ρ S,xs[i]?=ba w->I i ys ρ S->Wp (g w ρ S) λq=>Wp (c q.1 q.2) λk=>(k.1=true->Wp (f q.1 k.2) λy=>I (i+1) (ys++[y.1]) q.1 y.2)/\(k.1=false->I (i+1) ys q.1 k.2))
  (hend:∀ys ρ S,I xs.length ys ρ S->Q (ys,S)):∀(n i:KC) (ys:Kr W) (ρ:Fm) (S:aa),i+n=xs.length->I i ys ρ S->Wp (ci mi g c f n i ρ S) λp=>Q (ys++p.1,p.2)
 | 0,i,ys,ρ,S,hl,hI=>by
  have e:mi.at S i=ba gV:=by rw[hat i ys ρ S hI,NI ∅]
  simp only[ci,e];refine ae.mpr ?_;have:i=xs.length:=∅
  simpa using hend ys ρ S (this ▸ hI)
 | n+1,i,ys,ρ,S,hl,hI=>by
  have hi:i < xs.length:=∅
  have e:mi.at S i=ba (ba xs[i]):=by rw[hat i ys ρ S hI,KI hi]
  obtain⟨⟨ρ1,S1⟩,h1,⟨k,S2⟩,h2,h3,h4⟩:=hstep i xs[i] ys ρ S (KI hi) hI;simp only[ci,e,h1,h2];cases k with
  | true=>
   obtain⟨⟨y,S3⟩,h5,h6⟩:=h3 rfl;simp only[h5];obtain⟨⟨zs,S4⟩,h7,h8⟩:=eJ I hat hstep hend n (i+1) (ys++[y]) ρ1 S3 ∅ h6
   simp only[h7];exact ae.mpr (by simpa using h8)
  | false=>exact eJ I hat hstep hend n (i+1) ys ρ1 S2 ∅ (h4 rfl)
theorem Aq {elt:E}{tg:Tg}{it:Ie}{cs:Es}{cap:Kr (Kz KC)}{Q:QW}:Wp (aJ Φ (.comp elt tg it cs cap) ρ S) Q↔Wp (lI Φ it ρ S) λp=>∃n,p.1.len p.2=ba n/\Wp (ci p.1 (gC tg) (C8 Φ cs) (aJ Φ elt) n 0 (gn cap ρ) p.2) λq=>q.1.length<=sizeLine/\Q (.ref q.2.length,q.2++[.lst q.1]):=by
 (dsimp only[aJ]; simp only[my,nL])
 rcases h:lI Φ it ρ S with _|⟨mi,S1⟩
 ·simp[af]
 ·rcases h2:mi.len S1 with _|n
  ·simp[ae,af,h2]
  ·rcases h3:ci mi (gC tg) (C8 Φ cs) (aJ Φ elt) n 0 (gn cap ρ) S1 with _|⟨ys,S2⟩
   ·simp[ae,af,h2,h3]
   ·by_cases hl:ys.length<=sizeLine <;> simp[ae,af,h2,h3,hl]
theorem HR {Q:QB}:Wp (C8 Φ .nil ρ S) Q↔Q (true,S):=by(dsimp only[C8]; simp[DY,ae])
theorem HS {e:E}{Q:QB}:Wp (C8 Φ #v[e] ρ S) Q↔Wp (dO Φ e ρ S) Q:=by dsimp only[C8]; exact Iff.rfl
theorem JI {i:KC}{w:W}{Q:Fm×aa->Prop}:Wp (gC (.nm i) w ρ S) Q↔Q (ρ.set i (ba w),S):=by(dsimp only[gC]; simp[CM,ae])
theorem mF {c:FT}{b:FS}{Q:QO}(I:KC->Fm->aa->Prop)(hstep:∀m ρ S,I m ρ S->Wp (c ρ S) λk=>(k.1=true->∃m',m=m'+1/\Wp (b ρ k.2) (Ap (I m') Q))/\(k.1=false->Q (.nx ρ,k.2))) :
  ∀(n m:KC) (ρ:Fm) (S:aa),m < n->I m ρ S->Wp (qk c b n ρ S) Q
 | 0,m,ρ,S,h,_=>∅
 | n+1,m,ρ,S,h,hI=>by
  obtain⟨⟨k,S1⟩,h1,h2,h3⟩:=hstep m ρ S hI;simp only[qk,h1];cases k with
  | false=>exact ae.mpr (h3 rfl)
  | true=>
   obtain⟨m',rfl,⟨o,S2⟩,h5,h6⟩:=h2 rfl;simp only[h5];cases o with
   | nx ρ2=>exact mF I hstep n m' ρ2 S2 ∅ h6
   | ct ρ2=>exact mF I hstep n m' ρ2 S2 ∅ h6
   | bk ρ2=>exact ae.mpr h6
   | rt w=>exact ae.mpr h6
theorem xE {defs:Kr (KZ×Df)}{d:KC}{f:KZ}{ws:Kr W}{df:Df}{Q:QW}(h:defs.lookup f=ba df)(hl:ws.length=df.ps.length)
  (hb:Wp (gO (ar defs fuel d) fuel df.body (gp df.N ws) S) λp=>match p.1 with|.rt w=>Q (w,p.2)|.nx _=>Q (.non,p.2)|_=>L7):Wp (ar defs fuel (d+1) f ws S) Q:=by
 obtain⟨⟨o,S1⟩,h1,h2⟩:=hb;simp only[ar,h,La hl,h1];cases o with
 | rt w=>exact ae.mpr h2
 | nx ρ=>exact ae.mpr h2
 | bk _=>exact h2.elim
 | ct _=>exact h2.elim
end
section
variable{S:aa}{Q:QW}
theorem d7 {a b:KO}:gJ .add (.int a) (.int b) S=ba (.int (a+b),S):=rfl
theorem sF {a b:KO}:gJ .sub (.int a) (.int b) S=ba (.int (a - b),S):=rfl
theorem qu {c:KO->KO->Lf}{f:KO->KO->KO}{i j:KO}(h:c i j=true):By c f (.int i) (.int j) S=ba (.int (f i j),S):=by
 unfold By;dsimp only;rw[La h]
theorem sG {a b:KO}(h : -(2 ^ 64) < b)(h2:b < 2 ^ 64):gJ .mul (.int a) (.int b) S=ba (.int (a*b),S):=qu (c:=wK) (f:=(· * ·)) (by
 unfold wK;simp only[Mx,KA,K5];exact .inr #[h,h2])
theorem jt {a b:KO}(h:0 < b):gJ .mod (.int a) (.int b) S=ba (.int (a % b),S):=qu (c:=λ_ j=>decide (0 < j)) (f:=(· % ·)) (MW h)
theorem iS {a b:KO}(h:0 < b)(h2:b < 1073741824):gJ .fdiv (.int a) (.int b) S=ba (.int (a / b),S):=qu (c:=λ_ j=>B4 j) (f:=(· / ·)) (by
 unfold B4;simp only[KA,K5];exact#[h,h2])
theorem FW:gJ .pow (.int 10) (.int 18) S=ba (.int 1000000000000000000,S):=rfl
theorem FX {x y:KZ}(h:x.length+y.length<=sizeLine):gJ .add (.str x) (.str y) S=ba (.str (x++y),S):=by simp only[gJ,wL]; rw[La h]
theorem gq {xs ys:Kr W}(h:(xs++ys).length<=sizeLine):gJ .add (.tup xs) (.tup ys) S=ba (.tup (xs++ys),S):=by simp only[gJ,wL,t9]; rw[La h]
theorem uL {i j:KC}{xs ys:Kr W}(h1:S[i]?=ba (.lst xs))(h2:S[j]?=ba (.lst ys))(h:(xs++ys).length<=sizeLine):gJ .add (.ref i) (.ref j) S=ba (.ref S.length,S++[.lst (xs++ys)]):=by
 simp only[gJ,wL,rc,h1,h2,nL]; rw[La h]
theorem iT {a b:KO}:cM .eq (.int a) (.int b) S=ba (.bl (a==b),S):=rfl
theorem JJ {a b:KO}:cM .ne (.int a) (.int b) S=ba (.bl (!(a==b)),S):=rfl
theorem Dg {a b:KO}:cM .lt (.int a) (.int b) S=ba (.bl (decide (a < b)),S):=rfl
theorem Dh {a b:KO}:cM .gt (.int a) (.int b) S=ba (.bl (decide (a > b)),S):=rfl
theorem JK {a b:KO}:cM .ge (.int a) (.int b) S=ba (.bl (decide (a>=b)),S):=rfl
theorem Ed {a b:KZ}:cM .eq (.str a) (.str b) S=ba (.bl (a==b),S):=rfl
theorem HU {a b:KZ}:cM .ne (.str a) (.str b) S=ba (.bl (!(a==b)),S):=rfl
theorem aK {r:KC}{xs:Kr W}(h:S[r]?=ba (.lst xs)):ii S r=ba xs:=by simp[ii,h]
theorem Di {r:KC}{xs:Kr W}(h:S[r]?=ba (.fro xs)):ii S r=ba xs:=by simp[ii,h]
theorem dF {r:KC}{xs:Kr W}(h:S[r]?=ba (.lst xs)):rc S r=ba xs:=by simp[rc,h]
theorem lK {r:KC}{xs:Kr W}(h:S[r]?=ba (.lst xs)):kS S r=gV:=by simp[kS,h]
theorem cW {r:KC}{kvs:Kr (T×W)}(h:S[r]?=ba (.dic kvs)):kS S r=ba kvs:=by simp[kS,h]
theorem qv {r:KC}{kvs:Kr (T×W)}(h:S[r]?=ba (.dic kvs)):ii S r=gV:=by simp[ii,h]
theorem Dj {r:KC}{kvs:Kr (T×W)}(h:S[r]?=ba (.frd kvs)):kS S r=ba kvs:=by simp[kS,h]
theorem atI_nat {α:Type}{xs:Kr α}{j:KC}{w:α}(h:xs[j]?=ba w):tM xs (j:KO)=ba w:=by
 have hl:=(KJ.mp h).1;unfold tM yf;rw[La (KL j),La (by exact_mod_cast hl)]
 simpa using h
theorem qw {α:Type}{xs:Kr α}{i:KO}{w:α}(h0:0<=i)(h:xs[i.toNat]?=ba w):tM xs i=ba w:=by
 have:=atI_nat h
 rwa [QJ h0]at this
theorem Ar {r:KC}{xs:Kr W}{i:KO}{w:W}(h:S[r]?=ba (.lst xs))(h0:0<=i)(hw:xs[i.toNat]?=ba w):tN (.ref r) (.int i) S=ba (w,S):=by
 show yh (.ref r) (.int i) S=_;simp[yh,aK h,qw h0 hw]
theorem HV {xs:Kr W}{i:KO}{w:W}(h0:0<=i)(hw:xs[i.toNat]?=ba w):tN (.tup xs) (.int i) S=ba (w,S):=by
 show yh (.tup xs) (.int i) S=_;simp[yh,qw h0 hw]
theorem Ee {x:KZ}{i:KO}{c:KC}(hz:x.length<=sizeLine)(h0:0<=i)(hw:x.cps.toList[i.toNat]?=ba c):tN (.str x) (.int i) S=ba (.str #[[c].toArray],S):=by
 show yh (.str x) (.int i) S=_;simp[yh,hz,qw h0 hw]
theorem As {r:KC}{xs:Kr W}{i:KO}{w:W}(h:S[r]?=ba (.lst xs))(h0:0<=i)(hi:i.toNat < xs.length):jn (.ref r) (.int i) w S=ba (S.set r (.lst (xs.set i.toNat w))):=by
 show wM (.ref r) (.int i) w S=_;have:yf xs.length i=ba i.toNat:=by
  unfold yf;rw[La h0,La ∅]
 simp[wM,dF h,this]
theorem Ef {r:KC}{xs:Kr W}(h:S[r]?=ba (.lst xs)):ur [.ref r] S=ba (.int xs.length,S):=by
 simp[ur,lK h,uc,aK h]
theorem vU {r:KC}{xs:Kr W}{y:W}(h:S[r]?=ba (.lst xs))(hl:xs.length < sizeLine):jg (.ref r) [y] S=ba (.non,S.set r (.lst (xs++[y]))):=by
 simp[jg,dF h,hl]
theorem HW {r:KC}{xs:Kr W}(h:S[r]?=ba (.lst xs)):mw [.ref r] S=ba (.tup xs,S):=by
 simp[mw,y8,h,lW,aK h]
theorem dG {r:KC}{xs:Kr W}(h:S[r]?=ba (.lst xs)):tyOk "list" S (.ref r)=true:=by simp[tyOk,aK h]
theorem bV {r:KC}{o o':O}(h:S[r]?=ba o):(S.set r o')[r]?=ba o':=by
 rw[MH,La rfl,La (KJ.mp h).1]
theorem bN {r j:KC}{o':O}(h:r≠j):(S.set r o')[j]?=S[j]?:=by rw[MH,Li h]
theorem ah {o:O}:(S++[o])[S.length]?=ba o:=by simp
theorem aq {j:KC}{o u:O}(h:S[j]?=ba o):(S++[u])[j]?=ba o:=by rw[LF (KJ.mp h).1]; exact h
theorem cr {j:KC}{o:O}(h:S[j]?=ba o):j < S.length:=(KJ.mp h).1
structure Kp (r:KC)(S S':aa):Prop where
 get:∀j o,j≠r->S[j]?=ba o->S'[j]?=ba o
 len:S.length<=S'.length
theorem Kp.refl {r:KC}{S:aa}:Kp r S S:=#[λ_ _ _ h=>h,KH _]
theorem Kp.trans {r:KC}{S S' S'':aa}(a:Kp r S S')(b:Kp r S' S''):Kp r S S'':=#[λj o n h=>b.get j o n (a.get j o n h),KQ a.len b.len]
theorem Kp.set {r:KC}{S:aa}{o:O}:Kp r S (S.set r o):=#[λj u n h=>by rw[bN (Ne.symm n)]; exact h,by simp]
theorem Kp.push {r:KC}{S:aa}{o:O}:Kp r S (S++[o]):=#[λj u n h=>aq h,by simp]
theorem Kp.late {r t:KC}{S0 S:aa}{o:O}(a:Kp r S0 S)(h:S0.length<=t):Kp r S0 (S.set t o):=
 #[λj u n e=>by
  have:=cr e;rw[bN ∅]; exact a.get j u n e,by simpa using a.len]
end
noncomputable def wO {α:Type}(o:Kz α)(Q:α->Prop):Prop:=match o with
 | some a=>Q a
 | none=>L7
theorem db {α:Type}{o:Kz α}{Q:α->Prop}(h:wO o Q):Wp o Q:=by
 cases o with
 | none=>exact h.elim
 | some a=>exact#[a,rfl,h]
theorem HX {α:Type}{o:Kz α}{Q:α->Prop}(h:Wp o Q):wO o Q:=by
 obtain⟨a,rfl,q⟩:=h;exact q
theorem ab {α:Type}{o:Kz α}{a:α}{Q:α->Prop}(e:o=ba a)(h:Q a):wO o Q:=by subst e; exact h
noncomputable def wB:W->(Lf->Prop)->Prop
 | .bl k,Q=>Q k
 | _,_=>L7
noncomputable def wN:W->(KO->Prop)->Prop
 | .int k,Q=>Q k
 | _,_=>L7
noncomputable def wU:W->(Kr W->Prop)->Prop
 | .tup k,Q=>Q k
 | _,_=>L7
theorem vV {w:W}{Q:Lf->Prop}(h:wB w Q):∃k,w=.bl k/\Q k:=by cases w <;> first|exact h.elim|exact#[_,rfl,h]
theorem Eg {w:W}{Q:KO->Prop}(h:wN w Q):∃k,w=.int k/\Q k:=by cases w <;> first|exact h.elim|exact#[_,rfl,h]
theorem HY {w:W}{Q:Kr W->Prop}(h:wU w Q):∃k,w=.tup k/\Q k:=by cases w <;> first|exact h.elim|exact#[_,rfl,h]
noncomputable def w2:Kr W->(W->W->Prop)->Prop
 | [x,y],Q=>Q x y
 | _,_=>L7
theorem HZ {xs:Kr W}{Q:W->W->Prop}(h:w2 xs Q):∃x y,xs=[x,y]/\Q x y:=by
 match xs,h with
 | [x,y],h=>exact#[x,y,rfl,h]
noncomputable def wG:Kz W->(W->Prop)->Prop
 | some w,Q=>Q w
 | none,_=>L7
noncomputable def wV:Fm->KC->(W->Prop)->Prop
 | [],_,_=>L7
 | o::_,0,Q=>wG o Q
 | _::ρ,n+1,Q=>wV ρ n Q
theorem At {Q:W->Prop}:∀ {ρ:Fm} {i:KC},wV ρ i Q->∃w,ρ[i]?=ba (ba w)/\Q w
 | [],i,h=>h.elim
 | some w::ρ,0,h=>#[w,rfl,h]
 | none::ρ,0,h=>h.elim
 | x::ρ,n+1,h=>by
  obtain⟨w,e2,q⟩:=At (ρ:=ρ) (i:=n) h;exact#[w,e2,q]
noncomputable def bw (Φ:KZ->FF)(f:KZ)(n:KC)(ws:Kr W)(S:aa):Kz (W×aa):=if ws.length=n then Φ f ws S else gV
section
variable (Φ:KZ->FF) (fuel:KC)
mutual
noncomputable def wE:E->Fm->aa->QW->Prop
 | .c w,_,S,Q=>Q (w,S)
 | .v i,ρ,S,Q=>wV ρ i λw=>Q (w,S)
 | .op o a b,ρ,S,Q=>wE a ρ S λp=>wE b ρ p.2 λq=>wO (gJ o p.1 q.1 q.2) Q
 | .cmp o a b,ρ,S,Q=>wE a ρ S λp=>wE b ρ p.2 λq=>wO (cM o p.1 q.1 q.2) Q
 | .and a b,ρ,S,Q=>wE a ρ S λp=>wB p.1 λk=>(k=true->wE b ρ p.2 Q)/\(k=false->Q (.bl false,p.2))
 | .or a b,ρ,S,Q=>wE a ρ S λp=>wB p.1 λk=>(k=true->Q (.bl true,p.2))/\(k=false->wE b ρ p.2 Q)
 | .not a,ρ,S,Q=>wE a ρ S λp=>wB p.1 λk=>Q (.bl (!k),p.2)
 | .own f n es,ρ,S,Q=>wA es ρ S λp=>wO (bw Φ f n p.1 p.2) Q
 | .bi b es,ρ,S,Q=>wA es ρ S λp=>wO (b.fn p.1 p.2) Q
 | .me m o es,ρ,S,Q=>wE o ρ S λp=>tyOk m.ty p.2 p.1=true/\wA es ρ p.2 λq=>wO (m.fn p.1 q.1 q.2) Q
 | .ix a b,ρ,S,Q=>wE a ρ S λp=>wE b ρ p.2 λq=>wO (tN p.1 q.1 q.2) Q
 | .sl a lo hi,ρ,S,Q=>wE a ρ S λp=>wP lo ρ p.2 λq=>wP hi ρ q.2 λr=>wO (re p.1 q.1 r.1 r.2) Q
 | .tup es,ρ,S,Q=>wA es ρ S λp=>Q (.tup p.1,p.2)
 | .lst es,ρ,S,Q=>wA es ρ S λp=>Q (.ref p.2.length,p.2++[.lst p.1])
 | .isi c a,ρ,S,Q=>wE a ρ S λp=>wO (xv p.2 p.1 c) λk=>Q (.bl k,p.2)
 | .neg a,ρ,S,Q=>wE a ρ S λp=>wN p.1 λi=>Q (.int (-i),p.2)
 | .dnew,_,S,Q=>Q (.ref S.length,S++[.dic []])
 | .disp es,ρ,S,Q=>wA es ρ (S++[.dic []]) λp=>p.2[S.length]?=ba (.dic [])/\wO (ey [] p.1) λkvs=>Q (.ref S.length,p.2.set S.length (.dic kvs))
 | .ite t a b,ρ,S,Q=>wT t ρ S λp=>(p.1=true->wE a ρ p.2 Q)/\(p.1=false->wE b ρ p.2 Q)
 | .comp elt tg it cs cap,ρ,S,Q=>Wp (aJ Φ (.comp elt tg it cs cap) ρ S) Q
noncomputable def wT:E->Fm->aa->QB->Prop
 | .cmp o a b,ρ,S,Q=>wE a ρ S λp=>wE b ρ p.2 λq=>wO (cM o p.1 q.1 q.2) λr=>wB r.1 λk=>Q (k,r.2)
 | .and a b,ρ,S,Q=>wT a ρ S λp=>(p.1=true->wT b ρ p.2 Q)/\(p.1=false->Q (false,p.2))
 | .or a b,ρ,S,Q=>wT a ρ S λp=>(p.1=true->Q (true,p.2))/\(p.1=false->wT b ρ p.2 Q)
 | .not a,ρ,S,Q=>wT a ρ S λp=>Q (!p.1,p.2)
 | .isi c a,ρ,S,Q=>wE a ρ S λp=>wO (xv p.2 p.1 c) λk=>Q (k,p.2)
 | .c w,ρ,S,Q=>Wp (dO Φ (.c w) ρ S) Q
 | .v i,ρ,S,Q=>wV ρ i λw=>wO (gE S w) λk=>Q (k,S)
 | .op o a b,ρ,S,Q=>Wp (dO Φ (.op o a b) ρ S) Q
 | .own f n es,ρ,S,Q=>wA es ρ S λp=>wO (bw Φ f n p.1 p.2) λq=>wO (gE q.2 q.1) λk=>Q (k,q.2)
 | .bi b es,ρ,S,Q=>wA es ρ S λp=>wO (b.fn p.1 p.2) λq=>wO (gE q.2 q.1) λk=>Q (k,q.2)
 | .me m o es,ρ,S,Q=>Wp (dO Φ (.me m o es) ρ S) Q
 | .ix a b,ρ,S,Q=>Wp (dO Φ (.ix a b) ρ S) Q
 | .sl a lo hi,ρ,S,Q=>Wp (dO Φ (.sl a lo hi) ρ S) Q
 | .tup es,ρ,S,Q=>Wp (dO Φ (.tup es) ρ S) Q
 | .lst es,ρ,S,Q=>Wp (dO Φ (.lst es) ρ S) Q
 | .neg a,ρ,S,Q=>Wp (dO Φ (.neg a) ρ S) Q
 | .dnew,ρ,S,Q=>Wp (dO Φ .dnew ρ S) Q
 | .disp es,ρ,S,Q=>Wp (dO Φ (.disp es) ρ S) Q
 | .ite t a b,ρ,S,Q=>Wp (dO Φ (.ite t a b) ρ S) Q
 | .comp elt tg it cs cap,ρ,S,Q=>Wp (dO Φ (.comp elt tg it cs cap) ρ S) Q
noncomputable def wA:Es->Fm->aa->(Kr W×aa->Prop)->Prop
 | .nil,_,S,Q=>Q ([],S)
 | .cons e es,ρ,S,Q=>wE e ρ S λp=>wA es ρ p.2 λq=>Q (p.1::q.1,q.2)
noncomputable def wP:Ep->Fm->aa->(Kz KO×aa->Prop)->Prop
 | .no,_,S,Q=>Q (gV,S)
 | .yes a,ρ,S,Q=>wE a ρ S λp=>wN p.1 λi=>Q (ba i,p.2)
end
noncomputable def tP (K:Fm->aa->Prop)(Q:QO)(p:Out×aa):Prop:=match p.1 with
 | .nx ρ=>K ρ p.2
 | o=>Q (o,p.2)
mutual
noncomputable def wS:Sm->Fm->aa->(Fm->aa->Prop)->QO->Prop
 | .set i e,ρ,S,K,_=>wE Φ e ρ S λp=>K (ρ.set i (ba p.1)) p.2
 | .asg is e,ρ,S,K,_=>wE Φ e ρ S λp=>wU p.1 λws=>wO (eu is ws ρ) λρ'=>K ρ' p.2
 | .par i j es,ρ,S,K,_=>wA Φ es ρ S λp=>w2 p.1 λx y=>K ((ρ.set i (ba x)).set j (ba y)) p.2
 | .put o k e,ρ,S,K,_=>wE Φ e ρ S λp=>wE Φ o ρ p.2 λq=>wE Φ k ρ q.2 λr=>wO (jn q.1 r.1 p.1 r.2) λS'=>K ρ S'
 | .ex e,ρ,S,K,_=>wE Φ e ρ S λp=>K ρ p.2
 | .ret e,ρ,S,_,Q=>wE Φ e ρ S λp=>Q (.rt p.1,p.2)
 | .retN,_,S,_,Q=>Q (.rt .non,S)
 | .pass,ρ,S,K,_=>K ρ S
 | .brk,ρ,S,_,Q=>Q (.bk ρ,S)
 | .cont,ρ,S,_,Q=>Q (.ct ρ,S)
 | .bad,_,_,_,_=>L7
 | .ite t a b,ρ,S,K,Q=>wT Φ t ρ S λp=>∀Q':QO,(∀ρ' S',K ρ' S'->Q' (.nx ρ',S'))->(∀o S',(∀ρ',o≠.nx ρ')->Q (o,S')->Q' (o,S'))->(p.1=true->Dk a ρ p.2 Q')/\(p.1=false->Dk b ρ p.2 Q')
 | .whl t b,ρ,S,K,Q=>Wp (gN Φ fuel (.whl t b) ρ S) (tP K Q)
 | .loop tg it b,ρ,S,K,Q=>Wp (gN Φ fuel (.loop tg it b) ρ S) (tP K Q)
noncomputable def Dk:Ss->Fm->aa->QO->Prop
 | .nil,ρ,S,Q=>Q (.nx ρ,S)
 | .cons s ss,ρ,S,Q=>wS s ρ S (λρ' S'=>Dk ss ρ' S' Q) Q
end
end
noncomputable def IG:Es->KC
 | .nil=>0
 | .cons _ es=>IG es+1
mutual
noncomputable def eT:E->Lf
 | .c _|.v _|.comp _ _ _ _ _|.dnew=>true
 | .op _ a b|.cmp _ a b|.and a b|.or a b|.ix a b=>eT a&&eT b
 | .ite a b c=>eT a&&eT b&&eT c
 | .neg a|.not a|.isi _ a=>eT a
 | .own _ n es=>IG es==n&&rf es
 | .bi _ es|.disp es=>rf es
 | .me _ o es=>eT o&&rf es
 | .sl a lo hi=>eT a&&JL lo&&JL hi
 | .tup es|.lst es=>decide (IG es<=1000)&&rf es
noncomputable def rf:Es->Lf
 | .nil=>true
 | .cons e es=>eT e&&rf es
noncomputable def JL:Ep->Lf
 | .no=>true
 | .yes e=>eT e
end
mutual
noncomputable def Kb:Sm->Lf
 | .set _ e|.asg _ e|.ex e|.ret e=>eT e
 | .put o k e=>eT o&&eT k&&eT e
 | .par _ _ es=>rf es
 | .ite t a b=>eT t&&ip a&&ip b
 | _=>true
noncomputable def ip:Ss->Lf
 | .nil=>true
 | .cons s ss=>Kb s&&ip ss
end
section
variable{Φ:KZ->FF}{fuel:KC}
theorem ju:∀ {es:Es} {ρ:Fm} {S S':aa} {ws:Kr W},dR Φ es ρ S=ba (ws,S')->ws.length=IG es
 | .nil,ρ,S,S',ws,h=>by dsimp only[dR]at h; cases h; rfl
 | .cons e es,ρ,S,S',ws,h=>by
  dsimp only[dR]at h;unfold fm at h;split at h
  ·split at h
   ·rename_i h2; cases h; rw[LJ,ju h2]; rfl
   ·cases h
  ·cases h
theorem Au {n:KC}(h:decide (n<=1000)=true):n<=sizeLine:=KQ (LH h) (by rw[LD]; decide)
theorem dP {a b:Lf}(h:(a&&b)=true):a=true:=by cases a <;> first|rfl|cases h
theorem fu {a b:Lf}(h:(a&&b)=true):b=true:=by cases a <;> first|exact h|cases h
mutual
theorem bO:∀(e:E) {ρ:Fm} {S:aa} {Q:QW},eT e=true->wE Φ e ρ S Q->Wp (aJ Φ e ρ S) Q
 | .c w,ρ,S,Q,k,h=>Kk.mpr h
 | .v i,ρ,S,Q,k,h=>J9.mpr (At h)
 | .op o a b,ρ,S,Q,k,h=>JA.mpr ((bO a (dP k) h).mono λp hp=>(bO b (fu k) hp).mono λq hq=>db hq)
 | .cmp o a b,ρ,S,Q,k,h=>Ea.mpr ((bO a (dP k) h).mono λp hp=>(bO b (fu k) hp).mono λq hq=>db hq)
 | .and a b,ρ,S,Q,k,h=>Hy.mpr ((bO a (dP k) h).mono λp hp=>let ⟨c,e,h1,h2⟩:=vV hp; #[c,e,λz=>bO b (fu k) (h1 z),h2])
 | .or a b,ρ,S,Q,k,h=>JC.mpr ((bO a (dP k) h).mono λp hp=>let ⟨c,e,h1,h2⟩:=vV hp; #[c,e,h1,λz=>bO b (fu k) (h2 z)])
 | .not a,ρ,S,Q,k,h=>Hz.mpr ((bO a k h).mono λp hp=>vV hp)
 | .own f n es,ρ,S,Q,k,h=>Eb.mpr (by
   obtain⟨⟨ws,S1⟩,e,hq⟩:=iF es (fu k) h;have hl:ws.length=n:=(ju e).trans (eq_of_beq (dP k));simp only[bw,La hl]at hq;exact#[_,e,hl,db hq])
 | .bi b es,ρ,S,Q,k,h=>HB.mpr ((iF es k h).mono λp hp=>db hp)
 | .me m o es,ρ,S,Q,k,h=>JD.mpr ((bO o (dP k) h).mono λp hp=>#[hp.1,(iF es (fu k) hp.2).mono λq hq=>db hq])
 | .ix a b,ρ,S,Q,k,h=>JB.mpr ((bO a (dP k) h).mono λp hp=>(bO b (fu k) hp).mono λq hq=>db hq)
 | .sl a lo hi,ρ,S,Q,k,h=>JE.mpr ((bO a (dP (dP k)) h).mono λp hp=>(Eh lo (fu (dP k)) hp).mono λq hq=>(Eh hi (fu k) hq).mono λr hr=>db hr)
 | .tup es,ρ,S,Q,k,h=>HD.mpr (by
   obtain⟨⟨ws,S1⟩,e,hq⟩:=iF es (fu k) h;exact#[_,e,by rw[ju e]; exact Au (dP k),hq])
 | .lst es,ρ,S,Q,k,h=>HE.mpr (by
   obtain⟨⟨ws,S1⟩,e,hq⟩:=iF es (fu k) h;exact#[_,e,by rw[ju e]; exact Au (dP k),hq])
 | .isi c a,ρ,S,Q,k,h=>Ec.mpr ((bO a k h).mono λp hp=>db hp)
 | .neg a,ρ,S,Q,k,h=>HF.mpr ((bO a k h).mono λp hp=>Eg hp)
 | .dnew,ρ,S,Q,k,h=>#[_,rfl,h]
 | .disp es,ρ,S,Q,k,h=>FK.mpr ((iF es k h).mono λp hp=>#[hp.1,let ⟨kvs,e,q⟩:=db hp.2; #[kvs,e,q]])
 | .ite t a b,ρ,S,Q,k,h=>HA.mpr ((jv t (dP (dP k)) h).mono λp hp=>#[λz=>bO a (fu (dP k)) (hp.1 z),λz=>bO b (fu k) (hp.2 z)])
 | .comp elt tg it cs cap,ρ,S,Q,k,h=>h
theorem iF:∀(es:Es) {ρ:Fm} {S:aa} {Q:Kr W×aa->Prop},rf es=true->wA Φ es ρ S Q->Wp (dR Φ es ρ S) Q
 | .nil,ρ,S,Q,k,h=>HG.mpr h
 | .cons e es,ρ,S,Q,k,h=>FL.mpr ((bO e (dP k) h).mono λp hp=>iF es (fu k) hp)
theorem Eh:∀(e:Ep) {ρ:Fm} {S:aa} {Q:Kz KO×aa->Prop},JL e=true->wP Φ e ρ S Q->Wp (vK Φ e ρ S) Q
 | .no,ρ,S,Q,k,h=>JF.mpr h
 | .yes a,ρ,S,Q,k,h=>HC.mpr ((bO a k h).mono λp hp=>Eg hp)
theorem jv:∀(e:E) {ρ:Fm} {S:aa} {Q:QB},eT e=true->wT Φ e ρ S Q->Wp (dO Φ e ρ S) Q
 | .cmp o a b,ρ,S,Q,k,h=>HI.mpr (Ea.mpr ((bO a (dP k) h).mono λp hp=>(bO b (fu k) hp).mono λq hq=>(db hq).mono λr hr=>vV hr))
 | .and a b,ρ,S,Q,k,h=>HJ.mpr ((jv a (dP k) h).mono λp hp=>#[λz=>jv b (fu k) (hp.1 z),hp.2])
 | .or a b,ρ,S,Q,k,h=>JG.mpr ((jv a (dP k) h).mono λp hp=>#[hp.1,λz=>jv b (fu k) (hp.2 z)])
 | .not a,ρ,S,Q,k,h=>HK.mpr (jv a k h)
 | .isi c a,ρ,S,Q,k,h=>HM.mpr (Ec.mpr ((bO a k h).mono λp hp=>let ⟨b,e,q⟩:=db hp; #[b,e,b,rfl,q]))
 | .v i,ρ,S,Q,k,h=>Kl.mpr (J9.mpr (let ⟨w,e,q⟩:=At h; #[w,e,db q]))
 | .own f n es,ρ,S,Q,k,h=>HL.mpr (Eb.mpr (by
   obtain⟨⟨ws,S1⟩,e,hq⟩:=iF es (fu k) h;have hl:ws.length=n:=(ju e).trans (eq_of_beq (dP k));simp only[bw,La hl]at hq;exact#[_,e,hl,(db hq).mono λq hq=>db hq]))
 | .c w,ρ,S,Q,k,h=>h
 | .op o a b,ρ,S,Q,k,h=>h
 | .bi b es,ρ,S,Q,k,h=>JH.mpr (HB.mpr ((iF es k h).mono λp hp=>(db hp).mono λq hq=>db hq))
 | .me m o es,ρ,S,Q,k,h=>h
 | .ix a b,ρ,S,Q,k,h=>h
 | .sl a lo hi,ρ,S,Q,k,h=>h
 | .tup es,ρ,S,Q,k,h=>h
 | .lst es,ρ,S,Q,k,h=>h
 | .neg a,ρ,S,Q,k,h=>h
 | .dnew,ρ,S,Q,k,h=>h
 | .disp es,ρ,S,Q,k,h=>h
 | .ite t a b,ρ,S,Q,k,h=>h
 | .comp elt tg it cs cap,ρ,S,Q,k,h=>h
end
mutual
theorem Ic:∀(s:Sm) {ρ:Fm} {S:aa} {K:Fm->aa->Prop} {Q:QO},Kb s=true->wS Φ fuel s ρ S K Q->Wp (gN Φ fuel s ρ S) (tP K Q)
 | .set i e,ρ,S,K,Q,k,h=>FN.mpr (bO e k h)
 | .asg is e,ρ,S,K,Q,k,h=>FP.mpr ((bO e k h).mono λp hp=>let ⟨ws,e1,h1⟩:=HY hp; let ⟨ρ',e2,h2⟩:=db h1; #[ws,ρ',e1,e2,h2])
 | .par i j es,ρ,S,K,Q,k,h=>FQ.mpr ((iF es k h).mono λp hp=>HZ hp)
 | .put o i e,ρ,S,K,Q,k,h=>FR.mpr ((bO e (fu k) h).mono λp hp=>(bO o (dP (dP k)) hp).mono λq hq=>(bO i (fu (dP k)) hq).mono λr hr=>db hr)
 | .ex e,ρ,S,K,Q,k,h=>HP.mpr (bO e k h)
 | .ret e,ρ,S,K,Q,k,h=>FU.mpr (bO e k h)
 | .retN,ρ,S,K,Q,k,h=>#[_,rfl,h]
 | .pass,ρ,S,K,Q,k,h=>#[_,rfl,h]
 | .brk,ρ,S,K,Q,k,h=>#[_,rfl,h]
 | .cont,ρ,S,K,Q,k,h=>#[_,rfl,h]
 | .bad,ρ,S,K,Q,k,h=>h.elim
 | .ite t a b,ρ,S,K,Q,k,h=>FV.mpr ((jv t (dP (dP k)) h).mono λp hp=>by
   obtain⟨h1,h2⟩:=hp (tP K Q) (λρ' S' z=>z) (λo S' hn z=>by cases o <;> first|exact z|exact absurd rfl (hn _))
   exact#[λz=>j3 a (fu (dP k)) (h1 z),λz=>j3 b (fu k) (h2 z)])
 | .whl t b,ρ,S,K,Q,k,h=>h
 | .loop tg it b,ρ,S,K,Q,k,h=>h
theorem j3:∀(ss:Ss) {ρ:Fm} {S:aa} {Q:QO},ip ss=true->Dk Φ fuel ss ρ S Q->Wp (gO Φ fuel ss ρ S) Q
 | .nil,ρ,S,Q,k,h=>HN.mpr h
 | .cons s ss,ρ,S,Q,k,h=>FM.mpr ((Ic s (dP k) h).mono λp hp=>by
   obtain⟨o,S1⟩:=p;cases o with
   | nx ρ'=>exact#[λρ2 e=>by cases e; exact j3 ss (fu k) hp,λz=>absurd rfl (z ρ')]
   | _=>exact#[λρ2 e=>(by cases e),λ_=>hp])
end
structure wZ (Φ:KZ->FF)(fuel:KC)(ss:Ss)(ρ:Fm)(S:aa)(Q:QO):Prop where
 out:Dk Φ fuel ss ρ S Q
theorem Ig {ss:Ss}{ρ:Fm}{S:aa}{Q:QO}:Dk Φ fuel ss ρ S Q=wZ Φ fuel ss ρ S Q:=propext #[λh=>#[h],λh=>h.out]
theorem FY {defs:Kr (KZ×Df)}{d:KC}{f:KZ}{n:KC}{ws:Kr W}{df:Df}{S:aa}{Q:QW}(h:defs.lookup f=ba df)(hn:ws.length=n)(hl:ws.length=df.ps.length)(ok:ip df.body=true)
  (hb:∀Q':QO,(∀w S',Q (w,S')->Q' (.rt w,S'))->wZ (ar defs fuel d) fuel df.body (gp df.N ws) S Q'):wO (bw (ar defs fuel (d+1)) f n ws S) Q:=by
 unfold bw;rw[La hn];exact HX (xE h hl ((j3 _ ok (hb (λp=>match p.1 with|.rt w=>Q (w,p.2)|_=>L7) λw S' q=>q).out).mono λp hp=>by
  obtain⟨o,S1⟩:=p;cases o <;> first|exact hp|exact hp.elim))
end
section
variable{Φ:KZ->FF}{fuel:KC}{ρ:Fm}{S:aa}{K:Fm->aa->Prop}{Q:QO}
noncomputable def yi (Φ:KZ->FF)(fuel:KC)(b:Ss)(ρ:Fm)(S:aa)(I:Fm->aa->Prop)(Q:QO):Prop:=∀Q':QO,(∀ρ' S',I ρ' S'->Q' (.nx ρ',S'))->(∀w S',Q (.rt w,S')->Q' (.rt w,S'))->wZ Φ fuel b ρ S Q'
theorem iU {tg:Tg}{it:Ie}{b:Ss}{mi:MI}{S1:aa}{xs:Kr W}(I:KC->Fm->aa->Prop)(ok:ip b=true)(hi:lI Φ it ρ S=ba (mi,S1))(hat:∀i ρ S,I i ρ S->mi.at S i=ba xs[i]?)(hl:mi.len S1=ba xs.length)(h0:I 0 ρ S1)
  (hstep:∀(i:KC) (w:W) (ρ:Fm) (S:aa),xs[i]?=ba w->I i ρ S->wO (gC tg w ρ S) λq=>yi Φ fuel b q.1 q.2 (I (i+1)) Q) (hend:∀ρ S,I xs.length ρ S->K ρ S):Wp (gN Φ fuel (.loop tg it b) ρ S) (tP K Q):=by
 rw[gN,HQ];refine#[_,hi,xs.length,hl,?_];refine jZ (Q:=tP K Q) I hat (λi w ρ S h1 h2=>?_) (λρ S h=>hend ρ S h) _ 0 ρ S1 ∅ h0
 exact(db (hstep i w ρ S h1 h2)).mono λq hq=>j3 b ok (wZ.out (hq _ (λ_ _ h=>h) λ_ _ h=>h))
theorem cN {e:E}{Q:QW}(ok:eT e=true)(h:wE Φ e ρ S Q):∃w S',aJ Φ e ρ S=ba (w,S')/\Q (w,S'):=let ⟨⟨w,S'⟩,a,b⟩:=bO e ok h; #[w,S',a,b]
theorem cJ {i0:KC}{e:E}{b:Ss}(j:KO)(I:KC->Fm->aa->Prop)(oe:eT e=true)(ok:ip b=true)(hj : -(2 ^ 62)<=j/\j < 2 ^ 62)(he:wE Φ e ρ S λp=>p.1=.int j/\I 0 ρ p.2)
  (hstep:∀(i:KC) (ρ:Fm) (S:aa),(i:KO) < j->I i ρ S->yi Φ fuel b (ρ.set i0 (ba (.int i))) S (I (i+1)) Q) (hend:∀ρ S,I j.toNat ρ S->K ρ S):Wp (gN Φ fuel (.loop (.nm i0) (.rng #v[e]) b) ρ S) (tP K Q):=by
 obtain⟨w,S1,e1,rfl,h0⟩:=cN oe he;have hl:(dN 0 j.toNat).length=j.toNat:=by simp[dN]
 refine iU (mi:=.its (dN 0 j.toNat)) (S1:=S1) (xs:=dN 0 j.toNat) I ok ?_ (λ_ _ _ _=>rfl) rfl h0 (λi w ρ S hw hI=>?_) λρ S hI=>hend ρ S (hl ▸ hI)
 ·simp only[lI,dR,fm,jV,uD,e1];rw[La hj]
 ·rw[fq]at hw;split at hw
  ·rename_i hk;cases hw;rw[Ox];exact hstep i ρ S ∅ hI
  ·cases hw
theorem for_tup {tg:Tg}{e:E}{b:Ss}(xs:Kr W)(I:KC->Fm->aa->Prop)(oe:eT e=true)(ok:ip b=true)(he:wE Φ e ρ S λp=>p.1=.tup xs/\I 0 ρ p.2)
  (hstep:∀(i:KC) (w:W) (ρ:Fm) (S:aa),xs[i]?=ba w->I i ρ S->wO (gC tg w ρ S) λq=>yi Φ fuel b q.1 q.2 (I (i+1)) Q) (hend:∀ρ S,I xs.length ρ S->K ρ S):Wp (gN Φ fuel (.loop tg (.seq e) b) ρ S) (tP K Q):=by
 obtain⟨w,S1,e1,rfl,h0⟩:=cN oe he;exact iU (mi:=.its xs) (S1:=S1) I ok (by simp only[lI,fW,e1]) (λ_ _ _ _=>rfl) rfl h0 hstep hend
theorem qx {tg:Tg}{e:E}{b:Ss}(t:KC)(xs:Kr W)(I:KC->Fm->aa->Prop)(oe:eT e=true)(ok:ip b=true)(he:wE Φ e ρ S λp=>p.1=.ref t/\I 0 ρ p.2)(hat:∀i ρ S,I i ρ S->S[t]?=ba (.lst xs))
  (hstep:∀(i:KC) (w:W) (ρ:Fm) (S:aa),xs[i]?=ba w->I i ρ S->wO (gC tg w ρ S) λq=>yi Φ fuel b q.1 q.2 (I (i+1)) Q) (hend:∀ρ S,I xs.length ρ S->K ρ S):Wp (gN Φ fuel (.loop tg (.seq e) b) ρ S) (tP K Q):=by
 obtain⟨w,S1,e1,rfl,h0⟩:=cN oe he;exact iU (mi:=.live t) (S1:=S1) I ok (by simp only[lI,fW,e1,aK (hat _ _ _ h0)]) (λi ρ S h=>by simp only[MI.at,aK (hat _ _ _ h)]) (by simp only[MI.len,aK (hat _ _ _ h0),Lw]) h0 hstep hend
theorem Ei {t:E}{b:Ss}(I:KC->Fm->aa->Prop)(m:KC)(ot:eT t=true)(ok:ip b=true)(hm:m < fuel)(h0:I m ρ S)
  (hstep:∀m ρ S,I m ρ S->wT Φ t ρ S λk=>(k.1=true->∃m',m=m'+1/\yi Φ fuel b ρ k.2 (I m') Q)/\(k.1=false->K ρ k.2)):Wp (gN Φ fuel (.whl t b) ρ S) (tP K Q):=by
 rw[gN];refine mF (Q:=tP K Q) I (λm ρ S hI=>(jv t ot (hstep m ρ S hI)).mono λk hk=>#[λz=>?_,λz=>hk.2 z]) fuel m ρ S hm h0
 obtain⟨m',e,h⟩:=hk.1 z;exact#[m',e,j3 b ok (wZ.out (h _ (λ_ _ h=>h) λ_ _ h=>h))]
noncomputable def wC (Φ:KZ->FF):Es->Fm->aa->QB->Prop
 | .nil,_,S,Q=>Q (true,S)
 | .cons e .nil,ρ,S,Q=>wT Φ e ρ S Q
 | .cons _ (.cons _ _),_,_,_=>L7
theorem Ej {cs:Es}{Q:QB}(ok:rf cs=true)(h:wC Φ cs ρ S Q):Wp (C8 Φ cs ρ S) Q:=by
 match cs,h,ok with
 | .nil,h,_=>exact HR.mpr h
 | .cons e .nil,h,ok=>exact HS.mpr (jv e (dP ok) h)
noncomputable def jb (Φ:KZ->FF)(elt:E)(cs:Es)(ρ:Fm)(S:aa)(G:W->Fm->aa->Prop)(N:Fm->aa->Prop):Prop:=wC Φ cs ρ S λk=>(k.1=true->wE Φ elt ρ k.2 λy=>G y.1 ρ y.2)/\(k.1=false->N ρ k.2)
theorem j4 {elt:E}{tg:Tg}{it:Ie}{cs:Es}{cap:Kr (Kz KC)}{mi:MI}{S1:aa}{xs:Kr W}{Q:QW}(I:KC->Kr W->Fm->aa->Prop)(oe:eT elt=true)(oc:rf cs=true)(hi:lI Φ it ρ S=ba (mi,S1))(hat:∀i ys ρ S,I i ys ρ S->mi.at S i=ba xs[i]?)(hl:mi.len S1=ba xs.length)(h0:I 0 [] (gn cap ρ) S1)
  (hstep:∀(i:KC) (w:W) (ys:Kr W) (ρ:Fm) (S:aa),xs[i]?=ba w->I i ys ρ S->wO (gC tg w ρ S) λq=>jb Φ elt cs q.1 q.2 (λy=>I (i+1) (ys++[y])) (I (i+1) ys))
  (hend:∀ys ρ S,I xs.length ys ρ S->ys.length<=sizeLine/\Q (.ref S.length,S++[.lst ys])):Wp (aJ Φ (.comp elt tg it cs cap) ρ S) Q:=by
 rw[Aq];refine#[_,hi,xs.length,hl,?_];refine(eJ (xs:=xs) (Q:=λq=>q.1.length<=sizeLine/\Q (.ref q.2.length,q.2++[.lst q.1])) I hat (λi w ys ρ S h1 h2=>?_) hend xs.length 0 [] _ S1 ∅ h0).mono λq hq=>by simpa using hq
 exact(db (hstep i w ys ρ S h1 h2)).mono λq hq=>(Ej oc hq).mono λk hk=>#[λz=>bO elt oe (hk.1 z),hk.2]
theorem dH {elt e:E}{i0:KC}{cs:Es}{cap:Kr (Kz KC)}{Q:QW}(j:KO)(I:KC->Kr W->Fm->aa->Prop)(oi:eT e=true)(oe:eT elt=true)(oc:rf cs=true)(hj : -(2 ^ 62)<=j/\j < 2 ^ 62)(he:wE Φ e ρ S λp=>p.1=.int j/\I 0 [] (gn cap ρ) p.2)
  (hstep:∀(i:KC) (ys:Kr W) (ρ:Fm) (S:aa),(i:KO) < j->I i ys ρ S->jb Φ elt cs (ρ.set i0 (ba (.int i))) S (λy=>I (i+1) (ys++[y])) (I (i+1) ys))
  (hend:∀ys ρ S,I j.toNat ys ρ S->ys.length<=sizeLine/\Q (.ref S.length,S++[.lst ys])):Wp (aJ Φ (.comp elt (.nm i0) (.rng #v[e]) cs cap) ρ S) Q:=by
 obtain⟨w,S1,e1,rfl,h0⟩:=cN oi he;have hl:(dN 0 j.toNat).length=j.toNat:=by simp[dN]
 refine j4 (mi:=.its (dN 0 j.toNat)) (S1:=S1) (xs:=dN 0 j.toNat) I oe oc ?_ (λ_ _ _ _ _=>rfl) rfl h0 (λi w ys ρ S hw hI=>?_) λys ρ S hI=>hend ys ρ S (hl ▸ hI)
 ·simp only[lI,dR,fm,jV,uD,e1];rw[La hj]
 ·rw[fq]at hw;split at hw
  ·rename_i hk;cases hw;rw[Ox];exact hstep i ys ρ S ∅ hI
  ·cases hw
theorem qz {elt e:E}{tg:Tg}{cs:Es}{cap:Kr (Kz KC)}{Q:QW}(xs:Kr W)(I:KC->Kr W->Fm->aa->Prop)(oi:eT e=true)(oe:eT elt=true)(oc:rf cs=true)(he:wE Φ e ρ S λp=>p.1=.tup xs/\I 0 [] (gn cap ρ) p.2)
  (hstep:∀(i:KC) (w:W) (ys:Kr W) (ρ:Fm) (S:aa),xs[i]?=ba w->I i ys ρ S->wO (gC tg w ρ S) λq=>jb Φ elt cs q.1 q.2 (λy=>I (i+1) (ys++[y])) (I (i+1) ys))
  (hend:∀ys ρ S,I xs.length ys ρ S->ys.length<=sizeLine/\Q (.ref S.length,S++[.lst ys])):Wp (aJ Φ (.comp elt tg (.seq e) cs cap) ρ S) Q:=by
 obtain⟨w,S1,e1,rfl,h0⟩:=cN oi he;exact j4 (mi:=.its xs) (S1:=S1) I oe oc (by simp only[lI,fW,e1]) (λ_ _ _ _ _=>rfl) rfl h0 hstep hend
theorem vW {elt e:E}{tg:Tg}{cs:Es}{cap:Kr (Kz KC)}{Q:QW}(t:KC)(xs:Kr W)(I:KC->Kr W->Fm->aa->Prop)(oi:eT e=true)(oe:eT elt=true)(oc:rf cs=true)(he:wE Φ e ρ S λp=>p.1=.ref t/\I 0 [] (gn cap ρ) p.2)(hat:∀i ys ρ S,I i ys ρ S->S[t]?=ba (.lst xs))
  (hstep:∀(i:KC) (w:W) (ys:Kr W) (ρ:Fm) (S:aa),xs[i]?=ba w->I i ys ρ S->wO (gC tg w ρ S) λq=>jb Φ elt cs q.1 q.2 (λy=>I (i+1) (ys++[y])) (I (i+1) ys))
  (hend:∀ys ρ S,I xs.length ys ρ S->ys.length<=sizeLine/\Q (.ref S.length,S++[.lst ys])):Wp (aJ Φ (.comp elt tg (.seq e) cs cap) ρ S) Q:=by
 obtain⟨w,S1,e1,rfl,h0⟩:=cN oi he;exact j4 (mi:=.live t) (S1:=S1) I oe oc (by simp only[lI,fW,e1,aK (hat _ _ _ _ h0)]) (λi ys ρ S h=>by simp only[MI.at,aK (hat _ _ _ _ h)]) (by simp only[MI.len,aK (hat _ _ _ _ h0),Lw]) h0 hstep hend
theorem Dl {elt a:E}{tg:Tg}{cs:Es}{cap:Kr (Kz KC)}{Q:QW}(xs:Kr W)(I:KC->Kr W->Fm->aa->Prop)(oa:eT a=true)(oe:eT elt=true)(oc:rf cs=true)(he:wE Φ a ρ S λp=>Jw p.1=ba xs/\I 0 [] (gn cap ρ) p.2)
  (hstep:∀(i:KC) (x:W) (ys:Kr W) (ρ:Fm) (S:aa),xs[i]?=ba x->I i ys ρ S->wO (gC tg (.tup [.int i,x]) ρ S) λq=>jb Φ elt cs q.1 q.2 (λy=>I (i+1) (ys++[y])) (I (i+1) ys))
  (hend:∀ys ρ S,I xs.length ys ρ S->ys.length<=sizeLine/\Q (.ref S.length,S++[.lst ys])):Wp (aJ Φ (.comp elt tg (.enu #v[a]) cs cap) ρ S) Q:=by
 obtain⟨x,S1,e1,h1,h0⟩:=cN oa he;have hl:(qm xs).length=xs.length:=by simp[qm]
 refine j4 (mi:=.its (qm xs)) (S1:=S1) (xs:=qm xs) I oe oc (by simp only[lI,dR,fm,jV,C5,e1,h1]) (λ_ _ _ _ _=>rfl) rfl h0 (λi w ys ρ S hw hI=>?_) λys ρ S hI=>hend ys ρ S (hl ▸ hI)
 obtain⟨y,hy,rfl⟩:=sx hw;exact hstep i y ys ρ S hy hI
theorem st {s:Sm}{ss:Ss}(h:wS Φ fuel s ρ S (λρ' S'=>wZ Φ fuel ss ρ' S' Q) Q):wZ Φ fuel (.cons s ss) ρ S Q:=#[by
 dsimp only[Dk];simp only[Ig];exact h]
theorem cj (h:Q (.nx ρ,S)):wZ Φ fuel .nil ρ S Q:=#[h]
theorem au {t:Lf}{a b:Ss}{Q Q0:QO}{K:Fm->aa->Prop}(ha:t=true->∀Q':QO,(∀ρ' S',K ρ' S'->Q' (.nx ρ',S'))->(∀w S',Q (.rt w,S')->Q' (.rt w,S'))->wZ Φ fuel a ρ S Q')(hb:t=false->∀Q':QO,(∀ρ' S',K ρ' S'->Q' (.nx ρ',S'))->(∀w S',Q (.rt w,S')->Q' (.rt w,S'))->wZ Φ fuel b ρ S Q') :
  ∀Q':QO,(∀ρ' S',K ρ' S'->Q' (.nx ρ',S'))->(∀o S',(∀ρ',o≠.nx ρ')->Q (o,S')->Q' (o,S'))->(t=true->Dk Φ fuel a ρ S Q')/\(t=false->Dk Φ fuel b ρ S Q'):=
 λQ' h1 h2=>#[λe=>(ha e Q' h1 λw S'=>h2 (.rt w) S' (λ_ z=>nomatch z)).out,λe=>(hb e Q' h1 λw S'=>h2 (.rt w) S' (λ_ z=>nomatch z)).out]
end
noncomputable def fw:Ss:=
 #v[.ret (.lst #v[.bi .list #v[.v 0],.c (.int 0),.c (.int 0),.c (.int 1),.c (.int 0)])]
noncomputable def dt:Ss:=
 #v[.ite (.and (.cmp .eq (.ix (.v 0) (.c (.int 2))) (.c (.int 0))) (.cmp .lt (.ix (.v 0) (.c (.int 1))) (.bi .len #v[.ix (.v 0) (.c (.int 0))]))) #v[.set 2 (.ix (.ix (.v 0) (.c (.int 0))) (.ix (.v 0) (.c (.int 1)))),.put (.v 0) (.c (.int 1)) (.op .add (.ix (.v 0) (.c (.int 1))) (.c (.int 1))),.ite (.cmp .ge (.v 2) (.op .pow (.c (.int 10)) (.c (.int 18)))) #v[.put (.v 0) (.c (.int 2)) (.v 2)] #v[.put (.v 0) (.c (.int 3)) (.op .mod (.op .add (.op .add (.op .mul (.ix (.v 0) (.c (.int 3))) (.c (.int 40013))) (.op .mod (.v 2) (.c (.int 1000003)))) (.c (.int 1))) (.c (.int 2147483647)))]] .nil,.ite (.cmp .gt (.ix (.v 0) (.c (.int 2))) (.c (.int 0))) #v[.set 3 (.op .mod (.ix (.v 0) (.c (.int 2))) (.v 1)),.put (.v 0) (.c (.int 2)) (.op .fdiv (.ix (.v 0) (.c (.int 2))) (.v 1)),.ret (.v 3)] .nil,.put (.v 0) (.c (.int 4)) (.op .add (.ix (.v 0) (.c (.int 4))) (.c (.int 1))),.put (.v 0) (.c (.int 3)) (.op .mod (.op .add (.op .add (.op .mul (.ix (.v 0) (.c (.int 3))) (.c (.int 48271))) (.c (.int 12820163))) (.ix (.v 0) (.c (.int 4)))) (.c (.int 2147483647))),.ret (.op .mod (.op .fdiv (.op .mod (.op .mul (.op .add (.op .mod (.ix (.v 0) (.c (.int 3))) (.c (.int 65521))) (.c (.int 1))) (.op .add (.op .fdiv (.ix (.v 0) (.c (.int 3))) (.c (.int 65521))) (.c (.int 7919)))) (.c (.int 1000003))) (.c (.int 7))) (.v 1))]
noncomputable def dW:Ss:=
 #v[.ret (.me .join (.c (.str "")) #v[.comp (.ix (.c (.str "abcdefghijklmnopqrstuvwxyz")) (.own "_law_pick" 2 #v[.v 2,.c (.int 26)])) (.nm 1) (.rng #v[.v 1]) .nil [gV,gV,ba 0]])]
noncomputable def gr:Ss:=
 #v[.ite (.cmp .ne (.v 1) (.c (.str ""))) #v[.ret (.op .add (.v 1) (.own "_law_letters" 2 #v[.v 0,.op .add (.c (.int 1)) (.own "_law_pick" 2 #v[.v 0,.c (.int 2)])]))] .nil,.ite (.cmp .eq (.own "_law_pick" 2 #v[.v 0,.c (.int 6)]) (.c (.int 0))) #v[.set 2 (.lst #v[.c (.str "markss"),.c (.str "mark"),.c (.str "way"),.c (.str "wayss"),.c (.str "bars"),.c (.str "ba"),.c (.str "somex")]),.set 2 (.op .add (.v 2) (.lst #v[.c (.str "eachx"),.c (.str "note"),.c (.str "no"),.c (.str "ands"),.c (.str "ors"),.c (.str "o"),.c (.str "iss")])),.ret (.ix (.v 2) (.own "_law_pick" 2 #v[.v 0,.c (.int 14)]))] .nil,.ret (.own "_law_letters" 2 #v[.v 0,.op .add (.c (.int 1)) (.own "_law_pick" 2 #v[.v 0,.c (.int 8)])])]
noncomputable def dz:Ss:=
 #v[.set 2 (.c (.str "")),.ite (.cmp .eq (.own "_law_pick" 2 #v[.v 0,.c (.int 3)]) (.c (.int 0))) #v[.set 2 (.own "_law_letters" 2 #v[.v 0,.op .add (.c (.int 1)) (.own "_law_pick" 2 #v[.v 0,.c (.int 6)])])] .nil,.set 3 (.lst #v[.c (.str "marks"),.c (.str "ways"),.c (.str "bar"),.c (.str "some"),.c (.str "each"),.c (.str "not"),.c (.str "and"),.c (.str "or"),.c (.str "is")]),.loop (.nm 4) (.rng #v[.v 1]) #v[.set 5 (.own "_law_name" 2 #v[.v 0,.v 2]),.set 6 (.c (.int 0)),.whl (.cmp .isin (.v 5) (.v 3)) #v[.set 5 (.op .mul (.ix (.c (.str "abcdefghijklmnopqrstuvwxyz")) (.op .mod (.v 6) (.c (.int 26)))) (.op .add (.c (.int 1)) (.op .fdiv (.v 6) (.c (.int 26))))),.set 6 (.op .add (.v 6) (.c (.int 1)))],.ex (.me .append (.v 3) #v[.v 5])],.ret (.bi .tuple #v[.sl (.v 3) (.yes (.c (.int 9))) .no])]
noncomputable def dX:Ss:=
 #v[.ite (.cmp .lt (.v 3) (.v 2)) #v[.ret (.ix (.ix (.ix (.v 1) (.v 2)) (.c (.int 1))) (.v 3))] .nil,.ret (.ix (.ix (.ix (.v 0) (.c (.int 1))) (.ix (.ix (.ix (.v 1) (.v 3)) (.c (.int 1))) (.v 2))) (.c (.int 1)))]
noncomputable def gv:Ss:=
 #v[.set 3 (.lst .nil),.loop (.nm 4) (.rng #v[.bi .len #v[.v 2]]) #v[.set 5 (.ix (.v 2) (.v 4)),.ex (.me .append (.v 3) #v[.tup #v[.ix (.ix (.v 1) (.v 5)) (.c (.int 0)),.bi .tuple #v[.comp (.own "_law_between" 4 #v[.v 3,.v 4,.v 2,.v 1]) (.nm 1) (.seq (.sl (.v 2) .no (.yes (.v 4)))) .nil [gV,gV,ba 5,ba 0,ba 1]]]])],.ret (.bi .tuple #v[.v 3])]
noncomputable def gQ:Ss:=
 #v[.ret (.lst #v[.tup #v[.c (.int 0),.c (.int 1),.c (.int 2)],.tup #v[.c (.int 0),.c (.int 2),.c (.int 1)],.tup #v[.c (.int 1),.c (.int 0),.c (.int 2)],.tup #v[.c (.int 1),.c (.int 2),.c (.int 0)],.tup #v[.c (.int 2),.c (.int 0),.c (.int 1)],.tup #v[.c (.int 2),.c (.int 1),.c (.int 0)]])]
noncomputable def eM:Ss:=
 #v[.ret (.bi .min #v[.comp (.own "_law_part" 3 #v[.v 2,.v 3,.v 1]) (.nm 1) (.seq (.own "_law_turns" 0 .nil)) .nil [gV,gV,ba 0,ba 1]])]
noncomputable def fK:Ss:=
 #v[.set 2 (.ix (.lst #v[.lst #v[.tup #v[.c (.int 0)]],.lst #v[.tup #v[.c (.int 0),.c (.int 1)],.tup #v[.c (.int 1),.c (.int 0)]],.lst #v[.tup #v[.c (.int 0),.c (.int 1),.c (.int 2)],.tup #v[.c (.int 1),.c (.int 0),.c (.int 2)],.tup #v[.c (.int 0),.c (.int 2),.c (.int 1)]]]) (.op .sub (.v 1) (.c (.int 1)))),.ret (.ix (.v 2) (.own "_law_pick" 2 #v[.v 0,.bi .len #v[.v 2]]))]
noncomputable def dY:Ss:=
 #v[.set 4 (.own "_law_names" 2 #v[.v 0,.op .add (.v 1) (.bi .len #v[.v 2])]),.set 5 (.bi .tuple #v[.comp (.tup #v[.ix (.v 4) (.op .add (.v 3) (.v 1)),.ix (.v 2) (.v 1)]) (.nm 1) (.rng #v[.bi .len #v[.v 2]]) .nil [gV,gV,ba 2,ba 1,ba 4]]),.ret (.tup #v[.sl (.v 4) .no (.yes (.v 1)),.v 5,.bi .tuple #v[.bi .sorted #v[.v 3]]])]
noncomputable def cX:Ss:=
 #v[.set 3 (.lst .nil),.loop (.nm 4) (.rng #v[.c (.int 3)]) #v[.ex (.me .append (.v 3) #v[.tup #v[.own "_law_pick" 2 #v[.v 0,.v 1],.bi .tuple #v[.comp (.own "_law_pick" 2 #v[.v 2,.v 3]) (.nm 1) (.rng #v[.v 4]) .nil [gV,gV,ba 0,ba 2]]]])],.ret (.bi .tuple #v[.v 3])]
noncomputable def fL:Ss:=
 #v[.set 1 (.lst #v[.tup #v[.c (.int 1),.c (.int 1)],.tup #v[.c (.int 2),.c (.int 1)],.tup #v[.c (.int 3),.c (.int 1)],.tup #v[.c (.int 1),.c (.int 2)],.tup #v[.c (.int 1),.c (.int 2)],.tup #v[.c (.int 2),.c (.int 2)],.tup #v[.c (.int 2),.c (.int 2)],.tup #v[.c (.int 3),.c (.int 2)],.tup #v[.c (.int 1),.c (.int 3)],.tup #v[.c (.int 1),.c (.int 3)],.tup #v[.c (.int 2),.c (.int 3)]]),.ret (.ix (.v 1) (.own "_law_pick" 2 #v[.v 0,.c (.int 11)]))]
noncomputable def dI:Ss:=
 #v[.asg [1,2] (.own "_law_sizes" 1 #v[.v 0]),.set 3 (.own "_law_rule_of" 4 #v[.v 0,.v 1,.own "_law_backs" 2 #v[.v 0,.v 2],.tup .nil]),.set 4 .dnew,.loop (.nm 5) (.rng #v[.own "_law_pick" 2 #v[.v 0,.c (.int 9)]]) #v[.put (.v 4) (.own "_law_figure" 2 #v[.v 3,.own "_law_free_three" 3 #v[.v 0,.v 1,.v 2]]) (.c (.bl true))],.ret (.tup #v[.ix (.v 3) (.c (.int 0)),.ix (.v 3) (.c (.int 1)),.bi .tuple #v[.bi .sorted #v[.v 4]]])]
noncomputable def cK:Ss:=
 #v[.set 1 (.lst #v[.tup #v[.tup #v[.c (.int 1),.c (.int 0)],.disp #v[.tup #v[.c (.int 0),.c (.int 0)],.lst #v[.c (.int 0)]],.c (.int 3)],.tup #v[.tup #v[.c (.int 0),.c (.int 2),.c (.int 1)],.disp #v[.tup #v[.c (.int 1),.c (.int 1)],.lst #v[.c (.int 1)]],.c (.int 2)],.tup #v[.tup #v[.c (.int 0),.c (.int 1)],.disp #v[.tup #v[.c (.int 1),.c (.int 1)],.lst #v[.c (.int 1)]],.c (.int 3)]]),.ex (.me .append (.v 1) #v[.tup #v[.tup #v[.c (.int 0),.c (.int 1)],.disp #v[.tup #v[.c (.int 1),.c (.int 1)],.lst #v[.c (.int 1)],.tup #v[.c (.int 0),.c (.int 0)],.lst #v[.c (.int 1)]],.c (.int 3)]]),.ex (.me .append (.v 1) #v[.tup #v[.tup #v[.c (.int 0),.c (.int 1)],.disp #v[.tup #v[.c (.int 1),.c (.int 1)],.lst .nil],.c (.int 1)]]),.ex (.me .append (.v 1) #v[.tup #v[.tup #v[.c (.int 0),.c (.int 2),.c (.int 1)],.disp #v[.tup #v[.c (.int 0),.c (.int 0)],.lst #v[.c (.int 0)],.tup #v[.c (.int 0),.c (.int 1)],.lst #v[.c (.int 1)],.tup #v[.c (.int 1),.c (.int 0)],.lst #v[.c (.int 1)],.tup #v[.c (.int 1),.c (.int 1)],.lst #v[.c (.int 1)]],.c (.int 2)]]),.ex (.me .append (.v 1) #v[.tup #v[.tup #v[.c (.int 1),.c (.int 0)],.dnew,.c (.int 3)]]),.ex (.me .append (.v 1) #v[.tup #v[.tup #v[.c (.int 0),.c (.int 1),.c (.int 2)],.disp #v[.tup #v[.c (.int 2),.c (.int 2)],.lst #v[.c (.int 2)],.tup #v[.c (.int 1),.c (.int 2)],.lst #v[.c (.int 1)],.tup #v[.c (.int 2),.c (.int 1)],.lst #v[.c (.int 1)],.tup #v[.c (.int 1),.c (.int 1)],.lst #v[.c (.int 1),.c (.int 2)]],.c (.int 2)]]),.ex (.me .append (.v 1) #v[.tup #v[.tup #v[.c (.int 0),.c (.int 1),.c (.int 2)],.disp #v[.tup #v[.c (.int 0),.c (.int 0)],.lst #v[.c (.int 0),.c (.int 1)]],.c (.int 2)]]),.ret (.ix (.v 1) (.own "_law_pick" 2 #v[.v 0,.c (.int 9)]))]
noncomputable def eN:Ss:=
 #v[.set 5 (.disp #v[.tup #v[.c (.int 1),.c (.int 0)],.v 2,.tup #v[.c (.int 2),.c (.int 0)],.v 3,.tup #v[.c (.int 2),.c (.int 1)],.v 4]),.loop (.nm 6) (.seq (.bi .list #v[.v 5])) #v[.put (.v 5) (.tup #v[.ix (.v 6) (.c (.int 1)),.ix (.v 6) (.c (.int 0))]) (.ix (.v 0) (.ix (.v 5) (.v 6)))],.loop (.tp [7,8,9]) (.seq (.own "_law_turns" 0 .nil)) #v[.ite (.cmp .notin (.ix (.v 5) (.tup #v[.v 7,.v 9])) (.me .get (.v 1) #v[.tup #v[.ix (.v 5) (.tup #v[.v 7,.v 8]),.ix (.v 5) (.tup #v[.v 8,.v 9])],.lst #v[.ix (.v 5) (.tup #v[.v 7,.v 9])]])) #v[.ret (.c (.bl true))] .nil],.ret (.c (.bl false))]
noncomputable def bW:Ss:=
 #v[.set 3 (.bi .len #v[.v 1]),.set 4 (.lst #v[.lst #v[.tup #v[.c (.int 0)]],.lst #v[.tup #v[.c (.int 0),.c (.int 1)],.tup #v[.c (.int 1),.c (.int 0)]]]),.ex (.me .append (.v 4) #v[.lst #v[.tup #v[.c (.int 0),.c (.int 1),.c (.int 2)],.tup #v[.c (.int 0),.c (.int 2),.c (.int 1)],.tup #v[.c (.int 2),.c (.int 0),.c (.int 1)],.tup #v[.c (.int 2),.c (.int 1),.c (.int 0)]]]),.set 5 (.ix (.v 4) (.op .sub (.v 3) (.c (.int 1)))),.ite (.cmp .eq (.v 1) (.tup #v[.c (.int 0),.c (.int 1),.c (.int 2)])) #v[.set 5 (.own "_law_turns" 0 .nil)] .nil,.set 6 (.ix (.v 5) (.own "_law_pick" 2 #v[.v 0,.bi .len #v[.v 5]])),.set 7 (.op .mul (.lst #v[.c (.int 0)]) (.v 3)),.loop (.nm 8) (.rng #v[.v 3]) #v[.put (.v 7) (.ix (.v 6) (.v 8)) (.ix (.v 6) (.ix (.v 1) (.v 8)))],.set 9 .dnew,.loop (.tp [10,11]) (.seq (.v 2)) #v[.put (.v 9) (.tup #v[.ix (.v 6) (.v 10),.ix (.v 6) (.v 11)]) (.comp (.ix (.v 2) (.v 1)) (.nm 1) (.seq (.ix (.v 2) (.tup #v[.v 10,.v 11]))) .nil [gV,gV,ba 6])],.ret (.tup #v[.bi .tuple #v[.v 7],.v 9])]
noncomputable def cL:Ss:=
 #v[.set 1 (.own "_law_pick" 2 #v[.v 0,.c (.int 7)]),.ite (.cmp .eq (.v 1) (.c (.int 0))) #v[.ret (.own "_law_free_rule" 1 #v[.v 0])] .nil,.ite (.cmp .eq (.v 1) (.c (.int 1))) #v[.ret (.own "_law_one_way_rule" 1 #v[.v 0])] .nil,.asg [2,3,4] (.own "_law_laying_kind" 1 #v[.v 0]),.set 5 (.op .add (.c (.int 1)) (.own "_law_pick" 2 #v[.v 0,.v 4])),.asg [2,3] (.own "_law_numbered" 3 #v[.v 0,.v 2,.v 3]),.set 6 (.own "_law_rule_of" 4 #v[.v 0,.v 5,.v 2,.tup .nil]),.set 7 .dnew,.set 8 (.bi .len #v[.v 2]),.loop (.nm 9) (.rng #v[.op .mul (.op .mul (.v 8) (.v 8)) (.v 8)]) #v[.par 10 11 #v[.op .mod (.v 9) (.v 8),.op .mod (.op .fdiv (.v 9) (.v 8)) (.v 8)],.set 12 (.op .fdiv (.op .fdiv (.v 9) (.v 8)) (.v 8)),.ite (.own "_law_breaks" 5 #v[.v 2,.v 3,.v 10,.v 11,.v 12]) #v[.loop (.nm 13) (.seq (.own "_law_rising" 1 #v[.v 5])) #v[.set 14 (.tup #v[.tup #v[.ix (.v 13) (.c (.int 0)),.tup .nil],.tup #v[.ix (.v 13) (.c (.int 1)),.tup #v[.v 10]]]),.put (.v 7) (.own "_law_figure" 2 #v[.v 6,.op .add (.v 14) (.tup #v[.tup #v[.ix (.v 13) (.c (.int 2)),.tup #v[.v 11,.v 12]]])]) (.c (.bl true))]] .nil],.ret (.tup #v[.ix (.v 6) (.c (.int 0)),.ix (.v 6) (.c (.int 1)),.bi .tuple #v[.bi .sorted #v[.v 7]]])]
noncomputable def eO:Ss:=
 #v[.set 1 (.lst .nil),.loop (.nm 2) (.rng #v[.v 0]) #v[.loop (.nm 3) (.rng2 #v[.v 2,.v 0]) #v[.set 1 (.op .add (.v 1) (.comp (.tup #v[.v 2,.v 3,.v 1]) (.nm 1) (.rng2 #v[.v 3,.v 0]) .nil [gV,gV,ba 2,ba 3]))]],.ret (.v 1)]
noncomputable def di:Ss:=
 #v[.asg [1,2] (.own "_law_sizes" 1 #v[.v 0]),.set 3 (.own "_law_rule_of" 4 #v[.v 0,.v 1,.own "_law_backs" 2 #v[.v 0,.v 2],.tup .nil]),.set 5 (.comp (.v 1) (.nm 1) (.rng #v[.v 2]) #v[.cmp .eq (.ix (.ix (.ix (.v 2) (.c (.int 1))) (.v 1)) (.c (.int 1))) (.v 1)] [gV,gV,ba 3]),.ite (.or (.cmp .eq (.v 5) (.lst .nil)) (.cmp .eq (.v 2) (.c (.int 1)))) #v[.ret (.v 3)] .nil,.set 6 (.ix (.v 5) (.own "_law_pick" 2 #v[.v 0,.bi .len #v[.v 5]])),.set 7 .dnew,.loop (.nm 4) (.rng #v[.own "_law_pick" 2 #v[.v 0,.c (.int 9)]]) #v[.set 8 (.own "_law_free_three" 3 #v[.v 0,.v 1,.v 2]),.ite (.and (.cmp .ne (.ix (.ix (.ix (.v 8) (.c (.int 1))) (.c (.int 1))) (.c (.int 0))) (.v 6)) (.cmp .notin (.v 6) (.ix (.ix (.v 8) (.c (.int 2))) (.c (.int 1))))) #v[.put (.v 7) (.own "_law_figure" 2 #v[.v 3,.v 8]) (.c (.bl true))] .nil],.ret (.tup #v[.ix (.v 3) (.c (.int 0)),.ix (.v 3) (.c (.int 1)),.bi .tuple #v[.bi .sorted #v[.v 7]]])]
noncomputable def cx:Ss:=
 #v[.set 1 (.op .add (.c (.int 1)) (.own "_law_pick" 2 #v[.v 0,.c (.int 3)])),.set 2 (.comp (.tup #v[.tup #v[.v 1,.tup .nil],.tup #v[.v 1,.tup #v[.c (.int 0)]],.tup #v[.v 1,.tup #v[.c (.int 0),.c (.int 0)]]]) (.nm 1) (.rng #v[.v 1]) #v[.cmp .eq (.own "_law_pick" 2 #v[.v 2,.c (.int 2)]) (.c (.int 0))] [gV,gV,ba 0]),.ret (.own "_law_rule_of" 4 #v[.v 0,.v 1,.tup #v[.c (.int 0)],.v 2])]
noncomputable def bP:Ss:=
 #v[.ite (.cmp .is (.v 1) (.c .non)) #v[.ret (.cmp .is (.v 0) (.c .non))] .nil,.ite (.or (.isi "bool" (.v 1)) (.isi "bool" (.v 0))) #v[.ret (.and (.isi "bool" (.v 1)) (.and (.isi "bool" (.v 0)) (.cmp .eq (.v 0) (.v 1))))] .nil,.ite (.isi "int" (.v 1)) #v[.ret (.and (.isi "int" (.v 0)) (.cmp .eq (.v 0) (.v 1)))] .nil,.ite (.isi "str" (.v 1)) #v[.ret (.and (.isi "str" (.v 0)) (.cmp .eq (.v 0) (.v 1)))] .nil,.ite (.or (.cmp .ne (.isi "tuple" (.v 1)) (.isi "tuple" (.v 0))) (.cmp .ne (.isi "list" (.v 1)) (.isi "list" (.v 0)))) #v[.ret (.c (.bl false))] .nil,.ret (.and (.cmp .eq (.bi .len #v[.v 0]) (.bi .len #v[.v 1])) (.bi .all #v[.comp (.own "_law_alike" 2 #v[.ix (.v 3) (.v 1),.ix (.v 2) (.v 1)]) (.nm 1) (.rng #v[.bi .len #v[.v 1]]) .nil [gV,gV,ba 1,ba 0]]))]
noncomputable def Is (defs:Kr (KZ×Df))(f:KZ)(np nn:KC)(b:Ss):Prop:=∃df:Df,defs.lookup f=ba df/\df.ps.length=np/\df.N.length=nn/\df.body=b
theorem az {defs:Kr (KZ×Df)}{fuel d:KC}{f:KZ}{np nn:KC}{b:Ss}{ws:Kr W}{S:aa}{Q:QW}(h:Is defs f np nn b)(hl:ws.length=np)(ok:ip b=true)
  (hb:∀Q':QO,(∀w S',Q (w,S')->Q' (.rt w,S'))->wZ (ar defs fuel d) fuel b (ws.map ba++Lo (nn - np) gV) S Q'):wO (bw (ar defs fuel (d+1)) f np ws S) Q:=by
 obtain⟨df,h1,h2,h3,h4⟩:=h;subst h4;refine FY h1 hl (hl.trans h2.symm) ok λQ' hR=>?_
 have:=hb Q' hR;unfold gp;rw[h3,hl];exact this
structure Gen (defs:Kr (KZ×Df)):Prop where
 pick:Is defs ("_law_pick" : KZ) 2 4 dt
 letters:Is defs ("_law_letters" : KZ) 2 2 dW
 name:Is defs ("_law_name" : KZ) 2 3 gr
 names:Is defs ("_law_names" : KZ) 2 7 dz
 between:Is defs ("_law_between" : KZ) 4 4 dX
 part:Is defs ("_law_part" : KZ) 3 6 gv
 turns:Is defs ("_law_turns" : KZ) 0 0 gQ
 figure:Is defs ("_law_figure" : KZ) 2 2 eM
 backs:Is defs ("_law_backs" : KZ) 2 3 fK
 rule_of:Is defs ("_law_rule_of" : KZ) 4 6 dY
 free_three:Is defs ("_law_free_three" : KZ) 3 5 cX
 sizes:Is defs ("_law_sizes" : KZ) 1 2 fL
 any_rule:Is defs ("_law_any_rule" : KZ) 1 6 dI
 laying_kind:Is defs ("_law_laying_kind" : KZ) 1 2 cK
 breaks:Is defs ("_law_breaks" : KZ) 5 10 eN
 numbered:Is defs ("_law_numbered" : KZ) 3 12 bW
 laying_rule:Is defs ("_law_laying_rule" : KZ) 1 15 cL
 rising:Is defs ("_law_rising" : KZ) 1 4 eO
 free_rule:Is defs ("_law_free_rule" : KZ) 1 9 di
 one_way_rule:Is defs ("_law_one_way_rule" : KZ) 1 3 cx
structure FlA (S:aa)(r q:KC)(ns:Kr KO)(i c x n:KO):Prop where
 at_r:S[r]?=ba (.lst [.ref q,.int i,.int c,.int x,.int n])
 at_q:S[q]?=ba (.lst (ns.map W.int))
 lt:q < r
 i0:0<=i
 c0:0<=c
 x0:0<=x
 x1:x < 2147483647
theorem FlA.ne {S:aa}{r q:KC}{ns:Kr KO}{i c x n:KO}(h:FlA S r q ns i c x n):q≠r:=K7 h.lt
noncomputable def Fl (S:aa)(r:KC):Prop:=∃(q:KC) (ns:Kr KO) (i c x n:KO),FlA S r q ns i c x n
theorem FlA.put {S:aa}{r q:KC}{ns:Kr KO}{i c x n i' c' x' n':KO}(h:FlA S r q ns i c x n)(h1:0<=i')(h2:0<=c')(h3:0<=x')(h4:x' < 2147483647):FlA (S.set r (.lst [.ref q,.int i',.int c',.int x',.int n'])) r q ns i' c' x' n':=
 #[bV h.at_r,by rw[bN (Ne.symm h.ne)]; exact h.at_q,h.lt,h1,h2,h3,h4]
theorem Fl.keep {S S':aa}{r:KC}(h:Fl S r)(h1:S'[r]?=S[r]?)(k:Kp r S S'):Fl S' r:=
 let ⟨q,ns,i,c,x,n,f⟩:=h; #[q,ns,i,c,x,n,by rw[h1]; exact f.at_r,k.get _ _ f.ne f.at_q,f.lt,f.i0,f.c0,f.x0,f.x1]
theorem Fl.lt {S:aa}{r:KC}(h:Fl S r):r < S.length:=let ⟨_,_,_,_,_,_,f⟩:=h; cr f.at_r
structure Ka (S S':aa):Prop where
 get:∀(j:KC) (o:O),S[j]?=ba o->S'[j]?=ba o
 len:S.length<=S'.length
theorem Ka.refl {S:aa}:Ka S S:=#[λ_ _ h=>h,KH _]
theorem Ka.trans {S S' S'':aa}(a:Ka S S')(b:Ka S' S''):Ka S S'':=#[λj o h=>b.get j o (a.get j o h),KQ a.len b.len]
theorem Ka.push {S:aa}{o:O}:Ka S (S++[o]):=#[λj u h=>aq h,by simp]
theorem Ka.late {t:KC}{S0 S:aa}{o:O}(a:Ka S0 S)(h:S0.length<=t):Ka S0 (S.set t o):=
 #[λj u e=>by have:=cr e; rw[bN ∅]; exact a.get j u e,by simpa using a.len]
theorem Ka.kp {S S':aa}(a:Ka S S')(r:KC):Kp r S S':=#[λj o _ h=>a.get j o h,a.len]
theorem Fl.ka {S S':aa}{r:KC}(h:Fl S r)(k:Ka S S'):Fl S' r:=h.keep (by obtain⟨q,ns,i,c,x,n,f⟩:=h; rw[k.get _ _ f.at_r,f.at_r]) (k.kp r)
theorem Fl.own {S:aa}{r t:KC}{o:O}(h:Fl S r)(ht:r < t):Fl (S.set t o) r:=by
 obtain⟨q,ns,i,c,x,n,f⟩:=h;have:=f.lt;exact#[q,ns,i,c,x,n,by rw[bN (Lx ‹_›)]; exact f.at_r,by rw[bN ∅]; exact f.at_q,f.lt,f.i0,f.c0,f.x0,f.x1]
theorem fA {S:aa}{r:KC}{xs:Kr W}{i:KC}{w:W}{Q:QW}(h:S[r]?=ba (.lst xs))(hw:xs[i]?=ba w)(q:Q (w,S)):wO (tN (.ref r) (.int (i:KO)) S) Q:=ab (Ar h (KL i) (by rw[KN]; exact hw)) q
theorem pg {S:aa}{r:KC}{xs:Kr W}{i:KC}{w:W}{Q:aa->Prop}(h:S[r]?=ba (.lst xs))(hi:UD (i+1) xs.length=true)(q:Q (S.set r (.lst (xs.set i w)))):wO (jn (.ref r) (.int (i:KO)) w S) Q:=ab (As h (KL i) (by rw[KN]; exact KU hi)) (by rw[KN]; exact q)
section
variable{defs:Kr (KZ×Df)}{fuel d:KC}{S:aa}{r:KC}{Q:QW}
theorem bx (hd:Is defs ("_law_pick" : KZ) 2 4 dt){m:KO}(hf:Fl S r)(h0:0 < m)(h1:m < 1073741824)(k:∀v S',0<=v->v < m->Fl S' r->Kp r S S'->Q (.int v,S')) :
  wO (bw (ar defs fuel (d+1)) "_law_pick" 2 [.ref r,.int m] S) Q:=by
 obtain⟨q,ns,i,c,x,n,f⟩:=hf;refine az hd rfl rfl λQ' hR=>?_
 replace k:∀v S',0<=v->v < m->Fl S' r->Kp r S S'->Q' (.rt (.int v),S'):=λv S' a b c e=>hR _ _ (k v S' a b c e)
 clear hR;show wZ _ _ dt [ba (.ref r),ba (.int m),gV,gV] S Q';have cf:∀(S1:aa) (w2:Kz W) (i1 c1 x1 n1:KO),FlA S1 r q ns i1 c1 x1 n1->Kp r S S1->wZ (ar defs fuel d) fuel (match dt with|.cons _ ss=>ss|.nil=>.nil) [ba (.ref r),ba (.int m),w2,gV] S1 Q':=by
  intro S1 w2 i1 c1 x1 n1 f1 k1;dsimp only[dt];refine st ?_;dsimp only[wS,wT,wE,wV,wG];refine fA (i:=2) f1.at_r rfl ?_;dsimp only[Dh,wO,wB];refine au (Q0:=Q') (λhg Q2 hn hr=>?_) (λhg Q2 hn hr=>?_)
  ·clear hn;refine st ?_;dsimp only[wS,wE,wV,wG];refine fA (i:=2) f1.at_r rfl (ab (jt h0) ?_);refine st ?_;dsimp only[wS,wE,wV,wG,KP];refine fA (i:=2) f1.at_r rfl (ab (iS h0 h1) (pg (i:=2) f1.at_r rfl ?_));refine st ?_;dsimp only[wS,wE,wV,wG,KP];exact hr _ _ (k _ _ (Nj _ ∅) (Nc _ h0) #[q,ns,i1,c1 / m,x1,n1,f1.put f1.i0 (OR f1.c0 ∅) f1.x0 f1.x1] (k1.trans .set))
  ·refine cj (hn _ _ ?_);clear hn hr;have f2:FlA (S1.set r (.lst [.ref q,.int i1,.int c1,.int x1,.int (n1+1)])) r q ns i1 c1 x1 (n1+1):=f1.put f1.i0 f1.c0 f1.x0 f1.x1;refine st ?_;dsimp only[wS,wE,wV,wG];refine fA (i:=4) f1.at_r rfl ?_;dsimp only[d7,wO];refine pg (i:=4) f1.at_r rfl ?_;refine st ?_;dsimp only[wS,wE,wV,wG,KP];refine fA (i:=3) f2.at_r rfl (ab (sG #v[] #v[]) ?_)
   dsimp only[d7,wO];refine fA (i:=4) f2.at_r rfl ?_;dsimp only[d7,wO];refine(pg (i:=3) f2.at_r rfl ?_);have f3:FlA ((S1.set r (.lst [.ref q,.int i1,.int c1,.int x1,.int (n1+1)])).set r (.lst [.ref q,.int i1,.int c1,.int ((x1*48271+12820163+(n1+1)) % 2147483647),.int (n1+1)])) r q ns i1 c1 ((x1*48271+12820163+(n1+1)) % 2147483647) (n1+1):=f2.put f1.i0 f1.c0 (Nj _ #v[]) (Nc _ #v[])
   dsimp only[KP];generalize(x1*48271+12820163+(n1+1)) % 2147483647=y at f3 ⊢;have b1:y / 65521+7919 < 2 ^ 64:=by
    have:=f3.x1;have:=Int.ediv_le_self 65521 f3.x0;omega
   have b2 : -(2 ^ 64) < y / 65521+7919:=by
    have:=OR f3.x0 (show(0:KO)<=65521 by decide)
    omega
   refine st ?_;dsimp only[wS,wE,wV,wG,KP];refine fA (i:=3) f3.at_r rfl (ab (jt #v[]) ?_)
   dsimp only[d7,wO];refine fA (i:=3) f3.at_r rfl ?_;dsimp only[d7,wO];refine ab (sG b2 b1) ?_;refine ab (jt h0) ?_;exact k _ _ (Nj _ ∅) (Nc _ h0) #[q,ns,_,_,_,_,f3] (k1.trans (Kp.set.trans .set))
 dsimp only[dt]at cf ⊢;refine st ?_;dsimp only[wS,wT,wE,wV,wG,wA];refine fA (i:=2) f.at_r rfl ?_;dsimp only[iT,wO,wB];have skip:∀Q2:QO,(∀ρ' S',wZ (ar defs fuel d) fuel _ ρ' S' Q'->Q2 (.nx ρ',S'))->Q2 (.nx [ba (.ref r),ba (.int m),gV,gV],S):=λQ2 hn=>hn _ _ (cf S gV i c x n f .refl)
 refine#[λ_=>?_,λ_ Q2 hn hr=>#[λz=>(by cases z),λ_=>(cj (skip Q2 hn)).out]]
 refine fA (i:=1) f.at_r rfl (fA (i:=0) f.at_r rfl (ab (Ef f.at_q) ?_));dsimp only[Dg,wO,wB];refine au (Q0:=Q') (λhl Q2 hn _=>?_) (λhg Q2 hn hr=>cj (skip Q2 hn))
 clear skip;have hl':i.toNat < ns.length:=by
  have:=LH hl;rw[Kt]at this;have:=f.i0;omega
 have hcell:(ns.map W.int)[i.toNat]?=ba (.int ns[i.toNat]):=by simp[hl']
 generalize ns[i.toNat]=cell at hcell;have f1:FlA (S.set r (.lst [.ref q,.int (i+1),.int c,.int x,.int n])) r q ns (i+1) c x n:=f.put (by have:=f.i0; omega) f.c0 f.x0 f.x1
 refine st ?_;dsimp only[wS,wE,wV,wG];refine fA (i:=0) f.at_r rfl (fA (i:=1) f.at_r rfl (ab (Ar f.at_q f.i0 hcell) ?_));refine st ?_;dsimp only[wS,wE,wV,wG,KP];refine fA (i:=1) f.at_r rfl ?_;dsimp only[d7,wO];refine pg (i:=1) f.at_r rfl ?_;refine st ?_;dsimp only[wS,wT,wE,wV,wG,FW,JK,wO,wB];refine au (Q0:=Q') (λhg Q3 hn3 _=>?_) (λhg Q3 hn3 _=>?_)
 ·refine st ?_;dsimp only[wS,wE,wV,wG];refine pg (i:=2) f1.at_r rfl (cj (hn3 _ _ (cj (hn _ _ ?_))));exact cf _ _ (i+1) cell x n (f1.put f1.i0 (by have:=LH hg; omega) f.x0 f.x1) (Kp.set.trans .set)
 ·refine st ?_;dsimp only[wS,wE,wV,wG];refine fA (i:=3) f1.at_r rfl (ab (sG #v[] #v[]) (ab (jt #v[]) ?_))
  dsimp only[d7,wO];refine pg (i:=3) f1.at_r rfl (cj (hn3 _ _ (cj (hn _ _ ?_))));exact cf _ _ (i+1) c _ n (f1.put f1.i0 f.c0 (Nj _ #v[]) (Nc _ #v[])) (Kp.set.trans .set)
end
noncomputable def dr:KC->Ss->Ss
 | 0,ss=>ss
 | n+1,.cons _ ss=>dr n ss
 | _,.nil=>.nil
theorem aX {α:Type}{a:α}{Q:α->Prop}:wO (ba a) Q=Q a:=rfl
theorem aW {Φ:KZ->FF}{fuel:KC}{ρ:Fm}{S:aa}{Q:QO}{s:Sm}{ss:Ss}(h:∀K:Fm->aa->Prop,(∀ρ' S',wZ Φ fuel ss ρ' S' Q->K ρ' S')->wS Φ fuel s ρ S K Q):wZ Φ fuel (.cons s ss) ρ S Q:=st (h _ λ_ _ h=>h)
theorem Ih {Φ:KZ->FF}{fuel:KC}{ρ:Fm}{S:aa}{i:KC}{e:E}{K:Fm->aa->Prop}{Q:QO}(h:wE Φ e ρ S λp=>K (ρ.set i (ba p.1)) p.2):wS Φ fuel (.set i e) ρ S K Q:=h
theorem jw {n:KC}(h:UD n 1000=true):n<=sizeLine:=KQ (KU h) (by rw[LD]; decide)
theorem lh {n:KC}(h:n<=1000):n<=sizeLine:=KQ h (by rw[LD]; decide)
theorem fM {S:aa}{r:KC}{xs:Kr W}{i:KO}{w:W}{Q:QW}(h:S[r]?=ba (.lst xs))(h0:0<=i)(hw:xs[i.toNat]?=ba w)(q:Q (w,S)):wO (tN (.ref r) (.int i) S) Q:=ab (Ar h h0 hw) q
theorem am {S:aa}{xs:Kr W}{i:KO}{w:W}{Q:QW}(h0:0<=i)(hw:xs[i.toNat]?=ba w)(q:Q (w,S)):wO (tN (.tup xs) (.int i) S) Q:=ab (HV h0 hw) q
theorem ph {S:aa}{r:KC}{xs:Kr W}{y:W}{Q:QW}(h:S[r]?=ba (.lst xs))(hl:xs.length < 1000)(q:Q (.non,S.set r (.lst (xs++[y])))):wO (Me.append.fn (.ref r) [y] S) Q:=ab (vU h (Lc hl (jw rfl))) q
theorem fN {S:aa}{r:KC}{xs:Kr W}{Q:QW}(h:S[r]?=ba (.lst xs))(q:Q (.int xs.length,S)):wO (Bi.len.fn [.ref r] S) Q:=ab (Ef h) q
theorem bH {S:aa}{xs:Kr W}{Q:QW}(q:Q (.int xs.length,S)):wO (Bi.len.fn [.tup xs] S) Q:=q
theorem fZ {S:aa}{r:KC}{xs:Kr W}{Q:QW}(h:S[r]?=ba (.lst xs))(q:Q (.tup xs,S)):wO (Bi.tuple.fn [.ref r] S) Q:=ab (HW h) q
section
variable{Φ:KZ->FF}{fuel:KC}{ρ:Fm}{S S1:aa}{K:Fm->aa->Prop}
theorem cO {t:E}{a:Ss}{Q:QO}(ht:∀Q:QB,Q (false,S1)->wT Φ t ρ S Q)(h:K ρ S1):wS Φ fuel (.ite t a .nil) ρ S K Q:=by
 dsimp only[wS];exact ht _ λQ' h1 h2=>#[λz=>(by cases z),λ_=>(cj (h1 _ _ h)).out]
theorem mG {t:E}{a b:Ss}{Q:QO}(ht:∀Q:QB,Q (true,S1)->wT Φ t ρ S Q)(h:∀Q':QO,(∀ρ' S',K ρ' S'->Q' (.nx ρ',S'))->(∀w S',Q (.rt w,S')->Q' (.rt w,S'))->wZ Φ fuel a ρ S1 Q'):wS Φ fuel (.ite t a b) ρ S K Q:=by
 dsimp only[wS];exact ht _ λQ' h1 h2=>#[λ_=>(h Q' h1 λw S' q=>h2 (.rt w) S' (λ_ z=>nomatch z) q).out,λz=>(by cases z)]
end
theorem Av:∀k:Fin 26,("abcdefghijklmnopqrstuvwxyz" : KZ).cps.toList[k.val]?=ba (97+k.val):=by decide
theorem vX:("abcdefghijklmnopqrstuvwxyz" : KZ).length<=sizeLine:=by decide
theorem mH:∀cs:Kr KC,jQ (cs.map λc=>W.str #[[c].toArray])=ba (cs.map λc=>(#[[c].toArray] : KZ))
 | []=>rfl
 | c::cs=>by simp[jQ,mH cs]
theorem pi:∀cs:Kr KC,((cs.map λc=>(#[[c].toArray] : KZ)).map (·.length)).sum=cs.length
 | []=>rfl
 | c::cs=>by
  have:=pi cs;simp only[L0,List.sum_cons,LJ];rw[this];show 1+cs.length=_;omega
theorem gw (a b:KZ):(a++b).cps.toList=a.cps.toList++b.cps.toList:=OU
theorem mI:∀cs:Kr KC,(Ux "" (cs.map λc=>(#[[c].toArray] : KZ))).cps.toList=cs
 | []=>rfl
 | [c]=>rfl
 | c::d::cs=>by
  have ih:=mI (d::cs);show(((#[[c].toArray] : KZ)++("" : KZ)++Ux "" ((d::cs).map λc=>(#[[c].toArray] : KZ))).cps).toList=_
  rw[gw,gw,ih];rfl
theorem sH (cs:Kr KC):(TK "" (cs.map λc=>(#[[c].toArray] : KZ))).cps.toList=cs:=by
 show(Ue "" _).cps.toList=_;rw[StrLaws.glued_eq_join];exact mI cs
noncomputable def vY (y:KZ):Prop:=∀c∈y.cps.toList,97<=c/\c<=122
noncomputable def Name (y:KZ):Prop:=1<=y.cps.toList.length/\y.cps.toList.length<=8/\vY y
theorem vZ (y:KZ):y.length=y.cps.toList.length:=by simp[T4]
noncomputable def Aw:Kr KZ:=["markss","mark","way","wayss","bars","ba","somex","eachx","note","no","ands","ors","o","iss"]
theorem xF:∀y∈Aw,Name y:=by
 have h:Aw.all (λy=>decide (1<=y.cps.toList.length/\y.cps.toList.length<=8)&&y.cps.toList.all λc=>decide (97<=c/\c<=122))=true:=by decide
 intro y hy;have:=K2.mp h y hy;rw[KA]at this;obtain⟨a,b⟩:=this;exact#[(LH a).1,(LH a).2,λc hc=>LH (K2.mp b c hc)]
theorem mJ {α:Type}{f:α->W}{xs:Kr α}{i:KC}(h:i < xs.length):∃x∈xs,(xs.map f)[i]?=ba (f x):=#[xs[i],LL _,by rw[KD,KI h]; rfl]
section
variable{defs:Kr (KZ×Df)}{fuel d:KC}{S:aa}{r:KC}{Q:QW}
theorem j5 (G:Gen defs){m:KO}(hf:Fl S r)(h0:0<=m)(h1:m<=1000)(k:∀y S',y.cps.toList.length=m.toNat->vY y->Fl S' r->Kp r S S'->Q (.str y,S')) :
  wO (bw (ar defs fuel (d+2)) "_law_letters" 2 [.ref r,.int m] S) Q:=by
 refine az G.letters rfl rfl λQ' hR=>?_
 show wZ _ _ dW [ba (.ref r),ba (.int m)] S Q';dsimp only[dW];refine st ?_;dsimp only[wS,wE,wA];refine#[rfl,dH m (λi ys ρ S'=>(∃a,ρ=[gV,a,ba (.ref r)])/\Fl S' r/\Kp r S S'/\∃cs:Kr KC,ys=cs.map (λc=>W.str #[[c].toArray])/\cs.length=i/\∀c∈cs,97<=c/\c<=122) rfl rfl rfl #[∅,∅] #[rfl,#[gV,rfl],hf,.refl,[],rfl,rfl,λ_ h=>nomatch h] ?_ ?_]
 ·rintro i ys ρ S1 hi ⟨⟨a,rfl⟩,f1,k1,cs,rfl,hl,hc⟩;dsimp only[jb,wC,wE,wA,wV,wG,KP];refine#[λ_=>bx (d:=d) G.pick f1 #v[] #v[] λv S2 h2 h3 f2 k2=>?_,λz=>by cases z]
  have ha:=Av #[v.toNat,∅]
  refine ab (Ee vX h2 ha) #[#[_,rfl],f2,k1.trans k2,cs++[97+v.toNat],by simp,by simp[hl],λc hx=>?_]
  rcases Ln.mp hx with h|h
  ·exact hc c h
  ·rw[KS.mp h]; omega
 ·rintro ys ρ S1 ⟨_,f1,k1,cs,rfl,hl,hc⟩;refine#[by rw[Kt,hl,LD]; omega,?_]
  have hz:((cs.map λc=>(#[[c].toArray] : KZ)).map (·.length)).sum+(cs.map λc=>(#[[c].toArray] : KZ)).length*("" : KZ).length<=16777216:=by
   rw[pi,show("" : KZ).length=0 from rfl,P3]
   omega
  refine ab (a:=(.str (TK "" (cs.map λc=>(#[[c].toArray] : KZ))),S1++[.lst (cs.map λc=>W.str #[[c].toArray])])) ?_ (hR _ _ (k _ _ (by rw[sH,hl]) (λc h=>hc c (by rw[sH]at h; exact h)) (f1.ka .push) (k1.trans .push)))
  simp only[Me.fn,vg,fH,aK ah,mH];rw[La hz]
theorem FZ (G:Gen defs){y:KZ}(hf:Fl S r)(h0:y.cps.toList.length<=6)(h1:vY y)(k:∀z S',Name z->Fl S' r->Kp r S S'->Q (.str z,S')) :
  wO (bw (ar defs fuel (d+3)) "_law_name" 2 [.ref r,.str y] S) Q:=by
 refine az G.name rfl rfl λQ' hR=>?_
 replace k:∀z S',Name z->Fl S' r->Kp r S S'->Q' (.rt (.str z),S'):=λz S' a b c=>hR _ _ (k z S' a b c)
 clear hR;show wZ _ _ gr [ba (.ref r),ba (.str y),gV] S Q';dsimp only[gr];refine aW λK hK=>?_
 dsimp only[wS,wT,wE,wV,wG,HU,wO,wB];refine au (Q0:=Q') (λ_ Q2 _ hr=>?_) (λ_ Q2 hn _=>?_)
 ·refine st ?_;dsimp only[wS,wE,wA,wV,wG];refine bx (d:=d+1) G.pick hf #v[] #v[] λv S1 v0 v1 f1 k1=>?_
  dsimp only[d7,wO];refine j5 (d:=d) G f1 ∅ ∅ λz S2 hz hs f2 k2=>?_
  have hl:(y++z).cps.toList.length=y.cps.toList.length+z.cps.toList.length:=by rw[gw,KG]
  refine ab (FX (by rw[vZ,vZ,LD]; omega)) (hr _ _ (k _ _ #[∅,∅,λc hc=>?_] f2 (k1.trans k2)))
  rw[gw]at hc;exact(Ln.mp hc).elim (h1 c) (hs c)
 ·refine cj (hn _ _ (hK _ _ ?_));clear hn hK;refine aW λK hK=>?_
  dsimp only[wS,wT,wE,wA,wV,wG];refine bx (d:=d+1) G.pick hf #v[] #v[] λv S1 v0 v1 f1 k1=>?_
  dsimp only[iT,wO,wB];refine au (Q0:=Q') (λ_ Q2 _ hr=>?_) (λ_ Q2 hn _=>?_)
  ·refine st ?_;dsimp only[wS,wE,wA,wV,wG,KP];refine st ?_;dsimp only[wS,wE,wA,wV,wG,KP];refine ab (uL (i:=S1.length) (j:=(S1++[_]).length) (aq ah) ah (jw rfl)) ?_;dsimp only;refine st ?_;dsimp only[wS,wE,wA,wV,wG,KP];refine bx (d:=d+1) G.pick (((f1.ka .push).ka .push).ka .push) #v[] #v[] λv S2 v0 v1 f2 k2=>?_
   have e:=k2.get _ _ (by have:=f1.lt; simp only[KG]; omega) ah
   obtain⟨z,hz,ez⟩:=mJ (f:=W.str) (xs:=Aw) (i:=v.toNat) (by show v.toNat < 14; omega)
   exact fM e v0 ez (hr _ _ (k _ _ (xF z hz) f2 (k1.trans (Kp.push.trans (Kp.push.trans (Kp.push.trans k2))))))
  ·refine cj (hn _ _ (hK _ _ ?_));clear hn hK;refine st ?_;dsimp only[wS,wE,wA,wV,wG];refine bx (d:=d+1) G.pick f1 #v[] #v[] λv S2 v0 v1 f2 k2=>?_
   dsimp only[d7,wO];exact j5 (d:=d) G f2 ∅ ∅ λz S3 hz hs f3 k3=>k _ _ #[∅,∅,hs] f3 (k1.trans (k2.trans k3))
end
theorem mK {α:Type}[NM α]:∀(l m:Kr α),l.Nodup->(∀x∈l,x∈m)->l.length<=m.length
 | [],_,_,_=>Mm _
 | x::l,m,hn,hs=>by
  rw[Nh]at hn;have hx:x∈m:=hs x (.head _);have h1:=mK l (m.erase x) hn.2 λy hy=>(List.mem_erase_of_ne (λ(e:y=x)=>hn.1 (by rw[<- e]; exact hy))).mpr (hs y (.tail _ hy))
  rw[List.length_erase_of_mem hx]at h1;have:=List.length_pos_of_mem hx;rw[LJ]; omega
noncomputable def nQ (k:KC):KZ:=#[[97+k].toArray]
theorem Ax {a b:KC}(h:nQ a=nQ b):a=b:=by
 unfold nQ at h;injection h with h
 injection h with h
 injection h with h
 omega
theorem sI (s:KC):((K9 s).map nQ).Nodup:=by
 unfold Ua;rw[Pr];exact List.nodup_range.imp λh e=>h (Ax e)
theorem xG {k:KC}(h:k < 26):Name (nQ k):=#[KH 1,(by decide:1<=8),λc hc=>by
 cases KS.mp (show c∈[97+k]from hc)
 omega]
noncomputable def iV:Kr KZ:=["marks","ways","bar","some","each","not","and","or","is"]
theorem Ay (zs:Kr KZ):(zs.map W.str).all cC=true:=by
 rw[K2];intro x hx;obtain⟨z,_,rfl⟩:=K6.mp hx;rfl
theorem Dm (zs:Kr KZ)(y:KZ):((zs.map W.str).any λz=>yT z (.str y))=decide (y∈zs):=by
 induction zs with
 | nil=>rfl
 | cons z zs ih=>
  rw[L0,M7,ih];show((z==y)||_)=_
  by_cases h:z=y
  ·subst h; simp
  ·have:(z==y)=false:=by simpa using h
   rw[this,Pz];have h2:(y∈z::zs)=(y∈zs):=by simp[Ne.symm h]
   simp only[h2]
theorem xH {S:aa}{t:KC}{zs:Kr KZ}{y:KZ}(h:S[t]?=ba (.lst (zs.map W.str))):cM .isin (.str y) (.ref t) S=ba (.bl (decide (y∈zs)),S):=by
 simp only[cM,lK h,iL,E8,Cg,fH,aK h];rw[La (by rw[Ay]; rfl),Dm]
 rfl
theorem F0 {S:aa}{k:KC}:gJ .mul (.str #[[k].toArray]) (.int 1) S=ba (.str #[[k].toArray],S):=by
 simp only[gJ,yO];rw[La #[#v[],#v[],by show 1*1<=sizeLine; rw[LD]; decide]]
 rfl
theorem gR {xs:Kr W}{k:KC}:jO xs gV (ba (k:KO))=xs.take k:=by
 unfold jO;rw[HT.lR,HT.u4,Qt,Tu]
 by_cases h:k<=xs.length
 ·rw[Se h]
 ·rw[RX ∅,M6 (KH _),M6 ∅]
theorem sJ {xs:Kr W}{k:KC}:jO xs (ba (k:KO)) gV=xs.drop k:=by
 unfold jO;rw[HT.lR,HT.u4]
 by_cases h:k<=xs.length
 ·rw[Se h,M6 (by rw[Nv]; exact KH _)]
 ·rw[RX ∅,Ou (KH _),Ou ∅]; exact List.take_nil
section
variable{defs:Kr (KZ×Df)}{fuel d:KC}{S:aa}{r:KC}{Q:QW}
theorem Do {Φ:KZ->FF}{m z w:W}{t:KC}{y:KZ}{zs:Kr KZ}{K:Fm->aa->Prop}{Q:QO}(hfu:20 < fuel)(hy:Name y)(e:S[t]?=ba (.lst (zs.map W.str)))(hl:zs.length<=15)
  (k:∀y s,Name y->y∉zs->K [ba (.ref r),ba m,ba z,ba (.ref t),ba w,ba (.str y),ba s] S) :
  wS Φ fuel (.whl (.cmp .isin (.v 5) (.v 3)) #v[.set 5 (.op .mul (.ix (.c (.str "abcdefghijklmnopqrstuvwxyz")) (.op .mod (.v 6) (.c (.int 26)))) (.op .add (.c (.int 1)) (.op .fdiv (.v 6) (.c (.int 26))))),.set 6 (.op .add (.v 6) (.c (.int 1)))])
   [ba (.ref r),ba m,ba z,ba (.ref t),ba w,ba (.str y),ba (.int 0)] S K Q:=by
 dsimp only[wS];refine Ei (λmm ρ S'=>∃(s:KC) (y:KZ),ρ=[ba (.ref r),ba m,ba z,ba (.ref t),ba w,ba (.str y),ba (.int s)]/\S'=S/\mm+s=18/\s<=16/\Name y/\(0 < s->y=nQ (s - 1))/\∀k,k+1 < s->nQ k∈zs) 18 rfl rfl ∅ #[0,y,rfl,rfl,rfl,by exact KU rfl,hy,λh=>absurd h ∅,λk h=>absurd h ∅] ?_
 rintro mm ρ S' ⟨s,y',rfl,rfl,hm,hs,hy',hc1,hc2⟩;dsimp only[wT,wE,wV,wG];refine ab (xH e) #[λhin=>?_,λhout=>k _ _ hy' (MQ hout)]
 have all:∀k,k < s->nQ k∈zs:=λk hk=>by
  by_cases h:k+1 < s
  ·exact hc2 k h
  ·have e:k=s - 1:=∅
   rw[e,<- hc1 (Rz ‹_›)]; exact LH hin
 have hs15:s<=15:=by
  have h7:=mK ((K9 s).map nQ) zs (sI s) λx hx=>by
   obtain⟨k,hk,rfl⟩:=K6.mp hx;exact all k (Ll.mp hk)
  rw[Kt,Ls]at h7;exact KQ ‹_› ‹_›
 refine#[mm - 1,∅,λQ2 hn _=>?_]
 have em:((s:KO) % 26)=s:=Int.emod_eq_of_lt ∅ ∅
 have ed:((s:KO) / 26)=0:=Int.ediv_eq_zero_of_lt ∅ ∅
 refine st ?_;dsimp only[wS,wE,wV,wG,KP];refine ab (jt #v[]) ?_
 rw[em];refine ab (Ee (i:=(s:KO)) vX (KL s) (Av #[s,by exact MA ‹_› (KU rfl)])) ?_
 have e2:gJ .fdiv (.int s) (.int 26) S'=ba (.int 0,S'):=by rw[iS ∅ ∅,ed]
 dsimp only;rw[e2];dsimp only[d7,aX];rw[show(1:KO)+0=1 from rfl]
 refine ab F0 ?_;refine st ?_;dsimp only[wS,wE,wV,wG,KP,d7,aX];exact cj (hn _ _ #[s+1,nQ s,rfl,rfl,∅,∅,xG (by exact MA ‹_› (KU rfl)),λ_=>rfl,λk hk=>all k ∅])
theorem Dp (hfu:20 < fuel)(G:Gen defs){m:KC}(hf:Fl S r)(h1:m<=6)(k:∀(ys:Kr KZ) S',ys.length=m->(∀y∈ys,Name y)->(iV++ys).Nodup->Fl S' r->Kp r S S'->Q (.tup (ys.map W.str),S')) :
  wO (bw (ar defs fuel (d+4)) "_law_names" 2 [.ref r,.int m] S) Q:=by
 refine az G.names rfl rfl λQ' hR=>?_
 replace k:∀(ys:Kr KZ) S',ys.length=m->(∀y∈ys,Name y)->(iV++ys).Nodup->Fl S' r->Kp r S S'->Q' (.rt (.tup (ys.map W.str)),S'):=λz S' a b c e f=>hR _ _ (k z S' a b c e f)
 clear hR;show wZ _ _ dz [ba (.ref r),ba (.int m),gV,gV,gV,gV,gV] S Q';have cf:∀(z:KZ) (S2:aa),z.cps.toList.length<=6->vY z->Fl S2 r->Kp r S S2->wZ (ar defs fuel (d+3)) fuel (dr 2 dz) [ba (.ref r),ba (.int m),ba (.str z),gV,gV,gV,gV] S2 Q':=by
  intro z S2 hz1 hz2 f2 k2;dsimp only[dr,dz];have hrt:=f2.lt;have hSt:=k2.len;refine st ?_;dsimp only[wS,wE,wA,wV,wG,KP];refine aW λK hK=>?_
  refine cJ (m:KO) (λi ρ S'=>∃a4 a5 a6 ys,ρ=[ba (.ref r),ba (.int m),ba (.str z),ba (.ref S2.length),a4,a5,a6]/\S'[S2.length]?=ba (.lst ((iV++ys).map W.str))/\ys.length=i/\(∀y∈ys,Name y)/\(iV++ys).Nodup/\Fl S' r/\Kp r S S') rfl rfl ∅ ?_ ?_ ?_
  ·dsimp only[wE,wV,wG];exact#[rfl,gV,gV,gV,[],rfl,ah,rfl,λ_ h=>(nomatch h),#v[],f2.ka .push,k2.trans .push]
  ·rintro i ρ S3 hi ⟨a4,a5,a6,ys,rfl,e3,hy1,hy2,hy3,f3,k3⟩ Q2 hn _;clear hK;refine st ?_;dsimp only[wS,wE,wA,wV,wG,KP];refine FZ (d:=d) G f3 hz1 hz2 λy S4 hy f4 k4=>?_
   have e4:=k4.get _ _ (Lx ‹_›) e3;refine st ?_;dsimp only[wS,wE,wA,wV,wG,KP];refine st (Do hfu hy e4 (by rw[KG,hy1]; show 9+i<=15; omega) λy' s hy' hnot=>?_)
   refine st ?_;dsimp only[wS,wE,wA,wV,wG,KP];refine#[dG e4,ph e4 (by rw[Kt,KG,hy1]; show 9+i < 1000; omega) ?_]
   refine cj (hn _ _ #[_,_,_,ys++[y'],rfl,?_,by rw[KG,hy1]; rfl,λx hx=>?_,?_,f4.own hrt,(k3.trans k4).late hSt])
   ·rw[bV e4,<- Mu,Lh (l₁:=iV++ys)]; rfl
   ·rcases Ln.mp hx with h|h
    ·exact hy2 x h
    ·rw[KS.mp h]; exact hy'
   ·rw[<- Mu,RD];refine#[hy3,by simp,λa ha b hb e=>?_]
    rw[KS.mp hb]at e;exact hnot (e ▸ ha)
  ·rintro ρ S3 ⟨a4,a5,a6,ys,rfl,e3,hy1,hy2,hy3,f3,k3⟩;refine hK _ _ (st ?_);dsimp only[wS,wE,wA,wV,wG,wP,wN];have hs:re (.ref S2.length) (ba 9) gV S3=ba (.ref S3.length,S3++[.lst (ys.map W.str)]):=by
    have:jO ((iV++ys).map W.str) (ba ((9:KC):KO)) gV=ys.map W.str:=by
     rw[sJ,Lh];exact List.drop_left' rfl
    simp only[re,aK e3];rw[show(ba 9:Kz KO)=ba ((9:KC):KO)from rfl,this]
   refine ab hs (fZ ah (k _ _ ?_ hy2 hy3 (f3.ka .push) (k3.trans .push)));rw[hy1]; exact KN m
 dsimp only[dz];refine st ?_;dsimp only[wS,wE,KP];refine aW λK hK=>?_
 dsimp only[wS,wT,wE,wA,wV,wG];refine bx (d:=d+2) G.pick hf #v[] #v[] λv S1 v0 v1 f1 k1=>?_
 dsimp only[iT,wO,wB];refine au (Q0:=Q') (λ_ Q2 hn _=>?_) (λ_ Q2 hn _=>?_)
 ·refine st ?_;dsimp only[wS,wE,wA,wV,wG,KP];refine bx (d:=d+2) G.pick f1 #v[] #v[] λv S2 v0 v1 f2 k2=>?_
  dsimp only[d7,wO];exact j5 (d:=d+1) G f2 ∅ ∅ λz S3 hz hs f3 k3=>cj (hn _ _ (hK _ _ (cf z S3 ∅ hs f3 (k1.trans (k2.trans k3)))))
 ·exact cj (hn _ _ (hK _ _ (cf "" S1 #v[] (λc hc=>nomatch hc) f1 k1)))
end
noncomputable abbrev Pt:=KO×Kr KO
noncomputable abbrev Wd:=Kr Pt
noncomputable def dA (p:Pt):W:=.tup [.int p.1,.tup (p.2.map W.int)]
noncomputable def aL (u:Wd):W:=.tup (u.map dA)
noncomputable def qA (p:Pt):T:=.tup [.int p.1,.tup (p.2.map T.int)]
noncomputable def dj (u:Wd):T:=.tup (u.map qA)
theorem v4:∀xs:Kr KO,T.ws (xs.map T.int)=xs.map W.int
 | []=>rfl
 | x::xs=>by simp[T.ws,T.w,v4 xs]
theorem Ii (p:Pt):(qA p).w=dA p:=by simp[qA,dA,T.w,T.ws,v4]
theorem Az:∀u:Wd,T.ws (u.map qA)=u.map dA
 | []=>rfl
 | p::u=>by simp[T.ws,Ii,Az u]
theorem AA (u:Wd):(dj u).w=aL u:=by simp[dj,aL,T.w,Az]
theorem Ij (u:Wd):W.t (aL u)=ba (dj u):=by rw[<- AA]; exact T.w_t _
theorem uM:∀us:Kr Wd,T.ws (us.map dj)=us.map aL
 | []=>rfl
 | u::us=>by simp[T.ws,AA,uM us]
theorem AB (us:Kr Wd):W.ts (us.map aL)=ba (us.map dj):=by rw[<- uM]; exact T.ws_ts _
theorem mL:∀xs:Kr KO,T.depths (xs.map T.int)=0
 | []=>rfl
 | x::xs=>by simp[T.depths,T.depth,mL xs]
theorem AC (p:Pt):(qA p).depth=2:=by simp[qA,T.depth,T.depths,mL]
theorem po:∀u:Wd,T.depths (u.map qA)<=2
 | []=>by simp[T.depths]
 | p::u=>by
  have:=po u;simp only[L0,T.depths,AC]; omega
theorem mM (u:Wd):(dj u).depth<=3:=by
 have:=po u;simp only[dj,T.depth]; omega
theorem ic:∀us:Kr Wd,T.depths (us.map dj)<=3
 | []=>by simp[T.depths]
 | u::us=>by
  have:=ic us;have:=mM u;simp only[L0,T.depths]; omega
theorem qB (u:Wd):ik (aL u)=ba (dj u):=by
 unfold ik;rw[Ij];show(if (dj u).isTup=true/\(dj u).depth<=aC then _ else _)=_
 rw[La #[rfl,by have:=mM u; unfold aC; omega]]
mutual
noncomputable def sK:T->T->Lf
 | .int _,.int _=>true
 | .str _,.str _=>true
 | .tup xs,.tup ys=>jx xs ys
 | _,_=>false
noncomputable def jx:Kr T->Kr T->Lf
 | [],_=>true
 | _,[]=>true
 | x::xs,y::ys=>sK x y&&jx xs ys
end
mutual
theorem AD:∀x y:T,sK x y=true->(nI x y).isSome=true
 | .int _,.int _,_=>rfl
 | .str _,.str _,_=>rfl
 | .tup xs,.tup ys,h=>by
  dsimp only[sK]at h;dsimp only[nI];exact v6 xs ys h
 | .int _,.str _,h|.int _,.tup _,h|.str _,.int _,h|.str _,.tup _,h|.tup _,.int _,h|.tup _,.str _,h=>by cases h
theorem v6:∀xs ys:Kr T,jx xs ys=true->(gF xs ys).isSome=true
 | [],[],_=>rfl
 | [],_::_,_=>rfl
 | _::_,[],_=>rfl
 | x::xs,y::ys,h=>by
  dsimp only[jx]at h; simp only[KA]at h
  dsimp only[gF];split
  ·exact v6 xs ys h.2
  ·exact AD x y h.1
end
theorem sL:∀xs ys:Kr KO,jx (xs.map T.int) (ys.map T.int)=true
 | [],_=>rfl
 | _::_,[]=>rfl
 | x::xs,y::ys=>by dsimp only[TM,jx,sK]; simp[sL xs ys]
theorem F1 (p q:Pt):sK (qA p) (qA q)=true:=by dsimp only[qA,sK,jx]; simp[sL]
theorem v8:∀u v:Wd,jx (u.map qA) (v.map qA)=true
 | [],_=>rfl
 | _::_,[]=>rfl
 | p::u,q::v=>by dsimp only[TM,jx]; simp[F1,v8 u v]
theorem F2 (u v:Wd):sK (dj u) (dj v)=true:=by dsimp only[dj,sK]; exact v8 _ _
theorem j6 (us:Kr Wd):iC (us.map dj)=true:=by
 unfold iC;rw[K2];intro x hx;obtain⟨u,_,rfl⟩:=K6.mp hx;rw[K2];intro y hy;obtain⟨v,_,rfl⟩:=K6.mp hy;exact AD _ _ (F2 u v)
theorem AE (us:Kr Wd)(h:∀u∈us,u≠[]):(uq (us.map dj)).isSome=true:=by
 unfold uq;split
 ·rfl
 ·split
  ·rfl
  ·split
   ·rfl
   ·split
    ·rfl
    ·split
     ·rfl
     ·rename_i h5;exfalso;apply h5;rw[K2];intro x hx;obtain⟨u,hu,rfl⟩:=K6.mp hx;cases u with
      | nil=>exact absurd rfl (h [] hu)
      | cons p u=>rfl
noncomputable def gx (bs:Kr KO)(u:Wd)(i j:KC):KO:=if j < i then((u.getD i (0,[])).2).getD j 0 else bs.getD (((u.getD j (0,[])).2).getD i 0).toNat 0
noncomputable def br (bs:Kr KO)(u:Wd)(ps:Kr KC):Wd:=(K9 ps.length).map λk=>((u.getD (ps.getD k 0) (0,[])).1,(ps.take k).map λj=>gx bs u (ps.getD k 0) j)
noncomputable def aA:Kr (Kr KC):=[[0,1,2],[0,2,1],[1,0,2],[1,2,0],[2,0,1],[2,1,0]]
noncomputable def j7 (bs:Kr KO)(u:Wd):Wd:=(aA.map (br bs u)).getD (qc ((aA.map (br bs u)).map dj)) []
noncomputable def bz (n:KZ)(b:KO):W:=.tup [.str n,.int b]
structure GoodW (a n:KC)(u:Wd):Prop where
 mark:∀(k:KC) (p:Pt),u[k]?=ba p->0<=p.1/\p.1 < a
 len:∀(k:KC) (p:Pt),u[k]?=ba p->p.2.length=k
 way:∀(k:KC) (p:Pt),u[k]?=ba p->∀w∈p.2,0<=w/\w < n
noncomputable def GoodB (bs:Kr KO):Prop:=bs=[0]\/bs=[0,1]\/bs=[1,0]\/bs=[0,1,2]\/bs=[1,0,2]\/bs=[0,2,1]
theorem GoodB.rng {bs:Kr KO}(h:GoodB bs):∀k:KC,k < bs.length->∃b:KO,bs[k]?=ba b/\0<=b/\b < bs.length:=by
 rcases h with rfl|rfl|rfl|rfl|rfl|rfl <;> intro k hk
 ·match k,hk with
  | 0,_=>exact#[0,rfl,#v[],#v[]]
 ·match k,hk with
  | 0,_=>exact#[0,rfl,#v[],#v[]]
  | 1,_=>exact#[1,rfl,#v[],#v[]]
 ·match k,hk with
  | 0,_=>exact#[1,rfl,#v[],#v[]]
  | 1,_=>exact#[0,rfl,#v[],#v[]]
 ·match k,hk with
  | 0,_=>exact#[0,rfl,#v[],#v[]]
  | 1,_=>exact#[1,rfl,#v[],#v[]]
  | 2,_=>exact#[2,rfl,#v[],#v[]]
 ·match k,hk with
  | 0,_=>exact#[1,rfl,#v[],#v[]]
  | 1,_=>exact#[0,rfl,#v[],#v[]]
  | 2,_=>exact#[2,rfl,#v[],#v[]]
 ·match k,hk with
  | 0,_=>exact#[0,rfl,#v[],#v[]]
  | 1,_=>exact#[2,rfl,#v[],#v[]]
  | 2,_=>exact#[1,rfl,#v[],#v[]]
theorem getD_some {α:Type}{xs:Kr α}{i:KC}{x d:α}(h:xs[i]?=ba x):xs.getD i d=x:=by simp[h]
theorem aB {α:Type}{xs:Kr α}{i:KC}{d:α}(h:i < xs.length):xs[i]?=ba (xs.getD i d):=by simp[h]
theorem iW {ns:Kr KZ}{bs:Kr KO}{k:KC}{n:KZ}{b:KO}(h1:ns[k]?=ba n)(h2:bs[k]?=ba b):(K4 bz ns bs)[k]?=ba (bz n b):=by
 rw[List.getElem?_zipWith,h1,h2]
noncomputable def aw (ps:Kr KC):Kr W:=ps.map λ(p:KC)=>W.int (p:KO)
theorem wa {ps:Kr KC}{k p:KC}(h:ps[k]?=ba p):(aw ps)[k]?=ba (.int p):=by simp[aw,h]
theorem ga (bs:Kr KO)(u:Wd)(ps:Kr KC):(br bs u ps).length=ps.length:=by unfold br; rw[Kt,Ls]
theorem ee {u:Wd}{i:KC}(hi:i < u.length):(u.map dA)[((i:KC):KO).toNat]?=ba (dA (u.getD i (0,[]))):=by
 rw[KN,KD,aB hi]; rfl
section
variable{defs:Kr (KZ×Df)}{fuel d:KC}{S:aa}{r:KC}{Q:QW}
theorem AF {Φ:KZ->FF}{m0 b0:W}{ns:Kr KZ}{bs:Kr KO}{a:KC}{u:Wd}{i j:KC}{Q:QO}(hb:GoodB bs)(hl:ns.length=bs.length)(hu:GoodW a bs.length u)(hi:i < u.length)(hj:j < u.length)(hij:i≠j)(k:Q (.rt (.int (gx bs u i j)),S)) :
  wZ Φ fuel dX [ba (.tup [m0,.tup (K4 bz ns bs),b0]),ba (aL u),ba (.int i),ba (.int j)] S Q:=by
 have hpi:=aB (d:=(0,[])) hi;have hpj:=aB (d:=(0,[])) hj;unfold gx at k;dsimp only[dX];refine aW λK hK=>?_
 dsimp only[wS,wT,wE,wV,wG,Dg,wO,wB,aL];refine au (Q0:=Q) (λh Q2 _ hr=>?_) (λh Q2 hn _=>?_)
 ·have hji:j < i:=by have:=LH h; omega
  rw[La hji]at k;have hw:j < (u.getD i (0,[])).2.length:=by rw[hu.len i _ hpi]; exact hji
  refine st ?_;dsimp only[wS,wE,wV,wG];refine am (KL i) (ee hi) (am #v[] rfl (am (KL j) ?_ (hr _ _ k)))
  rw[KN,KD,aB (d:=0) hw]; rfl
 ·have hji:¬ j < i:=by have:=MQ h; omega
  rw[Li hji]at k;refine cj (hn _ _ (hK _ _ ?_));clear hn hK;have hw:i < (u.getD j (0,[])).2.length:=by rw[hu.len j _ hpj]; omega
  have hg:=aB (d:=0) hw;obtain⟨g1,g2⟩:=hu.way j _ hpj _ (KY hg);obtain⟨b,hb1,hb2,hb3⟩:=hb.rng ((u.getD j (0,[])).2.getD i 0).toNat ∅
  have hn:((u.getD j (0,[])).2.getD i 0).toNat < ns.length:=∅
  rw[getD_some hb1]at k;refine st ?_;dsimp only[wS,wE,wV,wG];refine am #v[] rfl (am (KL j) (ee hj) (am #v[] rfl (am (KL i) ?_ (am g1 (iW (KI hn) hb1) (am #v[] rfl k)))))
  rw[KN,KD,hg]; rfl
theorem xI (G:Gen defs){m0 b0:W}{ns:Kr KZ}{bs:Kr KO}{a:KC}{u:Wd}{i j:KC}(hb:GoodB bs)(hl:ns.length=bs.length)(hu:GoodW a bs.length u)(hi:i < u.length)(hj:j < u.length)(hij:i≠j)(k:Q (.int (gx bs u i j),S)) :
  wO (bw (ar defs fuel (d+1)) "_law_between" 4 [.tup [m0,.tup (K4 bz ns bs),b0],aL u,.int i,.int j] S) Q:=
 az G.between rfl rfl λQ' hR=>AF hb hl hu hi hj hij (hR _ _ k)
theorem AG (G:Gen defs){m0 b0:W}{ns:Kr KZ}{bs:Kr KO}{a:KC}{u:Wd}{ps:Kr KC}(hb:GoodB bs)(hl:ns.length=bs.length)(hu:GoodW a bs.length u)(hps:∀p∈ps,p < u.length)(hnd:ps.Nodup)(hsz:ps.length < 1000)(k:∀S',Ka S S'->Q (aL (br bs u ps),S')) :
  wO (bw (ar defs fuel (d+2)) "_law_part" 3 [.tup [m0,.tup (K4 bz ns bs),b0],aL u,.tup (aw ps)] S) Q:=by
 refine az G.part rfl rfl λQ' hR=>?_
 replace k:∀S',Ka S S'->Q' (.rt (aL (br bs u ps)),S'):=λS' a=>hR _ _ (k S' a)
 clear hR;show wZ _ _ gv [ba (.tup [m0,.tup (K4 bz ns bs),b0]),ba (aL u),ba (.tup (aw ps)),gV,gV,gV] S Q';generalize hR0:W.tup [m0,.tup (K4 bz ns bs),b0]=R;dsimp only[gv];refine st ?_;dsimp only[wS,wE,wA,KP];refine aW λK hK=>?_
 have nl:(aw ps).length=ps.length:=Kt ..;refine cJ (ps.length:KO) (λk ρ S'=>∃a4 a5,ρ=[ba R,ba (aL u),ba (.tup (aw ps)),ba (.ref S.length),a4,a5]/\S'[S.length]?=ba (.lst (((br bs u ps).take k).map dA))/\Ka S S') rfl rfl ∅ ?_ ?_ ?_
 ·dsimp only[wE,wA,wV,wG];refine bH ?_;rw[nl];exact#[rfl,gV,gV,rfl,ah,.push]
 ·rintro i ρ S1 hi ⟨a4,a5,rfl,e1,k1⟩ Q2 hn _;clear hK;have hi':i < ps.length:=∅
  have hp:ps[i]?=ba ps[i]:=KI hi';have hpu:ps[i] < u.length:=hps _ (LL hi');refine st ?_;dsimp only[wS,wE,wV,wG,KP];refine am (KL i) (by rw[KN]; exact wa hp) ?_
  refine st ?_;dsimp only[wS,wE,wA,wV,wG,KP];refine#[dG e1,am (KL _) (ee hpu) (am #v[] rfl ?_)]
  refine qz (aw (ps.take i)) (λj ys ρ2 S2=>(∃a1,ρ2=[gV,a1,ba (.int ps[i]),ba R,ba (aL u)])/\ys=((ps.take i).take j).map (λq=>W.int (gx bs u ps[i] q))/\Ka S1 S2) rfl rfl rfl ?_ ?_ ?_
  ·dsimp only[wE,wP,wV,wG,wN];refine ab (a:=(.tup (aw (ps.take i)),S1)) ?_ #[rfl,#[gV,rfl],rfl,.refl];simp only[re,gR];unfold aw;rw[OI]
  ·rintro j w ys ρ2 S2 hw ⟨⟨a1,rfl⟩,rfl,k2⟩;have hjl:j < (ps.take i).length:=by
    have:=(KJ.mp hw).1;unfold aw at this
    rwa [Kt]at this
   have hq:(ps.take i)[j]?=ba (ps.take i)[j]:=KI hjl;cases(wa hq).symm.trans hw;have hj:j < i:=by rw[Ly]at hjl; omega
   have eq:(ps.take i)[j]=ps[j]'∅:=Ps
   generalize(ps.take i)[j]=q at hq eq ⊢;refine ab (show gC (.nm 1) (.int (q:KO)) [gV,a1,ba (.int ps[i]),ba R,ba (aL u)] S2=ba ([gV,ba (.int (q:KO)),ba (.int ps[i]),ba R,ba (aL u)],S2)from rfl) ?_
   dsimp only[jb,wC,wE,wA,wV,wG];subst hR0;refine#[λ_=>xI (d:=d) G hb hl hu hpu (by rw[eq]; exact hps _ (LL _)) ?_ #[#[_,rfl],?_,k2],λz=>by cases z]
   ·rw[eq];intro h;have:=(OB hnd).mp h;omega
   ·rw[Lj,hq];simp
  ·rintro ys ρ2 S2 ⟨_,rfl,k2⟩;rw[show(aw (ps.take i)).length=(ps.take i).length from Kt ..,LC]
   refine#[lh (by rw[Kt,Ly]; omega),fZ ah ?_]
   have e2:=aq (u:=O.lst ((ps.take i).map λq=>W.int (gx bs u ps[i] q))) (k2.get _ _ e1)
   refine ph e2 (by rw[Kt,Ly]; omega) (cj (hn _ _ #[_,_,rfl,?_,((k1.trans k2).trans .push).late (KH _)]))
   rw[bV e2];have ep:(br bs u ps)[i]?=ba ((u.getD ps[i] (0,[])).1,(ps.take i).map λq=>gx bs u ps[i] q):=by
    unfold br;rw[KD,M4 hi',Lw,getD_some hp]
   rw[Lj,ep];simp[dA,RB]
 ·rintro ρ S1 ⟨a4,a5,rfl,e1,k1⟩;rw[KN,<- ga bs u ps,LC]at e1;refine hK _ _ (st ?_);dsimp only[wS,wE,wA,wV,wG];exact fZ e1 (k _ k1)
theorem lL (G:Gen defs)(k:Q (.ref S.length,S++[.lst (aA.map λt=>W.tup (aw t))])):wO (bw (ar defs fuel (d+1)) "_law_turns" 0 [] S) Q:=by
 refine az G.turns rfl rfl λQ' hR=>?_
 dsimp only[gQ];refine st ?_;dsimp only[wS,wE,wA];exact hR _ _ k
theorem gy (bt:KC->KC->Lf):∀n:KC,argBest bt n<=n
 | 0=>KH _
 | n+1=>by have:=gy bt n; simp only[argBest]; split <;> omega
theorem jy (G:Gen defs){m0 b0:W}{ns:Kr KZ}{bs:Kr KO}{a:KC}{u:Wd}(hb:GoodB bs)(hl:ns.length=bs.length)(hu:GoodW a bs.length u)(h3:u.length=3)(k:∀S',Ka S S'->Q (aL (j7 bs u),S')) :
  wO (bw (ar defs fuel (d+3)) "_law_figure" 2 [.tup [m0,.tup (K4 bz ns bs),b0],aL u] S) Q:=by
 refine az G.figure rfl rfl λQ' hR=>?_
 replace k:∀S',Ka S S'->Q' (.rt (aL (j7 bs u)),S'):=λS' a=>hR _ _ (k S' a)
 clear hR;show wZ _ _ eM [ba (.tup [m0,.tup (K4 bz ns bs),b0]),ba (aL u)] S Q';generalize hR0:W.tup [m0,.tup (K4 bz ns bs),b0]=R;dsimp only[eM];refine st ?_;dsimp only[wS,wE,wA];refine vW S.length (aA.map λt=>W.tup (aw t)) (λi ys ρ2 S2=>(∃a1,ρ2=[gV,a1,ba R,ba (aL u)])/\ys=((aA.take i).map λt=>aL (br bs u t))/\Ka (S++[.lst (aA.map λt=>W.tup (aw t))]) S2) rfl rfl rfl ?_ ?_ ?_ ?_
 ·dsimp only[wE,wA];exact lL (d:=d+1) G #[rfl,#[gV,rfl],rfl,.refl]
 ·rintro i ys ρ2 S2 ⟨_,_,k2⟩;exact k2.get _ _ ah
 ·rintro i w ys ρ2 S2 hw ⟨⟨a1,rfl⟩,rfl,k2⟩;rw[KD,Kv]at hw;obtain⟨t,ht,rfl⟩:=hw;have ht3:(∀p∈t,p < 3)/\t.Nodup/\t.length < 1000:=by
   have:∀t∈aA,(∀p∈t,p < 3)/\t.Nodup/\t.length < 1000:=by decide
   exact this t (KY ht)
  refine ab (show gC (.nm 1) (.tup (aw t)) [gV,a1,ba R,ba (aL u)] S2=ba ([gV,ba (.tup (aw t)),ba R,ba (aL u)],S2)from rfl) ?_
  dsimp only[jb,wC,wE,wA,wV,wG];subst hR0;refine#[λ_=>AG (d:=d) G hb hl hu (λp hp=>by rw[h3]; exact ht3.1 p hp) ht3.2.1 ht3.2.2 λS3 k3=>#[#[_,rfl],?_,k2.trans k3],λz=>by cases z]
  rw[Lj,ht];simp
 ·rintro ys ρ2 S2 ⟨_,rfl,k2⟩;have e:((aA.take (aA.map λt=>W.tup (aw t)).length).map λt=>aL (br bs u t))=(aA.map (br bs u)).map aL:=by
   rw[Kt,LC,MJ]; rfl
  rw[e];refine#[jw rfl,ab (a:=(aL (j7 bs u),S2++[.lst ((aA.map (br bs u)).map aL)])) ?_ (k _ ((Ka.push.trans k2).trans .push))];simp only[Bi.fn,Co,aK ah,AB];rw[La #[by have:=ic (aA.map (br bs u)); unfold dh; omega,j6 _]]
  unfold j7;have hlt:qc ((aA.map (br bs u)).map dj) < (aA.map (br bs u)).length:=MA (gy _ _) (by decide:5 < 6)
  rw[KD,aB (d:=[]) hlt];rfl
end
noncomputable def ac (xs:Kr KO):Kr W:=xs.map W.int
noncomputable def cY (us:Kr Wd):Kr Wd:=d4 (rW (us.map dj)) [] us
theorem sM {α β:Type}{lt:KC->KC->Lf}{d:α}{d':β}{f:α->β}{us:Kr α}:d4 lt d' (us.map f)=(d4 lt d us).map f:=by
 unfold d4;rw[Kt];split
 ·rfl
 ·rw[MJ];refine Ms λi hi=>?_
  have hl:i < us.length:=lH ∅ i hi
  simp[hl]
theorem uN {S:aa}{x:W}{us:Kr Wd}(h:ff S x=ba (us.map aL))(h64:us.length < 64)(hne:∀u∈us,u≠[]):gm [x] S=ba (.ref S.length,S++[.lst ((cY us).map aL)]):=by
 have ok:iN (us.map dj)=true:=by
  unfold iN;simp only[KA,Mx,K5,Kt];exact#[#[h64,by have:=ic us; unfold dh; exact KQ ‹_› (KU rfl)],.inr #[AE us hne,j6 us]]
 simp only[gm,h,AB];rw[La ok,sM (d:=[])];rfl
noncomputable def eD (ms ns:Kr KZ)(bs:Kr KO)(us:Kr Wd):W:=.tup [.tup (ms.map W.str),.tup (K4 bz ns bs),.tup (us.map aL)]
structure GoodN (ms ns:Kr KZ):Prop where
 name:∀y∈ms++ns,Name y
 nd:(iV++(ms++ns)).Nodup
theorem GoodW.nil {a n:KC}:GoodW a n []:=#[λk p h=>(by simp at h),λk p h=>(by simp at h),λk p h=>(by simp at h)]
theorem GoodW.snoc {a n:KC}{u:Wd}{m:KO}{ws:Kr KO}(h:GoodW a n u)(h1:0<=m/\m < a)(h2:ws.length=u.length)(h3:∀w∈ws,0<=w/\w < (n:KO)):GoodW a n (u++[(m,ws)]):=by
 have key:∀(k:KC) (p:Pt),(u++[(m,ws)])[k]?=ba p->u[k]?=ba p\/(k=u.length/\p=(m,ws)):=λk p e=>by
  rcases Nat.lt_or_ge k u.length with hk|hk
  ·rw[LF hk]at e; exact .inl e
  ·rw[MG hk]at e;have:k - u.length=0:=by
    have:=(KJ.mp e).1;simp at this; assumption
   rw[this]at e;cases e;exact .inr #[∅,rfl]
 refine#[λk p e=>?_,λk p e=>?_,λk p e=>?_] <;> rcases key k p e with e|⟨rfl,rfl⟩
 ·exact h.mark k p e
 ·exact h1
 ·exact h.len k p e
 ·exact h2
 ·exact h.way k p e
 ·exact h3
theorem GoodB.at {bs:Kr KO}(h:GoodB bs){x:KO}(h0:0<=x)(h1:x < bs.length):bs[x.toNat]?=ba (bs.getD x.toNat 0)/\0<=bs.getD x.toNat 0/\bs.getD x.toNat 0 < bs.length:=by
 obtain⟨b,h2,h3⟩:=h.rng x.toNat ∅
 rw[getD_some h2];exact#[h2,h3]
theorem Dq {S:aa}{x:W}{xs:Kr W}(h:ff S x=ba xs):dE [x] S=gV:=by
 cases x with
 | ref i=>
  have e2:Gq S i=gV:=by
   unfold Gq;cases e:S[i]? with
   | none=>rfl
   | some o=>
    cases o with
    | stt ss=>simp[ff,ii,kS,e]at h
    | _=>rfl
  simp only[dE,e2]
 | _=>rfl
theorem AH {S:aa}{x:W}{us:Kr Wd}{Q:QW}(h:ff S x=ba (us.map aL))(h64:us.length < 64)(hne:∀u∈us,u≠[])(q:Q (.ref S.length,S++[.lst ((cY us).map aL)])):wO (Bi.sorted.fn [x] S) Q:=by
 refine ab ?_ q;show(match dE [x] S with
  | some r=>ba r
  | none=>gm [x] S)=_
 rw[Dq h];exact uN h h64 hne
noncomputable def AI:Kr (KC×KC):=[(1,1),(2,1),(3,1),(1,2),(1,2),(2,2),(2,2),(3,2),(1,3),(1,3),(2,3)]
theorem AJ:∀p∈AI,1<=p.1/\p.1<=3/\1<=p.2/\p.2<=3/\p.1*p.2<=6:=by decide
noncomputable def mN:KC->Kr (Kr KO)
 | 1=>[[0]]
 | 2=>[[0,1],[1,0]]
 | _=>[[0,1,2],[1,0,2],[0,2,1]]
theorem AK:∀n:KC,1<=n->n<=3->(∀b∈mN n,GoodB b/\b.length=n)/\0 < (mN n).length/\(mN n).length<=3
 | 1,_,_=>#[λb h=>by cases KS.mp h; exact#[.inl rfl,rfl],#v[],#v[]]
 | 2,_,_=>#[λb h=>by
   rcases Le.mp h with rfl|h
   ·exact#[.inr (.inl rfl),rfl]
   ·cases KS.mp h; exact#[.inr (.inr (.inl rfl)),rfl],#v[],#v[]]
 | 3,_,_=>#[λb h=>by
   rcases Le.mp h with rfl|h
   ·exact#[.inr (.inr (.inr (.inl rfl))),rfl]
   ·rcases Le.mp h with rfl|h
    ·exact#[.inr (.inr (.inr (.inr (.inl rfl)))),rfl]
    ·cases KS.mp h; exact#[.inr (.inr (.inr (.inr (.inr rfl)))),rfl],#v[],#v[]]
 | 0,h,_=>absurd h #v[]
 | n+4,_,h=>absurd h ∅
section
variable{defs:Kr (KZ×Df)}{fuel d:KC}{S:aa}{r:KC}{Q:QW}
theorem qC (G:Gen defs)(hf:Fl S r)(k:∀(a n:KC) S',1<=a->a<=3->1<=n->n<=3->a*n<=6->Fl S' r->Kp r S S'->Q (.tup [.int a,.int n],S')) :
  wO (bw (ar defs fuel (d+2)) "_law_sizes" 1 [.ref r] S) Q:=by
 refine az G.sizes rfl rfl λQ' hR=>?_
 show wZ _ _ fL [ba (.ref r),gV] S Q';dsimp only[fL];refine st ?_;dsimp only[wS,wE,wA,KP];refine st ?_;dsimp only[wS,wE,wA,wV,wG];refine bx (d:=d) G.pick (hf.ka .push) #v[] #v[] λv S1 v0 v1 f1 k1=>?_
 have e:=k1.get _ _ (Lx hf.lt) ah;obtain⟨p,hp,ep⟩:=mJ (f:=λp:KC×KC=>W.tup [.int p.1,.int p.2]) (xs:=AI) (i:=v.toNat) (by show v.toNat < 11; omega)
 obtain⟨a1,a3,n1,n3,an⟩:=AJ p hp;exact fM e v0 ep (hR _ _ (k _ _ _ a1 a3 n1 n3 an f1 (Kp.push.trans k1)))
theorem qD (G:Gen defs){n:KC}(hf:Fl S r)(h1:1<=n)(h3:n<=3)(k:∀(bs:Kr KO) S',GoodB bs->bs.length=n->Fl S' r->Kp r S S'->Q (.tup (ac bs),S')) :
  wO (bw (ar defs fuel (d+2)) "_law_backs" 2 [.ref r,.int n] S) Q:=by
 refine az G.backs rfl rfl λQ' hR=>?_
 replace k:∀(bs:Kr KO) S',GoodB bs->bs.length=n->Fl S' r->Kp r S S'->Q' (.rt (.tup (ac bs)),S'):=λz S' a b c e=>hR _ _ (k z S' a b c e)
 clear hR;show wZ _ _ fK [ba (.ref r),ba (.int n),gV] S Q';dsimp only[fK];refine aW λK hK=>?_
 dsimp only[wS,wE,wA,wV,wG,KP];dsimp only[sF,aX];obtain⟨hg,g0,g3⟩:=AK n h1 h3;have fin:∀(t:KC) (S1:aa),S.length<=t->S1[t]?=ba (.lst ((mN n).map λb=>.tup (ac b)))->Ka S S1->K [ba (.ref r),ba (.int n),ba (.ref t)] S1:=by
  intro t S1 ht et ka;refine hK _ _ (st ?_);dsimp only[wS,wE,wA,wV,wG];refine fN et ?_;rw[Kt];refine bx (d:=d) G.pick (hf.ka ka) ∅ ∅ λv S2 v0 v1 f2 k2=>?_
  have e2:=k2.get _ _ (by have:=hf.lt; omega) et
  obtain⟨b,hb,eb⟩:=mJ (f:=λb:Kr KO=>W.tup (ac b)) (xs:=mN n) (i:=v.toNat) ∅
  exact fM e2 v0 eb (k b S2 (hg b hb).1 (hg b hb).2 f2 ((ka.kp r).trans k2))
 clear hK g0 g3 hg;rcases(show n=1\/n=2\/n=3 by omega)with rfl|rfl|rfl
 ·exact fA (i:=0) ah rfl (fin _ _ (KH _) (aq (aq (aq ah))) (Ka.push.trans (Ka.push.trans (Ka.push.trans .push))))
 ·exact fA (i:=1) ah rfl (fin _ _ (by simp) (aq (aq ah)) (Ka.push.trans (Ka.push.trans (Ka.push.trans .push))))
 ·exact fA (i:=2) ah rfl (fin _ _ (by simp only[KG]; omega) (aq ah) (Ka.push.trans (Ka.push.trans (Ka.push.trans .push))))
theorem pq (hfu:20 < fuel)(G:Gen defs){a:KC}{bs:Kr KO}{x:W}{us:Kr Wd}(hf:Fl S r)(ha:a<=3)(hb:bs.length<=3)(hx:∀S',Kp r S S'->ff S' x=ba (us.map aL))(h64:us.length < 64)(hne:∀u∈us,u≠[])
  (k:∀(ms ns:Kr KZ) S',ms.length=a->ns.length=bs.length->GoodN ms ns->Fl S' r->Kp r S S'->Q (eD ms ns bs (cY us),S')) :
  wO (bw (ar defs fuel (d+5)) "_law_rule_of" 4 [.ref r,.int a,.tup (ac bs),x] S) Q:=by
 refine az G.rule_of rfl rfl λQ' hR=>?_
 replace k:∀(ms ns:Kr KZ) S',ms.length=a->ns.length=bs.length->GoodN ms ns->Fl S' r->Kp r S S'->Q' (.rt (eD ms ns bs (cY us)),S'):=λz y S' a b c e f=>hR _ _ (k z y S' a b c e f)
 clear hR;show wZ _ _ dY [ba (.ref r),ba (.int a),ba (.tup (ac bs)),ba x,gV,gV] S Q';have hbl:(ac bs).length=bs.length:=Kt ..;dsimp only[dY];refine aW λK hK=>?_
 dsimp only[wS,wE,wA,wV,wG,KP];refine bH ?_;rw[hbl];dsimp only[d7,aX];refine Dp (d:=d) (m:=a+bs.length) hfu G hf ∅ λys S1 q2 q3 q4 f1 k1=>hK _ _ ?_
 clear hK K;have hzl:(K4 bz (ys.drop a) bs).length=bs.length:=by
  rw[ML,Nv]; omega
 refine aW λK hK=>?_
 dsimp only[wS,wE,wA,KP];refine dH (bs.length:KO) (λk zs ρ2 S2=>(∃a1,ρ2=[gV,a1,ba (.tup (ac bs)),ba (.int a),ba (.tup (ys.map W.str))])/\zs=((K4 bz (ys.drop a) bs).take k)/\S2=S1) rfl rfl rfl ∅ ?_ ?_ ?_
 ·dsimp only[wE,wA,wV,wG];refine bH ?_;rw[hbl];exact#[rfl,#[gV,rfl],rfl,rfl]
 ·rintro i zs ρ2 S2 hi ⟨⟨a1,rfl⟩,rfl,rfl⟩;clear hK;have hi':i < bs.length:=by exact MK.mp ‹_›
  have h1:a+i < ys.length:=∅
  dsimp only[jb,wC,wE,wA,wV,wG,KP,d7,aX];refine#[λ_=>am ∅ (w:=.str ys[a+i]) ?_ (am ∅ (w:=.int bs[i]) ?_ #[#[_,rfl],?_,rfl]),λz=>by cases z]
  ·rw[show((a:KO)+(i:KO)).toNat=a+i by omega,KD,KI h1]; rfl
  ·unfold ac;rw[KN,KD,KI hi']; rfl
  ·have ez:(K4 bz (ys.drop a) bs)[i]?=ba (bz ys[a+i] bs[i]):=iW (by rw[List.getElem?_drop]; exact KI h1) (KI hi')
   rw[Lj,ez];rfl
 ·rintro zs ρ2 S2 ⟨_,rfl,rfl⟩;rw[KN,<- hzl,LC];refine#[lh ∅,fZ ah (hK _ _ ?_)]
  clear hK K;refine st ?_;dsimp only[wS,wE,wA,wP,wV,wG,wN];have hs:re (.tup (ys.map W.str)) gV (ba (a:KO)) (S2++[O.lst (K4 bz (ys.drop a) bs)])=ba (.tup ((ys.take a).map W.str),S2++[O.lst (K4 bz (ys.drop a) bs)]):=by
   simp only[re,gR];rw[OI]
  refine ab hs (AH (hx _ (k1.trans .push)) h64 hne (fZ ah ?_));refine k (ys.take a) (ys.drop a) _ ?_ ?_ #[?_,?_] ((f1.ka .push).ka .push) (k1.trans (Kp.push.trans .push))
  ·rw[Ly]; omega
  ·rw[Nv]; omega
  ·rw[Qn]; exact q3
  ·rw[Qn]; exact q4
theorem gz (hfu:20 < fuel)(G:Gen defs){a:KC}{bs:Kr KO}(hf:Fl S r)(ha:a<=3)(hb:bs.length<=3)
  (k:∀(ms ns:Kr KZ) S',ms.length=a->ns.length=bs.length->GoodN ms ns->Fl S' r->Kp r S S'->Q (eD ms ns bs [],S')) :
  wO (bw (ar defs fuel (d+5)) "_law_rule_of" 4 [.ref r,.int a,.tup (ac bs),.tup []] S) Q:=
 pq hfu G hf ha hb (us:=[]) (λ_ _=>rfl) #v[] (λ_ h=>nomatch h) k
theorem draws {Φ:KZ->FF}{ρ:Fm}{elt e:E}{cap:Kr (Kz KC)}{n i:KC}{R:Fm}(oe:eT elt=true)(oi:eT e=true)(h1:i<=1000)(hc:gn cap ρ=gV::gV::R)(hf:Fl S r)(he:∀Q:QW,Q (.int i,S)->wE Φ e ρ S Q)
  (hp:∀(a:Kz W) (S1:aa) (Q:QW),Fl S1 r->(∀v S',0<=v->v < (n:KO)->Fl S' r->Kp r S1 S'->Q (.int v,S'))->wE Φ elt (gV::a::R) S1 Q)
  (k:∀(vs:Kr KO) S',vs.length=i->(∀w∈vs,0<=w/\w < (n:KO))->Fl S' r->Kp r S S'->Q (.ref S'.length,S'++[.lst (ac vs)])) :
  Wp (aJ Φ (.comp elt (.nm 1) (.rng #v[e]) .nil cap) ρ S) Q:=by
 refine dH (i:KO) (λj ys ρ2 S3=>(∃a1,ρ2=gV::a1::R)/\(∃vs:Kr KO,ys=ac vs/\vs.length=j/\∀w∈vs,0<=w/\w < (n:KO))/\Fl S3 r/\Kp r S S3) oi oe rfl ∅ (he _ #[rfl,#[gV,hc],#[[],rfl,rfl,λ_ h=>nomatch h],hf,.refl]) ?_ ?_
 ·rintro j ys ρ2 S3 hj ⟨⟨a1,rfl⟩,⟨vs,rfl,hvl,hv⟩,f3,k3⟩;refine#[λ_=>hp _ _ _ f3 λv S4 v0 v1 f4 k4=>#[#[_,rfl],#[vs++[v],(Lh (l₁:=vs) (l₂:=[v])).symm,by rw[KG,hvl]; rfl,λw hw=>?_],f4,k3.trans k4],λz=>by cases z]
  rcases Ln.mp hw with h|h
  ·exact hv w h
  ·rw[KS.mp h]; exact#[v0,v1]
 ·rintro ys ρ2 S3 ⟨_,⟨vs,rfl,hvl,hv⟩,f3,k3⟩;rw[KN]at hvl;exact#[lh (by rw[show(ac vs).length=vs.length from Kt ..]; omega),k vs S3 hvl hv f3 k3]
theorem jz (G:Gen defs){a n:KC}(hf:Fl S r)(ha:0 < a)(ha3:a<=3)(hn:0 < n)(hn3:n<=3)(k:∀(u:Wd) S',u.length=3->GoodW a n u->Fl S' r->Kp r S S'->Q (aL u,S')) :
  wO (bw (ar defs fuel (d+2)) "_law_free_three" 3 [.ref r,.int a,.int n] S) Q:=by
 refine az G.free_three rfl rfl λQ' hR=>?_
 replace k:∀(u:Wd) S',u.length=3->GoodW a n u->Fl S' r->Kp r S S'->Q' (.rt (aL u),S'):=λz S' a b c e=>hR _ _ (k z S' a b c e)
 clear hR;show wZ _ _ cX [ba (.ref r),ba (.int a),ba (.int n),gV,gV] S Q';dsimp only[cX];have hrt:=hf.lt;refine st ?_;dsimp only[wS,wE,wA,KP];refine aW λK hK=>?_
 refine cJ 3 (λk ρ S'=>∃a4 u,ρ=[ba (.ref r),ba (.int a),ba (.int n),ba (.ref S.length),a4]/\S'[S.length]?=ba (.lst (u.map dA))/\u.length=k/\GoodW a n u/\Fl S' r/\Kp r S S') rfl rfl #v[] #[rfl,gV,[],rfl,ah,rfl,.nil,hf.ka .push,.push] ?_ ?_
 ·rintro i ρ S1 hi ⟨a4,u,rfl,e1,hul,hu,f1,k1⟩ Q2 hn' _;clear hK;refine st ?_;dsimp only[wS,wE,wA,wV,wG,KP];refine#[dG e1,bx (d:=d) G.pick f1 ∅ ∅ λv S2 v0 v1 f2 k2=>?_]
  have e2:=k2.get _ _ (Lx ‹_›) e1;refine draws (n:=n) (i:=i) (R:=[ba (.ref r),ba (.int n)]) rfl rfl ∅ rfl f2 (λQ q=>q) (λa S1 Q f q=>bx (d:=d) G.pick f ∅ ∅ q) λvs S3 hvl hv f3 k3=>?_
  have e3:=aq (u:=O.lst (ac vs)) (k3.get _ _ (Lx ‹_›) e2);refine fZ ah (ph e3 (by rw[Kt]; omega) (cj (hn' _ _ #[_,u++[(v,vs)],rfl,?_,by rw[KG,hul]; rfl,hu.snoc #[v0,v1] (hvl.trans hul.symm) hv,(f3.ka .push).own hrt,(k1.trans (k2.trans (k3.trans .push))).late (KH _)])))
  rw[bV e3,Lh]; rfl
 ·rintro ρ S1 ⟨a4,u,rfl,e1,hul,hu,f1,k1⟩;refine hK _ _ (st ?_);dsimp only[wS,wE,wA,wV,wG];exact fZ e1 (k u _ hul hu f1 k1)
end
noncomputable def fF (n:KC):Kr KO:=(K9 n).map λ(k:KC)=>(k:KO)
noncomputable def sN (a n:KC):Kr Wd:=(fF a).flatMap λm0=>(fF a).flatMap λm1=>(fF a).flatMap λm2=>(fF n).flatMap λw1=>(fF n).flatMap λw2=>(fF n).map λw3=>[(m0,[]),(m1,[w1]),(m2,[w2,w3])]
noncomputable def bu (a:KC)(bs:Kr KO):Kr Wd:=((sN a bs.length).map (j7 bs)).eraseDups
theorem dJ {n:KC}{x:KO}(h0:0<=x)(h1:x < n):x∈fF n:=K6.mpr #[x.toNat,Ll.mpr ∅,∅]
theorem xJ {a n:KC}{u:Wd}(h:GoodW a n u)(h3:u.length=3):u∈sN a n:=by
 match u,h3 with
 | [(m0,w0),(m1,w1),(m2,w2)],_=>
  have l0:=h.len 0 _ rfl;have l1:=h.len 1 _ rfl;have l2:=h.len 2 _ rfl;simp only at l0 l1 l2
  match w0,l0 with
  | [],_=>
   match w1,l1 with
   | [x],_=>
    match w2,l2 with
    | [y,z],_=>
     have a0:=h.mark 0 _ rfl;have a1:=h.mark 1 _ rfl;have a2:=h.mark 2 _ rfl;have b1:=h.way 1 _ rfl x (by simp)
     have b2:=h.way 2 _ rfl y (by simp)
     have b3:=h.way 2 _ rfl z (by simp)
     unfold sN;simp only[NC,K6];exact#[m0,dJ a0.1 a0.2,m1,dJ a1.1 a1.2,m2,dJ a2.1 a2.2,x,dJ b1.1 b1.2,y,dJ b2.1 b2.2,z,dJ b3.1 b3.2,rfl]
theorem wc {a:KC}{bs:Kr KO}{u:Wd}(h:GoodW a bs.length u)(h3:u.length=3):j7 bs u∈bu a bs:=by
 unfold bu;rw[Pe];exact K6.mpr #[u,xJ h h3,rfl]
structure SizeOk (a:KC)(bs:Kr KO):Prop where
 pos:0 < a
 good:GoodB bs
 most:a*bs.length<=6
 a3:a<=3
theorem SizeOk.n3 {a:KC}{bs:Kr KO}(h:SizeOk a bs):0 < bs.length/\bs.length<=3:=by
 rcases h.good with rfl|rfl|rfl|rfl|rfl|rfl <;> decide
theorem JM:(bu 1 [0]).length < 64/\(bu 2 [0]).length < 64/\(bu 3 [0]).length < 64:=by decide +kernel
theorem IH:(bu 1 [0,1]).length < 64/\(bu 2 [0,1]).length < 64/\(bu 1 [1,0]).length < 64/\(bu 2 [1,0]).length < 64:=by decide +kernel
theorem JN:(bu 1 [0,1,2]).length < 64/\(bu 1 [1,0,2]).length < 64/\(bu 1 [0,2,1]).length < 64:=by decide +kernel
theorem JO:(bu 3 [0,1]).length < 64:=by decide +kernel
theorem JP:(bu 3 [1,0]).length < 64:=by decide +kernel
theorem JQ:(bu 2 [0,1,2]).length < 64:=by decide +kernel
theorem JR:(bu 2 [1,0,2]).length < 64:=by decide +kernel
theorem JS:(bu 2 [0,2,1]).length < 64:=by decide +kernel
theorem lM {a:KC}{bs:Kr KO}(h:SizeOk a bs):(bu a bs).length < 64:=by
 obtain⟨h0,hb,hm,h3⟩:=h;have ha:a=1\/a=2\/a=3:=∅
 rcases hb with rfl|rfl|rfl|rfl|rfl|rfl <;> rcases ha with rfl|rfl|rfl
 ·exact JM.1
 ·exact JM.2.1
 ·exact JM.2.2
 ·exact IH.1
 ·exact IH.2.1
 ·exact JO
 ·exact IH.2.2.1
 ·exact IH.2.2.2
 ·exact JP
 ·exact JN.1
 ·exact JQ
 ·simp at hm
 ·exact JN.2.1
 ·exact JR
 ·simp at hm
 ·exact JN.2.2
 ·exact JS
 ·simp at hm
theorem AL (bs:Kr KO)(u:Wd):∃t∈aA,j7 bs u=br bs u t:=by
 have h7:(aA.map (br bs u)).length=6:=by rw[Kt]; rfl
 have h8:((aA.map (br bs u)).map dj).length=6:=by rw[Kt,h7]
 have hlt:qc ((aA.map (br bs u)).map dj) < (aA.map (br bs u)).length:=by
  unfold qc;have h6:=gy (rW ((aA.map (br bs u)).map dj)) (((aA.map (br bs u)).map dj).length - 1);rw[h7]; exact MA ‹_› (KU rfl)
 unfold j7;rw[getD_some (KI hlt)];obtain⟨t,ht,e⟩:=K6.mp (LL hlt);exact#[t,ht,e.symm]
theorem Dr (bs:Kr KO)(u:Wd):j7 bs u≠[]:=by
 obtain⟨t,ht,e⟩:=AL bs u;rw[e];have:∀t∈aA,t≠[]:=by decide
 have h:=this t ht;intro z;have hl:(br bs u t).length=t.length:=by simp[br]
 rw[z]at hl;exact h (M3.mp hl.symm)
theorem sO:∀ {xs ys:Kr KO},xs.map T.int=ys.map T.int->xs=ys
 | [],[],_=>rfl
 | [],_::_,h=>by cases h
 | _::_,[],h=>by cases h
 | x::xs,y::ys,h=>by
  rw[L0,L0]at h;injection h with h1 h2
  injection h1 with h1
  rw[h1,sO h2]
theorem Ds {p q:Pt}(h:qA p=qA q):p=q:=by
 unfold qA at h;injection h with h
 injection h with h1 h2
 injection h1 with h1
 injection h2 with h2 _
 injection h2 with h2
 exact Uu h1 (sO h2)
theorem qE {u v:Wd}(h:dj u=dj v):u=v:=by
 unfold dj at h;injection h with h
 have inj:∀ {u v:Wd},u.map qA=v.map qA->u=v:=by
  intro u
  induction u with
  | nil=>intro v h; cases v with
   | nil=>rfl
   | cons _ _=>cases h
  | cons p u ih=>intro v h; cases v with
   | nil=>cases h
   | cons q v=>
    rw[L0,L0]at h;injection h with h1 h2
    rw[Ds h1,ih h2]
 exact inj h
theorem j8 {kvs:Kr (T×W)}{k:T}{v:W}:(fE kvs k v).map (·.1)=if k∈kvs.map (·.1)then kvs.map (·.1)else kvs.map (·.1)++[k]:=by
 have hany:(kvs.any λp=>decide (p.1=k))=decide (k∈kvs.map (·.1)):=by
  induction kvs with
  | nil=>rfl
  | cons p kvs ih=>
   rw[M7,ih,L0]
   by_cases e:p.1=k
   ·subst e; simp
   ·rw[Lm e,Pz];have:(k∈p.1::kvs.map (·.1))=(k∈kvs.map (·.1)):=by simp[Ne.symm e]
    simp only[this]
 unfold fE;rw[hany]
 by_cases h:k∈kvs.map (·.1)
 ·rw[La h,La (MW h),MJ];refine Ms λp _=>?_
  show(if p.1=k then(p.1,v)else p).1=p.1
  split <;> rfl
 ·rw[Li h,Li (by simpa using h),Lh]
  rfl
structure FigD (L:Kr Wd)(kvs:Kr (T×W))(fs:Kr Wd):Prop where
 keys:kvs.map (·.1)=fs.map dj
 nd:fs.Nodup
 mem:∀f∈fs,f∈L
theorem FigD.nil {L:Kr Wd}:FigD L [] []:=#[rfl,Qx,λ_ h=>nomatch h]
theorem FigD.len {L:Kr Wd}{kvs:Kr (T×W)}{fs:Kr Wd}(h:FigD L kvs fs):kvs.length=fs.length/\fs.length<=L.length:=by
 have:=congrArg TC h.keys;rw[Kt,Kt]at this;exact#[this,mK fs L h.nd h.mem]
theorem FigD.put {L:Kr Wd}{kvs:Kr (T×W)}{fs:Kr Wd}{f:Wd}{v:W}(h:FigD L kvs fs)(hf:f∈L):∃fs',FigD L (fE kvs (dj f) v) fs':=by
 by_cases hm:f∈fs
 ·refine#[fs,?_,h.nd,h.mem];rw[j8,La (by rw[h.keys]; exact K6.mpr #[f,hm,rfl]),h.keys]
 ·refine#[fs++[f],?_,?_,λg hg=>?_]
  ·rw[j8,Li,h.keys,Lh]
   ·rfl
   ·rw[h.keys];intro z;obtain⟨g,hg,e⟩:=K6.mp z;exact hm (qE e ▸ hg)
  ·rw[RD];refine#[h.nd,by simp,λa ha b hb e=>?_]
   rw[KS.mp hb]at e;exact hm (e ▸ ha)
  ·rcases Ln.mp hg with h'|h'
   ·exact h.mem g h'
   ·rw[KS.mp h']; exact hf
theorem FigD.items {S:aa}{t:KC}{L:Kr Wd}{kvs:Kr (T×W)}{fs:Kr Wd}(h:FigD L kvs fs)(e:S[t]?=ba (.dic kvs)):ff S (.ref t)=ba (fs.map aL):=by
 simp only[ff,qv e,cW e,Lw];congr 1;have:(kvs.map (·.1)).map T.w=(fs.map dj).map T.w:=by rw[h.keys]
 rw[MJ,MJ]at this
 calc kvs.map (λp=>p.1.w)=kvs.map (T.w∘λx=>x.1):=rfl
  _=fs.map (T.w∘dj):=this
  _=fs.map aL:=by
   refine Ms λf _=>?_
   exact AA f
theorem sP {a:KC}{bs:Kr KO}{f:Wd}(h:f∈bu a bs):f≠[]:=by
 unfold bu at h;rw[Pe]at h;obtain⟨u,_,rfl⟩:=K6.mp h;exact Dr bs u
theorem AM {S:aa}{t:KC}{kvs:Kr (T×W)}{u:Wd}{v:W}(h:S[t]?=ba (.dic kvs))(hl:kvs.length < sizeLine):jn (.ref t) (aL u) v S=ba (S.set t (.dic (fE kvs (dj u) v))):=by
 have hk:=qB u;unfold aL at hk ⊢;simp only[jn,p8,h,hk];rw[La hl]
structure RuleAt (a:KC)(bs:Kr KO)(ms ns:Kr KZ)(gs:Kr Wd):Prop where
 size:SizeOk a bs
 ml:ms.length=a
 nl:ns.length=bs.length
 nm:GoodN ms ns
 nd:gs.Nodup
 mem:∀g∈gs,g∈bu a bs
noncomputable def fB (w:W):Prop:=∃a bs ms ns gs,w=eD ms ns bs (cY gs)/\RuleAt a bs ms ns gs
section
variable{Φ:KZ->FF}{fuel:KC}{ρ:Fm}{S:aa}{K:Fm->aa->Prop}{Q:QO}
theorem jA {i0:KC}{e:E}{b:Ss}(oe:eT e=true)(ok:ip b=true)(he:wE Φ e ρ S λp=>∃(j:KO) (I:KC->Fm->aa->Prop),p.1=.int j/\(-(2 ^ 62)<=j/\j < 2 ^ 62)/\I 0 ρ p.2/\
  (∀(i:KC) (ρ:Fm) (S:aa),(i:KO) < j->I i ρ S->yi Φ fuel b (ρ.set i0 (ba (.int i))) S (I (i+1)) Q)/\∀ρ S,I j.toNat ρ S->K ρ S):Wp (gN Φ fuel (.loop (.nm i0) (.rng #v[e]) b) ρ S) (tP K Q):=by
 obtain⟨w,S1,e1,j,I,rfl,hj,h0,hs,hend⟩:=cN oe he;have hl:(dN 0 j.toNat).length=j.toNat:=by simp[dN]
 refine iU (mi:=.its (dN 0 j.toNat)) (S1:=S1) (xs:=dN 0 j.toNat) I ok ?_ (λ_ _ _ _=>rfl) rfl h0 (λi w ρ S hw hI=>?_) λρ S hI=>hend ρ S (hl ▸ hI)
 ·simp only[lI,dR,fm,jV,uD,e1];rw[La hj]
 ·rw[fq]at hw;split at hw
  ·rename_i hk;cases hw;rw[Ox];exact hs i ρ S ∅ hI
  ·cases hw
theorem gS {tg:Tg}{e:E}{b:Ss}(oe:eT e=true)(ok:ip b=true)(he:wE Φ e ρ S λp=>∃(t:KC) (xs:Kr W) (I:KC->Fm->aa->Prop),p.1=.ref t/\I 0 ρ p.2/\(∀i ρ S,I i ρ S->S[t]?=ba (.lst xs))/\
  (∀(i:KC) (w:W) (ρ:Fm) (S:aa),xs[i]?=ba w->I i ρ S->wO (gC tg w ρ S) λq=>yi Φ fuel b q.1 q.2 (I (i+1)) Q)/\∀ρ S,I xs.length ρ S->K ρ S):Wp (gN Φ fuel (.loop tg (.seq e) b) ρ S) (tP K Q):=by
 obtain⟨w,S1,e1,t,xs,I,rfl,h0,hat,hs,hend⟩:=cN oe he;exact iU (mi:=.live t) (S1:=S1) I ok (by simp only[lI,fW,e1,aK (hat _ _ _ h0)]) (λi ρ S h=>by simp only[MI.at,aK (hat _ _ _ h)]) (by simp only[MI.len,aK (hat _ _ _ h0),Lw]) h0 hs hend
end
section
variable{defs:Kr (KZ×Df)}{fuel d:KC}{S:aa}{r:KC}{Q:QW}
theorem AN {q:KC}{a:KC}{bs:Kr KO}{ms ns:Kr KZ}{fs0:Kr Wd}{kvs:Kr (T×W)}{fs:Kr Wd}(h3:S[q]?=ba (.dic kvs))(h4:FigD (bu a bs) kvs fs)(hs:SizeOk a bs)(hml:ms.length=a)(hnl:ns.length=bs.length)(hnm:GoodN ms ns)(k:∀w S',fB w->Ka S S'->Q (w,S')) :
  wO (tN (eD ms ns bs fs0) (.int 0) S) λp=>wO (tN (eD ms ns bs fs0) (.int 1) p.2) λq'=>wO (Bi.sorted.fn [.ref q] q'.2) λs=>wO (Bi.tuple.fn [s.1] s.2) λz=>Q (.tup [p.1,q'.1,z.1],z.2):=by
 refine am #v[] rfl (am #v[] rfl ?_)
 have hl:=h4.len;exact AH (h4.items h3) (by have:=lM hs; omega) (λf hf=>sP (h4.mem f hf)) (fZ ah (k _ _ #[a,bs,ms,ns,fs,rfl,hs,hml,hnl,hnm,h4.nd,h4.mem] .push))
theorem AO {q:KC}{a:KC}{bs:Kr KO}{u:Wd}{kvs:Kr (T×W)}{fs:Kr Wd}{Q:aa->Prop}(h3:S[q]?=ba (.dic kvs))(h4:FigD (bu a bs) kvs fs)(hs:SizeOk a bs)(hu:GoodW a bs.length u)(hu3:u.length=3)
  (k:∀o,(∃kvs fs,(S.set q o)[q]?=ba (.dic kvs)/\FigD (bu a bs) kvs fs)->Q (S.set q o)):wO (jn (.ref q) (aL (j7 bs u)) (.bl true) S) Q:=by
 have hl:=h4.len;have:=lM hs;obtain⟨fs',h5⟩:=h4.put (v:=.bl true) (wc hu hu3);exact ab (AM h3 (by rw[LD]; omega)) (k _ #[_,fs',bV h3,h5])
theorem uO (hfu:20 < fuel)(G:Gen defs)(hf:Fl S r)(k:∀w S',fB w->Fl S' r->Kp r S S'->Q (w,S')):wO (bw (ar defs fuel (d+6)) "_law_any_rule" 1 [.ref r] S) Q:=by
 refine az G.any_rule rfl rfl λQ' hR=>?_
 replace k:∀w S',fB w->Fl S' r->Kp r S S'->Q' (.rt w,S'):=λz S' a b c=>hR _ _ (k z S' a b c)
 clear hR;show wZ _ _ dI [ba (.ref r),gV,gV,gV,gV,gV] S Q';dsimp only[dI];refine aW λK hK=>?_
 dsimp only[wS,wE,wA,wV,wG];refine qC (d:=d+3) G hf λa n S1 a1 a3 n1 n3 an f1 k1=>?_
 dsimp only[wU];refine ab (show eu [1,2] [.int a,.int n] [ba (.ref r),gV,gV,gV,gV,gV]=ba [ba (.ref r),ba (.int a),ba (.int n),gV,gV,gV]from rfl) (hK _ _ ?_)
 clear hK K;refine aW λK hK=>?_
 dsimp only[wS,wE,wA,wV,wG,KP];refine qD (d:=d+3) G f1 n1 n3 λbs S2 hb hbl f2 k2=>?_
 have hsz:SizeOk a bs:=#[∅,hb,by rw[hbl]; exact an,a3]
 refine gz (d:=d) hfu G f2 a3 ∅ λms ns S3 hml hnl hnm f3 k3=>hK _ _ ?_
 clear hK K;have hrt:=f3.lt;replace k3:Kp r S S3:=k1.trans (k2.trans k3);clear k1 k2 f1 f2;refine st ?_;dsimp only[wS,wE,KP];refine aW λK hK=>?_
 refine jA rfl rfl ?_;dsimp only[wE,wA,wV,wG];refine bx (d:=d+4) G.pick (f3.ka .push) #v[] #v[] λv S4 v0 v9 f4 k4=>?_
 refine#[v,λk ρ S'=>(∃a5,ρ=[ba (.ref r),ba (.int a),ba (.int n),ba (eD ms ns bs []),ba (.ref S3.length),a5])/\(∃kvs fs,S'[S3.length]?=ba (.dic kvs)/\FigD (bu a bs) kvs fs)/\Fl S' r/\Kp r S S',rfl,∅,#[#[gV,rfl],#[[],[],k4.get _ _ (Lx ‹_›) ah,.nil],f4,(k3.trans .push).trans k4],?_,?_]
 ·rintro i ρ S5 hi ⟨⟨a5,rfl⟩,⟨kvs,fs,e5,hd⟩,f5,k5⟩ Q2 hn _;clear hK;refine st ?_;dsimp only[wS,wE,wA,wV,wG,KP];refine jz (d:=d+3) G f5 ∅ a3 ∅ n3 λu S6 hu3 hu f6 k6=>?_
  have hu:GoodW a bs.length u:=hbl.symm ▸ hu;refine jy (d:=d+2) G hb hnl hu hu3 λS7 k7=>?_
  have e7:=k7.get _ _ (k6.get _ _ (Lx ‹_›) e5);exact AO e7 hd hsz hu hu3 λo ho=>cj (hn _ _ #[#[_,rfl],ho,(f6.ka k7).own hrt,((k5.trans k6).trans (k7.kp r)).late k3.len])
 ·rintro ρ S5 ⟨⟨a5,rfl⟩,⟨kvs,fs,e5,hd⟩,f5,k5⟩;refine hK _ _ (st ?_);dsimp only[wS,wE,wA,wV,wG];exact AN (Q:=λp=>Q' (.rt p.1,p.2)) e5 hd hsz hml hnl hnm λw S6 hw k6=>k w S6 hw (f5.ka k6) (k5.trans (k6.kp r))
end
noncomputable def qF (t:KO×KO×KO):W:=.tup [.int t.1,.int t.2.1,.int t.2.2]
noncomputable def sQ (a:KC)(t:KO×KO×KO):Prop:=(0<=t.1/\t.1 < a)/\(0<=t.2.1/\t.2.1 < a)/\(0<=t.2.2/\t.2.2 < a)
noncomputable def AQ (k:KO):Wd:=[(k,[]),(k,[0]),(k,[0,0])]
theorem JT:∀k∈fF 1,AQ k∈bu 1 [0]:=by decide +kernel
theorem JU:∀k∈fF 2,AQ k∈bu 2 [0]:=by decide +kernel
theorem JV:∀k∈fF 3,AQ k∈bu 3 [0]:=by decide +kernel
theorem Dt {a:KC}{k:KO}(h0:1<=a)(h3:a<=3)(hk:0<=k)(hk2:k < a):AQ k∈bu a [0]:=by
 have ha:a=1\/a=2\/a=3:=∅
 rcases ha with rfl|rfl|rfl
 ·exact JT k (dJ hk hk2)
 ·exact JU k (dJ hk hk2)
 ·exact JV k (dJ hk hk2)
theorem Du {a b:KO}(h:AQ a=AQ b):a=b:=by
 unfold AQ at h;injection h with h1 h2
 injection h1
theorem qG:GoodB [0]:=.inl rfl
theorem Ek {S:aa}{i j:KC}{xs:Kr W}(h1:S[i]?=ba (.lst xs))(h2:S[j]?=ba (.lst [])):cM .eq (.ref i) (.ref j) S=ba (.bl xs.isEmpty,S):=by
 show(nN S (19+1) (.ref i) (.ref j)).map _=_;simp only[nN,dF h1,dF h2];cases xs with
 | nil=>rfl
 | cons x xs=>rfl
theorem Dv {S:aa}{f:KO}{ws:Kr KO}:∃b,cM .notin (.int f) (.tup (ac ws)) S=ba (.bl b,S):=by
 have hf:(cC (.int f)&&(ac ws).all cC)=true:=by
  simp only[cC,N7,K2];intro x hx;obtain⟨z,_,rfl⟩:=K6.mp hx;rfl
 refine#[!(ac ws).any λz=>yT z (.int f),?_]
 show iL .notin (.int f) (.tup (ac ws)) S=_;simp only[iL,E8,Cg,fH,hf,Mt,Lw]
section
variable{Φ:KZ->FF}{fuel:KC}{ρ:Fm}{S:aa}{K:Fm->aa->Prop}{Q:QO}
theorem jB {i0:KC}{a b:E}{bd:Ss}(i j:KO)(I:KC->Fm->aa->Prop)(oa:eT a=true)(ob:eT b=true)(ok:ip bd=true)(hj : -(2 ^ 62)<=i/\i < 2 ^ 62/\-(2 ^ 62)<=j/\j < 2 ^ 62)(he:wE Φ a ρ S λp=>p.1=.int i/\wE Φ b ρ p.2 λq=>q.1=.int j/\I 0 ρ q.2)
  (hstep:∀(k:KC) (ρ:Fm) (S:aa),(k:KO) < j - i->I k ρ S->yi Φ fuel bd (ρ.set i0 (ba (.int (i+k)))) S (I (k+1)) Q) (hend:∀ρ S,I (j - i).toNat ρ S->K ρ S):Wp (gN Φ fuel (.loop (.nm i0) (.rng2 #v[a,b]) bd) ρ S) (tP K Q):=by
 obtain⟨w,S1,e1,rfl,h1⟩:=cN oa he;obtain⟨w,S2,e2,rfl,h0⟩:=cN ob h1;have hl:(dN i (j - i).toNat).length=(j - i).toNat:=by simp[dN]
 refine iU (mi:=.its (dN i (j - i).toNat)) (S1:=S2) (xs:=dN i (j - i).toNat) I ok ?_ (λ_ _ _ _=>rfl) rfl h0 (λk w ρ S hw hI=>?_) λρ S hI=>hend ρ S (hl ▸ hI)
 ·simp only[lI,dR,fm,jV,iRng2,e1,e2];rw[La hj]
 ·rw[fq]at hw;split at hw
  ·rename_i hk;cases hw;exact hstep k ρ S ∅ hI
  ·cases hw
theorem AR {elt a b:E}{i0:KC}{cs:Es}{cap:Kr (Kz KC)}{Q:QW}(i j:KO)(I:KC->Kr W->Fm->aa->Prop)(oa:eT a=true)(ob:eT b=true)(oe:eT elt=true)(oc:rf cs=true)(hj : -(2 ^ 62)<=i/\i < 2 ^ 62/\-(2 ^ 62)<=j/\j < 2 ^ 62)(he:wE Φ a ρ S λp=>p.1=.int i/\wE Φ b ρ p.2 λq=>q.1=.int j/\I 0 [] (gn cap ρ) q.2)
  (hstep:∀(k:KC) (ys:Kr W) (ρ:Fm) (S:aa),(k:KO) < j - i->I k ys ρ S->jb Φ elt cs (ρ.set i0 (ba (.int (i+k)))) S (λy=>I (k+1) (ys++[y])) (I (k+1) ys))
  (hend:∀ys ρ S,I (j - i).toNat ys ρ S->ys.length<=sizeLine/\Q (.ref S.length,S++[.lst ys])):Wp (aJ Φ (.comp elt (.nm i0) (.rng2 #v[a,b]) cs cap) ρ S) Q:=by
 obtain⟨w,S1,e1,rfl,h1⟩:=cN oa he;obtain⟨w,S2,e2,rfl,h0⟩:=cN ob h1;have hl:(dN i (j - i).toNat).length=(j - i).toNat:=by simp[dN]
 refine j4 (mi:=.its (dN i (j - i).toNat)) (S1:=S2) (xs:=dN i (j - i).toNat) I oe oc ?_ (λ_ _ _ _ _=>rfl) rfl h0 (λk w ys ρ S hw hI=>?_) λys ρ S hI=>hend ys ρ S (hl ▸ hI)
 ·simp only[lI,dR,fm,jV,iRng2,e1,e2];rw[La hj]
 ·rw[fq]at hw;split at hw
  ·rename_i hk;cases hw;exact hstep k ys ρ S ∅ hI
  ·cases hw
end
section
variable{defs:Kr (KZ×Df)}{fuel d:KC}{S:aa}{r:KC}{Q:QW}
theorem AS (G:Gen defs){a:KC}(ha:a<=3)(k:∀(q:KC) (ts:Kr (KO×KO×KO)) (S':aa),S'[q]?=ba (.lst (ts.map qF))->(∀t∈ts,sQ a t)->S.length<=q->Ka S S'->Q (.ref q,S')) :
  wO (bw (ar defs fuel (d+1)) "_law_rising" 1 [.int a] S) Q:=by
 refine az G.rising rfl rfl λQ' hR=>?_
 replace k:∀(q:KC) (ts:Kr (KO×KO×KO)) (S':aa),S'[q]?=ba (.lst (ts.map qF))->(∀t∈ts,sQ a t)->S.length<=q->Ka S S'->Q' (.rt (.ref q),S'):=λq ts S' a b c e=>hR _ _ (k q ts S' a b c e)
 clear hR;show wZ _ _ eO [ba (.int a),gV,gV,gV] S Q';dsimp only[eO];refine st ?_;dsimp only[wS,wE,wA,KP];refine aW λK hK=>?_
 refine cJ (a:KO) (λi ρ S'=>∃(q:KC) (ts:Kr (KO×KO×KO)) (a2 a3:Kz W),ρ=[ba (.int a),ba (.ref q),a2,a3]/\S'[q]?=ba (.lst (ts.map qF))/\(∀t∈ts,sQ a t)/\S.length<=q/\ts.length<=9*i/\Ka S S') rfl rfl ∅ #[rfl,_,[],_,_,rfl,ah,λ_ h=>(nomatch h),KH _,Mm _,.push] ?_ ?_
 ·rintro i ρ S1 hi ⟨q,ts,a2,a3,rfl,e1,ht,hq,hl,k1⟩ Q2 hn _;clear hK k;refine aW λK hK=>?_
  refine jB (i:KO) (a:KO) (λj ρ S'=>∃(q:KC) (ts:Kr (KO×KO×KO)) (a3:Kz W),ρ=[ba (.int a),ba (.ref q),ba (.int i),a3]/\S'[q]?=ba (.lst (ts.map qF))/\(∀t∈ts,sQ a t)/\S.length<=q/\ts.length<=9*i+3*j/\Ka S S') rfl rfl rfl ∅ #[rfl,rfl,q,ts,a3,rfl,e1,ht,hq,∅,k1] ?_ ?_
  ·rintro j ρ S2 hj ⟨q,ts,a3,rfl,e2,ht,hq,hl,k2⟩ Q3 hn3 _;clear hK hn;refine st ?_;dsimp only[wS,wE,wV,wG,KP];refine AR ((i:KO)+j) (a:KO) (λm ys ρ2 S3=>(∃a1,ρ2=[gV,a1,ba (.int i),ba (.int ((i:KO)+j))])/\(∃us:Kr (KO×KO×KO),ys=us.map qF/\us.length=m/\∀t∈us,sQ a t)/\S3=S2) rfl rfl rfl rfl ∅ #[rfl,rfl,#[gV,rfl],#[[],rfl,rfl,λ_ h=>nomatch h],rfl] ?_ ?_
   ·rintro m ys ρ2 S3 hm ⟨⟨a1,rfl⟩,⟨us,rfl,hul,hu⟩,rfl⟩;refine#[λ_=>#[#[_,rfl],#[us++[((i:KO),(i:KO)+j,(i:KO)+j+m)],by rw[Lh]; rfl,by rw[KG,hul]; rfl,λt h=>?_],rfl],λz=>by cases z]
    rcases Ln.mp h with h|h
    ·exact hu t h
    ·rw[KS.mp h];exact#[#[∅,by assumption],#[by dsimp only; omega,by dsimp only; omega],#[by dsimp only; omega,by dsimp only; omega]]
   ·rintro ys ρ2 S3 ⟨_,⟨us,rfl,hul,hu⟩,rfl⟩;refine#[lh (by rw[Kt]; omega),ab (uL (aq e2) ah ?_) (cj (hn3 _ _ #[_,ts++us,_,rfl,?_,λt h=>(Ln.mp h).elim (ht t) (hu t),?_,?_,k2.trans (Ka.push.trans .push)]))]
    ·refine lh ?_;rw[KG,Kt,Kt];omega
    ·rw[Lh]; exact ah
    ·have:=k2.len;simp only[KG]; omega
    ·rw[KG]; omega
  ·rintro ρ S2 ⟨q,ts,a3,rfl,e2,ht,hq,hl,k2⟩;exact hK _ _ (cj (hn _ _ #[q,ts,_,_,rfl,e2,ht,hq,∅,k2]))
 ·rintro ρ S1 ⟨q,ts,a2,a3,rfl,e1,ht,hq,hl,k1⟩;refine hK _ _ (st ?_);exact k q ts S1 e1 ht hq k1
theorem xK (hfu:20 < fuel)(G:Gen defs)(hf:Fl S r)(k:∀w S',fB w->Fl S' r->Kp r S S'->Q (w,S')):wO (bw (ar defs fuel (d+6)) "_law_one_way_rule" 1 [.ref r] S) Q:=by
 refine az G.one_way_rule rfl rfl λQ' hR=>?_
 replace k:∀w S',fB w->Fl S' r->Kp r S S'->Q' (.rt w,S'):=λz S' a b c=>hR _ _ (k z S' a b c)
 clear hR;show wZ _ _ cx [ba (.ref r),gV,gV] S Q';dsimp only[cx];refine aW λK hK=>?_
 dsimp only[wS,wE,wA,wV,wG,KP];refine bx (d:=d+4) G.pick hf #v[] #v[] λv S1 v0 v3 f1 k1=>?_
 dsimp only[d7,aX];obtain⟨a,ea⟩ : ∃a:KC,1+v=a:=#[(1+v).toNat,∅]
 rw[ea];refine hK _ _ ?_;clear hK K;refine aW λK hK=>?_
 dsimp only[wS,wE,KP];refine dH (a:KO) (λk zs ρ2 S2=>(∃a1,ρ2=[gV,a1,ba (.ref r)])/\(∃ks:Kr KO,zs=(ks.map AQ).map aL/\ks.Pairwise (·≠·)/\ks.length<=k/\∀x∈ks,0<=x/\x < k)/\Fl S2 r/\Kp r S1 S2) rfl rfl rfl ∅ #[rfl,#[gV,rfl],#[[],rfl,.nil,KH _,λ_ h=>(nomatch h)],f1,.refl] ?_ ?_
 ·rintro i zs ρ2 S2 hi ⟨⟨a1,rfl⟩,⟨ks,rfl,hkp,hkl,hks⟩,f2,k2⟩;clear hK k;dsimp only[jb,wC,wT,wE,wA,wV,wG,KP];refine bx (d:=d+4) G.pick f2 #v[] #v[] λv S3 _ _ f3 k3=>?_
  dsimp only[iT,aX,wB];refine#[λ_=>#[#[_,rfl],#[ks++[(i:KO)],by simp[AQ,aL,dA],?_,by rw[KG]; exact OD hkl,λx hx=>?_],f3,k2.trans k3],λ_=>#[#[_,rfl],#[ks,rfl,hkp,by exact Nn ‹_›,λx hx=>#[(hks x hx).1,by have:=(hks x hx).2; omega]],f3,k2.trans k3]]
  ·rw[List.pairwise_append];refine#[hkp,by simp,λx hx y hy e=>?_]
   have:=(hks x hx).2;rw[KS.mp hy]at e;omega
  ·rcases Ln.mp hx with h|h
   ·exact#[(hks x h).1,by have:=(hks x h).2; omega]
   ·rw[KS.mp h]; omega
 ·rintro zs ρ2 S2 ⟨_,⟨ks,rfl,hkp,hkl,hks⟩,f2,k2⟩;rw[KN]at hkl hks;refine#[lh (by rw[Kt,Kt]; omega),hK _ _ (st ?_)]
  clear hK K;dsimp only[wS,wE,wA,wV,wG,KP];have hlt:=f2.lt;refine pq (d:=d) (a:=a) (bs:=[0]) (us:=ks.map AQ) hfu G (f2.ka .push) ∅ #v[] (λS' kk=>?_) (by rw[Kt]; omega) (λu hu=>by obtain⟨x,_,rfl⟩:=K6.mp hu; exact List.cons_ne_nil _ _) λms ns S3 hml hnl hnm f3 k3=>?_
  ·simp only[ff,aK (kk.get _ _ (Lx ‹_›) ah)]
  refine k _ _ #[a,[0],ms,ns,ks.map AQ,rfl,#[#[∅,qG,by simp; omega,∅],hml,hnl,hnm,?_,λg hg=>?_]] f3 (k1.trans (k2.trans (Kp.push.trans k3)))
  ·unfold Ua;rw[Pr];exact hkp.imp λh e=>h (Du e)
  ·obtain⟨x,hx,rfl⟩:=K6.mp hg;exact Dt ∅ ∅ (hks x hx).1 (hks x hx).2
theorem sR (hfu:20 < fuel)(G:Gen defs)(hf:Fl S r)(k:∀w S',fB w->Fl S' r->Kp r S S'->Q (w,S')):wO (bw (ar defs fuel (d+6)) "_law_free_rule" 1 [.ref r] S) Q:=by
 refine az G.free_rule rfl rfl λQ' hR=>?_
 replace k:∀w S',fB w->Fl S' r->Kp r S S'->Q' (.rt w,S'):=λz S' a b c=>hR _ _ (k z S' a b c)
 clear hR;show wZ _ _ di [ba (.ref r),gV,gV,gV,gV,gV,gV,gV,gV] S Q';dsimp only[di];refine aW λK hK=>?_
 dsimp only[wS,wE,wA,wV,wG];refine qC (d:=d+3) G hf λa n S1 a1 a3 n1 n3 an f1 k1=>?_
 dsimp only[wU];refine ab (show eu [1,2] [.int a,.int n] [ba (.ref r),gV,gV,gV,gV,gV,gV,gV,gV]=ba [ba (.ref r),ba (.int a),ba (.int n),gV,gV,gV,gV,gV,gV]from rfl) (hK _ _ ?_)
 clear hK K;refine aW λK hK=>?_
 dsimp only[wS,wE,wA,wV,wG,KP];refine qD (d:=d+3) G f1 n1 n3 λbs S2 hb hbl f2 k2=>?_
 have hsz:SizeOk a bs:=#[∅,hb,by rw[hbl]; exact an,a3]
 refine gz (d:=d) hfu G f2 a3 ∅ λms ns S3 hml hnl hnm f3 k3=>hK _ _ ?_
 clear hK K;have hrt:=f3.lt;replace k3:Kp r S S3:=k1.trans (k2.trans k3);clear k1 k2 f1 f2;refine aW λK hK=>?_
 dsimp only[wS,wE,KP];refine dH (n:KO) (λi zs ρ2 S2=>(∃a1,ρ2=[gV,a1,ba (eD ms ns bs [])])/\(∃ks:Kr KO,zs=ac ks/\ks.length<=i)/\S2=S3) rfl rfl rfl ∅ #[rfl,#[gV,rfl],#[[],rfl,KH _],rfl] ?_ ?_
 ·rintro i zs ρ2 S2 hi ⟨⟨a1,rfl⟩,⟨ks,rfl,hkl⟩,rfl⟩;clear hK k;have hi':i < bs.length:=∅
  dsimp only[jb,wC,wT,wE,wA,wV,wG,KP];refine am #v[] rfl (am (KL i) (by rw[KN]; exact iW (KI ∅) (KI hi')) (am #v[] rfl ?_))
  dsimp only[iT,aX,wB];exact#[λ_=>#[#[_,rfl],#[ks++[(i:KO)],by unfold ac; rw[Lh]; rfl,by rw[KG]; exact OD hkl],rfl],λ_=>#[#[_,rfl],#[ks,rfl,by exact Nn ‹_›],rfl]]
 ·rintro zs ρ2 S2 ⟨_,⟨ks,rfl,hkl⟩,rfl⟩;rw[KN]at hkl;have il:(ac ks).length=ks.length:=Kt ..;refine#[lh ∅,hK _ _ ?_]
  clear hK K;refine aW λK hK=>?_
  dsimp only[wS,wT,wE,wA,wV,wG,KP];refine ab (Ek (aq ah) ah) ?_;dsimp only[wB];have f4:=(f3.ka (Ka.push (o:=O.lst (ac ks)))).ka (Ka.push (o:=O.lst []));have k4:=k3.trans ((Kp.push (o:=O.lst (ac ks))).trans (Kp.push (o:=O.lst [])));have e4:=aq (u:=O.lst []) (ah (S:=S2) (o:=O.lst (ac ks)));have hl4:S2.length < (S2++[O.lst (ac ks)]++[O.lst []]).length:=by simp
  generalize hS4:S2++[O.lst (ac ks)]++[O.lst []]=S4 at f4 k4 e4 hl4;clear hS4;have ret:∀Q2:QO,(∀w S',Q' (.rt w,S')->Q2 (.rt w,S'))->wZ (ar defs fuel (d+5)) fuel #v[.ret (.v 3)] [ba (.ref r),ba (.int a),ba (.int n),ba (eD ms ns bs []),gV,ba (.ref S2.length),gV,gV,gV] S4 Q2:=λQ2 hr=>st (hr _ _ (k _ _ #[a,bs,ms,ns,[],rfl,hsz,hml,hnl,hnm,.nil,λ_ h=>(nomatch h)] f4 k4))
  refine#[λ_=>au (Q0:=Q') (λ_ Q2 _ hr=>ret Q2 hr) (λz=>by cases z),λhne=>?_]
  dsimp only[iT,aX,wB];refine au (Q0:=Q') (λ_ Q2 _ hr=>ret Q2 hr) (λ_ Q2 hn _=>cj (hn _ _ (hK _ _ ?_)))
  clear hK ret hn;have hk0:0 < ks.length:=by
   cases ks with
   | nil=>cases hne
   | cons x ks=>exact Tv _
  refine aW λK hK=>?_
  dsimp only[wS,wE,wA,wV,wG,KP];refine fN e4 ?_;rw[il];refine bx (d:=d+4) G.pick f4 ∅ ∅ λv S5 v0 v1 f5 k5=>?_
  have e5:=k5.get _ _ (Lx ‹_›) e4;obtain⟨x,_,ex⟩:=mJ (f:=W.int) (xs:=ks) (i:=v.toNat) ∅
  refine fM e5 v0 ex (hK _ _ ?_);clear hK K;replace k5:Kp r S S5:=k4.trans k5;have hrt5:=f5.lt;refine st ?_;dsimp only[wS,wE,KP];refine aW λK hK=>?_
  refine jA rfl rfl ?_;dsimp only[wE,wA,wV,wG];refine bx (d:=d+4) G.pick (f5.ka .push) #v[] #v[] λv S6 v0 v9 f6 k6=>?_
  refine#[v,λ_ ρ S'=>(∃a4 a8,ρ=[ba (.ref r),ba (.int a),ba (.int n),ba (eD ms ns bs []),a4,ba (.ref S2.length),ba (.int x),ba (.ref S5.length),a8])/\(∃kvs fs,S'[S5.length]?=ba (.dic kvs)/\FigD (bu a bs) kvs fs)/\Fl S' r/\Kp r S S',rfl,∅,#[#[gV,gV,rfl],#[[],[],k6.get _ _ (Lx ‹_›) ah,.nil],f6,(k5.trans .push).trans k6],?_,?_]
  ·rintro i ρ S7 hi ⟨⟨a4,a8,rfl⟩,⟨kvs,fs,e7,hd⟩,f7,k7⟩ Q2 hn _;clear hK k;refine st ?_;dsimp only[wS,wE,wA,wV,wG,KP];refine jz (d:=d+3) G f7 ∅ a3 (Lc ‹_› ‹_›) n3 λu S8 hu3 hu f8 k8=>?_
   have hu:GoodW a bs.length u:=hbl.symm ▸ hu;have e8:=k8.get _ _ (Lx ‹_›) e7;obtain⟨p0,p1,p2,rfl⟩ : ∃p0 p1 p2,u=[p0,p1,p2]:=by
    match u,hu3 with
    | [p0,p1,p2],_=>exact#[p0,p1,p2,rfl]
   have l1:=hu.len 1 p1 rfl;obtain⟨m1,ws1⟩:=p1;obtain⟨w1,rfl⟩ : ∃w1,ws1=[w1]:=by
    match ws1,l1 with
    | [w1],_=>exact#[w1,rfl]
   obtain⟨b,hb2⟩:=Dv (S:=S8) (f:=x) (ws:=p2.2);have kk:=k7.trans k8;refine aW λK hK=>?_
   dsimp only[wS,wT,wE,wA,wV,wG];refine am #v[] rfl (am #v[] rfl (am #v[] rfl ?_))
   dsimp only[JJ,aX,wB];have skip:K [ba (.ref r),ba (.int a),ba (.int n),ba (eD ms ns bs []),ba (.int i),ba (.ref S2.length),ba (.int x),ba (.ref S5.length),ba (aL [p0,(m1,[w1]),p2])] S8:=hK _ _ (cj (hn _ _ #[#[_,_,rfl],#[kvs,fs,e8,hd],f8,kk]));refine#[λ_=>?_,λ_=>au (Q0:=Q2) (λz=>by cases z) λ_ Q3 hn3 _=>cj (hn3 _ _ skip)]
   refine am #v[] rfl (am #v[] rfl (ab hb2 ?_))
   dsimp only[wB];refine au (Q0:=Q2) (λ_ Q3 hn3 _=>?_) λ_ Q3 hn3 _=>cj (hn3 _ _ skip)
   clear skip;refine st ?_;dsimp only[wS,wE,wA,wV,wG];refine jy (d:=d+2) G hb hnl hu hu3 λS9 k9=>?_
   exact AO (k9.get _ _ e8) hd hsz hu hu3 λo ho=>cj (hn3 _ _ (hK _ _ (cj (hn _ _ #[#[_,_,rfl],ho,(f8.ka k9).own hrt5,(kk.trans (k9.kp r)).late k5.len]))))
  ·rintro ρ S7 ⟨⟨a4,a8,rfl⟩,⟨kvs,fs,e7,hd⟩,f7,k7⟩;refine hK _ _ (st ?_);dsimp only[wS,wE,wA,wV,wG];exact AN (Q:=λp=>Q' (.rt p.1,p.2)) e7 hd hsz hml hnl hnm λw S8 hw k8=>k w S8 hw (f7.ka k8) (k7.trans (k8.kp r))
end
noncomputable def cu (u v:KO):T:=.tup [.int u,.int v]
noncomputable def ef (u v:KO):W:=.tup [.int u,.int v]
theorem jC {u v:KO}:ik (ef u v)=ba (cu u v):=rfl
theorem AT {kvs:Kr (T×W)}{k:T}{v:W}{p:T×W}(h:p∈fE kvs k v):p∈kvs\/p=(k,v):=by
 unfold fE at h;split at h
 ·obtain⟨q,hq,rfl⟩:=K6.mp h;split
  ·rename_i e; exact .inr (by rw[e])
  ·exact .inl hq
 ·rcases Ln.mp h with h|h
  ·exact .inl h
  ·exact .inr (KS.mp h)
theorem mO {kvs:Kr (T×W)}{k:T}{v:W}(h:cw kvs k=ba v):(k,v)∈kvs:=by
 unfold cw at h;rw[Kv]at h;obtain⟨p,h1,rfl⟩:=h;have:=Qe h1;rw[<- LH this];exact List.mem_of_find?_eq_some h1
theorem we {kvs:Kr (T×W)}{p:T×W}(h:p∈kvs):∃v,cw kvs p.1=ba v:=by
 unfold cw;cases e:kvs.find? λq=>decide (q.1=p.1)with
 | some q=>exact#[q.2,rfl]
 | none=>exact absurd (List.find?_eq_none.mp e p h) (by simp)
noncomputable def MustE (S:aa)(n b:KC)(kvs:Kr (T×W)):Prop:=∀p∈kvs,∃(u v:KO) (l:KC) (ws:Kr KO),p=(cu u v,W.ref l)/\(0<=u/\u < n)/\(0<=v/\v < n)/\b<=l/\S[l]?=ba (.lst (ac ws))/\ws.length<=3/\∀w∈ws,0<=w/\w < (n:KO)
theorem MustE.mono {S S':aa}{n b:KC}{kvs:Kr (T×W)}(h:MustE S n b kvs)(k:∀(l:KC) (ws:Kr KO),b<=l->S[l]?=ba (.lst (ac ws))->S'[l]?=ba (.lst (ac ws))):MustE S' n b kvs:=λp hp=>
 let ⟨u,v,l,ws,h1,h2,h3,h4,h5,h6⟩:=h p hp
 #[u,v,l,ws,h1,h2,h3,h4,k l ws h4 h5,h6]
theorem MustE.ka {S S':aa}{n b:KC}{kvs:Kr (T×W)}(h:MustE S n b kvs)(k:Ka S S'):MustE S' n b kvs:=h.mono λl ws _ e=>k.get _ _ e
theorem MustE.kp {S S':aa}{n b r:KC}{kvs:Kr (T×W)}(h:MustE S n b kvs)(hr:r < b)(k:Kp r S S'):MustE S' n b kvs:=h.mono λl ws hl e=>k.get _ _ ∅ e
theorem MustE.set {S:aa}{n b t:KC}{kvs k:Kr (T×W)}{o:O}(h:MustE S n b kvs)(ht:S[t]?=ba (.dic k)):MustE (S.set t o) n b kvs:=h.mono λl ws hl e=>by
 rw[bN (by rintro rfl; rw[ht]at e; cases e)]; exact e
theorem MustE.put {S:aa}{n b:KC}{kvs:Kr (T×W)}{u v:KO}{l:KC}{ws:Kr KO}(h:MustE S n b kvs)(h2:0<=u/\u < n)(h3:0<=v/\v < n)(h4:b<=l)(h5:S[l]?=ba (.lst (ac ws)))(h6:ws.length<=3)(h7:∀w∈ws,0<=w/\w < (n:KO)):MustE S n b (fE kvs (cu u v) (.ref l)):=λp hp=>by
 rcases AT hp with hp|rfl
 ·exact h p hp
 ·exact#[u,v,l,ws,rfl,h2,h3,h4,h5,h6,h7]
noncomputable abbrev Dw:=KO×KO×Kr KO
noncomputable def sS (ws:Kr KO):Es:=ws.foldr (λw es=>.cons (.c (.int w)) es) .nil
noncomputable def wf:Kr Dw->Es
 | []=>.nil
 | e::L=>.cons (.tup #v[.c (.int e.1),.c (.int e.2.1)]) (.cons (.lst (sS e.2.2)) (wf L))
noncomputable def xL:Kr Dw->KC->Kr W
 | [],_=>[]
 | e::L,s=>ef e.1 e.2.1::.ref s::xL L (s+1)
noncomputable def xM (L:Kr Dw):aa:=L.map λe=>O.lst (ac e.2.2)
noncomputable def wg (n:KC)(e:Dw):Lf:=decide ((0<=e.1/\e.1 < n)/\(0<=e.2.1/\e.2.1 < n)/\e.2.2.length<=3)&&e.2.2.all λw=>decide (0<=w/\w < (n:KO))
section
variable{Φ:KZ->FF}{ρ:Fm}
theorem uP {S:aa}:∀ {ws:Kr KO} {Q:Kr W×aa->Prop},Q (ac ws,S)->wA Φ (sS ws) ρ S Q
 | [],Q,q=>by show wA Φ .nil ρ S Q; exact q
 | w::ws,Q,q=>by show wA Φ (.cons (.c (.int w)) (sS ws)) ρ S Q; dsimp only[wA,wE]; exact uP q
theorem AU:∀ {L:Kr Dw} {S:aa} {Q:Kr W×aa->Prop},Q (xL L S.length,S++xM L)->wA Φ (wf L) ρ S Q
 | [],S,Q,q=>by
  show wA Φ .nil ρ S Q;dsimp only[wA]
  rwa [show S++xM []=S from Mf S]at q
 | e::L,S,Q,q=>by
  show wA Φ (.cons (.tup #v[.c (.int e.1),.c (.int e.2.1)]) (.cons (.lst (sS e.2.2)) (wf L))) ρ S Q;dsimp only[wA,wE];refine uP (AU ?_);rw[KG,Mu];exact q
end
theorem pr {S:aa}{n b:KC}:∀(L:Kr Dw) (s:KC) (kvs:Kr (T×W)),MustE S n b kvs->b<=s->(∀e∈L,wg n e=true)->(∀i e,L[i]?=ba e->S[s+i]?=ba (.lst (ac e.2.2)))->∃kvs',ey kvs (xL L s)=ba kvs'/\MustE S n b kvs'/\kvs'.length<=kvs.length+L.length
 | [],s,kvs,hm,hb,hL,hS=>#[kvs,by simp[xL,ey],hm,by simp]
 | e::L,s,kvs,hm,hb,hL,hS=>by
  have h1:=hL e (by simp)
  unfold wg at h1;rw[KA,K2]at h1;obtain⟨h2,h3,h4⟩:=LH h1.1;obtain⟨kvs',k1,k2,k3⟩:=pr L (s+1) (fE kvs (cu e.1 e.2.1) (.ref s)) (hm.put h2 h3 hb (by have:=hS 0 e rfl; simpa using this) h4 (λw hw=>LH (h1.2 w hw))) (Nn ‹_›) (λx hx=>hL x (by simp[hx])) (λi x hx=>by have:=hS (i+1) x (by simpa using hx); rw[show s+1+i=s+(i+1) by omega]; exact this)
  refine#[kvs',?_,k2,?_]
  ·simp only[xL,ey,jC]; exact k1
  ·have:=dv kvs (cu e.1 e.2.1) (.ref s);rw[LJ]; omega
noncomputable def KB:Kr (Kr KO):=[[1,0],[0,2,1],[0,1],[0,1,2]]
noncomputable def KindOk (S:aa)(b:KC)(w:W):Prop:=∃(bs:Kr KO) (q:KC) (kvs:Kr (T×W)) (most:KO),w=.tup [.tup (ac bs),.ref q,.int most]/\bs∈KB/\1<=most/\most<=3/\most*bs.length<=6/\S[q]?=ba (.dic kvs)/\b<=q/\kvs.length<=4/\MustE S bs.length b kvs
theorem KindOk.mono {S S':aa}{b:KC}{w:W}(h:KindOk S b w)(k1:∀(l:KC) (ws:Kr KO),b<=l->S[l]?=ba (.lst (ac ws))->S'[l]?=ba (.lst (ac ws)))(k2:∀(l:KC) (kvs:Kr (T×W)),b<=l->S[l]?=ba (.dic kvs)->S'[l]?=ba (.dic kvs)):KindOk S' b w:=
 let ⟨bs,q,kvs,most,h1,h2,h3,h4,h5,h6,h7,h8,h9⟩:=h
 #[bs,q,kvs,most,h1,h2,h3,h4,h5,k2 _ _ h7 h6,h7,h8,h9.mono k1]
theorem KindOk.ka {S S':aa}{b:KC}{w:W}(h:KindOk S b w)(k:Ka S S'):KindOk S' b w:=h.mono (λl ws _ e=>k.get _ _ e) (λl ws _ e=>k.get _ _ e)
noncomputable def AV (bs:Kr KO)(L:Kr Dw)(most:KO):E:=.tup #v[.tup (sS bs),.disp (wf L),.c (.int most)]
section
variable{Φ:KZ->FF}{ρ:Fm}{S:aa}
theorem qH (bs:Kr KO)(L:Kr Dw)(most:KO){b:KC}{Q:QW}(hb:b<=S.length)(h1:bs∈KB)(h2:1<=most/\most<=3/\most*bs.length<=6)(hL:∀e∈L,wg bs.length e=true)(h4:L.length<=4)(k:∀w S',KindOk S' b w->Ka S S'->Q (w,S')) :
  wE Φ (AV bs L most) ρ S Q:=by
 unfold AV;dsimp only[wE,wA];refine uP (AU ?_);obtain⟨kvs,k1,k2,k3⟩:=pr (S:=S++[O.dic []]++xM L) (n:=bs.length) (b:=b) L (S.length+1) [] (λ_ h=>nomatch h) (Nn ‹_›) hL (λi e he=>by
  rw[MG (by simp),show S.length+1+i - (S++[O.dic []]).length=i by simp]
  simp[xM,he])
 have hat:(S++[O.dic []]++xM L)[S.length]?=ba (.dic []):=by
  rw[LF (by simp)]; exact ah
 refine#[hat,ab (show ey [] (xL L (S++[O.dic []]).length)=ba kvs by rw[KG]; exact k1) (k _ _ #[bs,S.length,kvs,most,rfl,h1,h2.1,h2.2.1,h2.2.2,bV hat,hb,?_,k2.set hat] #[λj o h=>?_,by simp])]
 ·simp only[MN]at k3; omega
 ·have:j < S.length:=cr h;show((S++[O.dic []]++xM L).set S.length (O.dic kvs))[j]?=ba o;rw[bN (Lx ‹_›),LF (by simp; omega)]
  exact aq h
structure Menu (S0 S:aa)(r t m:KC):Prop where
 at_t:∃xs:Kr W,S[t]?=ba (.lst xs)/\xs.length=m/\∀x∈xs,KindOk S S0.length x
 pos:0 < m
 lh:m<=9
 fl:Fl S r
 kp:Kp r S0 S
 lt:S0.length<=t
 rlt:r < S0.length
theorem sT {S0 S S':aa}{r t m:KC}{w:W}(h:Menu S0 S r t m)(hw:KindOk S' S0.length w)(k:Ka S S')(hm:m < 9):∃xs,S'[t]?=ba (.lst xs)/\xs.length < sizeLine/\Menu S0 (S'.set t (.lst (xs++[w]))) r t (m+1):=by
 obtain⟨⟨xs,h1,h2,h3⟩,hp,hf,fl,kp,lt,rlt⟩:=h;have e:S'[t]?=ba (.lst xs):=k.get _ _ h1;have stay:∀x,KindOk S' S0.length x->KindOk (S'.set t (.lst (xs++[w]))) S0.length x:=λx hx=>hx.mono (λl ws hl el=>by
  by_cases hlt:t=l
  ·exfalso;subst hlt;rw[e]at el;injection el with el
   injection el with el
   match xs,h2,h3 with
   | [],h2,_=>simp at h2; omega
   | x::xs,_,h3=>
    obtain⟨bs,q,kvs,most,hx,_⟩:=h3 x (by simp)
    subst hx
    match ws with
    | []=>simp[ac]at el
    | w::ws=>simp[ac]at el
  ·rw[bN hlt]; exact el) (λl kvs hl el=>by
  rw[bN (by rintro rfl; rw[e]at el; cases el)]; exact el)
 refine#[xs,e,(by rw[LD]; omega),#[xs++[w],bV e,by simp; assumption,λx hx=>?_],∅,by exact Nat.succ_le_of_lt ‹_›,(fl.ka k).own (Lc ‹_› ‹_›),(kp.trans (k.kp r)).late lt,lt,rlt]
 rcases Ln.mp hx with hx|hx
 ·exact stay x ((h3 x hx).ka k)
 ·rw[KS.mp hx]; exact stay w hw
theorem sU (bs:Kr KO)(L:Kr Dw)(most:KO){fuel:KC}{S0:aa}{r t m:KC}{x0:Kz W}{K:Fm->aa->Prop}{Q:QO}(h:Menu S0 S r t m)(hm:m < 9)(h1:bs∈KB)(h2:1<=most/\most<=3/\most*bs.length<=6)(hL:∀e∈L,wg bs.length e=true)(h4:L.length<=4)(k:∀S',Menu S0 S' r t (m+1)->K [x0,ba (.ref t)] S') :
  wS Φ fuel (.ex (.me .append (.v 1) #v[AV bs L most])) [x0,ba (.ref t)] S K Q:=by
 dsimp only[wS,wE,wA,wV,wG];obtain⟨xs,e1,e2,e3⟩:=h.at_t;refine#[dG e1,qH bs L most (KQ h.lt (MF (cr e1))) h1 h2 hL h4 λw S' k1 k2=>?_]
 obtain⟨xs',f1,f2,f3⟩:=sT h k1 k2 hm;exact ab (vU f1 f2) (k _ f3)
theorem nR {defs:Kr (KZ×Df)}{fuel d:KC}{r:KC}{Q:QW}(G:Gen defs)(hf:Fl S r)(k:∀w S',KindOk S' S.length w->Fl S' r->Kp r S S'->Q (w,S')):wO (bw (ar defs fuel (d+2)) "_law_laying_kind" 1 [.ref r] S) Q:=by
 refine az G.laying_kind rfl rfl λQ' hR=>?_
 replace k:∀w S',KindOk S' S.length w->Fl S' r->Kp r S S'->Q' (.rt w,S'):=λz S' a b c=>hR _ _ (k z S' a b c)
 clear hR;show wZ _ _ cK [ba (.ref r),gV] S Q';have hrt:=hf.lt;unfold cK;refine aW λK hK=>?_
 refine Ih ?_;change wA _ _ _ _ _; change wE _ _ _ _ _
 refine qH [1,0] [(0,0,[0])] 3 (b:=S.length) (KH _) #v[] #v[] #v[] #v[] λw1 S1 k1 a1=>?_
 change wE _ _ _ _ _;refine qH [0,2,1] [(1,1,[1])] 2 (b:=S.length) a1.len #v[] #v[] #v[] #v[] λw2 S2 k2 a2=>?_
 have a12:=a1.trans a2;change wE _ _ _ _ _;refine qH [0,1] [(1,1,[1])] 3 (b:=S.length) a12.len #v[] #v[] #v[] #v[] λw3 S3 k3 a3=>?_
 have a13:=a12.trans a3;dsimp only[wA];refine hK _ _ ?_;clear hK K;have m3:Menu S (S3++[O.lst [w1,w2,w3]]) r S3.length 3:=by
  refine#[#[[w1,w2,w3],ah,rfl,λx hx=>?_],#v[],#v[],(hf.ka a13).ka .push,(a13.trans .push).kp r,a13.len,hrt]
  rcases Le.mp hx with rfl|hx
  ·exact(k1.ka (a2.trans a3)).ka .push
  ·rcases Le.mp hx with rfl|hx
   ·exact(k2.ka a3).ka .push
   ·rw[KS.mp hx];exact k3.ka .push
 dsimp only[KP];clear k1 k2 k3 a1 a2 a3 a12 a13;generalize S3.length=t at m3;generalize S3++[O.lst [w1,w2,w3]]=S3' at m3;refine aW λK hK=>sU [0,1] [(1,1,[1]),(0,0,[1])] 3 m3 #v[] #v[] #v[] #v[] #v[] λS4 m4=>hK _ _ ?_
 refine aW λK hK=>sU [0,1] [(1,1,[])] 1 m4 #v[] #v[] #v[] #v[] #v[] λS5 m5=>hK _ _ ?_
 refine aW λK hK=>sU [0,2,1] [(0,0,[0]),(0,1,[1]),(1,0,[1]),(1,1,[1])] 2 m5 #v[] #v[] #v[] #v[] #v[] λS6 m6=>hK _ _ ?_
 refine aW λK hK=>?_
 dsimp only[wS,wE,wA,wV,wG];obtain⟨xs,e1,e2,e3⟩:=m6.at_t;obtain⟨xs',f1,f2,m7⟩:=sT (S':=S6++[O.dic []]) (w:=.tup [.tup (ac [1,0]),.ref S6.length,.int 3]) m6 #[[1,0],S6.length,[],3,rfl,#v[],#v[],#v[],#v[],ah,m6.kp.len,#v[],λ_ h=>(nomatch h)] .push #v[]
 refine#[dG e1,ab (vU f1 f2) (hK _ _ ?_)];refine aW λK hK=>sU [0,1,2] [(2,2,[2]),(1,2,[1]),(2,1,[1]),(1,1,[1,2])] 2 m7 #v[] #v[] #v[] #v[] #v[] λS8 m8=>hK _ _ ?_
 refine aW λK hK=>sU [0,1,2] [(0,0,[0,1])] 2 m8 #v[] #v[] #v[] #v[] #v[] λS9 m9=>hK _ _ ?_
 refine st ?_;dsimp only[wS,wE,wA,wV,wG];refine bx (d:=d) G.pick m9.fl #v[] #v[] λv S10 v0 v9 f10 k10=>?_
 obtain⟨xs,g1,g2,g3⟩:=m9.at_t;have hlt:=m9.lt;have hv:v.toNat < xs.length:=∅
 exact fM (k10.get _ _ ∅ g1) v0 (KI hv) (k _ _ ((g3 _ (LL hv)).mono (λl ws hl e=>k10.get _ _ ∅ e) (λl ws hl e=>k10.get _ _ ∅ e)) f10 (m9.kp.trans k10))
end
noncomputable def sV (bs:Kr KO):Kr (Kr KO):=if bs=[0,1,2]then[[0,1,2],[0,2,1],[1,0,2],[1,2,0],[2,0,1],[2,1,0]]else if bs.length=2 then[[0,1],[1,0]]else[[0,1,2],[0,2,1],[2,0,1],[2,1,0]]
noncomputable def iG (bs nm:Kr KO):KC->Kr KO
 | 0=>Lo bs.length 0
 | k+1=>(iG bs nm k).set (nm.getD k 0).toNat (nm.getD (bs.getD k 0).toNat 0)
theorem j9 (bs nm:Kr KO):∀k,(iG bs nm k).length=bs.length
 | 0=>by simp[iG]
 | k+1=>by simp[iG,j9 bs nm k]
theorem Dx:∀bs∈KB,∀nm∈sV bs,nm.length=bs.length/\(∀x∈nm,0<=x/\x < (bs.length:KO))/\(∀x∈bs,0<=x/\x < (bs.length:KO))/\GoodB (iG bs nm bs.length):=by
 unfold GoodB;decide +kernel
theorem AW:∀bs∈KB,(bs.length=2\/bs.length=3)/\0 < (sV bs).length/\(sV bs).length < 10:=by decide
section
variable{Φ:KZ->FF}{fuel:KC}{ρ:Fm}{S:aa}{K:Fm->aa->Prop}{Q:QO}
theorem Dy {tg:Tg}{e:E}{b:Ss}(r:KC)(kvs:Kr (T×W))(I:KC->Fm->aa->Prop)(oe:eT e=true)(ok:ip b=true)(he:wE Φ e ρ S λp=>p.1=.ref r/\p.2[r]?=ba (.dic kvs)/\I 0 ρ (p.2.set r (.frd kvs)))
  (hstep:∀(i:KC) (p:T×W) (ρ:Fm) (S:aa),kvs[i]?=ba p->I i ρ S->wO (gC tg p.1.w ρ S) λq=>yi Φ fuel b q.1 q.2 (I (i+1)) Q) (hend:∀ρ S,I kvs.length ρ S->K ρ S):Wp (gN Φ fuel (.loop tg (.seq e) b) ρ S) (tP K Q):=by
 obtain⟨w,S1,e1,rfl,e2,h0⟩:=cN oe he;refine iU (mi:=.its (kvs.map λp=>p.1.w)) (S1:=S1.set r (.frd kvs)) (xs:=kvs.map λp=>p.1.w) I ok (by simp only[lI,fW,e1,qv e2,cW e2]) (λ_ _ _ _=>rfl) rfl h0 (λi w ρ S hw hI=>?_) λρ S hI=>hend ρ S (by rwa [Kt]at hI)
 rw[KD,Kv]at hw;obtain⟨p,hp,rfl⟩:=hw;exact hstep i p ρ S hp hI
end
section
variable{defs:Kr (KZ×Df)}{fuel d:KC}{S:aa}{r:KC}{Q:QW}
theorem Ik {i n:KC}{x:W}(h:S[i]?=ba (.lst [x]))(hn:n<=1000)(q:Q (.ref S.length,S++[.lst (Lo n x)])):wO (gJ .mul (.ref i) (.int (n:KO)) S) Q:=by
 refine ab ?_ q;have:n<=sizeLine:=lh hn;simp only[gJ,yO,dF h];rw[La #[∅,∅,by simpa using this]]
 unfold nL;simp[this]
theorem pz {q:KC}{kvs:Kr (T×W)}{u v:KO}{w:W}(h:kS S q=ba kvs)(hg:cw kvs (cu u v)=ba w):tN (.ref q) (.tup [.int u,.int v]) S=ba (w,S):=by
 have hk:ik (.tup [.int u,.int v])=ba (cu u v):=jC;simp only[tN,h,hk,hg,Lw]
theorem AX {q:KC}{kvs:Kr (T×W)}{u v:KO}{w:W}(h:S[q]?=ba (.dic kvs))(hl:kvs.length < sizeLine):jn (.ref q) (.tup [.int u,.int v]) w S=ba (S.set q (.dic (fE kvs (cu u v) w))):=by
 have hk:ik (.tup [.int u,.int v])=ba (cu u v):=jC;simp only[jn,p8,h,hk];rw[La hl]
theorem ke {xs:Kr KO}{x:KO}(h0:0<=x)(h1:x.toNat < xs.length):(ac xs)[x.toNat]?=ba (.int (xs.getD x.toNat 0)):=by
 unfold ac;rw[KD,aB (d:=0) h1]; rfl
theorem gT {xs:Kr KO}{i:KC}(h:i < xs.length):xs.getD i 0∈xs:=KY (aB (d:=0) h)
theorem nS (G:Gen defs){Q:QO}{bs:Kr KO}{x0 x2:Kz W}(hb:bs∈KB)
  (hk:∀(m s:KC) (S':aa),Ka S S'->S'[s]?=ba (.lst ((sV bs).map λnm=>W.tup (ac nm)))->S.length<=s->wZ (ar defs fuel (d+1)) fuel (dr 5 bW) [x0,ba (.tup (ac bs)),x2,ba (.int bs.length),ba (.ref m),ba (.ref s),gV,gV,gV,gV,gV,gV] S' Q) :
  wZ (ar defs fuel (d+1)) fuel bW [x0,ba (.tup (ac bs)),x2,gV,gV,gV,gV,gV,gV,gV,gV,gV] S Q:=by
 generalize hd5:dr 5 bW=cf at hk;unfold bW at hd5 ⊢;dsimp only[dr]at hd5;rw[hd5];clear hd5;refine aW λK hK=>?_
 dsimp only[wS,wE,wA,wV,wG,KP];refine bH ?_;rw[show(ac bs).length=bs.length from Kt ..]
 refine hK _ _ ?_;clear hK K;refine aW λK hK=>?_
 dsimp only[wS,wE,wA,wV,wG,KP];have hm:(((S++[O.lst [.tup [.int 0]]])++[O.lst [.tup [.int 0,.int 1],.tup [.int 1,.int 0]]])++[O.lst [.ref S.length,.ref (S++[O.lst [.tup [.int 0]]]).length]])[((S++[O.lst [.tup [.int 0]]])++[O.lst [.tup [.int 0,.int 1],.tup [.int 1,.int 0]]]).length]?=ba (.lst [.ref S.length,.ref (S++[O.lst [.tup [.int 0]]]).length]):=ah;refine hK _ _ ?_;clear hK K;generalize hS1:S++[O.lst [.tup [.int 0]]]=S1 at hm ⊢;generalize hS2:S1++[O.lst [.tup [.int 0,.int 1],.tup [.int 1,.int 0]]]=S2 at hm ⊢;generalize hS3:S2++[O.lst [.ref S.length,.ref S1.length]]=S3 at hm ⊢;have l1:S1.length=S.length+1:=by rw[<- hS1]; simp
 have l2:S2.length=S1.length+1:=by rw[<- hS2]; simp
 have l3:S3.length=S2.length+1:=by rw[<- hS3]; simp
 have kS2:Ka S S2:=by rw[<- hS2,<- hS1]; exact Ka.push.trans .push
 refine aW λK hK=>?_
 dsimp only[wS,wE,wA,wV,wG,KP];refine#[dG hm,ph (aq hm) (by decide:2 < 1000) (hK _ _ ?_)]
 clear hK K;generalize hS5:(S3++[O.lst [.tup [.int 0,.int 1,.int 2],.tup [.int 0,.int 2,.int 1],.tup [.int 2,.int 0,.int 1],.tup [.int 2,.int 1,.int 0]]]).set S2.length (.lst ([.ref S.length,.ref S1.length]++[.ref S3.length]))=S5;have k5:Ka S S5:=by
  rw[<- hS5,<- hS3];exact Ka.late (kS2.trans (Ka.push.trans .push)) ∅
 have m5:S5[S2.length]?=ba (.lst [.ref S.length,.ref S1.length,.ref S3.length]):=by
  rw[<- hS5]; exact bV (aq hm)
 have p5:S5[S1.length]?=ba (.lst [.tup [.int 0,.int 1],.tup [.int 1,.int 0]]):=by
  rw[<- hS5,bN ∅,<- hS3,<- hS2]
  exact aq (aq ah)
 have t5:S5[S3.length]?=ba (.lst [.tup [.int 0,.int 1,.int 2],.tup [.int 0,.int 2,.int 1],.tup [.int 2,.int 0,.int 1],.tup [.int 2,.int 1,.int 0]]):=by
  rw[<- hS5,bN ∅]
  exact ah
 have h1:S.length<=S1.length:=∅
 have h3:S.length<=S3.length:=∅
 clear hS1 hS2 hS3 hS5 hm l1 l2 l3 kS2;refine aW λK hK=>?_
 dsimp only[wS,wE,wA,wV,wG,KP,sF,aX];have hb':bs=[1,0]\/bs=[0,2,1]\/bs=[0,1]\/bs=[0,1,2]:=by simpa [KB]using hb
 rcases hb' with rfl|rfl|rfl|rfl
 ·refine fA (i:=1) m5 rfl (hK _ _ (aW λK hK=>cO (λQ q=>q) (hK _ _ (hk _ _ _ k5 p5 h1))))
 ·refine fA (i:=2) m5 rfl (hK _ _ (aW λK hK=>cO (λQ q=>q) (hK _ _ (hk _ _ _ k5 t5 h3))))
 ·refine fA (i:=1) m5 rfl (hK _ _ (aW λK hK=>cO (λQ q=>q) (hK _ _ (hk _ _ _ k5 p5 h1))))
 ·refine fA (i:=2) m5 rfl (hK _ _ (aW λK hK=>mG (λQ q=>q) λQ2 hn _=>?_))
  refine st ?_;dsimp only[wS,wE,wA,wV,wG,KP];exact lL (d:=d) G (cj (hn _ _ (hK _ _ (hk _ _ _ (k5.trans .push) ah k5.len))))
theorem uQ (G:Gen defs){S0:aa}{bs:Kr KO}{q:KC}{kvs:Kr (T×W)}(hb:bs∈KB)(hf:Fl S r)(hr:r < S0.length)(kp:Kp r S0 S)(hq:S[q]?=ba (.dic kvs))(hq0:S0.length<=q)(h4:kvs.length<=4)(hm:MustE S bs.length S0.length kvs)
  (k:∀(bs':Kr KO) (q':KC) (kvs':Kr (T×W)) S',GoodB bs'->bs'.length=bs.length->S'[q']?=ba (.dic kvs')->S0.length<=q'->MustE S' bs.length S0.length kvs'->Fl S' r->Kp r S0 S'->Q (.tup [.tup (ac bs'),.ref q'],S')) :
  wO (bw (ar defs fuel (d+2)) "_law_numbered" 3 [.ref r,.tup (ac bs),.ref q] S) Q:=by
 refine az G.numbered rfl rfl λQ' hR=>?_
 replace k:∀(bs':Kr KO) (q':KC) (kvs':Kr (T×W)) S',GoodB bs'->bs'.length=bs.length->S'[q']?=ba (.dic kvs')->S0.length<=q'->MustE S' bs.length S0.length kvs'->Fl S' r->Kp r S0 S'->Q' (.rt (.tup [.tup (ac bs'),.ref q']),S'):=λa b c e f g h i j l m=>hR _ _ (k a b c e f g h i j l m)
 clear hR;refine nS (d:=d) G hb ?_;intro m s S1 k1 e1 hs;dsimp only[dr,bW];have hrt:=hf.lt;obtain⟨hb1,hb2,hb3⟩:=AW bs hb;refine aW λK hK=>?_
 dsimp only[wS,wE,wA,wV,wG,KP];refine fN e1 ?_;rw[Kt];refine bx (d:=d) G.pick (hf.ka k1) ∅ ∅ λv S2 v0 v1 f2 k2=>?_
 obtain⟨nm,hnmm,enm⟩:=mJ (f:=λnm=>W.tup (ac nm)) (xs:=sV bs) (i:=v.toNat) ∅
 obtain⟨n1,n2,n3,n4⟩:=Dx bs hb nm hnmm;refine fM (k2.get _ _ ∅ e1) v0 enm (hK _ _ ?_)
 clear hK K;refine aW λK hK=>?_
 dsimp only[wS,wE,wA,wV,wG,KP];refine Ik ah ∅ (hK _ _ ?_)
 clear hK K;generalize hS4:S2++[O.lst [.int 0]]=S4;have k24:Ka S2 S4:=hS4 ▸ .push;have f4:Fl S4 r:=f2.ka k24;have kp4:Kp r S0 S4:=(kp.trans (k1.kp r)).trans (k2.trans (k24.kp r));have q4:S4[q]?=ba (.dic kvs):=k24.get _ _ (k2.get _ _ ∅ (k1.get _ _ hq))
 have m4:MustE S4 bs.length S0.length kvs:=((hm.ka k1).kp hr k2).ka k24;clear hS4 k24 hm hq f2 k2 k1 e1 enm hf;refine aW λK hK=>?_
 refine cJ (bs.length:KO) (λk ρ S'=>(∃x8,ρ=[ba (.ref r),ba (.tup (ac bs)),ba (.ref q),ba (.int bs.length),ba (.ref m),ba (.ref s),ba (.tup (ac nm)),ba (.ref S4.length),x8,gV,gV,gV])/\S'[S4.length]?=ba (.lst (ac (iG bs nm k)))/\Ka S4 S') rfl rfl ∅ #[rfl,#[_,rfl],?_,.push] ?_ ?_
 ·rw[ah]; simp[iG,ac]
 ·rintro i ρ S5 hi ⟨⟨x8,rfl⟩,e5,k5⟩ Q2 hn _;clear hK k;have hi':i < bs.length:=by exact MK.mp ‹_›
  have hi1:i < nm.length:=∅
  have c:=n3 _ (gT hi');have c2:=n2 _ (gT hi1);refine st ?_;dsimp only[wS,wE,wA,wV,wG,KP];refine am (KL i) (ke (KL i) hi') (am c.1 (ke c.1 (by rw[KN]; omega)) (am (KL i) (ke (KL i) hi1) ?_))
  rw[KN];refine ab (As e5 c2.1 (by rw[show(ac (iG bs nm i)).length=_ from Kt ..,j9]; omega)) (cj (hn _ _ #[#[_,rfl],?_,k5.late (KH _)]))
  rw[bV e5];unfold ac;rw[iG,List.map_set]
 ·rintro ρ S5 ⟨⟨x8,rfl⟩,e5,k5⟩;rw[KN]at e5;refine hK _ _ (st ?_);clear hK K;dsimp only[wS,wE,KP];have f5:Fl S5 r:=f4.ka k5;have q5:S5[q]?=ba (.dic kvs):=k5.get _ _ q4;have m5:MustE S5 bs.length S0.length kvs:=m4.ka k5;have kp5:Kp r S0 S5:=kp4.trans (k5.kp r);have hq5:=cr q5;have ht5:=cr e5;have hqt:q≠S4.length:=by rintro rfl; rw[e5]at q5; cases q5
  have hn9:(bs.length:KO)<=3:=∅
  have hr5:=f5.lt;clear k5 m4 q4 f4;refine aW λK hK=>?_
  refine Dy q kvs (λk ρ S'=>(∃x10 x11,ρ=[ba (.ref r),ba (.tup (ac bs)),ba (.ref q),ba (.int bs.length),ba (.ref m),ba (.ref s),ba (.tup (ac nm)),ba (.ref S4.length),x8,ba (.ref S5.length),x10,x11])/\S'[q]?=ba (.frd kvs)/\MustE S' bs.length S0.length kvs/\S'[S4.length]?=ba (.lst (ac (iG bs nm bs.length)))/\(∃kvs',S'[S5.length]?=ba (.dic kvs')/\kvs'.length<=k/\MustE S' bs.length S0.length kvs')/\Fl S' r/\Kp r S0 S') rfl rfl #[rfl,aq q5,#[gV,gV,rfl],bV (aq q5),(m5.ka .push).set (aq q5),?_,#[[],?_,KH _,λ_ h=>(nomatch h)],(f5.ka .push).own ∅,(kp5.trans .push).late hq0] ?_ ?_
  ·rw[bN hqt]; exact aq e5
  ·rw[bN (K7 ‹_›)]; exact ah
  ·rintro i p ρ S6 hp ⟨⟨x10,x11,rfl⟩,q6,m6,t6,⟨kvs',o6,l6,mm6⟩,f6,kp6⟩;clear hK k;have hpm:=KY hp;have hil:=(KJ.mp hp).1;obtain⟨u,v',l,ws,rfl,hu,hv',hl,hws,hl3,hw3⟩:=m6 p hpm;obtain⟨g,hg⟩:=we hpm;obtain⟨u2,v2,l2,ws2,he2,_,_,hl2,hws2,hl32,hw32⟩:=m6 _ (mO hg);injection he2 with _ he2
   subst he2;have hul:u.toNat < nm.length:=∅
   have hvl:v'.toNat < nm.length:=∅
   refine ab (show gC (.tp [10,11]) (cu u v',W.ref l).1.w [ba (.ref r),ba (.tup (ac bs)),ba (.ref q),ba (.int bs.length),ba (.ref m),ba (.ref s),ba (.tup (ac nm)),ba (.ref S4.length),x8,ba (.ref S5.length),x10,x11] S6=ba ([ba (.ref r),ba (.tup (ac bs)),ba (.ref q),ba (.int bs.length),ba (.ref m),ba (.ref s),ba (.tup (ac nm)),ba (.ref S4.length),x8,ba (.ref S5.length),ba (.int u),ba (.int v')],S6)from rfl) λQ2 hn _=>?_
   refine st ?_;dsimp only[wS,wE,wA,wV,wG,KP];refine vW l2 (ac ws2) (λi zs ρ2 S7=>(∃a1,ρ2=[gV,a1,ba (.tup (ac nm))])/\zs=ac ((ws2.take i).map λw=>nm.getD w.toNat 0)/\S7=S6) rfl rfl rfl ?_ ?_ ?_ ?_
   ·dsimp only[wE,wA,wV,wG];exact ab (pz (Dj q6) hg) #[rfl,#[_,rfl],rfl,rfl]
   ·rintro i zs ρ2 S7 ⟨_,_,rfl⟩;exact hws2
   ·rintro i w zs ρ2 S7 hw ⟨⟨a1,rfl⟩,rfl,rfl⟩;unfold ac at hw;rw[KD,Kv]at hw;obtain⟨x,hx,rfl⟩:=hw;obtain⟨x0,x1⟩:=hw32 x (KY hx);have hxl:x.toNat < nm.length:=∅
    refine ab (show gC (.nm 1) (.int x) [gV,a1,ba (.tup (ac nm))] S7=ba ([gV,ba (.int x),ba (.tup (ac nm))],S7)from rfl) ?_
    dsimp only[jb,wC,wE,wA,wV,wG];refine#[λ_=>am x0 (ke x0 hxl) #[#[_,rfl],?_,rfl],λz=>by cases z]
    rw[Lj,hx];simp[ac]
   ·rintro zs ρ2 S7 ⟨_,rfl,rfl⟩;rw[show(ac ws2).length=ws2.length from Kt ..,LC]
    refine#[lh (by simp[ac]; exact KQ ‹_› (KU rfl)),am hu.1 (ke hu.1 hul) (am hv'.1 (ke hv'.1 hvl) ?_)]
    refine ab (AX (aq o6) (by rw[LD]; omega)) (cj (hn _ _ #[#[_,_,rfl],?_,(m6.ka .push).set (aq o6),?_,#[_,bV (aq o6),?_,?_],(f6.ka .push).own ‹_›,(kp6.trans .push).late kp5.len]))
    ·rw[bN (Lx ‹_›)]; exact aq q6
    ·rw[bN (Lx ‹_›)]; exact aq t6
    ·exact KQ (dv ..) (OD l6)
    ·refine((mm6.ka .push).put (n2 _ (gT hul)) (n2 _ (gT hvl)) kp6.len ah (by simp; assumption) ?_).set (aq o6)
     intro w hw;obtain⟨x,hx,rfl⟩:=K6.mp hw;obtain⟨x0,x1⟩:=hw32 x hx;exact n2 _ (gT ∅)
  ·rintro ρ S6 ⟨⟨x10,x11,rfl⟩,q6,m6,t6,⟨kvs',o6,l6,mm6⟩,f6,kp6⟩;refine hK _ _ (st ?_);dsimp only[wS,wE,wA,wV,wG];exact fZ t6 (k _ _ kvs' _ n4 (j9 _ _ _) o6 kp5.len mm6 f6 kp6)
end
noncomputable def xN (x y z:KO):Kr (T×W):=[(cu 1 0,.int x),(cu 2 0,.int y),(cu 2 1,.int z)]
noncomputable def Dz (x y z a b c:KO):KC->Kr (T×W)
 | 0=>xN x y z
 | 1=>xN x y z++[(cu 0 1,.int a)]
 | 2=>xN x y z++[(cu 0 1,.int a),(cu 0 2,.int b)]
 | _=>xN x y z++[(cu 0 1,.int a),(cu 0 2,.int b),(cu 1 2,.int c)]
theorem F3 {n x y z a b c:KO}(hx:0<=x/\x < n)(hy:0<=y/\y < n)(hz:0<=z/\z < n)(ha:0<=a/\a < n)(hb:0<=b/\b < n)(hc:0<=c/\c < n):∀i j:KC,i < 3->j < 3->i≠j->∃p:KO,cw (Dz x y z a b c 3) (cu i j)=ba (.int p)/\0<=p/\p < n:=by
 intro i j hi hj hij
 match i,j,hi,hj,hij with
 | 0,0,_,_,h=>exact absurd rfl h
 | 0,1,_,_,_=>exact#[a,by rfl,ha]
 | 0,2,_,_,_=>exact#[b,by rfl,hb]
 | 1,0,_,_,_=>exact#[x,by rfl,hx]
 | 1,1,_,_,h=>exact absurd rfl h
 | 1,2,_,_,_=>exact#[c,by rfl,hc]
 | 2,0,_,_,_=>exact#[y,by rfl,hy]
 | 2,1,_,_,_=>exact#[z,by rfl,hz]
 | 2,2,_,_,h=>exact absurd rfl h
theorem sW:∀t∈aA,t.length=3/\t.getD 0 0 < 3/\t.getD 1 0 < 3/\t.getD 2 0 < 3/\t.getD 0 0≠t.getD 1 0/\t.getD 1 0≠t.getD 2 0/\t.getD 0 0≠t.getD 2 0:=by decide
theorem AY {t:Kr KC}(h:t∈aA):∃i j k:KC,t=[i,j,k]/\i < 3/\j < 3/\k < 3/\i≠j/\j≠k/\i≠k:=by
 obtain⟨h1,h2⟩:=sW t h
 match t,h1,h2 with
 | [i,j,k],_,h2=>exact#[i,j,k,rfl,h2]
section
variable{defs:Kr (KZ×Df)}{fuel d:KC}{S:aa}{r:KC}{Q:QW}
theorem AZ {l:KC}{f:KO}{ws:Kr KO}(h:S[l]?=ba (.lst (ac ws))):∃b,cM .notin (.int f) (.ref l) S=ba (.bl b,S):=by
 have hf:(cC (.int f)&&(ac ws).all cC)=true:=by
  simp only[cC,N7,K2];intro x hx;obtain⟨z,_,rfl⟩:=K6.mp hx;rfl
 refine#[!(ac ws).any λz=>yT z (.int f),?_]
 simp only[cM,lK h,iL,E8,Cg,fH,aK h,hf,Mt,Lw]
theorem F4 {q:KC}{kvs:Kr (T×W)}(h:S[q]?=ba (.dic kvs)):tyOk "dict" S (.ref q)=true:=by simp[tyOk,cW h]
theorem DA {q:KC}{kvs:Kr (T×W)}(h:S[q]?=ba (.dic kvs))(k:Q (.ref S.length,S++[.lst (kvs.map λp=>p.1.w)])):wO (Bi.list.fn [.ref q] S) Q:=by
 refine ab ?_ k;have h1:y8 S q=gV:=by simp[y8,h]
 have h2:kR [.ref q] S=gV:=by simp[kR,h1,jf,fH,qv h]
 simp only[Bi.fn,C7,h2,oW,cW h]
theorem A6 (G:Gen defs){bs:Kr KO}{q b0:KC}{kvs:Kr (T×W)}{x y z:KO}(hb:GoodB bs)(hx:0<=x/\x < bs.length)(hy:0<=y/\y < bs.length)(hz:0<=z/\z < bs.length)(hq:S[q]?=ba (.dic kvs))(hm:MustE S bs.length b0 kvs)
  (k:∀b S',Ka S S'->Q (.bl b,S')):wO (bw (ar defs fuel (d+2)) "_law_breaks" 5 [.tup (ac bs),.ref q,.int x,.int y,.int z] S) Q:=by
 refine az G.breaks rfl rfl λQ' hR=>?_
 replace k:∀b S',Ka S S'->Q' (.rt (.bl b),S'):=λa b c=>hR _ _ (k a b c)
 clear hR;show wZ _ _ eN [ba (.tup (ac bs)),ba (.ref q),ba (.int x),ba (.int y),ba (.int z),gV,gV,gV,gV,gV] S Q';obtain⟨a,ha1,ha⟩:=hb.rng x.toNat ∅
 obtain⟨b,hb1,hb2⟩:=hb.rng y.toNat ∅
 obtain⟨c,hc1,hc⟩:=hb.rng z.toNat ∅
 have hqt:=cr hq;unfold eN;refine aW λK hK=>?_
 dsimp only[wS,wE,wA,wV,wG,KP];refine#[ah,ab (show ey [] [.tup [.int 1,.int 0],.int x,.tup [.int 2,.int 0],.int y,.tup [.int 2,.int 1],.int z]=ba (xN x y z)from rfl) (hK _ _ ?_)]
 clear hK K;have e1:((S++[O.dic []]).set S.length (.dic (xN x y z)))[S.length]?=ba (.dic (xN x y z)):=bV ah;have k1:Ka S ((S++[O.dic []]).set S.length (.dic (xN x y z))):=Ka.push.late (KH _);have l1:((S++[O.dic []]).set S.length (.dic (xN x y z))).length=S.length+1:=by simp
 generalize(S++[O.dic []]).set S.length (.dic (xN x y z))=S1 at e1 k1 l1 ⊢;refine aW λK hK=>?_
 refine gS rfl rfl ?_;dsimp only[wE,wA,wV,wG];refine DA e1 #[S1.length,[ef 1 0,ef 2 0,ef 2 1],(λk ρ S'=>(∃x6,ρ=[ba (.tup (ac bs)),ba (.ref q),ba (.int x),ba (.int y),ba (.int z),ba (.ref S.length),x6,gV,gV,gV])/\S'[S.length]?=ba (.dic (Dz x y z a b c k))/\S'[S1.length]?=ba (.lst [ef 1 0,ef 2 0,ef 2 1])/\Ka S S'),rfl,#[#[_,rfl],aq e1,ah,k1.trans .push],λi ρ S' h=>h.2.2.1,?_,?_]
 ·have step:∀(u v f g:KO) (kv kv':Kr (T×W)) (S':aa) (i:KC),cw kv (cu u v)=ba (.int f)->0<=f->bs[f.toNat]?=ba g->kv.length < 10->fE kv (cu v u) (.int g)=kv'->Dz x y z a b c (i+1)=kv'->∀x6:Kz W,S'[S.length]?=ba (.dic kv)->S'[S1.length]?=ba (.lst [ef 1 0,ef 2 0,ef 2 1])->Ka S S'->
    wO (gC (.nm 6) (ef u v) [ba (.tup (ac bs)),ba (.ref q),ba (.int x),ba (.int y),ba (.int z),ba (.ref S.length),x6,gV,gV,gV] S') λp=>yi (ar defs fuel (d+1)) fuel #v[.put (.v 5) (.tup #v[.ix (.v 6) (.c (.int 1)),.ix (.v 6) (.c (.int 0))]) (.ix (.v 0) (.ix (.v 5) (.v 6)))] p.1 p.2 (λρ S'=>(∃x6,ρ=[ba (.tup (ac bs)),ba (.ref q),ba (.int x),ba (.int y),ba (.int z),ba (.ref S.length),x6,gV,gV,gV])/\S'[S.length]?=ba (.dic (Dz x y z a b c (i+1)))/\S'[S1.length]?=ba (.lst [ef 1 0,ef 2 0,ef 2 1])/\Ka S S') Q':=by
   clear hK k;intro u v f g kv kv' S' i h1 h2 h3 h4 h5 h6 x6 e e' k;refine ab (show gC (.nm 6) (ef u v) [ba (.tup (ac bs)),ba (.ref q),ba (.int x),ba (.int y),ba (.int z),ba (.ref S.length),x6,gV,gV,gV] S'=ba ([ba (.tup (ac bs)),ba (.ref q),ba (.int x),ba (.int y),ba (.int z),ba (.ref S.length),ba (ef u v),gV,gV,gV],S')from rfl) λQ2 hn _=>?_
   refine st ?_;dsimp only[wS,wE,wA,wV,wG];refine ab (pz (cW e) h1) (am h2 (w:=.int g) (by unfold ac; rw[KD,h3]; rfl) (am #v[] rfl (am #v[] rfl ?_)))
   refine ab (AX e (by rw[LD]; omega)) (cj (hn _ _ #[#[_,rfl],?_,?_,k.late (KH _)]))
   ·rw[bV e,h5,h6]
   ·rw[bN ∅]; exact e'
  rintro i w ρ S2 hw ⟨⟨x6,rfl⟩,e2,l2,k2⟩
  match i,hw,e2 with
  | 0,hw,e2=>cases hw; exact step 1 0 x a _ _ S2 0 (by rfl) hx.1 ha1 (by simp[Dz,xN]) (by rfl) (by rfl) x6 e2 l2 k2
  | 1,hw,e2=>cases hw; exact step 2 0 y b _ _ S2 1 (by rfl) hy.1 hb1 (by simp[Dz,xN]) (by rfl) (by rfl) x6 e2 l2 k2
  | 2,hw,e2=>cases hw; exact step 2 1 z c _ _ S2 2 (by rfl) hz.1 hc1 (by simp[Dz,xN]) (by rfl) (by rfl) x6 e2 l2 k2
  | n+3,hw,_=>simp at hw
 ·rintro ρ S2 ⟨⟨x6,rfl⟩,e2,l2,k2⟩;have hv:=F3 hx hy hz ha hb2 hc;have e2:S2[S.length]?=ba (.dic (Dz x y z a b c 3)):=e2;refine hK _ _ ?_;clear hK K;have hlt2:=cr e2;refine aW λK hK=>?_
  refine gS rfl rfl ?_;dsimp only[wE,wA,wV,wG];refine lL (d:=d) G #[S2.length,aA.map (λt=>W.tup (aw t)),(λk ρ S'=>(∃x7 x8 x9,ρ=[ba (.tup (ac bs)),ba (.ref q),ba (.int x),ba (.int y),ba (.int z),ba (.ref S.length),x6,x7,x8,x9])/\S'[S.length]?=ba (.dic (Dz x y z a b c 3))/\S'[S2.length]?=ba (.lst (aA.map (λt=>W.tup (aw t))))/\Ka S S'),rfl,#[#[_,_,_,rfl],aq e2,ah,k2.trans .push],λi ρ S' h=>h.2.2.1,?_,?_]
  ·rintro i w ρ S3 hw ⟨⟨x7,x8,x9,rfl⟩,e3,l3,k3⟩;clear hK;rw[KD,Kv]at hw;obtain⟨t,ht,rfl⟩:=hw;obtain⟨i1,j1,h1,rfl,hi1,hj1,hh1,n1,n2,n3⟩:=AY (KY ht);obtain⟨p1,g1,r1⟩:=hv i1 j1 hi1 hj1 n1;obtain⟨p2,g2,r2⟩:=hv j1 h1 hj1 hh1 n2;obtain⟨p3,g3,r3⟩:=hv i1 h1 hi1 hh1 n3;have q3:=k3.get _ _ hq;refine ab (show gC (.tp [7,8,9]) (W.tup (aw [i1,j1,h1])) [ba (.tup (ac bs)),ba (.ref q),ba (.int x),ba (.int y),ba (.int z),ba (.ref S.length),x6,x7,x8,x9] S3=ba ([ba (.tup (ac bs)),ba (.ref q),ba (.int x),ba (.int y),ba (.int z),ba (.ref S.length),x6,ba (.int i1),ba (.int j1),ba (.int h1)],S3)from rfl) λQ2 hn hr=>?_
   refine aW λK hK=>?_
   dsimp only[wS,wT,wE,wA,wV,wG];refine ab (pz (cW e3) g3) #[F4 q3,ab (pz (cW e3) g1) (ab (pz (cW e3) g2) (ab (pz (cW e3) g3) ?_))];have hget:Me.get.fn (.ref q) [.tup [.int p1,.int p2],.ref S3.length] (S3++[O.lst [.int p3]])=ba ((cw kvs (cu p1 p2)).getD (.ref S3.length),S3++[O.lst [.int p3]]):=by
    have hk:ik (.tup [.int p1,.int p2])=ba (cu p1 p2):=jC;simp only[Me.fn,vn,cW (aq q3),hk]
   refine ab hget ?_;have hres:∃(l:KC) (ws:Kr KO),(cw kvs (cu p1 p2)).getD (.ref S3.length)=.ref l/\(S3++[O.lst [.int p3]])[l]?=ba (.lst (ac ws)):=by
    cases hg:cw kvs (cu p1 p2)with
    | none=>exact#[S3.length,[p3],rfl,ah]
    | some g=>
     obtain⟨u,v,l,ws,he,_,_,_,hl,_⟩:=(hm.ka k3) _ (mO hg);injection he with _ he
     subst he;exact#[l,ws,rfl,aq hl]
   obtain⟨l,ws,hl1,hl2⟩:=hres;dsimp only;rw[hl1];obtain⟨kb,hkb⟩:=AZ (f:=p3) hl2;refine ab hkb ?_;dsimp only[wB];refine au (Q0:=Q2) (λ_ Q3 _ hr3=>st (hr3 _ _ (hr _ _ (k _ _ (k3.trans .push))))) λ_ Q3 hn3 _=>cj (hn3 _ _ (hK _ _ (cj (hn _ _ #[#[_,_,_,rfl],aq e3,aq l3,k3.trans .push]))))
  ·rintro ρ S3 ⟨⟨x7,x8,x9,rfl⟩,e3,l3,k3⟩;exact hK _ _ (st (k _ _ k3))
end
theorem Il {a n:KC}{m0 m1 m2 x y z:KO}(h0:0<=m0/\m0 < a)(h1:0<=m1/\m1 < a)(h2:0<=m2/\m2 < a)(hx:0<=x/\x < n)(hy:0<=y/\y < n)(hz:0<=z/\z < n):GoodW a n [(m0,[]),(m1,[x]),(m2,[y,z])]:=by
 refine#[λk p h=>?_,λk p h=>?_,λk p h=>?_] <;> match k,h with
 | 0,h=>cases h; first|exact h0|rfl|(intro w hw; cases hw)
 | 1,h=>cases h; first|exact h1|rfl|(intro w hw; rw[KS.mp hw]; exact hx)
 | 2,h=>cases h; first|exact h2|rfl|(intro w hw; rcases Le.mp hw with e|hw <;> first|exact e ▸ hy|(rw[KS.mp hw]; exact hz))
 | n+3,h=>simp at h
theorem F5 {Φ:KZ->FF}{ρ:Fm}{S:aa}{i n:KC}{Q:QW}(hv:∀Q:W->Prop,Q (.int n)->wV ρ i Q)(hn:n<=3)(k:∀j:KO,0<=j->j<=27->j=(n:KO)*n*n->Q (.int j,S)):wE Φ (.op .mul (.op .mul (.v i) (.v i)) (.v i)) ρ S Q:=by
 have b1 : -(2 ^ 64) < (n:KO):=∅
 have b2:(n:KO) < 2 ^ 64:=∅
 have hc:(n:KO)*n*n<=27/\0<=(n:KO)*n*n:=by rcases(show n=0\/n=1\/n=2\/n=3 by omega)with h|h|h|h <;> rw[h] <;> decide
 dsimp only[wE];have em:∀m:KO,gJ .mul (.int m) (.int n) S=ba (.int (m*n),S):=λm=>sG b1 b2
 generalize gJ .mul=B at em ⊢;refine hv _ ?_;refine hv _ ?_;refine ab (em _) ?_;refine hv _ ?_;refine ab (em _) ?_;have:=k _ hc.2 hc.1 rfl;exact this
theorem A7 {Φ:KZ->FF}{fuel:KC}{ρ:Fm}{S:aa}{K:Fm->aa->Prop}{Q:QO}{i0 i n:KC}{b:Ss}(hv:∀Q:W->Prop,Q (.int n)->wV ρ i Q)(hn:n<=3)(ok:ip b=true)
  (h:∀j:KO,0<=j->j<=27->j=(n:KO)*n*n->∃I:KC->Fm->aa->Prop,I 0 ρ S/\(∀(i:KC) (ρ:Fm) (S:aa),(i:KO) < j->I i ρ S->yi Φ fuel b (ρ.set i0 (ba (.int i))) S (I (i+1)) Q)/\∀ρ S,I j.toNat ρ S->K ρ S) :
  Wp (gN Φ fuel (.loop (.nm i0) (.rng #v[.op .mul (.op .mul (.v i) (.v i)) (.v i)]) b) ρ S) (tP K Q):=
 have hw:=F5 (Φ:=Φ) (S:=S) (Q:=λp=>∃(j:KO) (I:KC->Fm->aa->Prop),p.1=.int j/\(-(2 ^ 62)<=j/\j < 2 ^ 62)/\I 0 ρ p.2/\(∀(i:KC) (ρ:Fm) (S:aa),(i:KO) < j->I i ρ S->yi Φ fuel b (ρ.set i0 (ba (.int i))) S (I (i+1)) Q)/\∀ρ S,I j.toNat ρ S->K ρ S) hv hn λj j0 j27 e=>let ⟨I,h0,h1,h2⟩:=h j j0 j27 e; #[j,I,rfl,∅,h0,h1,h2]
 jA rfl ok hw
section
variable{defs:Kr (KZ×Df)}{fuel d:KC}{S:aa}{r:KC}{Q:QW}
theorem Ba (hfu:20 < fuel)(G:Gen defs)(hf:Fl S r)(k:∀w S',fB w->Fl S' r->Kp r S S'->Q (w,S')):wO (bw (ar defs fuel (d+7)) "_law_laying_rule" 1 [.ref r] S) Q:=by
 refine az G.laying_rule rfl rfl λQ' hR=>?_
 replace k:∀w S',fB w->Fl S' r->Kp r S S'->Q' (.rt w,S'):=λz S' a b c=>hR _ _ (k z S' a b c)
 clear hR;show wZ _ _ cL [ba (.ref r),gV,gV,gV,gV,gV,gV,gV,gV,gV,gV,gV,gV,gV,gV] S Q';unfold cL;refine aW λK hK=>?_
 dsimp only[wS,wE,wA,wV,wG,KP];refine bx (d:=d+5) G.pick hf #v[] #v[] λv S1 v0 v7 f1 k1=>hK _ _ ?_
 clear hK K;refine aW λK hK=>?_
 dsimp only[wS,wT,wE,wV,wG,iT,aX,wB];refine au (Q0:=Q') (λ_ Q2 _ hr=>?_) (λ_ Q2 hn _=>cj (hn _ _ (hK _ _ ?_)))
 ·refine st ?_;dsimp only[wS,wE,wA,wV,wG];exact sR (d:=d) hfu G f1 λw S2 a b c=>hr _ _ (k w S2 a b (k1.trans c))
 clear hK K hn;refine aW λK hK=>?_
 dsimp only[wS,wT,wE,wV,wG,iT,aX,wB];refine au (Q0:=Q') (λ_ Q2 _ hr=>?_) (λ_ Q2 hn _=>cj (hn _ _ (hK _ _ ?_)))
 ·refine st ?_;dsimp only[wS,wE,wA,wV,wG];exact xK (d:=d) hfu G f1 λw S2 a b c=>hr _ _ (k w S2 a b (k1.trans c))
 clear hK K hn;have hr1:=f1.lt;refine aW λK hK=>?_
 dsimp only[wS,wE,wA,wV,wG];refine nR (d:=d+4) G f1 λw2 S2 hw2 f2 k2=>?_
 obtain⟨bs0,q0,kvs0,most,rfl,hbs0,m1,m3,m6,hq0,hq0l,h40,hm0⟩:=hw2;dsimp only[wU];refine ab (show eu [2,3,4] [.tup (ac bs0),.ref q0,.int most] [ba (.ref r),ba (.int v),gV,gV,gV,gV,gV,gV,gV,gV,gV,gV,gV,gV,gV]=ba [ba (.ref r),ba (.int v),ba (.tup (ac bs0)),ba (.ref q0),ba (.int most),gV,gV,gV,gV,gV,gV,gV,gV,gV,gV]from rfl) (hK _ _ ?_)
 clear hK K;refine aW λK hK=>?_
 dsimp only[wS,wE,wA,wV,wG,KP];refine bx (d:=d+5) G.pick f2 ∅ ∅ λv3 S3 v30 v3m f3 k3=>?_
 dsimp only[d7,aX];obtain⟨a,ea⟩ : ∃a:KC,1+v3=a:=#[(1+v3).toNat,∅]
 rw[ea];refine hK _ _ ?_;clear hK K;refine aW λK hK=>?_
 dsimp only[wS,wE,wA,wV,wG];refine uQ (d:=d+4) G (S0:=S1) hbs0 f3 hr1 (k2.trans k3) (k3.get _ _ ∅ hq0) hq0l h40 (hm0.kp hr1 k3) λbs q kvs S4 hb hbl hq hql hm f4 k4=>?_
 dsimp only[wU];refine ab (show eu [2,3] [.tup (ac bs),.ref q] [ba (.ref r),ba (.int v),ba (.tup (ac bs0)),ba (.ref q0),ba (.int most),ba (.int a),gV,gV,gV,gV,gV,gV,gV,gV,gV]=ba [ba (.ref r),ba (.int v),ba (.tup (ac bs)),ba (.ref q),ba (.int most),ba (.int a),gV,gV,gV,gV,gV,gV,gV,gV,gV]from rfl) (hK _ _ ?_)
 clear hK K;rw[<- hbl]at hm m6;have hn:bs.length=2\/bs.length=3:=by rw[hbl]; exact(AW bs0 hbs0).1
 have hsz:SizeOk a bs:=#[∅,hb,by
  have h1:(a:KO)*bs.length<=most*bs.length:=Int.mul_le_mul_of_nonneg_right ∅ ∅
  exact_mod_cast Int.le_trans h1 m6,∅]
 clear m6 hm0 hq0 hq0l h40 hbl hbs0 k2 k3 f2 f3;refine aW λK hK=>?_
 dsimp only[wS,wE,wA,wV,wG,KP];refine gz (d:=d+1) hfu G f4 ∅ ∅ λms ns S5 hml hnl hnm f5 k5=>hK _ _ ?_
 clear hK K;have kk:Kp r S S5:=k1.trans (k4.trans k5);have hrt:=f5.lt;have hq5:S5[q]?=ba (.dic kvs):=k5.get _ _ ∅ hq
 have hm5:MustE S5 bs.length S1.length kvs:=hm.kp hr1 k5;have hqn:q < S5.length:=cr hq5;clear k1 k4 k5 f4 hm hq hql f1;refine st ?_;dsimp only[wS,wE,KP];refine aW λK hK=>?_
 dsimp only[wS,wE,wA,wV,wG,KP];refine bH ?_;rw[show(ac bs).length=bs.length from Kt ..]
 refine hK _ _ ?_;clear hK K;refine aW λK hK=>?_
 refine A7 (n:=bs.length) (λQ q=>q) ∅ rfl λj j0 j27 hj=>?_
 refine#[(λ_ ρ S'=>(∃x9 x10 x11 x12 x13 x14,ρ=[ba (.ref r),ba (.int v),ba (.tup (ac bs)),ba (.ref q),ba (.int most),ba (.int a),ba (eD ms ns bs []),ba (.ref S5.length),ba (.int bs.length),x9,x10,x11,x12,x13,x14])/\(∃kvs fs,S'[S5.length]?=ba (.dic kvs)/\FigD (bu a bs) kvs fs)/\S'[q]?=ba (.dic kvs)/\MustE S' bs.length S1.length kvs/\Fl S' r/\Kp r S S'),#[#[_,_,_,_,_,_,rfl],#[[],[],ah,.nil],aq hq5,hm5.ka .push,f5.ka .push,kk.trans .push],?_,?_]
 ·rintro i ρ S6 hi ⟨⟨x9,x10,x11,x12,x13,x14,rfl⟩,⟨kvd,fs,e6,hd⟩,hq6,hm6,f6,k6⟩ Q2 hn2 _;clear hK k;have hnp:(0:KO) < bs.length:=∅
  have hnb:(bs.length:KO) < 1073741824:=∅
  have y1:0<=(i:KO) % bs.length/\(i:KO) % bs.length < bs.length:=#[Nj _ ∅,Nc _ hnp]
  have y2:0<=(i:KO) / bs.length % bs.length/\(i:KO) / bs.length % bs.length < bs.length:=#[Nj _ ∅,Nc _ hnp]
  have y3:0<=(i:KO) / bs.length / bs.length/\(i:KO) / bs.length / bs.length < bs.length:=by
   rcases hn with h|h <;> rw[h]at hj ⊢ <;> omega
  refine aW λK hK=>?_
  dsimp only[wS,wE,wA,wV,wG,KP];refine ab (jt hnp) (ab (iS hnp hnb) (ab (jt hnp) ?_));dsimp only[w2];refine hK _ _ ?_;clear hK K;refine aW λK hK=>?_
  dsimp only[wS,wE,wA,wV,wG,KP];refine ab (iS hnp hnb) (ab (iS hnp hnb) (hK _ _ ?_));clear hK K;dsimp only;generalize(i:KO) % bs.length=z1 at y1 ⊢;generalize(i:KO) / bs.length % bs.length=z2 at y2 ⊢;generalize(i:KO) / bs.length / bs.length=z3 at y3 ⊢;refine aW λK hK=>?_
  dsimp only[wS,wT,wA,wE,wV,wG];refine A6 (d:=d+4) G hb y1 y2 y3 hq6 hm6 λb S7 k7=>?_
  dsimp only[gE,aX];refine au (Q0:=Q2) (λ_ Q3 hn3 _=>?_) (λ_ Q3 hn3 _=>cj (hn3 _ _ (hK _ _ (cj (hn2 _ _ #[#[_,_,_,_,_,_,rfl],#[kvd,fs,k7.get _ _ e6,hd],k7.get _ _ hq6,hm6.ka k7,f6.ka k7,k6.trans (k7.kp r)])))))
  refine aW λK3 hK3=>?_
  refine gS rfl rfl ?_;dsimp only[wE,wA,wV,wG];have h56:S5.length < S6.length:=cr e6;have h67:=k7.len;refine AS (d:=d+5) G (a:=a) ∅ λt ts S8 e8 ht ht7 k8=>?_
  refine#[t,ts.map qF,(λ_ ρ S'=>(∃x9 x13 x14,ρ=[ba (.ref r),ba (.int v),ba (.tup (ac bs)),ba (.ref q),ba (.int most),ba (.int a),ba (eD ms ns bs []),ba (.ref S5.length),ba (.int bs.length),x9,ba (.int z1),ba (.int z2),ba (.int z3),x13,x14])/\(∃kvs fs,S'[S5.length]?=ba (.dic kvs)/\FigD (bu a bs) kvs fs)/\S'[q]?=ba (.dic kvs)/\MustE S' bs.length S1.length kvs/\S'[t]?=ba (.lst (ts.map qF))/\Fl S' r/\Kp r S S'),rfl,#[#[_,_,_,rfl],#[kvd,fs,k8.get _ _ (k7.get _ _ e6),hd],k8.get _ _ (k7.get _ _ hq6),(hm6.ka k7).ka k8,e8,(f6.ka k7).ka k8,k6.trans ((k7.trans k8).kp r)],λi ρ S' h=>h.2.2.2.2.1,?_,?_]
  ·rintro j w ρ S9 hw ⟨⟨x9,x13,x14,rfl⟩,⟨kvd,fs,e9,hd⟩,hq9,hm9,ht9,f9,k9⟩;clear hK3 hn3 hK hn2;rw[KD,Kv]at hw;obtain⟨⟨tr1,tr2,tr3⟩,htr,rfl⟩:=hw;obtain⟨t1,t2,t3⟩:=ht _ (KY htr);refine ab (show gC (.nm 13) (qF (tr1,tr2,tr3)) [ba (.ref r),ba (.int v),ba (.tup (ac bs)),ba (.ref q),ba (.int most),ba (.int a),ba (eD ms ns bs []),ba (.ref S5.length),ba (.int bs.length),x9,ba (.int z1),ba (.int z2),ba (.int z3),x13,x14] S9=ba ([ba (.ref r),ba (.int v),ba (.tup (ac bs)),ba (.ref q),ba (.int most),ba (.int a),ba (eD ms ns bs []),ba (.ref S5.length),ba (.int bs.length),x9,ba (.int z1),ba (.int z2),ba (.int z3),ba (qF (tr1,tr2,tr3)),x14],S9)from rfl) λQ4 hn4 _=>?_
   have hu:GoodW a bs.length [(tr1,[]),(tr2,[z1]),(tr3,[z2,z3])]:=Il t1 t2 t3 y1 y2 y3;refine aW λK hK=>?_
   dsimp only[wS,wE,wA,wV,wG,KP];refine am #v[] rfl (am #v[] rfl (hK _ _ ?_))
   clear hK K;refine st ?_;dsimp only[wS,wE,wA,wV,wG];refine am #v[] rfl (ab (gq (jw rfl)) ?_)
   refine jy (d:=d+3) (m0:=.tup (ms.map W.str)) (b0:=.tup []) (u:=[(tr1,[]),(tr2,[z1]),(tr3,[z2,z3])]) G hb hnl hu rfl λS10 k10=>?_
   have e10:=k10.get _ _ e9;exact AO e10 hd hsz hu rfl λo ho=>cj (hn4 _ _ #[#[_,_,_,rfl],ho,by rw[bN (Lx ‹_›)]; exact k10.get _ _ hq9,(hm9.ka k10).set e10,by rw[bN ∅]; exact k10.get _ _ ht9,(f9.ka k10).own hrt,(k9.trans (k10.kp r)).late kk.len])
  ·rintro ρ S9 ⟨⟨x9,x13,x14,rfl⟩,hdd,hq9,hm9,ht9,f9,k9⟩;exact hK3 _ _ (cj (hn3 _ _ (hK _ _ (cj (hn2 _ _ #[#[_,_,_,_,_,_,rfl],hdd,hq9,hm9,f9,k9])))))
 ·rintro ρ S6 ⟨⟨x9,x10,x11,x12,x13,x14,rfl⟩,⟨kvd,fs,e6,hd⟩,hq6,hm6,f6,k6⟩;refine hK _ _ (st ?_);dsimp only[wS,wE,wA,wV,wG];exact AN (Q:=λp=>Q' (.rt p.1,p.2)) e6 hd hsz hml hnl hnm λw S8 hw k8=>k w S8 hw (f6.ka k8) (k6.trans (k8.kp r))
end
noncomputable def Tr:KC->W->Prop
 | _,.int _=>Rg
 | _,.str _=>Rg
 | _,.non=>Rg
 | n+1,.tup xs=>xs.length<=1000/\∀x∈xs,Tr n x
 | _,_=>L7
theorem kg:∀n:KC,iO (Lo n (.bl true))=ba (Lo n true)
 | 0=>rfl
 | n+1=>by rw[Mr,iO,kg n]; rfl
theorem wj (n:KC):(Lo n true).all id=true:=by
 rw[K2];intro x hx;rw[(List.mem_replicate.mp hx).2]; rfl
section
variable{defs:Kr (KZ×Df)}{fuel:KC}
theorem DB (hg:Is defs ("_law_alike" : KZ) 2 2 bP):∀(n d:KC) (w:W) (S:aa) (Q:QW),Tr n w->(∀S',Ka S S'->Q (.bl true,S'))->wO (bw (ar defs fuel (d+n+1)) "_law_alike" 2 [w,w] S) Q:=by
 intro n
 induction n with
 | zero=>
  intro d w S Q hw k;refine az hg rfl rfl λQ' hR=>?_
  replace k:=hR _ _ (k S .refl);clear hR;show wZ _ _ bP [ba w,ba w] S Q';dsimp only[bP];cases w with
  | int x=>
   refine aW λK hK=>cO (λQ q=>q) (hK _ _ ?_)
   refine aW λK hK=>cO (λQ q=>#[λz=>(by cases z),λ_=>q]) (hK _ _ ?_)
   refine aW λK hK=>mG (λQ q=>q) λQ2 _ hr=>st ?_
   dsimp only[wS,wE,wV,wG];refine ab (show xv S (.int x) "int" = ba true from rfl) #[λ_=>?_,λz=>by cases z]
   dsimp only[iT,aX];rw[LK];exact hr _ _ k
  | str x=>
   refine aW λK hK=>cO (λQ q=>q) (hK _ _ ?_)
   refine aW λK hK=>cO (λQ q=>#[λz=>(by cases z),λ_=>q]) (hK _ _ ?_)
   refine aW λK hK=>cO (λQ q=>q) (hK _ _ ?_)
   refine aW λK hK=>mG (λQ q=>q) λQ2 _ hr=>st ?_
   dsimp only[wS,wE,wV,wG];refine ab (show xv S (.str x) "str" = ba true from rfl) #[λ_=>?_,λz=>by cases z]
   dsimp only[Ed,aX];rw[LK];exact hr _ _ k
  | non=>
   refine aW λK hK=>mG (λQ q=>q) λQ2 _ hr=>st ?_
   dsimp only[wS,wE,wV,wG];exact ab (show cM .is .non .non S=ba (.bl true,S)from rfl) (hr _ _ k)
  | _=>exact hw.elim
 | succ n ih=>
  intro d w S Q hw k;refine az hg rfl rfl λQ' hR=>?_
  replace k:∀S',Ka S S'->Q' (.rt (.bl true),S'):=λS' a=>hR _ _ (k S' a)
  clear hR;show wZ _ _ bP [ba w,ba w] S Q';dsimp only[bP];cases w with
  | int x=>
   refine aW λK hK=>cO (λQ q=>q) (hK _ _ ?_)
   refine aW λK hK=>cO (λQ q=>#[λz=>(by cases z),λ_=>q]) (hK _ _ ?_)
   refine aW λK hK=>mG (λQ q=>q) λQ2 _ hr=>st ?_
   dsimp only[wS,wE,wV,wG];refine ab (show xv S (.int x) "int" = ba true from rfl) #[λ_=>?_,λz=>by cases z]
   dsimp only[iT,aX];rw[LK];exact hr _ _ (k _ .refl)
  | str x=>
   refine aW λK hK=>cO (λQ q=>q) (hK _ _ ?_)
   refine aW λK hK=>cO (λQ q=>#[λz=>(by cases z),λ_=>q]) (hK _ _ ?_)
   refine aW λK hK=>cO (λQ q=>q) (hK _ _ ?_)
   refine aW λK hK=>mG (λQ q=>q) λQ2 _ hr=>st ?_
   dsimp only[wS,wE,wV,wG];refine ab (show xv S (.str x) "str" = ba true from rfl) #[λ_=>?_,λz=>by cases z]
   dsimp only[Ed,aX];rw[LK];exact hr _ _ (k _ .refl)
  | tup xs=>
   obtain⟨hl,hx⟩:=hw;refine aW λK hK=>cO (λQ q=>q) (hK _ _ ?_)
   refine aW λK hK=>cO (λQ q=>#[λz=>(by cases z),λ_=>q]) (hK _ _ ?_)
   refine aW λK hK=>cO (λQ q=>q) (hK _ _ ?_)
   refine aW λK hK=>cO (λQ q=>q) (hK _ _ ?_)
   refine aW λK hK=>cO (λQ q=>#[λz=>(by cases z),λ_=>q]) (hK _ _ ?_)
   refine st ?_;dsimp only[wS,wE,wA,wV,wG];refine bH (bH ?_);dsimp only[iT,aX,wB];rw[LK];refine#[λ_=>?_,λz=>by cases z]
   refine dH (xs.length:KO) (λi ys ρ2 S2=>(∃a1,ρ2=[gV,a1,ba (.tup xs),ba (.tup xs)])/\ys=Lo i (.bl true)/\Ka S S2) rfl rfl rfl ∅ ?_ ?_ ?_
   ·dsimp only[wE,wA,wV,wG];exact bH #[rfl,#[gV,rfl],rfl,.refl]
   ·rintro i ys ρ2 S2 hi ⟨⟨a1,rfl⟩,rfl,k2⟩;have hi':i < xs.length:=by exact MK.mp ‹_›
    dsimp only[jb,wC,wE,wA,wV,wG,KP];refine#[λ_=>am (KL i) (by rw[KN]; exact KI hi') (am (KL i) (by rw[KN]; exact KI hi') (ih d _ _ _ (hx _ (LL hi')) λS3 k3=>#[#[_,rfl],?_,k2.trans k3])),λz=>by cases z]
    rw[Qy]
   ·rintro ys ρ2 S2 ⟨_,rfl,k2⟩;rw[KN];refine#[lh (by rw[Oy]; exact hl),ab (a:=(.bl true,S2++[.lst (Lo xs.length (.bl true))])) ?_ (k _ (k2.trans .push))]
    simp only[Bi.fn,Cp,aK ah,kg,Lw,wj]
  | non=>
   refine aW λK hK=>mG (λQ q=>q) λQ2 _ hr=>st ?_
   dsimp only[wS,wE,wV,wG];exact ab (show cM .is .non .non S=ba (.bl true,S)from rfl) (hr _ _ (k _ .refl))
  | _=>exact hw.elim
end
noncomputable def wm:Ss:=
 #v[.ite (.cmp .gt (.v 2) (.v 3)) #v[.ret (.ix (.ix (.ix (.v 1) (.v 2)) (.c (.int 1))) (.v 3))] .nil,.ret (.ix (.ix (.ix (.v 0) (.c (.int 1))) (.ix (.ix (.ix (.v 1) (.v 3)) (.c (.int 1))) (.v 2))) (.c (.int 1)))]
noncomputable def iX:Ss:=
 #v[.ret (.bi .tuple #v[.comp (.own "point_over" 4 #v[.v 4,.v 5,.sl (.v 3) .no (.yes (.v 1)),.v 2]) (.tp [1,2]) (.enu #v[.v 2]) .nil [gV,gV,gV,ba 2,ba 0,ba 1]])]
noncomputable def eP:Ss:=
 #v[.ret (.tup #v[.ix (.ix (.v 1) (.v 3)) (.c (.int 0)),.bi .tuple #v[.comp (.own "way" 4 #v[.v 3,.v 4,.v 2,.v 1]) (.nm 1) (.seq (.v 2)) .nil [gV,gV,ba 3,ba 0,ba 1]]])]
noncomputable def cy:Ss:=
 #v[.set 2 (.lst #v[.tup .nil]),.loop (.nm 3) (.rng #v[.v 1]) #v[.set 2 (.comp (.op .add (.ix (.v 3) (.op .fdiv (.v 1) (.v 2))) (.tup #v[.op .mod (.v 1) (.v 2)])) (.nm 1) (.rng #v[.op .mul (.bi .len #v[.v 2]) (.v 0)]) .nil [gV,gV,ba 0,ba 2])],.ret (.v 2)]
noncomputable def dL:Ss:=
 #v[.set 2 (.lst #v[.tup .nil]),.loop (.nm 3) (.rng #v[.v 1]) #v[.set 4 (.lst .nil),.loop (.nm 5) (.rng #v[.bi .len #v[.ix (.v 0) (.c (.int 0))]]) #v[.ex (.me .extend (.v 4) #v[.comp (.tup #v[.v 2,.v 1]) (.nm 1) (.seq (.own "_law_digits" 2 #v[.bi .len #v[.ix (.v 0) (.c (.int 1))],.v 3])) .nil [gV,gV,ba 5]])],.set 2 (.comp (.op .add (.ix (.v 3) (.op .fdiv (.v 1) (.bi .len #v[.v 2]))) (.tup #v[.ix (.v 2) (.op .mod (.v 1) (.bi .len #v[.v 2]))])) (.nm 1) (.rng #v[.op .mul (.bi .len #v[.v 2]) (.bi .len #v[.v 4])]) .nil [gV,gV,ba 4,ba 2])],.ret (.v 2)]
section
variable{defs:Kr (KZ×Df)}{fuel d:KC}{S:aa}{r:KC}{Q:QW}
theorem Bb {Φ:KZ->FF}{m0 b0:W}{ns:Kr KZ}{bs:Kr KO}{a:KC}{u:Wd}{i j:KC}{Q:QO}(hb:GoodB bs)(hl:ns.length=bs.length)(hu:GoodW a bs.length u)(hi:i < u.length)(hj:j < u.length)(hij:i≠j)(k:Q (.rt (.int (gx bs u i j)),S)) :
  wZ Φ fuel wm [ba (.tup [m0,.tup (K4 bz ns bs),b0]),ba (aL u),ba (.int i),ba (.int j)] S Q:=by
 have hpi:=aB (d:=(0,[])) hi;have hpj:=aB (d:=(0,[])) hj;unfold gx at k;dsimp only[wm];refine aW λK hK=>?_
 dsimp only[wS,wT,wE,wV,wG,Dh,wO,wB,aL];refine au (Q0:=Q) (λh Q2 _ hr=>?_) (λh Q2 hn _=>?_)
 ·have hji:j < i:=by have:=LH h; exact MK.mp ‹_›
  rw[La hji]at k;have hw:j < (u.getD i (0,[])).2.length:=by rw[hu.len i _ hpi]; exact hji
  refine st ?_;dsimp only[wS,wE,wV,wG];refine am (KL i) (ee hi) (am #v[] rfl (am (KL j) ?_ (hr _ _ k)))
  rw[KN,KD,aB (d:=0) hw]; rfl
 ·have hji:¬ j < i:=by have:=MQ h; omega
  rw[Li hji]at k;refine cj (hn _ _ (hK _ _ ?_));clear hn hK;have hw:i < (u.getD j (0,[])).2.length:=by rw[hu.len j _ hpj]; omega
  have hg:=aB (d:=0) hw;obtain⟨g1,g2⟩:=hu.way j _ hpj _ (KY hg);obtain⟨b,hb1,hb2,hb3⟩:=hb.rng ((u.getD j (0,[])).2.getD i 0).toNat ∅
  have hn:((u.getD j (0,[])).2.getD i 0).toNat < ns.length:=∅
  rw[getD_some hb1]at k;refine st ?_;dsimp only[wS,wE,wV,wG];refine am #v[] rfl (am (KL j) (ee hj) (am #v[] rfl (am (KL i) ?_ (am g1 (iW (KI hn) hb1) (am #v[] rfl k)))))
  rw[KN,KD,hg]; rfl
structure Parts (defs:Kr (KZ×Df)):Prop where
 way:Is defs ("way" : KZ) 4 4 wm
 over:Is defs ("point_over" : KZ) 4 4 eP
theorem Im (P:Parts defs){m0 b0:W}{ns:Kr KZ}{bs:Kr KO}{a:KC}{u:Wd}{i j:KC}(hb:GoodB bs)(hl:ns.length=bs.length)(hu:GoodW a bs.length u)(hi:i < u.length)(hj:j < u.length)(hij:i≠j)(k:Q (.int (gx bs u i j),S)) :
  wO (bw (ar defs fuel (d+1)) "way" 4 [.tup [m0,.tup (K4 bz ns bs),b0],aL u,.int i,.int j] S) Q:=
 az P.way rfl rfl λQ' hR=>Bb hb hl hu hi hj hij (hR _ _ k)
theorem F6 (P:Parts defs){m0 b0:W}{ns:Kr KZ}{bs:Kr KO}{a:KC}{u:Wd}{ps:Kr KC}{i:KC}(hb:GoodB bs)(hl:ns.length=bs.length)(hu:GoodW a bs.length u)(hps:∀p∈ps,p < u.length/\i≠p)(hi:i < u.length)(hsz:ps.length<=1000)(k:∀S',Ka S S'->Q (dA ((u.getD i (0,[])).1,ps.map λq=>gx bs u i q),S')) :
  wO (bw (ar defs fuel (d+2)) "point_over" 4 [.tup [m0,.tup (K4 bz ns bs),b0],aL u,.tup (aw ps),.int i] S) Q:=by
 refine az P.over rfl rfl λQ' hR=>?_
 replace k:∀S',Ka S S'->Q' (.rt (dA ((u.getD i (0,[])).1,ps.map λq=>gx bs u i q)),S'):=λS' a=>hR _ _ (k S' a)
 clear hR;show wZ _ _ eP [ba (.tup [m0,.tup (K4 bz ns bs),b0]),ba (aL u),ba (.tup (aw ps)),ba (.int i)] S Q';generalize hR0:W.tup [m0,.tup (K4 bz ns bs),b0]=R;dsimp only[eP];refine st ?_;dsimp only[wS,wE,wA,wV,wG];refine am (KL i) (ee hi) (am #v[] rfl ?_)
 refine qz (aw ps) (λj ys ρ2 S2=>(∃a1,ρ2=[gV,a1,ba (.int i),ba R,ba (aL u)])/\ys=(ps.take j).map (λq=>W.int (gx bs u i q))/\Ka S S2) rfl rfl rfl #[rfl,#[gV,rfl],rfl,.refl] ?_ ?_
 ·rintro j w ys ρ2 S2 hw ⟨⟨a1,rfl⟩,rfl,k2⟩;unfold aw at hw;rw[KD,Kv]at hw;obtain⟨q,hq,rfl⟩:=hw;obtain⟨hqu,hqi⟩:=hps q (KY hq);refine ab (show gC (.nm 1) (.int (q:KO)) [gV,a1,ba (.int i),ba R,ba (aL u)] S2=ba ([gV,ba (.int (q:KO)),ba (.int i),ba R,ba (aL u)],S2)from rfl) ?_
  dsimp only[jb,wC,wE,wA,wV,wG];subst hR0;refine#[λ_=>Im (d:=d) P hb hl hu hi hqu hqi #[#[_,rfl],?_,k2],λz=>by cases z]
  rw[Lj,hq];simp
 ·rintro ys ρ2 S2 ⟨_,rfl,k2⟩;rw[show(aw ps).length=ps.length from Kt ..,LC]
  refine#[lh (by rw[Kt]; exact hsz),fZ ah ?_]
  have:=k _ (k2.trans (Ka.push (o:=O.lst (ps.map λq=>W.int (gx bs u i q)))))
  unfold dA at this;rw[MJ]at this;exact this
theorem Io (P:Parts defs)(hp:Is defs ("part" : KZ) 3 3 iX){m0 b0:W}{ns:Kr KZ}{bs:Kr KO}{a:KC}{u:Wd}{ps:Kr KC}(hb:GoodB bs)(hl:ns.length=bs.length)(hu:GoodW a bs.length u)(hps:∀p∈ps,p < u.length)(hnd:ps.Nodup)(hsz:ps.length<=1000)(k:∀S',Ka S S'->Q (aL (br bs u ps),S')) :
  wO (bw (ar defs fuel (d+3)) "part" 3 [.tup [m0,.tup (K4 bz ns bs),b0],aL u,.tup (aw ps)] S) Q:=by
 refine az hp rfl rfl λQ' hR=>?_
 replace k:∀S',Ka S S'->Q' (.rt (aL (br bs u ps)),S'):=λS' a=>hR _ _ (k S' a)
 clear hR;show wZ _ _ iX [ba (.tup [m0,.tup (K4 bz ns bs),b0]),ba (aL u),ba (.tup (aw ps))] S Q';generalize hR0:W.tup [m0,.tup (K4 bz ns bs),b0]=R;dsimp only[iX];refine st ?_;dsimp only[wS,wE,wA];refine Dl (aw ps) (λj ys ρ2 S2=>(∃a1 a2,ρ2=[gV,a1,a2,ba (.tup (aw ps)),ba R,ba (aL u)])/\ys=((br bs u ps).take j).map dA/\Ka S S2) rfl rfl rfl #[rfl,#[gV,gV,rfl],rfl,.refl] ?_ ?_
 ·rintro j w ys ρ2 S2 hw ⟨⟨a1,a2,rfl⟩,rfl,k2⟩;unfold aw at hw;rw[KD,Kv]at hw;obtain⟨q,hq,rfl⟩:=hw;have hj:j < ps.length:=(KJ.mp hq).1;have eq:q=ps[j]:=(KJ.mp hq).2.symm;refine ab (show gC (.tp [1,2]) (.tup [.int (j:KO),.int (q:KO)]) [gV,a1,a2,ba (.tup (aw ps)),ba R,ba (aL u)] S2=ba ([gV,ba (.int (j:KO)),ba (.int (q:KO)),ba (.tup (aw ps)),ba R,ba (aL u)],S2)from rfl) ?_
  dsimp only[jb,wC,wE,wA,wP,wV,wG,wN];refine#[λ_=>ab (a:=(.tup (aw (ps.take j)),S2)) ?_ ?_,λz=>by cases z]
  ·simp only[re,gR];unfold aw;rw[OI]
  ·subst hR0;refine F6 (d:=d) P hb hl hu (λp hp=>#[hps p (MY hp),?_]) (hps q (KY hq)) (by rw[Ly]; omega) λS3 k3=>#[#[_,_,rfl],?_,k2.trans k3]
   ·obtain⟨m,hm,e⟩:=NQ.mp hp;rw[Ly]at hm;rw[Ps]at e;rw[eq,<- e];intro z;have:=(OB hnd).mp z;omega
   ·have ep:(br bs u ps)[j]?=ba ((u.getD q (0,[])).1,(ps.take j).map λq'=>gx bs u q q'):=by
     unfold br;rw[KD,M4 hj,Lw,getD_some hq]
    rw[Lj,ep];simp
 ·rintro ys ρ2 S2 ⟨_,rfl,k2⟩;rw[show(aw ps).length=ps.length from Kt ..,<- ga bs u ps,LC]
  exact#[lh (by rw[Kt,ga]; exact hsz),fZ ah (k _ (k2.trans .push))]
end
section
variable{S:aa}{Q:QW}
theorem xO (n:KC):Cm 0 ((n:KO) - 0).toNat=aw (K9 n):=by
 unfold Cm aw;rw[show((n:KO) - 0).toNat=n by omega]
 exact Ms λk _=>by rw[Ox]
theorem DC {i n:KC}(h:S[i]?=ba (.rng 0 n))(hn:n<=1000)(q:Q (.ref S.length,S++[.lst (aw (K9 n))])):wO (Bi.list.fn [.ref i] S) Q:=by
 refine ab ?_ q;have h1:y8 S i=ba (0,(n:KO)):=by simp[y8,h]
 have h2:kR [.ref i] S=ba (.ref S.length,S++[.lst (aw (K9 n))]):=by
  simp only[kR,h1];rw[La #[∅,∅,∅,∅,by rw[LD]; omega],xO]
 simp only[Bi.fn,C7,h2]
end
noncomputable def bI (n:KC):KC->Kr (Kr KO)
 | 0=>[[]]
 | k+1=>(K9 ((bI n k).length*n)).map λi=>(bI n k).getD (i / n) []++[((i % n:KC):KO)]
noncomputable def cQ (a n k:KC):Kr Pt:=(K9 a).flatMap λ(m:KC)=>(bI n k).map λds=>(((m:KC):KO),ds)
noncomputable def dB (a n:KC):KC->Kr Wd
 | 0=>[[]]
 | k+1=>(K9 ((dB a n k).length*(cQ a n k).length)).map λi=>(dB a n k).getD (i / (cQ a n k).length) []++[(cQ a n k).getD (i % (cQ a n k).length) (0,[])]
theorem DD {n k:KC}{ds:Kr KO}:ds∈bI n k->ds.length<=k:=by
 induction k generalizing ds with
 | zero=>intro h; cases KS.mp h; exact KH _
 | succ k ih=>
  intro h;obtain⟨i,hi,rfl⟩:=K6.mp h;have hi:=Ll.mp hi;have hn:0 < n:=by
   rcases Pf n with h|h
   ·rw[h,P3]at hi; omega
   ·exact h
  have hlt:i / n < (bI n k).length:=M0 (by rw[NU]; exact hi)
  have:=ih (KY (aB (d:=[]) hlt));rw[KG,LO]; omega
theorem El {Φ:KZ->FF}{ρ:Fm}{S:aa}{a b:E}{x y:KO}{Q:QW}(ha:∀Q:QW,Q (.int x,S)->wE Φ a ρ S Q)(hb:∀Q:QW,Q (.int y,S)->wE Φ b ρ S Q)(h1 : -(2 ^ 64) < y)(h2:y < 2 ^ 64)(q:Q (.int (x*y),S)):wE Φ (.op .mul a b) ρ S Q:=by
 have em:gJ .mul (.int x) (.int y) S=ba (.int (x*y),S):=sG h1 h2;dsimp only[wE];refine ha _ ?_;refine hb _ ?_;dsimp only;rw[em];exact q
theorem iY {n:KC}:∀k:KC,(bI n k).length=n ^ k
 | 0=>rfl
 | k+1=>by rw[bI,Kt,Ls,iY k,Tw]
theorem uR {n k:KC}(hn:n<=3)(hk:k<=5):(bI n k).length<=243/\(k<=4->(bI n k).length<=81):=by
 rw[iY];exact#[KQ (OW hn k) (OM (n:=3) #v[] hk),λh=>KQ (OW hn k) (OM (n:=3) #v[] h)]
section
variable{defs:Kr (KZ×Df)}{fuel d:KC}{S:aa}{r:KC}{Q:QW}
theorem sX (hg:Is defs ("_law_digits" : KZ) 2 4 cy){n k:KC}(hn1:1<=n)(hn3:n<=3)(hk5:k<=5)(kk:∀(q:KC) (S':aa),S'[q]?=ba (.lst ((bI n k).map λds=>.tup (ac ds)))->S.length<=q->Ka S S'->Q (.ref q,S')) :
  wO (bw (ar defs fuel (d+1)) "_law_digits" 2 [.int n,.int k] S) Q:=by
 refine az hg rfl rfl λQ' hR=>?_
 replace kk:∀(q:KC) (S':aa),S'[q]?=ba (.lst ((bI n k).map λds=>.tup (ac ds)))->S.length<=q->Ka S S'->Q' (.rt (.ref q),S'):=λa b c e f=>hR _ _ (kk a b c e f)
 clear hR;show wZ _ _ cy [ba (.int n),ba (.int k),gV,gV] S Q';dsimp only[cy];refine st ?_;dsimp only[wS,wE,wA,KP];refine aW λK hK=>?_
 refine cJ (k:KO) (λi ρ S'=>∃(q:KC) (a3:Kz W),ρ=[ba (.int n),ba (.int k),ba (.ref q),a3]/\S'[q]?=ba (.lst ((bI n i).map λds=>.tup (ac ds)))/\S.length<=q/\Ka S S') rfl rfl ∅ #[rfl,_,_,rfl,ah,KH _,.push] ?_ ?_
 ·rintro i ρ S1 hi ⟨q,a3,rfl,e1,hq,k1⟩ Q2 hn _;clear hK kk;obtain⟨b9,b3⟩:=uR (n:=n) (k:=i) hn3 ∅
  have b3:=b3 ∅
  have hP:(bI n i).length*n<=243:=Qz b3 hn3;have hPz:(((bI n i).length:KO)*(n:KO))=(((bI n i).length*n:KC):KO):=(P7 ..).symm;refine st ?_;dsimp only[wS,wE,KP];refine dH ((((bI n i).length*n:KC)):KO) (λj ys ρ2 S2=>(∃a1,ρ2=[gV,a1,ba (.int n),ba (.ref q)])/\ys=((bI n (i+1)).take j).map (λds=>.tup (ac ds))/\S2=S1) rfl rfl rfl ∅ ?_ ?_ ?_
  ·refine El (x:=(bI n i).length) (y:=n) (λQ q=>?_) (λQ q=>q) ∅ ∅ #[by rw[hPz],#[gV,rfl],rfl,rfl]
   dsimp only[wE,wA,wV,wG];refine fN e1 ?_;rw[Kt];exact q
  ·rintro j ys ρ2 S2 hj ⟨⟨a1,rfl⟩,rfl,rfl⟩;have hj':j < (bI n i).length*n:=by exact MK.mp ‹_›
   have hlt:j / n < (bI n i).length:=M0 (by rw[NU]; exact hj')
   have hg:=aB (d:=[]) hlt;have hdl:=DD (KY hg);dsimp only[jb,wC,wE,wA,wV,wG,KP];refine#[λ_=>ab (iS ∅ ∅) ?_,λz=>by cases z]
   refine fM e1 (w:=.tup (ac ((bI n i).getD (j / n) []))) (OR ∅ ∅) (by rw[show((j:KO) / (n:KO)).toNat=j / n from rfl,KD,hg]; rfl) ?_
   refine ab (jt ∅) (ab (gq (lh (by rw[KG,show(ac ((bI n i).getD (j / n) [])).length=((bI n i).getD (j / n) []).length from Kt ..]; show _+1<=1000; omega))) #[#[_,rfl],?_,rfl])
   have ed:(bI n (i+1))[j]?=ba ((bI n i).getD (j / n) []++[((j % n:KC):KO)]):=by
    rw[bI,KD,M4 hj']; rfl
   rw[Lj,ed];simp[ac]
  ·rintro ys ρ2 S2 ⟨_,rfl,rfl⟩;have hl:(bI n (i+1)).length=(bI n i).length*n:=by rw[bI,Kt,Ls]
   rw[KN,<- hl,LC];refine#[lh (by rw[Kt,hl]; exact KQ ‹_› (KU rfl)),cj (hn _ _ #[_,_,rfl,ah,k1.len,k1.trans .push])]
 ·rintro ρ S1 ⟨q,a3,rfl,e1,hq,k1⟩;exact hK _ _ (st (kk q S1 (by rw[KN]at e1; exact e1) hq k1))
end
theorem DE {a n k:KC}{u:Wd}:u∈dB a n k->u.length<=k:=by
 induction k generalizing u with
 | zero=>intro h; cases KS.mp h; exact KH _
 | succ k ih=>
  intro h;obtain⟨i,hi,rfl⟩:=K6.mp h;have hi:=Ll.mp hi;have hlt:i / (cQ a n k).length < (dB a n k).length:=M0 (by rw[NU]; exact hi)
  have:=ih (KY (aB (d:=[]) hlt));rw[KG,LO]; omega
theorem mP {a n k:KC}:(cQ a n k).length=a*n ^ k:=by
 unfold cQ
 induction a with
 | zero=>simp
 | succ a ih=>rw[NH,MM,KG,ih]; simp[iY,Oo]
theorem fD {a n:KC}(k:KC):(dB a n (k+1)).length=(dB a n k).length*(cQ a n k).length:=by rw[dB,Kt,Ls]
theorem sY {a n k:KC}(ha1:1<=a)(ha:a<=3)(hn1:1<=n)(hn:n<=3)(han:a*n<=6)(hk:k<=2):1<=(cQ a n k).length/\(cQ a n k).length<=27/\(dB a n k).length*(cQ a n k).length<=216:=by
 have w0:(dB a n 0).length=1:=rfl;have w1:=fD (a:=a) (n:=n) 0;have w2:=fD (a:=a) (n:=n) 1;simp only[mP]at w1 w2 ⊢;rcases(show k=0\/k=1\/k=2 by omega)with rfl|rfl|rfl <;> rcases(show a=1\/a=2\/a=3 by omega)with rfl|rfl|rfl <;> rcases(show n=1\/n=2\/n=3 by omega)with rfl|rfl|rfl <;> simp_all
theorem mQ {Φ:KZ->FF}{ρ:Fm}{S:aa}{elt e:E}{tg:Tg}{cs:Es}{cap:Kr (Kz KC)}{Q:QW}(oi:eT e=true)(oe:eT elt=true)(oc:rf cs=true)(he:wE Φ e ρ S λp=>∃(t:KC) (xs:Kr W) (I:KC->Kr W->Fm->aa->Prop),p.1=.ref t/\I 0 [] (gn cap ρ) p.2/\(∀i ys ρ S,I i ys ρ S->S[t]?=ba (.lst xs))/\
  (∀(i:KC) (w:W) (ys:Kr W) (ρ:Fm) (S:aa),xs[i]?=ba w->I i ys ρ S->wO (gC tg w ρ S) λq=>jb Φ elt cs q.1 q.2 (λy=>I (i+1) (ys++[y])) (I (i+1) ys))/\
  ∀ys ρ S,I xs.length ys ρ S->ys.length<=sizeLine/\Q (.ref S.length,S++[.lst ys])):Wp (aJ Φ (.comp elt tg (.seq e) cs cap) ρ S) Q:=by
 obtain⟨w,S1,e1,t,xs,I,rfl,h0,hat,hstep,hend⟩:=cN oi he;exact j4 (mi:=.live t) (S1:=S1) I oe oc (by simp only[lI,fW,e1,aK (hat _ _ _ _ h0)]) (λi ys ρ S h=>by simp only[MI.at,aK (hat _ _ _ _ h)]) (by simp only[MI.len,aK (hat _ _ _ _ h0),Lw]) h0 hstep hend
section
variable{defs:Kr (KZ×Df)}{fuel d:KC}{S:aa}{r:KC}{Q:QW}
theorem Ip {t l:KC}{xs ys:Kr W}(h:S[t]?=ba (.lst xs))(h2:S[l]?=ba (.lst ys))(hl:xs.length+ys.length<=1000)(q:Q (.non,S.set t (.lst (xs++ys)))):wO (Me.extend.fn (.ref t) [.ref l] S) Q:=by
 refine ab ?_ q;simp only[Me.fn,jh,dF h,dF h2];rw[La (lh hl)]
theorem Bc (hd:Is defs ("_law_digits" : KZ) 2 4 cy)(hg:Is defs ("_law_worlds" : KZ) 2 6 dL){a n:KC}{M N:Kr W}{b0:W}(hM:M.length=a)(hN:N.length=n)(ha1:1<=a)(ha3:a<=3)(hn1:1<=n)(hn3:n<=3)(han:a*n<=6)
  (kk:∀(q:KC) (S':aa),S'[q]?=ba (.lst ((dB a n 3).map aL))->S.length<=q->Ka S S'->Q (.ref q,S')) :
  wO (bw (ar defs fuel (d+2)) "_law_worlds" 2 [.tup [.tup M,.tup N,b0],.int 3] S) Q:=by
 refine az hg rfl rfl λQ' hR=>?_
 replace kk:∀(q:KC) (S':aa),S'[q]?=ba (.lst ((dB a n 3).map aL))->S.length<=q->Ka S S'->Q' (.rt (.ref q),S'):=λa b c e f=>hR _ _ (kk a b c e f)
 clear hR;show wZ _ _ dL [ba (.tup [.tup M,.tup N,b0]),ba (.int 3),gV,gV,gV,gV] S Q';generalize hR0:W.tup [.tup M,.tup N,b0]=R;dsimp only[dL];refine st ?_;dsimp only[wS,wE,wA,KP];refine aW λK hK=>?_
 refine cJ 3 (λi ρ S'=>∃(q:KC) (a3 a4 a5:Kz W),ρ=[ba R,ba (.int 3),ba (.ref q),a3,a4,a5]/\S'[q]?=ba (.lst ((dB a n i).map aL))/\S.length<=q/\Ka S S') rfl rfl #v[] #[rfl,_,_,_,_,rfl,ah,KH _,.push] ?_ ?_
 ·rintro i ρ S1 hi ⟨q,a3,a4,a5,rfl,e1,hq,k1⟩ Q2 hn _;clear hK kk;have hi2:i<=2:=∅
  obtain⟨p1,p27,hP⟩:=sY (k:=i) ha1 ha3 hn1 hn3 han hi2;have hq1:=cr e1;refine st ?_;dsimp only[wS,wE,wA,KP];refine aW λK hK=>?_
  refine jA rfl rfl ?_;dsimp only[wE,wA,wV,wG];subst hR0;refine am #v[] rfl (bH ?_)
  rw[hM];refine#[(a:KO),λm ρ S'=>∃a5,ρ=[ba (.tup [.tup M,.tup N,b0]),ba (.int 3),ba (.ref q),ba (.int i),ba (.ref S1.length),a5]/\S'[S1.length]?=ba (.lst ((cQ m n i).map dA))/\S'[q]?=ba (.lst ((dB a n i).map aL))/\Ka S S',rfl,∅,#[a5,rfl,ah,aq e1,k1.trans .push],?_,?_]
  ·rintro m ρ S2 hm ⟨a5,rfl,e2,e2q,k2⟩ Q3 hn3' _;clear hK hn;have hS12:=cr e2;refine st ?_;dsimp only[wS,wE,wA,wV,wG,KP];refine#[dG e2,?_];refine mQ rfl rfl rfl ?_;dsimp only[wE,wA,wV,wG];refine am #v[] rfl (bH ?_)
   rw[hN];refine sX (d:=d) hd hn1 hn3 (by exact KQ ‹_› (KU rfl)) λl S3 e3 hl k3=>?_
   refine#[l,(bI n i).map λds=>.tup (ac ds),λj ys ρ2 S4=>(∃a1,ρ2=[gV,a1,ba (.int m)])/\ys=((bI n i).take j).map (λds=>dA ((m:KO),ds))/\S4=S3,rfl,#[#[gV,rfl],rfl,rfl],λj ys ρ2 S4 h=>by rw[h.2.2]; exact e3,?_,?_]
   ·rintro j w ys ρ2 S4 hw ⟨⟨a1,rfl⟩,rfl,rfl⟩;rw[KD,Kv]at hw;obtain⟨ds,hds,rfl⟩:=hw;refine ab (show gC (.nm 1) (.tup (ac ds)) [gV,a1,ba (.int m)] S4=ba ([gV,ba (.tup (ac ds)),ba (.int m)],S4)from rfl) ?_
    refine#[λ_=>#[#[_,rfl],?_,rfl],λz=>by cases z]
    rw[Lj,hds];simp[dA,ac]
   ·rintro ys ρ2 S4 ⟨_,rfl,rfl⟩;rw[show((bI n i).map λds=>W.tup (ac ds)).length=(bI n i).length from Kt ..,LC]
    have hdl:=(uR (n:=n) (k:=i) hn3 (by exact KQ ‹_› (KU rfl))).1
    have e2':=aq (u:=O.lst ((bI n i).map λds=>dA ((m:KO),ds))) (k3.get _ _ e2)
    have hpm:(cQ m n i).length<=27:=by
     rw[mP]at p27 ⊢;exact KQ (ON _ ∅) p27
    refine#[lh (by rw[Kt]; exact KQ ‹_› (KU rfl)),Ip e2' ah (by rw[Kt,Kt]; omega) (cj (hn3' _ _ #[_,rfl,?_,?_,((k2.trans k3).trans .push).late k1.len]))]
    ·rw[bV e2'];unfold cQ;rw[NH,MM,Lh];simp
    ·rw[bN (Lx ‹_›)]; exact aq (k3.get _ _ e2q)
  ·rintro ρ S2 ⟨a5,rfl,e2,e2q,k2⟩;rw[KN]at e2;refine hK _ _ ?_;clear hK K;have hPz:(((dB a n i).length:KO)*((cQ a n i).length:KO))=(((dB a n i).length*(cQ a n i).length:KC):KO):=(P7 ..).symm;refine st ?_;dsimp only[wS,wE,KP];refine dH (((dB a n i).length*(cQ a n i).length:KC):KO) (λj ys ρ2 S3=>(∃a1,ρ2=[gV,a1,ba (.ref S1.length),ba (.ref q)])/\ys=((dB a n (i+1)).take j).map aL/\S3=S2) rfl rfl rfl ∅ ?_ ?_ ?_
   ·refine El (x:=(dB a n i).length) (y:=(cQ a n i).length) (λQ q'=>?_) (λQ q'=>?_) ∅ ∅ #[by rw[hPz],#[gV,rfl],rfl,rfl]
    ·dsimp only[wE,wA,wV,wG];refine fN e2q ?_;rw[Kt];exact q'
    ·dsimp only[wE,wA,wV,wG];refine fN e2 ?_;rw[Kt];exact q'
   ·rintro j ys ρ2 S3 hj ⟨⟨a1,rfl⟩,rfl,rfl⟩;have hj':j < (dB a n i).length*(cQ a n i).length:=by exact MK.mp ‹_›
    have hlt:j / (cQ a n i).length < (dB a n i).length:=M0 (by rw[NU]; exact hj')
    have hg:=aB (d:=[]) hlt;have hwl:=DE (KY hg);have hmod:j % (cQ a n i).length < (cQ a n i).length:=P0 _ p1;have hp:=aB (d:=(0,[])) hmod;dsimp only[jb,wC,wE,wA,wV,wG,KP];refine#[λ_=>fN e2 ?_,λz=>by cases z]
    rw[Kt];refine ab (iS ∅ ∅) ?_
    refine fM e2q (w:=aL ((dB a n i).getD (j / (cQ a n i).length) [])) (OR ∅ ∅) (by rw[show((j:KO) / ((cQ a n i).length:KO)).toNat=j / (cQ a n i).length from rfl,KD,hg]; rfl) (fN e2 ?_)
    rw[Kt];refine ab (jt ∅) (fM e2 (w:=dA ((cQ a n i).getD (j % (cQ a n i).length) (0,[]))) (Nj _ ∅) (by rw[show((j:KO) % ((cQ a n i).length:KO)).toNat=j % (cQ a n i).length from rfl,KD,hp]; rfl) ?_)
    refine ab (gq (lh (by rw[KG,Kt]; show _+1<=1000; omega))) #[#[_,rfl],?_,rfl]
    have ed:(dB a n (i+1))[j]?=ba ((dB a n i).getD (j / (cQ a n i).length) []++[(cQ a n i).getD (j % (cQ a n i).length) (0,[])]):=by
     rw[dB,KD,M4 hj']; rfl
    rw[Lj,ed];simp[aL]
   ·rintro ys ρ2 S3 ⟨_,rfl,rfl⟩;rw[KN,<- fD,LC];exact#[lh (by rw[Kt,fD]; exact KQ ‹_› (KU rfl)),cj (hn _ _ #[_,_,_,_,rfl,ah,k2.len,k2.trans .push])]
 ·rintro ρ S1 ⟨q,a3,a4,a5,rfl,e1,hq,k1⟩;exact hK _ _ (st (kk q S1 e1 hq k1))
end
noncomputable def eB (a:KC)(bs:Kr KO):Kr Wd:=(dB a bs.length 3).map (j7 bs)
noncomputable def cR (a:KC)(bs:Kr KO):Lf:=match kW ((eB a bs).map dj)with
 | some ks=>decide ks.Nodup && !ks.isEmpty
 | none=>false
theorem JW:cR 1 [0]=true/\cR 2 [0]=true/\cR 3 [0]=true:=by decide +kernel
theorem II:cR 1 [0,1]=true/\cR 2 [0,1]=true/\cR 1 [1,0]=true/\cR 2 [1,0]=true:=by decide +kernel
theorem JX:cR 1 [0,1,2]=true/\cR 1 [1,0,2]=true/\cR 1 [0,2,1]=true:=by decide +kernel
theorem JY:cR 3 [0,1]=true:=by decide +kernel
theorem JZ:cR 3 [1,0]=true:=by decide +kernel
theorem J0:cR 2 [0,1,2]=true:=by decide +kernel
theorem J1:cR 2 [1,0,2]=true:=by decide +kernel
theorem J2:cR 2 [0,2,1]=true:=by decide +kernel
noncomputable def gU (n:KC)(os:Kr (Kr KC)):Kr (Kr KC):=os.flatMap λo=>((K9 n).filter λp=>decide (p∉o)).map λp=>o++[p]
theorem mR {α β:Type}{f g:α->Kr β}:∀ {xs:Kr α},(∀x∈xs,f x=g x)->xs.flatMap f=xs.flatMap g
 | [],_=>rfl
 | x::xs,h=>by rw[Ml,Ml,h x (.head _),mR λy hy=>h y (.tail _ hy)]
theorem sZ {n:KC}:∀os:Kr (Kr KC),(gU n os).length<=os.length*n
 | []=>by simp[gU]
 | o::os=>by
  have ih:=sZ (n:=n) os;unfold gU at ih ⊢;rw[Ml,KG,Kt,LJ,Oo];have:=Nd (λp=>decide (p∉o)) (K9 n)
  rw[Ls]at this;omega
theorem xP {n:KC}{os:Kr (Kr KC)}{i:KC}:(gU n (os.take i)).length<=os.length*n:=by
 refine KQ (sZ _) (ON _ ?_);rw[Ly]; omega
theorem pA {S:aa}{d:KC}:∀xs ys:Kr KO,nM (nN S d) (xs.map W.int) (ys.map W.int)=ba (decide (xs=ys))
 | [],[]=>rfl
 | [],_::_=>rfl
 | _::_,[]=>rfl
 | x::xs,y::ys=>by
  have e:nN S d (.int x) (.int y)=ba (x==y):=by cases d <;> rfl
  simp only[L0,nM,e,pA xs ys]
  by_cases h:x=y
  ·subst h; by_cases h2:xs=ys <;> simp[h2]
  ·have h':(x==y)=false:=by simpa using h
   simp[h,h']
theorem xQ (ps:Kr KC):aw ps=(ps.map λ(p:KC)=>(p:KO)).map W.int:=by unfold aw; rw[MJ]; rfl
theorem tf {p:KC}:∀ps:Kr KC,((aw ps).any λz=>yT z (.int p))=decide (p∈ps)
 | []=>rfl
 | q::ps=>by
  show((q:KO)==(p:KO)||(aw ps).any _)=_
  rw[tf ps]
  by_cases h:q=p
  ·subst h; simp
  ·have h1:((q:KO)==(p:KO))=false:=by simp; omega
   have h2:¬ p=q:=λe=>h e.symm
   rw[h1]; simp[h2]
theorem xR (ps:Kr KC):(aw ps).all cC=true:=by
 rw[K2];intro x hx;obtain⟨p,_,rfl⟩:=K6.mp hx;rfl
theorem Bd {S:aa}{p:KC}{ps:Kr KC}:cM .notin (.int p) (.tup (aw ps)) S=ba (.bl (decide (p∉ps)),S):=by
 show iL .notin (.int p) (.tup (aw ps)) S=_;have hf:(cC (.int p)&&(aw ps).all cC)=true:=by rw[xR]; rfl
 simp only[iL,E8,Cg,fH,hf,Mt,Lw,tf];congr 3
 by_cases h:p∈ps <;> simp[h]
theorem Be {xs:Kr W}:jO xs gV (ba (-1))=xs.dropLast:=by
 unfold jO;rw[HT.lR,Qt,Tu,List.dropLast_eq_take];congr 1;show(if (-1:KO) < 0 then((-1:KO)+(xs.length:KO)).toNat else min (-1:KO).toNat xs.length)=_
 rw[La #v[]]; omega
noncomputable def bJ:Ss:=
 #v[.set 2 (.lst .nil),.loop (.nm 3) (.seq (.v 0)) #v[.ex (.me .extend (.v 2) #v[.comp (.op .add (.v 2) (.tup #v[.v 1])) (.nm 1) (.rng #v[.v 1]) #v[.cmp .notin (.v 1) (.v 2)] [gV,gV,ba 3]])],.ret (.v 2)]
noncomputable def cZ (os:Kr (Kr KC)):Kr W:=os.map λo=>.tup (aw o)
section
variable{defs:Kr (KZ×Df)}{fuel d:KC}{S:aa}{Q:QW}
theorem uS {t l:KC}{xs ys:Kr W}(h:S[t]?=ba (.lst xs))(h2:S[l]?=ba (.lst ys))(hl:xs.length+ys.length<=1000000)(q:Q (.non,S.set t (.lst (xs++ys)))):wO (Me.extend.fn (.ref t) [.ref l] S) Q:=by
 refine ab ?_ q;simp only[Me.fn,jh,dF h,dF h2];rw[La (by rw[LD]; exact KQ ‹_› (KU rfl))]
theorem jD {n:KC}(h:n<=1000000):n<=sizeLine:=by rw[LD]; exact KQ ‹_› (KU rfl)
theorem Bf (hg:Is defs ("longer_orders" : KZ) 2 4 bJ){n l:KC}{os:Kr (Kr KC)}(e:S[l]?=ba (.lst (cZ os)))(hn:n<=100)(hol:∀o∈os,o.length<=100)(hos:os.length*n<=100000)
  (k:∀(q:KC) (S':aa),S'[q]?=ba (.lst (cZ (gU n os)))->S.length<=q->Ka S S'->Q (.ref q,S')) :
  wO (bw (ar defs fuel (d+1)) "longer_orders" 2 [.ref l,.int n] S) Q:=by
 refine az hg rfl rfl λQ' hR=>?_
 replace k:∀(q:KC) (S':aa),S'[q]?=ba (.lst (cZ (gU n os)))->S.length<=q->Ka S S'->Q' (.rt (.ref q),S'):=λa b c e f=>hR _ _ (k a b c e f)
 clear hR;show wZ _ _ bJ [ba (.ref l),ba (.int n),gV,gV] S Q';have hlS:=cr e;dsimp only[bJ];refine st ?_;dsimp only[wS,wE,wA,KP];refine aW λK hK=>?_
 refine qx l (cZ os) (λi ρ S'=>(∃a3,ρ=[ba (.ref l),ba (.int n),ba (.ref S.length),a3])/\S'[l]?=ba (.lst (cZ os))/\S'[S.length]?=ba (.lst (cZ (gU n (os.take i))))/\Ka S S') rfl rfl #[rfl,#[gV,rfl],aq e,ah,.push] (λi ρ S' h=>h.2.1) ?_ ?_
 ·rintro i w ρ S1 hw ⟨⟨a3,rfl⟩,e0,e1,k1⟩;clear hK k;unfold cZ at hw;rw[KD,Kv]at hw;obtain⟨o,ho,rfl⟩:=hw;have hol:=hol o (KY ho);refine ab (show gC (.nm 3) (.tup (aw o)) [ba (.ref l),ba (.int n),ba (.ref S.length),a3] S1=ba ([ba (.ref l),ba (.int n),ba (.ref S.length),ba (.tup (aw o))],S1)from rfl) ?_
  intro Q2 hn _;refine st ?_;dsimp only[wS,wE,wA,wV,wG];refine#[dG e1,?_];refine dH (n:KO) (λj ys ρ2 S2=>(∃a1,ρ2=[gV,a1,ba (.tup (aw o))])/\ys=cZ (((K9 j).filter λp=>decide (p∉o)).map λp=>o++[p])/\S2=S1) rfl rfl rfl ∅ #[rfl,#[gV,rfl],rfl,rfl] ?_ ?_
  ·rintro j ys ρ2 S2 hj ⟨⟨a1,rfl⟩,rfl,rfl⟩;dsimp only[jb,wC,wE,wA,wV,wG,KP];refine ab Bd ?_;dsimp only[wB];have er:(K9 (j+1)).filter (λp=>decide (p∉o))=(K9 j).filter (λp=>decide (p∉o))++(if j∉o then[j]else[]):=by
    rw[NH,MR];congr 1
    by_cases h:j∈o <;> simp[h]
   refine#[λh=>?_,λh=>#[#[_,rfl],?_,rfl]]
   ·have h:j∉o:=LH h;refine ab (gq (jD (by rw[KG,show(aw o).length=o.length from Kt ..]; show _+1<=_; omega))) #[#[_,rfl],?_,rfl]
    rw[er,La h,Lh];unfold cZ;rw[Lh];simp[aw]
   ·have h:¬ j∉o:=MQ h;rw[er,Li h,Mf]
  ·rintro ys ρ2 S2 ⟨_,rfl,rfl⟩;rw[KN];have hlen:(cZ (((K9 n).filter λp=>decide (p∉o)).map λp=>o++[p])).length<=n:=by
    unfold cZ;rw[Kt,Kt];exact KQ (Nd _ _) (by rw[Ls]; exact KH _)
   have e1':=aq (u:=O.lst (cZ (((K9 n).filter λp=>decide (p∉o)).map λp=>o++[p]))) e1
   have hlt:=xP (n:=n) (os:=os) (i:=i);have hlw:(cZ (gU n (os.take i))).length=(gU n (os.take i)).length:=Kt ..;refine#[jD ∅,uS e1' ah ∅ (cj (hn _ _ #[#[_,rfl],?_,?_,(k1.trans .push).late (KH _)]))]
   ·rw[bN (Lx ‹_›)]; exact aq e0
   ·rw[bV e1'];unfold gU cZ;rw[Lj,ho];simp
 ·rintro ρ S1 ⟨⟨a3,rfl⟩,e0,e1,k1⟩;rw[show(cZ os).length=os.length from Kt ..,LC]at e1
  exact hK _ _ (st (k _ _ e1 (KH _) k1))
end
section
variable{defs:Kr (KZ×Df)}{fuel d:KC}{S:aa}{Q:QW}
theorem Bg {t:KC}{xs:Kr W}{y:W}(h:S[t]?=ba (.lst xs))(hl:xs.length < 1000000)(q:Q (.non,S.set t (.lst (xs++[y])))):wO (Me.append.fn (.ref t) [y] S) Q:=ab (vU h (by rw[LD]; omega)) q
end
section
variable{defs:Kr (KZ×Df)}{fuel d:KC}{S:aa}{Q:QW}
theorem fO {i:KC}{xs:Kr W}{c:L8}(h:S[i]?=ba (.lst xs))(hc:sr.contains c=true):xv S (.ref i) c=ba ("list" == c||("list" == "bool" && c == "int")):=by
 have:IF S (.ref i)=ba "list":=by simp[IF,aK h]
 unfold xv;rw[this];exact La hc
theorem xS (hg:Is defs ("_law_alike" : KZ) 2 2 bP){n i j:KC}{xs:Kr W}(hi:S[i]?=ba (.lst xs))(hj:S[j]?=ba (.lst xs))(hl:xs.length<=100000)(hx:∀x∈xs,Tr n x)(k:∀S',Ka S S'->Q (.bl true,S')) :
  wO (bw (ar defs fuel (d+n+2)) "_law_alike" 2 [.ref i,.ref j] S) Q:=by
 refine az hg rfl rfl λQ' hR=>?_
 replace k:∀S',Ka S S'->Q' (.rt (.bl true),S'):=λS' a=>hR _ _ (k S' a)
 clear hR;show wZ _ _ bP [ba (.ref i),ba (.ref j)] S Q';dsimp only[bP];refine aW λK hK=>cO (S1:=S) (λQ q=>q) (hK _ _ ?_)
 clear hK K;refine aW λK hK=>cO (S1:=S) (λQ q=>?_) (hK _ _ ?_)
 ·dsimp only[wT,wE,wV,wG];refine ab (fO hj #v[]) #[λz=>?_,λ_=>ab (fO hi #v[]) q]
  exact absurd z #v[]
 clear hK K;refine aW λK hK=>cO (S1:=S) (λQ q=>?_) (hK _ _ ?_)
 ·dsimp only[wT,wE,wV,wG];exact ab (fO hj #v[]) q
 clear hK K;refine aW λK hK=>cO (S1:=S) (λQ q=>?_) (hK _ _ ?_)
 ·dsimp only[wT,wE,wV,wG];exact ab (fO hj #v[]) q
 clear hK K;refine aW λK hK=>cO (S1:=S) (λQ q=>?_) (hK _ _ ?_)
 ·dsimp only[wT,wE,wV,wG];refine ab (fO hj #v[]) (ab (fO hi #v[]) ?_)
  refine ab (show cM .ne (.bl false) (.bl false) S=ba (.bl false,S)from rfl) #[λz=>(by cases z),λ_=>?_]
  dsimp only;refine ab (fO hj #v[]) (ab (fO hi #v[]) ?_)
  exact ab (show cM .ne (.bl true) (.bl true) S=ba (.bl false,S)from rfl) q
 clear hK K;refine st ?_;dsimp only[wS,wE,wA,wV,wG];refine fN hi (fN hj ?_);dsimp only[iT,aX,wB];rw[LK];refine#[λ_=>?_,λz=>by cases z]
 refine dH (xs.length:KO) (λm ys ρ2 S2=>(∃a1,ρ2=[gV,a1,ba (.ref j),ba (.ref i)])/\ys=Lo m (.bl true)/\Ka S S2) rfl rfl rfl ∅ ?_ ?_ ?_
 ·dsimp only[wE,wA,wV,wG];exact fN hj #[rfl,#[gV,rfl],rfl,.refl]
 ·rintro m ys ρ2 S2 hm ⟨⟨a1,rfl⟩,rfl,k2⟩;have hm':m < xs.length:=by exact MK.mp ‹_›
  dsimp only[jb,wC,wE,wA,wV,wG,KP];refine#[λ_=>fM (k2.get _ _ hi) (KL m) (by rw[KN]; exact KI hm') (fM (k2.get _ _ hj) (KL m) (by rw[KN]; exact KI hm') (DB hg n d _ _ _ (hx _ (LL hm')) λS3 k3=>#[#[_,rfl],?_,k2.trans k3])),λz=>by cases z]
  rw[Qy]
 ·rintro ys ρ2 S2 ⟨_,rfl,k2⟩;rw[KN];refine#[jD (by rw[Oy]; exact KQ ‹_› (KU rfl)),ab (a:=(.bl true,S2++[.lst (Lo xs.length (.bl true))])) ?_ (k _ (k2.trans .push))]
  simp only[Bi.fn,Cp,aK ah,kg,Lw,wj]
end
noncomputable def cm:Ss:=
 #v[.set 1 (.bi .list #v[.bi .range #v[.bi .len #v[.ix (.v 0) (.c (.int 1))]]]),.ite (.and (.cmp .eq (.comp (.v 2) (.tp [1,2]) (.seq (.ix (.v 0) (.c (.int 1)))) .nil [gV,gV,gV]) (.v 1)) (.cmp .gt (.bi .len #v[.v 1]) (.c (.int 1)))) #v[.set 1 (.op .add (.lst #v[.c (.int 1),.c (.int 0)]) (.sl (.v 1) (.yes (.c (.int 2))) .no))] .nil,.ret (.tup #v[.ix (.v 0) (.c (.int 0)),.bi .tuple #v[.comp (.tup #v[.ix (.ix (.ix (.v 3) (.c (.int 1))) (.v 1)) (.c (.int 0)),.ix (.v 2) (.v 1)]) (.nm 1) (.rng #v[.bi .len #v[.v 1]]) .nil [gV,gV,ba 1,ba 0]],.tup .nil])]
noncomputable def gD (bs:Kr KO):Kr KO:=if bs=fF bs.length/\1 < bs.length then[1,0]++(fF bs.length).drop 2 else fF bs.length
theorem pB {bs:Kr KO}(h:GoodB bs):GoodB (gD bs)/\(gD bs).length=bs.length:=by
 rcases h with rfl|rfl|rfl|rfl|rfl|rfl
 ·exact#[.inl #v[],#v[]]
 ·exact#[.inr (.inr (.inl #v[])),#v[]]
 ·exact#[.inr (.inl #v[]),#v[]]
 ·exact#[.inr (.inr (.inr (.inr (.inl #v[])))),#v[]]
 ·exact#[.inr (.inr (.inr (.inl #v[]))),#v[]]
 ·exact#[.inr (.inr (.inr (.inl #v[]))),#v[]]
theorem xT (n:KC):aw (K9 n)=(fF n).map W.int:=by rw[xQ]; rfl
theorem F7 {S:aa}{i j:KC}{xs ys:Kr KO}(h1:S[i]?=ba (.lst (xs.map W.int)))(h2:S[j]?=ba (.lst (ys.map W.int))):cM .eq (.ref i) (.ref j) S=ba (.bl (decide (xs=ys)),S):=by
 show(nN S (19+1) (.ref i) (.ref j)).map _=_;simp only[nN,dF h1,dF h2,pA];split
 ·rfl
 ·rename_i h;have:xs≠ys:=λe=>h (by rw[e])
  simp[this]
section
variable{defs:Kr (KZ×Df)}{fuel d:KC}{S:aa}{Q:QW}
theorem Bh {Φ:KZ->FF}{ρ:Fm}{K:Fm->aa->Prop}{Q:QO}{e:E}{j n:KC}{m:KO}(hm:m=n)(he:∀Q:QW,Q (.int m,S)->wE Φ e ρ S Q)(hn:n<=1000)(k:∀(t:KC) (S':aa),t=S.length+1->S'=S++[O.rng 0 n]++[.lst (aw (K9 n))]->K (ρ.set j (ba (.ref t))) S') :
  wS Φ fuel (.set j (.bi .list #v[.bi .range #v[e]])) ρ S K Q:=by
 have e1:Bi.range.fn [.int m] S=ba (.ref S.length,S++[.rng 0 m]):=by
  simp only[Bi.fn,pY];rw[La #[∅,∅]]
 have h:wO (Bi.list.fn [.ref S.length] (S++[O.rng 0 m])) λp=>K (ρ.set j (ba p.1)) p.2:=by
  subst hm;exact DC ah hn (k _ _ (by simp) rfl)
 have g:wO (Bi.range.fn [.int m] S) λp=>wO (Bi.list.fn [p.1] p.2) λp=>K (ρ.set j (ba p.1)) p.2:=by
  rw[e1];exact h
 dsimp only[wS,wE,wA];exact he _ g
theorem DF (hg:Is defs ("_law_other_rule" : KZ) 1 2 cm){m0 b0:W}{ns:Kr KZ}{bs:Kr KO}(hb:GoodB bs)(hnl:ns.length=bs.length)
  (k:∀S',Ka S S'->Q (.tup [m0,.tup (K4 bz ns (gD bs)),.tup []],S')) :
  wO (bw (ar defs fuel (d+1)) "_law_other_rule" 1 [.tup [m0,.tup (K4 bz ns bs),b0]] S) Q:=by
 refine az hg rfl rfl λQ' hR=>?_
 replace k:∀S',Ka S S'->Q' (.rt (.tup [m0,.tup (K4 bz ns (gD bs)),.tup []]),S'):=λS' a=>hR _ _ (k S' a)
 clear hR;obtain⟨gb,gl⟩:=pB hb;have hb3:bs.length<=3:=by rcases hb with rfl|rfl|rfl|rfl|rfl|rfl <;> decide
 have zl:(K4 bz ns bs).length=bs.length:=by rw[ML,hnl]; omega
 show wZ _ _ cm [ba (.tup [m0,.tup (K4 bz ns bs),b0]),gV] S Q';generalize hB:W.tup [m0,.tup (K4 bz ns bs),b0]=R;dsimp only[cm];refine aW λK hK=>?_
 have he:∀Q:QW,Q (.int ((K4 bz ns bs).length:KC),S)->wE (ar defs fuel d) (.bi .len #v[.ix (.v 0) (.c (.int 1))]) [ba R,gV] S Q:=λQ q=>by
  dsimp only[wE,wA,wV,wG];subst hB;exact am #v[] rfl (bH q)
 generalize hρ:[ba R,gV]=ρ0 at he hK ⊢;rw[zl]at he;refine Bh rfl he (by exact KQ ‹_› (KU rfl)) λt S1 ht hS1=>hK _ _ ?_
 clear he hK K;subst hρ;dsimp only[KP];have e1:S1[t]?=ba (.lst ((fF bs.length).map W.int)):=by
  rw[hS1,show t=(S++[O.rng 0 bs.length]).length by rw[ht]; simp,<- xT]; exact ah
 have k1:Ka S S1:=by rw[hS1]; exact Ka.push.trans .push
 have l1:S.length<=t:=∅
 clear hS1 ht;have tl:∀(t2:KC) (S2:aa),S2[t2]?=ba (.lst ((gD bs).map W.int))->Ka S S2->wZ (ar defs fuel d) fuel #v[.ret (.tup #v[.ix (.v 0) (.c (.int 0)),.bi .tuple #v[.comp (.tup #v[.ix (.ix (.ix (.v 3) (.c (.int 1))) (.v 1)) (.c (.int 0)),.ix (.v 2) (.v 1)]) (.nm 1) (.rng #v[.bi .len #v[.v 1]]) .nil [gV,gV,ba 1,ba 0]],.tup .nil])] [ba R,ba (.ref t2)] S2 Q':=λt2 S2 e2 k2=>by
  refine st ?_;dsimp only[wS,wE,wA,wV,wG];subst hB;refine am #v[] rfl ?_
  refine dH (bs.length:KO) (λi ys ρ2 S3=>(∃a1,ρ2=[gV,a1,ba (.ref t2),ba (.tup [m0,.tup (K4 bz ns bs),b0])])/\ys=(K4 bz ns (gD bs)).take i/\S3=S2) rfl rfl rfl ∅ ?_ ?_ ?_
  ·dsimp only[wE,wA,wV,wG];refine fN e2 ?_;rw[Kt,gl];exact#[rfl,#[gV,rfl],rfl,rfl]
  ·rintro i ys ρ2 S3 hi ⟨⟨a1,rfl⟩,rfl,rfl⟩;have hi':i < bs.length:=by exact MK.mp ‹_›
   have hn:ns[i]?=ba (ns[i]'∅):=KI ∅
   have hbk:(gD bs)[i]?=ba ((gD bs)[i]'∅):=KI ∅
   have hbb:bs[i]?=ba bs[i]:=KI hi';dsimp only[jb,wC,wE,wA,wV,wG,KP];refine#[λ_=>am #v[] rfl (am (KL i) (by rw[KN]; exact iW hn hbb) (am #v[] rfl (fM e2 (KL i) (by rw[KN,KD,hbk]; rfl) #[#[_,rfl],?_,rfl]))),λz=>by cases z]
   rw[Lj,iW hn hbk]; rfl
  ·rintro ys ρ2 S3 ⟨_,rfl,rfl⟩;rw[KN,M6 (by rw[ML]; omega)]
   exact#[jD (by rw[ML]; omega),fZ ah (k _ (k2.trans .push))]
 refine aW λK hK=>?_
 dsimp only[wS,wT,wE,wA,wV,wG];refine qz (K4 bz ns bs) (λi ys ρ2 S2=>(∃a1 a2,ρ2=[gV,a1,a2])/\ys=(bs.map W.int).take i/\S2=S1) rfl rfl rfl ?_ ?_ ?_
 ·dsimp only[wE,wV,wG];subst hB;exact am #v[] rfl #[rfl,#[gV,gV,rfl],rfl,rfl]
 ·rintro i w ys ρ2 S2 hw ⟨⟨a1,a2,rfl⟩,rfl,rfl⟩;have hi:i < bs.length:=by
   have:=(KJ.mp hw).1;omega
  have hn:ns[i]?=ba (ns[i]'∅):=KI ∅
  have hbb:bs[i]?=ba bs[i]:=KI hi;cases(iW hn hbb).symm.trans hw;refine ab (show gC (.tp [1,2]) (bz (ns[i]'∅) bs[i]) [gV,a1,a2] S2=ba ([gV,ba (.str (ns[i]'∅)),ba (.int bs[i])],S2)from rfl) ?_
  dsimp only[jb,wC,wE,wV,wG];refine#[λ_=>#[#[_,_,rfl],?_,rfl],λz=>by cases z]
  rw[Lj,KD,hbb]; rfl
 ·rintro ys ρ2 S2 ⟨_,rfl,rfl⟩;rw[zl,M6 (by rw[Kt]; exact KH _)]
  refine#[jD (by rw[Kt]; exact KQ ‹_› (KU rfl)),?_]
  have e1':=aq (u:=O.lst (bs.map W.int)) e1;refine ab (F7 ah e1') ?_;dsimp only[wB];have no:¬ (bs=fF bs.length/\1 < bs.length)->gD bs=fF bs.length:=λh=>Li h
  refine#[λh=>?_,λh=>?_]
  ·have h:bs=fF bs.length:=LH h;refine fN e1' ?_;rw[Kt,show(fF bs.length).length=bs.length by rw[<- h]]
   refine ab Dh ?_;dsimp only[wB];refine au (Q0:=Q') (λh2 Q2 hn2 _=>?_) (λh2 Q2 hn2 _=>?_)
   ·have h2:(1:KO) < bs.length:=LH h2;refine st ?_;dsimp only[wS,wE,wA,wP,wV,wG,wN];refine ab (a:=(.ref (S2++[O.lst (bs.map W.int)]++[O.lst [.int 1,.int 0]]).length,S2++[O.lst (bs.map W.int)]++[O.lst [.int 1,.int 0]]++[O.lst (((fF bs.length).drop 2).map W.int)])) ?_ ?_
    ·simp only[re,aK (aq (u:=O.lst [W.int 1,W.int 0]) e1')];rw[show(ba (2:KO))=ba (((2:KC)):KO)from rfl,sJ,List.map_drop]
    ·dsimp only;refine ab (uL (aq ah) ah (jD ?_)) (cj (hn2 _ _ (hK _ _ (tl _ _ (by rw[show gD bs=[1,0]++(fF bs.length).drop 2 from La #[h,∅],Lh]; exact ah) ((((k1.trans .push).trans .push).trans .push).trans .push)))))
     rw[KG,Kt,Nv,<- h]; simp; omega
   ·have h2:¬ (1:KO) < bs.length:=MQ h2;exact cj (hn2 _ _ (hK _ _ (tl _ _ (by rw[no λz=>h2 ∅]; exact e1') (k1.trans .push))))
  ·exact au (Q0:=Q') (λz=>by cases z) (λ_ Q2 hn2 _=>cj (hn2 _ _ (hK _ _ (tl _ _ (by rw[no λz=>MQ h z.1]; exact e1') (k1.trans .push)))))
end
theorem DG {a:KC}{bs:Kr KO}(h:SizeOk a bs):cR a bs=true:=by
 obtain⟨h0,hb,hm,h3⟩:=h;have ha:a=1\/a=2\/a=3:=∅
 rcases hb with rfl|rfl|rfl|rfl|rfl|rfl <;> rcases ha with rfl|rfl|rfl
 ·exact JW.1
 ·exact JW.2.1
 ·exact JW.2.2
 ·exact II.1
 ·exact II.2.1
 ·exact JY
 ·exact II.2.2.1
 ·exact II.2.2.2
 ·exact JZ
 ·exact JX.1
 ·exact J0
 ·exact absurd hm #v[]
 ·exact JX.2.1
 ·exact J1
 ·exact absurd hm #v[]
 ·exact JX.2.2
 ·exact J2
 ·exact absurd hm #v[]
theorem tj:∀ {us vs:Kr Wd},us.map dj=vs.map dj->us=vs
 | [],[],_=>rfl
 | [],_::_,h=>by cases h
 | _::_,[],h=>by cases h
 | x::xs,y::ys,h=>by
  simp only[L0,Uq]at h;rw[qE h.1,tj h.2]
theorem tm:∀xs:Kr KO,dQ (xs.map T.int)=true
 | []=>rfl
 | _::xs=>tm xs
theorem wn:∀u:Wd,dQ (u.map qA)=true
 | []=>rfl
 | p::u=>by
  simp only[L0,dQ,KA];refine#[?_,wn u];simp[qA,gk,dQ,tm]
theorem Bj (u:Wd):gk (dj u)=true:=wn u
theorem Em:∀ {ks:Kr T} {L:Kr Wd},(∀k∈ks,k∈L.map dj)->∃us:Kr Wd,ks=us.map dj/\∀u∈us,u∈L
 | [],_,_=>#[[],rfl,λ_ h=>nomatch h]
 | k::ks,L,h=>by
  obtain⟨u,hu,rfl⟩:=K6.mp (h k (.head _));obtain⟨us,rfl,h2⟩:=Em λk hk=>h k (.tail _ hk)
  exact#[u::us,rfl,λv hv=>(Le.mp hv).elim (λe=>e ▸ hu) (h2 v)]
theorem la:∀ {us:Kr Wd},(us.map dj).Nodup->us.Nodup
 | [],_=>.nil
 | u::us,h=>by
  rw[L0,Nh]at h;exact Nh.mpr #[λz=>h.1 (K6.mpr #[u,z,rfl]),la h.2]
theorem uT {n k:KC}{ds:Kr KO}:ds∈bI n k->ds.length=k/\∀w∈ds,0<=w/\w < (n:KO):=by
 induction k generalizing ds with
 | zero=>intro h; cases KS.mp h; exact#[rfl,λw hw=>nomatch hw]
 | succ k ih=>
  intro h;obtain⟨i,hi,rfl⟩:=K6.mp h;have hi:=Ll.mp hi;have hn:0 < n:=by
   rcases Pf n with h|h
   ·rw[h,P3]at hi; omega
   ·exact h
  have hlt:i / n < (bI n k).length:=M0 (by rw[NU]; exact hi)
  obtain⟨h1,h2⟩:=ih (KY (aB (d:=[]) hlt));refine#[by rw[KG,h1]; rfl,λw hw=>?_]
  rcases Ln.mp hw with h|h
  ·exact h2 w h
  ·rw[KS.mp h];have:=P0 i hn;omega
theorem tq {a n k:KC}{u:Wd}:u∈dB a n k->GoodW a n u/\u.length=k:=by
 induction k generalizing u with
 | zero=>intro h; cases KS.mp h; exact#[.nil,rfl]
 | succ k ih=>
  intro h;obtain⟨i,hi,rfl⟩:=K6.mp h;have hi:=Ll.mp hi;have hpos:0 < (cQ a n k).length:=by
   rcases Pf (cQ a n k).length with h|h
   ·rw[h,P3]at hi; omega
   ·exact h
  have hlt:i / (cQ a n k).length < (dB a n k).length:=M0 (by rw[NU]; exact hi)
  obtain⟨h1,h2⟩:=ih (KY (aB (d:=[]) hlt));have hp:=KY (aB (d:=(0,[])) (P0 i hpos));obtain⟨m,hm,hp⟩:=NC.mp hp;obtain⟨ds,hds,e⟩:=K6.mp hp;obtain⟨g1,g2⟩:=uT hds;have hm:=Ll.mp hm;rw[<- e];exact#[h1.snoc #[∅,by exact MK.mpr ‹_›] (by rw[g1,h2]) g2,by rw[KG,h2]; rfl]
theorem DH {a:KC}{bs:Kr KO}(h:SizeOk a bs):∃us:Kr Wd,kW ((eB a bs).map dj)=ba (us.map dj)/\us.Nodup/\us.length < 64/\(∀u∈us,u∈bu a bs)/\eB a bs≠[]:=by
 have p:=DG h;unfold cR at p;split at p
 ·rename_i ks hk;simp only[KA,K5]at p;have hm0:=zx hk;obtain⟨us,rfl,hm⟩:=Em (L:=bu a bs) λk hk=>by
   obtain⟨f,hf,rfl⟩:=K6.mp (hm0 k hk);obtain⟨u,hu,rfl⟩:=K6.mp hf;obtain⟨g1,g2⟩:=tq hu;exact K6.mpr #[_,wc g1 g2,rfl]
  have nd:=la p.1;refine#[us,hk,nd,MA (mK us _ nd hm) (lM h),hm,λz=>?_]
  rw[z]at hk;have e:ba (us.map dj)=ba []:=hk.symm;rw[LV e]at p;exact absurd p.2 #v[]
 ·cases p
theorem tu {us:Kr Wd}(h:us.Nodup):Nice (us.map dj):=by
 refine#[λx hx=>?_,j6 us,?_]
 ·obtain⟨u,_,rfl⟩:=K6.mp hx;exact Bj u
 ·rw[List.nodup_iff_pairwise_ne,Pr];exact h.imp λhne e=>hne (qE e)
theorem kh {us:Kr Wd}:(cY us).map dj=fJ (us.map dj):=by
 unfold cY fJ;rw[sM (d:=[])]
theorem xU {us vs:Kr Wd}(h:us.Nodup)(hs:vs.Sublist (cY us)):cY vs=vs:=by
 apply tj;rw[kh];refine zw (tu h) ?_;rw[<- kh];exact hs.map _
noncomputable def dZ:Ss:=
 #v[.ret (.bi .sorted #v[.bi .set #v[.comp (.own "_law_figure" 2 #v[.v 2,.v 1]) (.nm 1) (.seq (.own "_law_worlds" 2 #v[.v 0,.c (.int 3)])) .nil [gV,gV,ba 0]]])]
noncomputable def dk:Ss:=
 #v[.set 1 (.own "_law_pick" 2 #v[.v 0,.c (.int 4)]),.ite (.cmp .eq (.v 1) (.c (.int 0))) #v[.ret (.own "_law_laying_rule" 1 #v[.v 0])] .nil,.ite (.cmp .lt (.v 1) (.c (.int 3))) #v[.ret (.own "_law_any_rule" 1 #v[.v 0])] .nil,.asg [2,3] (.own "_law_sizes" 1 #v[.v 0]),.set 4 (.own "_law_rule_of" 4 #v[.v 0,.v 2,.own "_law_backs" 2 #v[.v 0,.v 3],.tup .nil]),.ret (.tup #v[.ix (.v 4) (.c (.int 0)),.ix (.v 4) (.c (.int 1)),.bi .tuple #v[.comp (.v 1) (.nm 1) (.seq (.own "_law_figures" 1 #v[.v 4])) #v[.cmp .eq (.own "_law_pick" 2 #v[.v 2,.c (.int 3)]) (.c (.int 0))] [gV,gV,ba 0]]])]
section
variable{defs:Kr (KZ×Df)}{fuel d:KC}{S:aa}{r:KC}{Q:QW}
theorem F8 {l:KC}{us ks:Kr Wd}(h:S[l]?=ba (.lst (us.map aL)))(hne:us≠[])(hk:kW (us.map dj)=ba (ks.map dj))(q:Q (.ref S.length,S++[.stt (ks.map dj)])):wO (Bi.set.fn [.ref l] S) Q:=by
 refine ab ?_ q;have e2:mq [.ref l] S=ba (.ref S.length,S++[.stt (ks.map dj)]):=by
  simp only[mq,aK h,AB];rw[La,hk]
  ·rfl
  ·rw[K2];intro x hx;obtain⟨u,_,rfl⟩:=K6.mp hx;have:=mM u;have kl:aC=6:=rfl;simp only[zy,Bj,N7,KA,K5];exact#[rfl,by exact KQ ‹_› (KU rfl)]
 exact e2
theorem DI {l:KC}{us:Kr Wd}(h:S[l]?=ba (.stt (us.map dj)))(h64:us.length < 64)(hnd:us.Nodup)(hne:∀u∈us,u≠[])(q:Q (.ref S.length,S++[.lst ((cY us).map aL)])):wO (Bi.sorted.fn [.ref l] S) Q:=by
 refine ab ?_ q;have hr:Gq S l=ba (us.map dj):=by simp[Gq,h]
 have N:=tu hnd;have ok:mr (us.map dj)=true:=by
  simp only[mr,iN,KA,K5,Mx,Kt];refine#[#[#[K2.mpr N.num,N.lt],N.nd],#[#[h64,by have:=ic us; unfold dh; exact KQ ‹_› (KU rfl)],.inr #[AE us hne,N.lt]]]
 have e1:dE [.ref l] S=ba (.ref S.length,S++[.lst ((cY us).map aL)]):=by
  simp only[dE,hr];rw[La ok,<- kh,uM]
 show C7 dE gm [.ref l] S=_;unfold C7;simp only[e1]
structure Full (defs:Kr (KZ×Df)):Prop where
 digits:Is defs ("_law_digits" : KZ) 2 4 cy
 worlds:Is defs ("_law_worlds" : KZ) 2 6 dL
 figures:Is defs ("_law_figures" : KZ) 1 1 dZ
 full:Is defs ("_law_full_rule" : KZ) 1 5 dk
theorem xV (G:Gen defs)(F:Full defs){ms ns:Kr KZ}{a:KC}{bs:Kr KO}{b0:W}(hs:SizeOk a bs)(hml:ms.length=a)(hnl:ns.length=bs.length)
  (k:∀(us:Kr Wd) (q:KC) (S':aa),us.Nodup->us.length < 64->(∀u∈us,u∈bu a bs)->S'[q]?=ba (.lst ((cY us).map aL))->S.length<=q->Ka S S'->Q (.ref q,S')) :
  wO (bw (ar defs fuel (d+4)) "_law_figures" 1 [.tup [.tup (ms.map W.str),.tup (K4 bz ns bs),b0]] S) Q:=by
 refine az F.figures rfl rfl λQ' hR=>?_
 replace k:∀(us:Kr Wd) (q:KC) (S':aa),us.Nodup->us.length < 64->(∀u∈us,u∈bu a bs)->S'[q]?=ba (.lst ((cY us).map aL))->S.length<=q->Ka S S'->Q' (.rt (.ref q),S'):=λa b c e f g h i j=>hR _ _ (k a b c e f g h i j)
 clear hR;obtain⟨us,hk,hnd,h64,hmem,hne⟩:=DH hs;have hb3:=hs.n3;have hpos:=hs.pos;have h3:=hs.a3;have hmost:=hs.most;show wZ _ _ dZ [ba (.tup [.tup (ms.map W.str),.tup (K4 bz ns bs),b0])] S Q';generalize hB:W.tup [.tup (ms.map W.str),.tup (K4 bz ns bs),b0]=R;dsimp only[dZ];refine st ?_;dsimp only[wS,wE,wA,wV,wG];refine mQ rfl rfl rfl ?_;dsimp only[wE,wA,wV,wG];subst hB;refine Bc (d:=d+1) F.digits F.worlds (a:=a) (n:=bs.length) (by rw[Kt,hml]) (by rw[ML,hnl]; omega) hpos h3 hb3.1 hb3.2 hmost λl S1 e1 hl k1=>?_
 generalize hB:W.tup [.tup (ms.map W.str),.tup (K4 bz ns bs),b0]=R;refine#[l,(dB a bs.length 3).map aL,λj ys ρ2 S2=>(∃a1,ρ2=[gV,a1,ba R])/\ys=((eB a bs).take j).map aL/\S2[l]?=ba (.lst ((dB a bs.length 3).map aL))/\Ka S S2,rfl,#[#[gV,rfl],rfl,e1,k1],λj ys ρ2 S2 h=>h.2.2.1,?_,?_]
 ·rintro j w ys ρ2 S2 hw ⟨⟨a1,rfl⟩,rfl,e2,k2⟩;rw[KD,Kv]at hw;obtain⟨u,hu,rfl⟩:=hw;obtain⟨gu,hu3⟩:=tq (KY hu);refine ab (show gC (.nm 1) (aL u) [gV,a1,ba R] S2=ba ([gV,ba (aL u),ba R],S2)from rfl) ?_
  dsimp only[jb,wC,wE,wA,wV,wG];subst hB;refine#[λ_=>jy (d:=d) G hs.good hnl gu hu3 λS3 k3=>#[#[_,rfl],?_,k3.get _ _ e2,k2.trans k3],λz=>by cases z]
  have:(eB a bs)[j]?=ba (j7 bs u):=by unfold eB; rw[KD,hu]; rfl
  rw[Lj,this];simp
 ·rintro ys ρ2 S2 ⟨_,rfl,e2,k2⟩;have hfl:(eB a bs).length=((dB a bs.length 3).map aL).length:=by unfold eB; rw[Kt,Kt]
  rw[<- hfl,LC];have hl216:(eB a bs).length<=216:=by
   unfold eB;rw[Kt,fD];exact(sY (k:=2) hpos h3 hb3.1 hb3.2 hmost #v[]).2.2
  refine#[jD (by rw[Kt]; exact KQ ‹_› (KU rfl)),F8 ah hne hk (DI ah h64 hnd (λu hu=>sP (hmem u hu)) ?_)]
  have kk:=((k2.trans (Ka.push (o:=O.lst ((eB a bs).map aL)))).trans (Ka.push (o:=O.stt (us.map dj)))).trans (Ka.push (o:=O.lst ((cY us).map aL)));exact k us _ _ hnd h64 hmem ah (((k2.trans (Ka.push (o:=O.lst ((eB a bs).map aL)))).trans (Ka.push (o:=O.stt (us.map dj)))).len) kk
theorem F9 (hfu:20 < fuel)(G:Gen defs)(F:Full defs)(hf:Fl S r)(k:∀w S',fB w->Fl S' r->Kp r S S'->Q (w,S')):wO (bw (ar defs fuel (d+8)) "_law_full_rule" 1 [.ref r] S) Q:=by
 refine az F.full rfl rfl λQ' hR=>?_
 replace k:∀w S',fB w->Fl S' r->Kp r S S'->Q' (.rt w,S'):=λz S' a b c=>hR _ _ (k z S' a b c)
 clear hR;show wZ _ _ dk [ba (.ref r),gV,gV,gV,gV] S Q';dsimp only[dk];refine aW λK hK=>?_
 dsimp only[wS,wE,wA,wV,wG,KP];refine bx (d:=d+6) G.pick hf #v[] #v[] λv S1 v0 v7 f1 k1=>hK _ _ ?_
 clear hK K;refine aW λK hK=>?_
 dsimp only[wS,wT,wE,wV,wG,iT,aX,wB];refine au (Q0:=Q') (λ_ Q2 _ hr=>?_) (λ_ Q2 hn _=>cj (hn _ _ (hK _ _ ?_)))
 ·refine st ?_;dsimp only[wS,wE,wA,wV,wG];exact Ba (d:=d) hfu G f1 λw S2 hw f2 k2=>hr _ _ (k w S2 hw f2 (k1.trans k2))
 clear hK K hn;refine aW λK hK=>?_
 dsimp only[wS,wT,wE,wV,wG,Dg,aX,wB];refine au (Q0:=Q') (λ_ Q2 _ hr=>?_) (λ_ Q2 hn _=>cj (hn _ _ (hK _ _ ?_)))
 ·refine st ?_;dsimp only[wS,wE,wA,wV,wG];exact uO (d:=d+1) hfu G f1 λw S2 hw f2 k2=>hr _ _ (k w S2 hw f2 (k1.trans k2))
 clear hK K hn;refine aW λK hK=>?_
 dsimp only[wS,wE,wA,wV,wG];refine qC (d:=d+5) G f1 λa n S2 a1 a3 n1 n3 an f2 k2=>?_
 dsimp only[wU];refine ab (show eu [2,3] [.int a,.int n] [ba (.ref r),ba (.int v),gV,gV,gV]=ba [ba (.ref r),ba (.int v),ba (.int a),ba (.int n),gV]from rfl) (hK _ _ ?_)
 clear hK K;refine aW λK hK=>?_
 dsimp only[wS,wE,wA,wV,wG,KP];refine qD (d:=d+5) G f2 n1 n3 λbs S3 hb hbl f3 k3=>?_
 have hsz:SizeOk a bs:=#[∅,hb,by rw[hbl]; exact an,a3]
 refine gz (d:=d+2) hfu G f3 a3 ∅ λms ns S4 hml hnl hnm f4 k4=>hK _ _ ?_
 clear hK K;have k14:Kp r S S4:=k1.trans (k2.trans (k3.trans k4));clear k1 k2 k3 k4;refine st ?_;dsimp only[wS,wE,wA,wV,wG];refine am #v[] rfl (am #v[] rfl ?_)
 refine mQ rfl rfl rfl ?_;dsimp only[wE,wA,wV,wG];refine xV (d:=d+3) G F hsz hml hnl λus q S5 hnd h64 hmem e5 hq k5=>?_
 have f5:=f4.ka k5;have hrq:r < q:=Lc f4.lt hq;refine#[q,(cY us).map aL,λj ys ρ2 S6=>(∃a1,ρ2=[gV,a1,ba (.ref r)])/\(∃vs:Kr Wd,ys=vs.map aL/\vs.Sublist ((cY us).take j))/\S6[q]?=ba (.lst ((cY us).map aL))/\Fl S6 r/\Kp r S S6,rfl,#[#[gV,rfl],#[[],rfl,by simp],e5,f5,k14.trans (k5.kp r)],λj ys ρ2 S6 h=>h.2.2.1,?_,?_]
 ·rintro j w ys ρ2 S6 hw ⟨⟨a1,rfl⟩,⟨vs,rfl,hsub⟩,e6,f6,k6⟩;rw[KD,Kv]at hw;obtain⟨u,hu,rfl⟩:=hw;refine ab (show gC (.nm 1) (aL u) [gV,a1,ba (.ref r)] S6=ba ([gV,ba (aL u),ba (.ref r)],S6)from rfl) ?_
  dsimp only[jb,wC,wE,wA,wV,wG];refine bx (d:=d+6) G.pick f6 #v[] #v[] λv S7 _ _ f7 k7=>?_
  dsimp only[iT,aX,wB];have e7:=k7.get _ _ (Lx ‹_›) e6;refine#[λ_=>#[#[_,rfl],#[vs++[u],by rw[Lh]; rfl,?_],e7,f7,k6.trans k7],λ_=>#[#[_,rfl],#[vs,rfl,?_],e7,f7,k6.trans k7]]
  ·rw[Lj,hu];exact hsub.append (Uf _)
  ·rw[Lj];exact hsub.trans (List.sublist_append_left _ _)
 ·rintro ys ρ2 S6 ⟨_,⟨vs,rfl,hsub⟩,e6,f6,k6⟩;rw[Kt,LC]at hsub;have pu:(cY us).Perm us:=fj;have hvl:vs.length<=us.length:=by rw[<- pu.length_eq]; exact hsub.length_le
  have hvs:=xU hnd hsub;refine#[jD (by rw[Kt]; omega),fZ ah (k _ _ #[a,bs,ms,ns,vs,by rw[hvs]; rfl,hsz,hml,hnl,hnm,hsub.nodup (pu.nodup_iff.mpr hnd),λg hg=>hmem g (pu.mem_iff.mp (hsub.subset hg))] (f6.ka .push) (k6.trans .push))]
end
noncomputable def cU:Ss:=
 #v[.set 4 (.tup #v[.ix (.ix (.v 0) (.v 1)) (.c (.int 0)),.tup .nil]),.set 5 (.tup #v[.ix (.ix (.v 0) (.v 2)) (.c (.int 0)),.tup #v[.ix (.ix (.ix (.v 0) (.v 2)) (.c (.int 1))) (.v 1)]]),.ret (.tup #v[.v 4,.v 5,.tup #v[.ix (.ix (.v 0) (.v 3)) (.c (.int 0)),.tup #v[.ix (.ix (.ix (.v 0) (.v 3)) (.c (.int 1))) (.v 1),.ix (.ix (.ix (.v 0) (.v 3)) (.c (.int 1))) (.v 2)]]])]
noncomputable def qI (u:Wd)(i j k:KC):Wd:=[((u.getD i (0,[])).1,[]),((u.getD j (0,[])).1,[(u.getD j (0,[])).2.getD i 0]),((u.getD k (0,[])).1,[(u.getD k (0,[])).2.getD i 0,(u.getD k (0,[])).2.getD j 0])]
section
variable{defs:Kr (KZ×Df)}{fuel d:KC}{S:aa}{Q:QW}
theorem DJ (hg:Is defs ("three_at" : KZ) 4 6 cU){a n:KC}{u:Wd}{i j k:KC}(hu:GoodW a n u)(h1:i < j)(h2:j < k)(h3:k < u.length)(q:Q (aL (qI u i j k),S)) :
  wO (bw (ar defs fuel (d+1)) "three_at" 4 [aL u,.int i,.int j,.int k] S) Q:=by
 refine az hg rfl rfl λQ' hR=>?_
 replace q:=hR _ _ q;clear hR;show wZ _ _ cU [ba (aL u),ba (.int i),ba (.int j),ba (.int k),gV,gV] S Q';have hi:i < u.length:=∅
 have hj:j < u.length:=by exact Op ‹_› ‹_›
 have lj:i < (u.getD j (0,[])).2.length:=by rw[hu.len j _ (aB (d:=(0,[])) hj)]; exact h1
 have lk:j < (u.getD k (0,[])).2.length:=by rw[hu.len k _ (aB (d:=(0,[])) h3)]; exact h2
 have lki:i < (u.getD k (0,[])).2.length:=∅
 have w:∀ {p m:KC},m < (u.getD p (0,[])).2.length->((u.getD p (0,[])).2.map W.int)[((m:KC):KO).toNat]?=ba (.int ((u.getD p (0,[])).2.getD m 0)):=λ{p m} h=>by
  rw[KN,KD,aB (d:=0) h]; rfl
 dsimp only[cU];refine st ?_;dsimp only[wS,wE,wA,wV,wG,KP];refine am (KL i) (ee hi) (am #v[] rfl ?_)
 refine st ?_;dsimp only[wS,wE,wA,wV,wG,KP];refine am (KL j) (ee hj) (am #v[] rfl (am (KL j) (ee hj) (am #v[] rfl (am (KL i) (w lj) ?_))))
 refine st ?_;dsimp only[wS,wE,wA,wV,wG,KP];exact am (KL k) (ee h3) (am #v[] rfl (am (KL k) (ee h3) (am #v[] rfl (am (KL i) (w lki) (am (KL k) (ee h3) (am #v[] rfl (am (KL j) (w lk) q)))))))
end
noncomputable def xW (kvs:Kr (T×W))(u:Wd)(i j k:KC):Lf:=(cw kvs (dj (qI u i j k))).isSome
structure HasD (kvs:Kr (T×W))(L:Kr Wd):Prop where
 iff:∀t,t∈kvs.map (·.1)↔t∈L.map dj
 len:kvs.length<=L.length
theorem Bk {kvs:Kr (T×W)}{t:T}:(cw kvs t).isSome=true↔t∈kvs.map (·.1):=by
 constructor
 ·intro h;obtain⟨v,hv⟩:=LM.mp h;exact K6.mpr #[_,mO hv,rfl]
 ·intro h;obtain⟨p,hp,rfl⟩:=K6.mp h;obtain⟨v,hv⟩:=we hp;rw[hv]; rfl
theorem HasD.get {kvs:Kr (T×W)}{L:Kr Wd}(h:HasD kvs L)(t:T):(cw kvs t).isSome=decide (t∈L.map dj):=by
 rw[OQ,Bk,h.iff,K5]
theorem HasD.nil:HasD [] []:=#[λt=>by simp,KH _]
theorem HasD.put {kvs:Kr (T×W)}{L:Kr Wd}{f:Wd}{v:W}(h:HasD kvs L):HasD (fE kvs (dj f) v) (L++[f]):=by
 refine#[λt=>?_,?_]
 ·rw[j8,Lh,Ln,<- h.iff t]
  by_cases hk:dj f∈kvs.map (·.1)
  ·rw[La hk];constructor
   ·exact .inl
   ·rintro(z|z)
    ·exact z
    ·rw[KS.mp z]; exact hk
  ·rw[Li hk,Ln]; rfl
 ·have:=dv kvs (dj f) v;have:=h.len;rw[KG,LO]; omega
noncomputable def gc:Ss:=
 #v[.set 1 .dnew,.loop (.nm 2) (.seq (.ix (.v 0) (.c (.int 2)))) #v[.loop (.nm 3) (.seq (.own "_law_turns" 0 .nil)) #v[.put (.v 1) (.own "_law_part" 3 #v[.v 0,.v 2,.v 3]) (.c (.bl true))]],.ret (.v 1)]
noncomputable def eE (bs:Kr KO)(gs:Kr Wd):Kr Wd:=gs.flatMap λg=>aA.map (br bs g)
theorem mS (bs:Kr KO):∀gs:Kr Wd,(eE bs gs).length=6*gs.length
 | []=>rfl
 | g::gs=>by
  have:=mS bs gs;unfold eE at this ⊢;rw[Ml,KG,this,LJ,Kt,show aA.length=6 from rfl]; omega
section
variable{defs:Kr (KZ×Df)}{fuel d:KC}{S:aa}{Q:QW}
theorem Iq (G:Gen defs)(hg:Is defs ("_law_bad" : KZ) 1 4 gc){m0:W}{ns:Kr KZ}{bs:Kr KO}{a:KC}{gs:Kr Wd}(hb:GoodB bs)(hnl:ns.length=bs.length)(hgs:∀g∈gs,GoodW a bs.length g/\g.length=3)(h64:gs.length<=100)
  (k:∀(q:KC) (kvs:Kr (T×W)) (S':aa),S'[q]?=ba (.dic kvs)->HasD kvs (eE bs gs)->S.length<=q->Ka S S'->Q (.ref q,S')) :
  wO (bw (ar defs fuel (d+3)) "_law_bad" 1 [.tup [m0,.tup (K4 bz ns bs),.tup (gs.map aL)]] S) Q:=by
 refine az hg rfl rfl λQ' hR=>?_
 replace k:∀(q:KC) (kvs:Kr (T×W)) (S':aa),S'[q]?=ba (.dic kvs)->HasD kvs (eE bs gs)->S.length<=q->Ka S S'->Q' (.rt (.ref q),S'):=λa b c e f g h=>hR _ _ (k a b c e f g h)
 clear hR;show wZ _ _ gc [ba (.tup [m0,.tup (K4 bz ns bs),.tup (gs.map aL)]),gV,gV,gV] S Q';generalize hR0:W.tup [m0,.tup (K4 bz ns bs),.tup (gs.map aL)]=R;dsimp only[gc];refine st ?_;dsimp only[wS,wE,KP];refine aW λK hK=>?_
 refine for_tup (gs.map aL) (λi ρ S'=>(∃a2 a3,ρ=[ba R,ba (.ref S.length),a2,a3])/\(∃kvs,S'[S.length]?=ba (.dic kvs)/\HasD kvs (eE bs (gs.take i)))/\Ka S S') rfl rfl ?_ ?_ ?_
 ·dsimp only[wE,wV,wG];subst hR0;exact am #v[] rfl #[rfl,#[_,_,rfl],#[[],ah,.nil],.push]
 ·rintro i w ρ S1 hw ⟨⟨a2,a3,rfl⟩,⟨kvs,e1,h1⟩,k1⟩;clear hK k;rw[KD,Kv]at hw;obtain⟨g,hg1,rfl⟩:=hw;obtain⟨gg,g3⟩:=hgs g (KY hg1);have hi:i < gs.length:=(KJ.mp hg1).1;refine ab (show gC (.nm 2) (aL g) [ba R,ba (.ref S.length),a2,a3] S1=ba ([ba R,ba (.ref S.length),ba (aL g),a3],S1)from rfl) ?_
  intro Q2 hn _;refine aW λK hK=>?_
  refine gS rfl rfl ?_;dsimp only[wE,wA];refine lL (d:=d+1) G ?_;refine#[S1.length,aA.map (λt=>W.tup (aw t)),(λj ρ S'=>(∃a3,ρ=[ba R,ba (.ref S.length),ba (aL g),a3])/\(∃kvs,S'[S.length]?=ba (.dic kvs)/\HasD kvs (eE bs (gs.take i)++(aA.take j).map (br bs g)))/\S'[S1.length]?=ba (.lst (aA.map λt=>W.tup (aw t)))/\Ka S S'),rfl,#[#[_,rfl],#[kvs,aq e1,by rw[QA,PY,Mf]; exact h1],ah,k1.trans .push],λj ρ S' h=>h.2.2.1,?_,?_]
  ·rintro j w ρ S2 hw ⟨⟨a3,rfl⟩,⟨kvs2,e2,h2⟩,el,k2⟩;clear hK hn;rw[KD,Kv]at hw;obtain⟨t,ht,rfl⟩:=hw;have htm:=KY ht;have tk:t.length<=3/\t.Nodup/\∀p∈t,p < 3:=by
    have:∀t∈aA,t.length<=3/\t.Nodup/\∀p∈t,p < 3:=by decide
    exact this t htm
   refine ab (show gC (.nm 3) (.tup (aw t)) [ba R,ba (.ref S.length),ba (aL g),a3] S2=ba ([ba R,ba (.ref S.length),ba (aL g),ba (.tup (aw t))],S2)from rfl) ?_
   intro Q3 hn3 _;refine st ?_;dsimp only[wS,wE,wA,wV,wG];subst hR0;refine AG (d:=d) G hb hnl gg (λp hp=>by have:=tk.2.2 p hp; omega) tk.2.1 ∅ λS3 k3=>?_
   have e3:=k3.get _ _ e2;have hlt:kvs2.length < sizeLine:=by
    have b1:=h2.len;have b2:=mS bs (gs.take i);rw[KG,b2,Kt,Ly,Ly,show aA.length=6 from rfl]at b1
    rw[LD]; omega
   refine ab (AM e3 hlt) (cj (hn3 _ _ #[#[_,rfl],#[_,bV e3,?_],?_,(k2.trans k3).late (KH _)]))
   ·rw[Lj,ht,Lh,<- Mu];exact h2.put
   ·rw[bN (by have:=k1.len; have:=cr e1; exact K7 ‹_›)]; exact k3.get _ _ el
  ·rintro ρ S2 ⟨⟨a3,rfl⟩,⟨kvs2,e2,h2⟩,el,k2⟩;rw[Kt,LC]at h2;refine hK _ _ (cj (hn _ _ #[#[_,_,rfl],#[kvs2,e2,?_],k2]));unfold eE at h2 ⊢;rw[Lj,hg1,MM]
   simpa using h2
 ·rintro ρ S1 ⟨⟨a2,a3,rfl⟩,⟨kvs,e1,h1⟩,k1⟩;rw[Kt,LC]at h1;exact hK _ _ (st (k _ kvs S1 e1 h1 (KH _) k1))
end
noncomputable def b6:Ss:=
 #v[.set 1 (.lst #v[.tup .nil]),.whl (.cmp .lt (.bi .len #v[.ix (.v 1) (.c (.int 0))]) (.c (.int 3))) #v[.set 1 (.own "longer_orders" 2 #v[.v 1,.c (.int 3)])],.set 2 .dnew,.loop (.nm 3) (.seq (.ix (.v 0) (.c (.int 2)))) #v[.loop (.nm 4) (.seq (.v 1)) #v[.put (.v 2) (.own "part" 3 #v[.v 0,.v 3,.v 4]) (.c (.bl true))]],.ret (.v 2)]
noncomputable def xX:KC->Kr (Kr KC)
 | 0=>[[]]
 | i+1=>gU 3 (xX i)
theorem xY:xX 3=aA:=by decide
theorem Ga:∀i,i<=3->(∃o,(xX i)[0]?=ba o/\o.length=i)/\(xX i).length<=6/\∀o∈xX i,o.length<=3:=λi hi=>by
 rcases(show i=0\/i=1\/i=2\/i=3 by omega)with rfl|rfl|rfl|rfl
 ·exact#[#[[],rfl,rfl],#v[],#v[]]
 ·exact#[#[[0],rfl,rfl],#v[],#v[]]
 ·exact#[#[[0,1],rfl,rfl],#v[],#v[]]
 ·exact#[#[[0,1,2],rfl,rfl],#v[],#v[]]
section
variable{defs:Kr (KZ×Df)}{fuel d:KC}{S:aa}{Q:QW}
theorem Bl (hfu:20 < fuel)(P:Parts defs)(hp:Is defs ("part" : KZ) 3 3 iX)(hl:Is defs ("longer_orders" : KZ) 2 4 bJ)(hg:Is defs ("barred_threes" : KZ) 1 5 b6){m0:W}{ns:Kr KZ}{bs:Kr KO}{a:KC}{gs:Kr Wd}(hb:GoodB bs)(hnl:ns.length=bs.length)(hgs:∀g∈gs,GoodW a bs.length g/\g.length=3)(h64:gs.length<=100)
  (k:∀(q:KC) (kvs:Kr (T×W)) (S':aa),S'[q]?=ba (.dic kvs)->HasD kvs (eE bs gs)->S.length<=q->Ka S S'->Q (.ref q,S')) :
  wO (bw (ar defs fuel (d+4)) "barred_threes" 1 [.tup [m0,.tup (K4 bz ns bs),.tup (gs.map aL)]] S) Q:=by
 refine az hg rfl rfl λQ' hR=>?_
 replace k:∀(q:KC) (kvs:Kr (T×W)) (S':aa),S'[q]?=ba (.dic kvs)->HasD kvs (eE bs gs)->S.length<=q->Ka S S'->Q' (.rt (.ref q),S'):=λa b c e f g h=>hR _ _ (k a b c e f g h)
 clear hR;show wZ _ _ b6 [ba (.tup [m0,.tup (K4 bz ns bs),.tup (gs.map aL)]),gV,gV,gV,gV] S Q';generalize hR0:W.tup [m0,.tup (K4 bz ns bs),.tup (gs.map aL)]=R;dsimp only[b6];refine st ?_;dsimp only[wS,wE,wA,KP];refine aW λK hK=>?_
 refine Ei (λm ρ S'=>∃(i q:KC),i+m=3/\ρ=[ba R,ba (.ref q),gV,gV,gV]/\S'[q]?=ba (.lst (cZ (xX i)))/\S.length<=q/\Ka S S') 3 rfl rfl ∅ #[0,S.length,rfl,rfl,ah,KH _,.push] ?_
 rintro m ρ S1 ⟨i,q,him,rfl,e1,hq,k1⟩;obtain⟨⟨o,ho,hol⟩,l6,l3⟩:=Ga i ∅
 dsimp only[wT,wE,wA,wV,wG];refine fM (w:=.tup (aw o)) e1 #v[] (by unfold cZ; rw[KD,show((0:KO).toNat)=0 from rfl,ho]; rfl) (bH ?_)
 rw[show(aw o).length=o.length from Kt ..,hol]
 dsimp only[Dg,aX,wB];refine#[λh=>?_,λh=>?_]
 ·have h:(i:KO) < 3:=LH h;refine#[m - 1,∅,λQ2 hn _=>?_]
  clear hK k;refine st ?_;dsimp only[wS,wE,wA,wV,wG,KP];refine Bf (n:=3) (d:=d+2) hl e1 #v[] (λo ho=>by have:=l3 o ho; exact KQ ‹_› (KU rfl)) ∅ λq2 S2 e2 hq2 k2=>cj (hn _ _ #[i+1,q2,∅,rfl,e2,?_,k1.trans k2])
  exact KQ k1.len hq2
 ·have h:¬ (i:KO) < 3:=MQ h;obtain rfl:i=3:=∅
  rw[xY]at e1;refine hK _ _ ?_;clear hK K l6 l3 ho hol h him;refine st ?_;dsimp only[wS,wE,KP];refine aW λK hK=>?_
  have hq1:=cr e1;refine for_tup (gs.map aL) (λi ρ S'=>(∃a3 a4,ρ=[ba R,ba (.ref q),ba (.ref S1.length),a3,a4])/\(∃kvs,S'[S1.length]?=ba (.dic kvs)/\HasD kvs (eE bs (gs.take i)))/\S'[q]?=ba (.lst (cZ aA))/\Ka S S') rfl rfl ?_ ?_ ?_
  ·dsimp only[wE,wV,wG];subst hR0;exact am #v[] rfl #[rfl,#[_,_,rfl],#[[],ah,.nil],aq e1,k1.trans .push]
  ·rintro i w ρ S2 hw ⟨⟨a3,a4,rfl⟩,⟨kvs,e2,h2⟩,el2,k2⟩;clear hK k;rw[KD,Kv]at hw;obtain⟨g,hg1,rfl⟩:=hw;obtain⟨gg,g3⟩:=hgs g (KY hg1);have hi:i < gs.length:=(KJ.mp hg1).1;refine ab (show gC (.nm 3) (aL g) [ba R,ba (.ref q),ba (.ref S1.length),a3,a4] S2=ba ([ba R,ba (.ref q),ba (.ref S1.length),ba (aL g),a4],S2)from rfl) ?_
   intro Q2 hn _;refine aW λK hK=>?_
   refine qx q (cZ aA) (λj ρ S'=>(∃a4,ρ=[ba R,ba (.ref q),ba (.ref S1.length),ba (aL g),a4])/\(∃kvs,S'[S1.length]?=ba (.dic kvs)/\HasD kvs (eE bs (gs.take i)++(aA.take j).map (br bs g)))/\S'[q]?=ba (.lst (cZ aA))/\Ka S S') rfl rfl #[rfl,#[_,rfl],#[kvs,e2,by rw[QA,PY,Mf]; exact h2],el2,k2] (λj ρ S' h=>h.2.2.1) ?_ ?_
   ·rintro j w ρ S3 hw ⟨⟨a4,rfl⟩,⟨kvs3,e3,h3⟩,el3,k3⟩;clear hK hn;unfold cZ at hw;rw[KD,Kv]at hw;obtain⟨t,ht,rfl⟩:=hw;have tk:t.length<=3/\t.Nodup/\∀p∈t,p < 3:=by
     have:∀t∈aA,t.length<=3/\t.Nodup/\∀p∈t,p < 3:=by decide
     exact this t (KY ht)
    refine ab (show gC (.nm 4) (.tup (aw t)) [ba R,ba (.ref q),ba (.ref S1.length),ba (aL g),a4] S3=ba ([ba R,ba (.ref q),ba (.ref S1.length),ba (aL g),ba (.tup (aw t))],S3)from rfl) ?_
    intro Q3 hn3 _;refine st ?_;dsimp only[wS,wE,wA,wV,wG];subst hR0;refine Io (d:=d) P hp hb hnl gg (λp hp=>by have:=tk.2.2 p hp; omega) tk.2.1 ∅ λS4 k4=>?_
    have e4:=k4.get _ _ e3;have hlt:kvs3.length < sizeLine:=by
     have b1:=h3.len;have b2:=mS bs (gs.take i);rw[KG,b2,Kt,Ly,Ly,show aA.length=6 from rfl]at b1
     rw[LD]; omega
    refine ab (AM e4 hlt) (cj (hn3 _ _ #[#[_,rfl],#[_,bV e4,?_],?_,(k3.trans k4).late k1.len]))
    ·rw[Lj,ht,Lh,<- Mu];exact h3.put
    ·rw[bN (Lx ‹_›)]; exact k4.get _ _ el3
   ·rintro ρ S3 ⟨⟨a4,rfl⟩,⟨kvs3,e3,h3⟩,el3,k3⟩;rw[show(cZ aA).length=aA.length from Kt ..,LC]at h3
    refine hK _ _ (cj (hn _ _ #[#[_,_,rfl],#[kvs3,e3,?_],el3,k3]));unfold eE at h3 ⊢;rw[Lj,hg1,MM]
    simpa using h3
  ·rintro ρ S2 ⟨⟨a3,a4,rfl⟩,⟨kvs,e2,h2⟩,el2,k2⟩;rw[Kt,LC]at h2;exact hK _ _ (st (k _ kvs S2 e2 h2 k1.len k2))
end
noncomputable def cp:Ss:=
 #v[.loop (.nm 6) (.rng2 #v[.bi .len #v[.v 5],.bi .len #v[.v 3]]) #v[.set 7 (.lst .nil),.loop (.nm 8) (.rng #v[.bi .len #v[.ix (.v 1) (.c (.int 1))]]) #v[.set 9 (.lst .nil),.loop (.nm 10) (.rng #v[.v 6]) #v[.ex (.me .append (.v 9) #v[.cmp .isin (.tup #v[.tup #v[.ix (.ix (.v 3) (.v 10)) (.c (.int 0)),.tup .nil],.tup #v[.ix (.ix (.v 3) (.v 6)) (.c (.int 0)),.tup #v[.ix (.ix (.ix (.v 3) (.v 6)) (.c (.int 1))) (.v 10)]],.tup #v[.v 4,.tup #v[.ix (.v 5) (.v 10),.v 8]]]) (.v 2)])],.ite (.cmp .notin (.c (.bl true)) (.v 9)) #v[.ex (.me .append (.v 7) #v[.v 8])] .nil],.ite (.cmp .eq (.v 7) (.lst .nil)) #v[.ret (.c .non)] .nil,.set 5 (.op .add (.v 5) (.tup #v[.ix (.v 7) (.own "_law_pick" 2 #v[.v 0,.bi .len #v[.v 7]])]))],.ret (.v 5)]
theorem Bm {S:aa}{l:KC}{bl:Kr Lf}(h:S[l]?=ba (.lst (bl.map W.bl))):∃b,cM .notin (.bl true) (.ref l) S=ba (.bl b,S):=by
 have hf:(cC (.bl true)&&(bl.map W.bl).all cC)=true:=by
  simp only[cC,N7,K2];intro x hx;obtain⟨z,_,rfl⟩:=K6.mp hx;rfl
 refine#[!(bl.map W.bl).any λz=>yT z (.bl true),?_]
 simp only[cM,lK h,iL,E8,Cg,fH,aK h,hf,Mt,Lw]
section
variable{defs:Kr (KZ×Df)}{fuel d:KC}{S:aa}{r:KC}{Q:QW}
theorem uU (G:Gen defs)(hg:Is defs ("_law_new_ways" : KZ) 6 11 cp){m0 b0:W}{N:Kr W}{a n q:KC}{u:Wd}{mk:KO}{kvs:Kr (T×W)}(hN:N.length=n)(hn3:n<=3)(hu:GoodW a n u)(hl:u.length<=900)(e:S[q]?=ba (.dic kvs))(hqr:q≠r)(hf:Fl S r)
  (k:∀w S',(w=.non\/∃to:Kr KO,w=.tup (ac to)/\to.length=u.length/\∀x∈to,0<=x/\x < (n:KO))->Fl S' r->Kp r S S'->Q (w,S')) :
  wO (bw (ar defs fuel (d+2)) "_law_new_ways" 6 [.ref r,.tup [m0,.tup N,b0],.ref q,aL u,.int mk,.tup []] S) Q:=by
 refine az hg rfl rfl λQ' hR=>?_
 replace k:∀w S',(w=.non\/∃to:Kr KO,w=.tup (ac to)/\to.length=u.length/\∀x∈to,0<=x/\x < (n:KO))->Fl S' r->Kp r S S'->Q' (.rt w,S'):=λw S' h1 h2 h3=>hR _ _ (k w S' h1 h2 h3)
 clear hR;show wZ _ _ cp [ba (.ref r),ba (.tup [m0,.tup N,b0]),ba (.ref q),ba (aL u),ba (.int mk),ba (.tup (ac [])),gV,gV,gV,gV,gV] S Q';generalize hR0:W.tup [m0,.tup N,b0]=R;have ul:(u.map dA).length=u.length:=Kt ..;have hqS:=cr e;have hrS:=hf.lt;dsimp only[cp];refine aW λK hK=>?_
 refine jB 0 (u.length:KO) (λm ρ S'=>∃(to:Kr KO) (a6 a7 a8 a9 a10:Kz W),ρ=[ba (.ref r),ba R,ba (.ref q),ba (aL u),ba (.int mk),ba (.tup (ac to)),a6,a7,a8,a9,a10]/\to.length=m/\(∀x∈to,0<=x/\x < (n:KO))/\Fl S' r/\Kp r S S') rfl rfl rfl ∅ ?_ ?_ ?_
 ·dsimp only[wE,wA,wV,wG];refine bH #[rfl,bH ?_];rw[ul];exact#[rfl,[],_,_,_,_,_,rfl,rfl,(λx hx=>nomatch hx),hf,.refl]
 ·rintro m ρ S1 hm ⟨to,a6,a7,a8,a9,a10,rfl,htl,hto,f1,k1⟩ Q2 hn2 hr2;clear hK;rw[Ox];have hmu:m < u.length:=∅
  have e1:S1[q]?=ba (.dic kvs):=k1.get _ _ hqr e;have s1:S.length<=S1.length:=k1.len;have lm:=hu.len m _ (aB (d:=(0,[])) hmu);dsimp only[KP];refine st ?_;dsimp only[wS,wE,wA,KP];refine aW λK hK=>?_
  refine cJ (n:KO) (λx ρ S'=>(∃a8 a9 a10,ρ=[ba (.ref r),ba R,ba (.ref q),ba (aL u),ba (.int mk),ba (.tup (ac to)),ba (.int m),ba (.ref S1.length),a8,a9,a10])/\(∃ls:Kr KO,S'[S1.length]?=ba (.lst (ac ls))/\ls.length<=x/\∀y∈ls,0<=y/\y < (n:KO))/\S'[q]?=ba (.dic kvs)/\Fl S' r/\Kp r S S') rfl rfl ∅ ?_ ?_ ?_
  ·dsimp only[wE,wA,wV,wG];subst hR0;refine am #v[] rfl (bH ?_)
   rw[hN];exact#[rfl,#[_,_,_,rfl],#[[],ah,KH _,(λy hy=>nomatch hy)],aq e1,f1.ka .push,k1.trans .push]
  ·rintro x ρ S2 hx ⟨⟨a8,a9,a10,rfl⟩,⟨ls,e2,hll,hls⟩,q2,f2,k2⟩ Q3 hn3' hr3;clear hK;have l2:=cr e2;dsimp only[KP];refine st ?_;dsimp only[wS,wE,wA,KP];refine aW λK hK=>?_
   refine cJ (m:KO) (λi ρ S'=>(∃a10,ρ=[ba (.ref r),ba R,ba (.ref q),ba (aL u),ba (.int mk),ba (.tup (ac to)),ba (.int m),ba (.ref S1.length),ba (.int x),ba (.ref S2.length),a10])/\(∃bl:Kr Lf,S'[S2.length]?=ba (.lst (bl.map W.bl))/\bl.length=i)/\S'[S1.length]?=ba (.lst (ac ls))/\S'[q]?=ba (.dic kvs)/\Fl S' r/\Kp r S S') rfl rfl ∅ #[rfl,#[_,rfl],#[[],ah,rfl],aq e2,aq q2,f2.ka .push,k2.trans .push] ?_ ?_
   ·rintro i ρ S3 hi ⟨⟨a10,rfl⟩,⟨bl,e3,hbl⟩,el3,q3,f3,k3⟩ Q4 hn4 _;clear hK;have hiu:i < u.length:=∅
    have him:i < (u.getD m (0,[])).2.length:=∅
    have hit:i < to.length:=∅
    dsimp only[KP];refine st ?_;dsimp only[wS,wE,wA,wV,wG];refine#[dG e3,?_];refine am (KL i) (ee hiu) (am #v[] rfl (am (KL m) (ee hmu) (am #v[] rfl (am (KL m) (ee hmu) (am #v[] rfl (am (w:=.int ((u.getD m (0,[])).2.getD i 0)) (KL i) (by rw[KN,KD,aB (d:=0) him]; rfl) (am (w:=.int (to.getD i 0)) (KL i) (by rw[KN]; unfold ac; rw[KD,aB (d:=0) hit]; rfl) ?_)))))))
    refine ab (a:=(.bl (cw kvs (dj [((u.getD i (0,[])).1,[]),((u.getD m (0,[])).1,[(u.getD m (0,[])).2.getD i 0]),(mk,[to.getD i 0,(x:KO)])])).isSome,S3)) ?_ ?_
    ·show cM .isin (aL [((u.getD i (0,[])).1,[]),((u.getD m (0,[])).1,[(u.getD m (0,[])).2.getD i 0]),(mk,[to.getD i 0,(x:KO)])]) (.ref q) S3=_;simp only[cM,cW q3,qB]; rfl
    refine ph e3 (by rw[Kt]; omega) (cj (hn4 _ _ #[#[_,rfl],#[bl++[(cw kvs (dj [((u.getD i (0,[])).1,[]),((u.getD m (0,[])).1,[(u.getD m (0,[])).2.getD i 0]),(mk,[to.getD i 0,(x:KO)])])).isSome],?_,by rw[KG,hbl]; rfl],?_,?_,f3.own ∅,k3.late ∅]))
    ·rw[bV e3,Lh]; rfl
    ·rw[bN (Lx ‹_›)]; exact el3
    ·rw[bN ∅]; exact q3
   ·rintro ρ S3 ⟨⟨a10,rfl⟩,⟨bl,e3,hbl⟩,el3,q3,f3,k3⟩;refine hK _ _ ?_;clear hK K;refine aW λK hK=>?_
    dsimp only[wS,wT,wE,wA,wV,wG];obtain⟨b,eb⟩:=Bm e3;refine ab eb ?_;dsimp only[wB];refine au (Q0:=Q3) (λ_ Q5 hn5 _=>?_) (λ_ Q5 hn5 _=>cj (hn5 _ _ (hK _ _ (cj (hn3' _ _ #[#[_,_,_,rfl],#[ls,el3,by exact Nn ‹_›,hls],q3,f3,k3])))))
    refine st ?_;dsimp only[wS,wE,wA,wV,wG];refine#[dG el3,ph el3 (by unfold ac; rw[Kt]; omega) (cj (hn5 _ _ (hK _ _ (cj (hn3' _ _ #[#[_,_,_,rfl],#[ls++[(x:KO)],?_,by rw[KG,LO]; omega,λy hy=>?_],?_,f3.own (Lc ‹_› ‹_›),k3.late ‹_›])))))]
    ·rw[bV el3]; unfold ac; rw[Lh]; rfl
    ·rcases Ln.mp hy with h|h
     ·exact hls y h
     ·rw[KS.mp h]; omega
    ·rw[bN ∅]; exact q3
  ·rintro ρ S2 ⟨⟨a8,a9,a10,rfl⟩,⟨ls,e2,hll,hls⟩,q2,f2,k2⟩;refine hK _ _ ?_;clear hK K;rw[KN]at hll;refine aW λK hK=>?_
   dsimp only[wS,wT,wE,wA,wV,wG];refine ab (Ek (aq e2) ah) ?_;dsimp only[wB];refine au (Q0:=Q2) (λ_ Q5 _ hr5=>?_) (λhne Q5 hn5 _=>cj (hn5 _ _ (hK _ _ ?_)))
   ·refine st ?_;dsimp only[wS,wE];exact hr5 _ _ (hr2 _ _ (k _ _ (.inl rfl) (f2.ka .push) (k2.trans .push)))
   clear hn5 hK;have hpos:0 < ls.length:=by
    cases ls with
    | nil=>cases hne
    | cons _ _=>simp
   refine st ?_;dsimp only[wS,wE,wA,wV,wG,KP];have e2':=aq (u:=O.lst []) e2;refine fN e2' ?_;rw[show(ac ls).length=ls.length from Kt ..]
   refine bx (d:=d) G.pick (f2.ka .push) ∅ ∅ λv S4 v0 v1 f4 k4=>?_
   have hv:v.toNat < ls.length:=∅
   have e4:=k4.get _ _ (by have:=cr e2; omega) e2'
   refine fM (w:=.int ls[v.toNat]) e4 v0 (by unfold ac; rw[KD,KI hv]; rfl) ?_
   refine ab (gq (jD (by rw[KG,show(ac to).length=to.length from Kt ..]; show _+1<=_; omega))) (cj (hn2 _ _ #[to++[ls[v.toNat]],ba (.int m),ba (.ref S1.length),a8,a9,a10,?_,by rw[KG,htl]; rfl,λy hy=>?_,f4,(k2.trans .push).trans k4]))
   ·rw[show ac to++[W.int ls[v.toNat]]=ac (to++[ls[v.toNat]]) by unfold ac; rw[Lh]; rfl]
   ·rcases Ln.mp hy with h|h
    ·exact hto y h
    ·rw[KS.mp h]; exact hls _ (LL hv)
 ·rintro ρ S1 ⟨to,a6,a7,a8,a9,a10,rfl,htl,hto,f1,k1⟩;refine hK _ _ (st ?_);dsimp only[wS,wE,wV,wG];exact k _ _ (.inr #[to,rfl,∅,hto]) f1 k1
end
noncomputable def eh:Ss:=
 #v[.set 4 (.tup .nil),.loop (.nm 5) (.rng #v[.v 3]) #v[.set 6 (.own "_law_pick" 2 #v[.v 0,.bi .len #v[.ix (.v 1) (.c (.int 0))]]),.set 7 (.own "_law_new_ways" 6 #v[.v 0,.v 1,.v 2,.v 4,.v 6,.tup .nil]),.ite (.cmp .isnot (.v 7) (.c .non)) #v[.set 4 (.op .add (.v 4) (.tup #v[.tup #v[.v 6,.v 7]]))] .nil],.ret (.v 4)]
section
variable{defs:Kr (KZ×Df)}{fuel d:KC}{S:aa}{r:KC}{Q:QW}
theorem DK (G:Gen defs)(hw:Is defs ("_law_new_ways" : KZ) 6 11 cp)(hg:Is defs ("_law_world" : KZ) 4 8 eh){M N:Kr W}{b0:W}{a n q many:KC}{kvs:Kr (T×W)}(hM:M.length=a)(ha1:0 < a)(ha3:a<=3)(hN:N.length=n)(hn3:n<=3)(hm:many<=900)(e:S[q]?=ba (.dic kvs))(hqr:q≠r)(hf:Fl S r)
  (k:∀(u:Wd) S',u.length<=many->GoodW a n u->Fl S' r->Kp r S S'->Q (aL u,S')) :
  wO (bw (ar defs fuel (d+3)) "_law_world" 4 [.ref r,.tup [.tup M,.tup N,b0],.ref q,.int many] S) Q:=by
 refine az hg rfl rfl λQ' hR=>?_
 replace k:∀(u:Wd) S',u.length<=many->GoodW a n u->Fl S' r->Kp r S S'->Q' (.rt (aL u),S'):=λu S' h1 h2 h3 h4=>hR _ _ (k u S' h1 h2 h3 h4)
 clear hR;show wZ _ _ eh [ba (.ref r),ba (.tup [.tup M,.tup N,b0]),ba (.ref q),ba (.int many),gV,gV,gV,gV] S Q';generalize hR0:W.tup [.tup M,.tup N,b0]=R;dsimp only[eh];refine st ?_;dsimp only[wS,wE,wA,KP];refine aW λK hK=>?_
 refine cJ (many:KO) (λi ρ S'=>∃(u:Wd) (a5 a6 a7:Kz W),ρ=[ba (.ref r),ba R,ba (.ref q),ba (.int many),ba (aL u),a5,a6,a7]/\u.length<=i/\GoodW a n u/\Fl S' r/\Kp r S S') rfl rfl ∅ #[rfl,[],_,_,_,rfl,KH _,.nil,hf,.refl] ?_ ?_
 ·rintro i ρ S1 hi ⟨u,a5,a6,a7,rfl,hul,hu,f1,k1⟩ Q2 hn _;clear hK;have e1:=k1.get _ _ hqr e;dsimp only[KP];refine st ?_;dsimp only[wS,wE,wA,wV,wG,KP];subst hR0;refine am #v[] rfl (bH ?_)
  rw[hM];refine bx (d:=d+1) G.pick f1 ∅ ∅ λv S2 v0 v1 f2 k2=>?_
  have e2:=k2.get _ _ hqr e1;refine st ?_;dsimp only[wS,wE,wA,wV,wG,KP];refine uU (d:=d) G hw hN hn3 hu ∅ e2 hqr f2 λw S3 hw3 f3 k3=>?_
  refine aW λK hK=>?_
  dsimp only[wS,wT,wE,wA,wV,wG];rcases hw3 with rfl|⟨to,rfl,htl,hto⟩
  ·refine ab (show cM .isnot .non .non S3=ba (.bl false,S3)from rfl) ?_
   dsimp only[wB];exact au (Q0:=Q2) (λz=>by cases z) (λ_ Q5 hn5 _=>cj (hn5 _ _ (hK _ _ (cj (hn _ _ #[u,_,_,_,rfl,by exact Nn ‹_›,hu,f3,(k1.trans k2).trans k3])))))
  ·refine ab (show cM .isnot (.tup (ac to)) .non S3=ba (.bl true,S3)from rfl) ?_
   dsimp only[wB];refine au (Q0:=Q2) (λ_ Q5 hn5 _=>?_) (λz=>by cases z)
   refine st ?_;dsimp only[wS,wE,wA,wV,wG,KP,aL];refine ab (gq (jD (by rw[KG,Kt]; show _+1<=_; omega))) (cj (hn5 _ _ (hK _ _ (cj (hn _ _ #[u++[(v,to)],ba (.int i),ba (.int v),ba (.tup (ac to)),?_,?_,hu.snoc #[v0,v1] htl hto,f3,(k1.trans k2).trans k3])))))
   ·unfold aL;rw[Lh]; rfl
   ·rw[KG,LO]; omega
 ·rintro ρ S1 ⟨u,a5,a6,a7,rfl,hul,hu,f1,k1⟩;rw[KN]at hul;refine hK _ _ (st ?_);dsimp only[wS,wE,wV,wG];exact k u S1 hul hu f1 k1
end
section
variable{Φ:KZ->FF}{ρ:Fm}{S:aa}
theorem Bn {α:Type}{elt:E}{it:Ie}{cs:Es}{cap:Kr (Kz KC)}{mi:MI}{S1:aa}{Q:QW}(L:Kr α)(f:α->W)(p:α->Lf)(g:α->W)(R:Fm)(oe:eT elt=true)(oc:rf cs=true)(hc:gn cap ρ=gV::gV::R)(hl:L.length<=1000000)(hi:lI Φ it ρ S=ba (mi,S1))(k1:Ka S S1)(hat:∀i S',Ka S1 S'->mi.at S' i=ba (L.map f)[i]?)(hn:mi.len S1=ba (L.map f).length)
  (hstep:∀x∈L,∀S',Ka S S'->jb Φ elt cs (gV::ba (f x)::R) S' (λy _ S2=>p x=true/\y=g x/\Ka S' S2) (λ_ S2=>p x=false/\Ka S' S2))
  (k:∀S',Ka S S'->Q (.ref S'.length,S'++[.lst ((L.filter p).map g)])):Wp (aJ Φ (.comp elt (.nm 1) it cs cap) ρ S) Q:=by
 rw[Aq];refine#[_,hi,_,hn,?_];refine(eJ (xs:=L.map f) (Q:=λq=>q.1.length<=sizeLine/\Q (.ref q.2.length,q.2++[.lst q.1])) (λi ys ρ' S'=>(∃a1,ρ'=gV::a1::R)/\ys=((L.take i).filter p).map g/\Ka S1 S') (λi ys ρ' S' h=>hat i S' h.2.2) (λi w ys ρ' S' hw h=>?_) (λys ρ' S' h=>?_) (L.map f).length 0 [] _ S1 ∅ #[#[gV,hc],rfl,.refl]).mono λq hq=>by simpa using hq
 ·obtain⟨⟨a1,rfl⟩,rfl,k2⟩:=h;rw[KD,Kv]at hw;obtain⟨x,hx,rfl⟩:=hw;refine JI.mpr ?_;refine(Ej oc (hstep x (KY hx) S' (k1.trans k2))).mono λc hc=>#[λz=>(bO elt oe (hc.1 z)).mono λy hy=>#[#[_,rfl],?_,k2.trans hy.2.2],λz=>#[#[_,rfl],?_,k2.trans (hc.2 z).2]]
  ·rw[Lj,hx,MR,show(SZ (ba x)).filter p=[x]from Oi hy.1,Lh,hy.2.1]; rfl
  ·rw[Lj,hx,MR,show(SZ (ba x)).filter p=[]from Oj (by rw[(hc.2 z).1]; exact K8),Mf]
 ·obtain⟨_,rfl,k2⟩:=h;dsimp only;rw[show(L.map f).length=L.length from Kt ..,LC]
  refine#[jD ?_,k S' (k1.trans k2)];rw[Kt];exact KQ (Nd _ _) hl
theorem Gb {α:Type}{elt e:E}{cs:Es}{cap:Kr (Kz KC)}{Q:QW}(L:Kr α)(f:α->W)(p:α->Lf)(g:α->W)(R:Fm)(oi:eT e=true)(oe:eT elt=true)(oc:rf cs=true)(hc:gn cap ρ=gV::gV::R)(hl:L.length<=1000000)
  (he:wE Φ e ρ S λq=>∃t,q.1=.ref t/\q.2[t]?=ba (.lst (L.map f))/\Ka S q.2)
  (hstep:∀x∈L,∀S',Ka S S'->jb Φ elt cs (gV::ba (f x)::R) S' (λy _ S2=>p x=true/\y=g x/\Ka S' S2) (λ_ S2=>p x=false/\Ka S' S2))
  (k:∀S',Ka S S'->Q (.ref S'.length,S'++[.lst ((L.filter p).map g)])):Wp (aJ Φ (.comp elt (.nm 1) (.seq e) cs cap) ρ S) Q:=by
 obtain⟨w,S1,e1,t,rfl,ht,k1⟩:=cN oi he;exact Bn (mi:=.live t) L f p g R oe oc hc hl (by simp only[lI,fW,e1,aK ht]) k1 (λi S' h=>by simp only[MI.at,aK (h.get _ _ ht)]) (by simp only[MI.len,aK ht,Lw]) hstep k
theorem tw (n:KC):dN 0 n=(K9 n).map λi=>W.int (i:KC):=by
 unfold dN;refine Ms λi _=>?_
 rw[Ox]
theorem Gc {elt e:E}{cs:Es}{cap:Kr (Kz KC)}{Q:QW}(n:KC)(p:KC->Lf)(g:KC->W)(R:Fm)(oi:eT e=true)(oe:eT elt=true)(oc:rf cs=true)(hc:gn cap ρ=gV::gV::R)(hl:n<=1000000)
  (he:wE Φ e ρ S λq=>q.1=.int n/\Ka S q.2)
  (hstep:∀x < n,∀S',Ka S S'->jb Φ elt cs (gV::ba (.int (x:KC))::R) S' (λy _ S2=>p x=true/\y=g x/\Ka S' S2) (λ_ S2=>p x=false/\Ka S' S2))
  (k:∀S',Ka S S'->Q (.ref S'.length,S'++[.lst (((K9 n).filter p).map g)])):Wp (aJ Φ (.comp elt (.nm 1) (.rng #v[e]) cs cap) ρ S) Q:=by
 obtain⟨w,S1,e1,rfl,k1⟩:=cN oi he;refine Bn (mi:=.its (dN 0 n)) (K9 n) (λi=>W.int (i:KC)) p g R oe oc hc (by rw[Ls]; exact hl) ?_ k1 (λi S' _=>by rw[<- tw]; rfl) (by rw[<- tw]; rfl) (λx hx=>hstep x (Ll.mp hx)) k
 simp only[lI,dR,fm,jV,uD,e1];rw[La #[∅,∅]]; rfl
theorem Bo {α:Type}(L:Kr α):L.filter (λ_=>true)=L:=List.filter_eq_self.mpr λ_ _=>rfl
end
noncomputable def eF (kvs:Kr (T×W))(u:Wd)(h:Pt)(p q:KC):Lf:=(cw kvs (dj [((u.getD p (0,[])).1,[]),((u.getD q (0,[])).1,[(u.getD q (0,[])).2.getD p 0]),(h.1,[h.2.getD p 0,h.2.getD q 0])])).isSome
theorem iZ {u:Wd}{h:Pt}{p:KC}(hp:p < u.length):(u++[h]).getD p (0,[])=u.getD p (0,[]):=by
 rw[Ma,Ma,LF hp]
theorem mT {u:Wd}{h:Pt}:(u++[h]).getD u.length (0,[])=h:=by
 rw[Ma,MG (KH _),Nat.sub_self]; rfl
theorem Bp {kvs:Kr (T×W)}{u:Wd}{h:Pt}{p q:KC}(h1:p < q)(h2:q < u.length):xW kvs (u++[h]) p q u.length=eF kvs u h p q:=by
 unfold xW eF qI;rw[iZ (Op h1 h2),iZ h2,mT]
theorem mU {u:Wd}{p s:KC}(h:p < s):(u.take s).getD p (0,[])=u.getD p (0,[]):=by
 rw[Ma,Ma,Px h]
noncomputable def li (kvs:Kr (T×W))(v:Wd):Lf:=(K9 (v.length - 2)).all λp=>!xW kvs v p (v.length - 2) (v.length - 1)
theorem pE {kvs:Kr (T×W)}{u:Wd}{h:Pt}{s:KC}(hs:s < u.length):li kvs (u.take (s+1)++[h])=(K9 s).all λp=>!eF kvs u h p s:=by
 have hl:(u.take (s+1)).length=s+1:=by rw[Ly]; omega
 unfold li;rw[KG,hl,LO,show s+1+1 - 2=s by omega,show s+1+1 - 1=s+1 by omega,OQ,K2,K2]
 refine QS λp=>QS λhp=>?_
 have hp:=Ll.mp hp;have e:=Bp (kvs:=kvs) (u:=u.take (s+1)) (h:=h) (p:=p) (q:=s) hp ∅
 rw[hl]at e;rw[e];unfold eF;rw[mU ∅,mU ∅]
noncomputable def du (n:KC)(hs:Kr Pt):Kr Pt:=hs.flatMap λh=>(K9 n).map λ(w:KC)=>(h.1,h.2++[(w:KO)])
noncomputable def cz (kvs:Kr (T×W))(u:Wd)(n:KC)(m:KO):KC->Kr Pt
 | 0=>[(m,[])]
 | s+1=>(du n (cz kvs u n m s)).filter λh=>li kvs (u.take (s+1)++[h])
noncomputable def c7 (kvs:Kr (T×W))(u:Wd)(a n:KC):Kr Pt:=(K9 a).flatMap λ(m:KC)=>cz kvs u n (m:KO) u.length
theorem mV {ws:Kr KO}{x:KO}{p:KC}(hp:p < ws.length):(ws++[x]).getD p 0=ws.getD p 0:=by
 rw[Ma,Ma,LF hp]
theorem gA {kvs:Kr (T×W)}{u:Wd}{m x:KO}{ws:Kr KO}{p q:KC}(h1:p < q)(h2:q < ws.length):eF kvs u (m,ws++[x]) p q=eF kvs u (m,ws) p q:=by
 unfold eF;dsimp only;rw[mV (Op h1 h2),mV h2]
theorem eW {kvs:Kr (T×W)}{u:Wd}{n:KC}{m:KO}:∀ {s:KC} {h:Pt},s<=u.length->(h∈cz kvs u n m s↔h.1=m/\h.2.length=s/\(∀w∈h.2,0<=w/\w < (n:KO))/\∀p q,p < q->q < s->eF kvs u h p q=false)
 | 0,h,_=>by
  rw[cz,KS];constructor
  ·rintro rfl;exact#[rfl,rfl,(λw hw=>nomatch hw),λp q _ h=>absurd h (Nat.not_lt_zero _)]
  ·rintro⟨h1,h2,_⟩;rw[<- h1,<- List.eq_nil_of_length_eq_zero h2]
 | s+1,h,hs=>by
  rw[cz,N9,pE ∅,K2]
  unfold du;rw[NC];constructor
  ·rintro⟨⟨h0,hm,hw⟩,hb⟩;obtain⟨w,hwr,rfl⟩:=K6.mp hw;obtain⟨h1,h2,h3,h4⟩:=(eW ∅).mp hm
   have hwr:=Ll.mp hwr;refine#[h1,by rw[KG,h2]; rfl,λx hx=>?_,λp q hpq hq=>?_]
   ·rcases Ln.mp hx with z|z
    ·exact h3 x z
    ·rw[KS.mp z]; omega
   ·by_cases e:q=s
    ·subst e;have:=hb p (Ll.mpr hpq)
     simpa using this
    ·rw[gA hpq ∅]; exact h4 p q hpq ∅
  ·rintro⟨h1,h2,h3,h4⟩;obtain⟨m',ws⟩:=h;dsimp only at h1 h2 h3 h4;have hne:ws≠[]:=λz=>by rw[z]at h2; cases h2
   have hd:=List.dropLast_concat_getLast hne;have hx:=h3 _ (List.getLast_mem hne);generalize ws.getLast hne=x at hd hx;have hdl:ws.dropLast.length=s:=by rw[QC]; omega
   generalize ws.dropLast=vs at hd hdl;subst hd;refine#[#[(m',vs),(eW ∅).mpr #[h1,hdl,λw hw=>h3 w (MU _ hw),λp q hpq hq=>?_],?_],λp hp=>?_]
   ·rw[<- gA (x:=x) hpq ∅]; exact h4 p q hpq ∅
   ·exact K6.mpr #[x.toNat,Ll.mpr ∅,by dsimp only; rw[show((x.toNat:KC):KO)=x by omega]]
   ·rw[h4 p s (Ll.mp hp) ∅]; rfl
theorem ie {kvs:Kr (T×W)}{u:Wd}{n:KC}{m:KO}:∀s:KC,(cz kvs u n m s).length<=n ^ s
 | 0=>KH _
 | s+1=>by
  rw[cz];refine KQ (Nd _ _) ?_;have:=ie (kvs:=kvs) (u:=u) (n:=n) (m:=m) s;have e:∀hs:Kr Pt,(du n hs).length=hs.length*n:=λhs=>by
   unfold du
   induction hs with
   | nil=>simp
   | cons h hs ih=>rw[Ml,KG,ih,Kt,Ls,LJ,Oo]; omega
  rw[e,Tw];exact ON _ this
theorem pG {n:KC}(hs:Kr Pt):(du n hs).length=hs.length*n:=by
 unfold du
 induction hs with
 | nil=>simp
 | cons h hs ih=>rw[Ml,KG,ih,Kt,Ls,LJ,Oo]; omega
theorem Bq {kvs:Kr (T×W)}{u:Wd}{a n:KC}{h:Pt}:h∈c7 kvs u a n↔(0<=h.1/\h.1 < a)/\h.2.length=u.length/\(∀w∈h.2,0<=w/\w < (n:KO))/\∀p q,p < q->q < u.length->eF kvs u h p q=false:=by
 unfold c7;rw[NC];constructor
 ·rintro⟨m,hm,hh⟩;obtain⟨h1,h2⟩:=(eW (KH _)).mp hh;have:=Ll.mp hm;exact#[∅,h2]
 ·rintro⟨h1,h2⟩;exact#[h.1.toNat,Ll.mpr ∅,(eW (KH _)).mpr #[∅,h2]]
noncomputable def cV:Ss:=
 #v[.set 2 (.op .sub (.bi .len #v[.v 1]) (.c (.int 1))),.loop (.nm 3) (.rng #v[.op .sub (.v 2) (.c (.int 1))]) #v[.ite (.cmp .isin (.own "three_at" 4 #v[.v 1,.v 3,.op .sub (.v 2) (.c (.int 1)),.v 2]) (.v 0)) #v[.ret (.v 3)] .nil],.ret (.c .non)]
noncomputable def gW:Ss:=
 #v[.ret (.own "wishes_over" 3 #v[.v 0,.own "barred_threes" 1 #v[.v 0],.v 1])]
noncomputable def cF:Ss:=
 #v[.set 3 (.lst .nil),.loop (.nm 4) (.rng #v[.bi .len #v[.ix (.v 0) (.c (.int 0))]]) #v[.set 5 (.lst #v[.tup #v[.v 4,.tup .nil]]),.loop (.nm 6) (.rng2 #v[.c (.int 1),.op .add (.bi .len #v[.v 2]) (.c (.int 1))]) #v[.set 5 (.comp (.v 1) (.nm 1) (.seq (.own "longer_wishes" 2 #v[.v 0,.v 5])) #v[.cmp .is (.own "first_bar" 2 #v[.v 2,.op .add (.sl (.v 4) .no (.yes (.v 3))) (.tup #v[.v 1])]) (.c .non)] [gV,gV,ba 1,ba 6,ba 2])],.ex (.me .extend (.v 3) #v[.v 5])],.ret (.v 3)]
noncomputable def bK:Ss:=
 #v[.set 2 (.lst .nil),.loop (.tp [3,4]) (.seq (.v 1)) #v[.ex (.me .extend (.v 2) #v[.comp (.tup #v[.v 2,.op .add (.v 3) (.tup #v[.v 1])]) (.nm 1) (.rng #v[.bi .len #v[.ix (.v 0) (.c (.int 1))]]) .nil [gV,gV,ba 3,ba 4]])],.ret (.v 2)]
theorem tz {kvs:Kr (T×W)}{v:Wd}{s:KC}(hs:v.length=s+2):li kvs v=true↔∀i < s,xW kvs v i s (s+1)=false:=by
 unfold li;rw[hs,show s+2 - 2=s from rfl,show s+2 - 1=s+1 from rfl,K2]
 refine QS λi=>?_
 rw[Ll,NL]
theorem ki {a n s:KC}{u:Wd}(hu:GoodW a n u):GoodW a n (u.take s):=by
 have key:∀(k:KC) (x:Pt),(u.take s)[k]?=ba x->u[k]?=ba x:=λk x e=>by
  rw[List.getElem?_take]at e;split at e
  ·exact e
  ·cases e
 exact#[λk x e=>hu.mark k x (key k x e),λk x e=>hu.len k x (key k x e),λk x e=>hu.way k x (key k x e)]
section
variable{defs:Kr (KZ×Df)}{fuel d:KC}{S:aa}{Q:QW}
theorem tB (h3:Is defs ("three_at" : KZ) 4 6 cU)(hg:Is defs ("first_bar" : KZ) 2 4 cV){a n q:KC}{v:Wd}{kvs:Kr (T×W)}(hv:GoodW a n v)(h2:2<=v.length)(hl:v.length<=1000)(e:S[q]?=ba (.dic kvs))(k:∀w,((w=.non/\li kvs v=true)\/∃i:KO,w=.int i/\li kvs v=false)->Q (w,S)) :
  wO (bw (ar defs fuel (d+2)) "first_bar" 2 [.ref q,aL v] S) Q:=by
 refine az hg rfl rfl λQ' hR=>?_
 replace k:∀w,((w=.non/\li kvs v=true)\/∃i:KO,w=.int i/\li kvs v=false)->Q' (.rt w,S):=λw h=>hR _ _ (k w h)
 clear hR;show wZ _ _ cV [ba (.ref q),ba (aL v),gV,gV] S Q';have ul:(v.map dA).length=v.length:=Kt ..;obtain⟨s,hs⟩ : ∃s,v.length=s+2:=#[v.length - 2,∅]
 dsimp only[cV];refine st ?_;dsimp only[wS,wE,wA,wV,wG,KP];refine bH (ab sF ?_);rw[ul,show((v.length:KC):KO) - 1=((s+1:KC):KO) by omega]
 refine aW λK hK=>?_
 refine cJ (s:KO) (λi ρ S'=>(∃a3,ρ=[ba (.ref q),ba (aL v),ba (.int ((s+1:KC):KO)),a3])/\S'=S/\∀i' < i,xW kvs v i' s (s+1)=false) rfl rfl ∅ ?_ ?_ ?_
 ·dsimp only[wE,wV,wG];refine ab sF #[?_,#[_,rfl],rfl,λi' z=>∅]
  dsimp only;rw[show((s+1:KC):KO) - 1=(s:KO) by omega]
 ·rintro i ρ S1 hi ⟨⟨a3,rfl⟩,rfl,no⟩ Q2 hn hr;clear hK;dsimp only[KP];refine aW λK hK=>?_
  dsimp only[wS,wT,wE,wA,wV,wG];refine ab sF ?_;dsimp only;rw[show((s+1:KC):KO) - 1=(s:KO) by omega]
  refine DJ (d:=d) h3 hv (MK.mp ‹_›) (Mh s) ∅ ?_
  refine ab (show cM .isin (aL (qI v i s (s+1))) (.ref q) S1=ba (.bl (xW kvs v i s (s+1)),S1) by simp only[cM,cW e,qB]; rfl) ?_
  dsimp only[wB];refine au (Q0:=Q2) (λh Q5 _ hr5=>?_) (λh Q5 hn5 _=>cj (hn5 _ _ (hK _ _ (cj (hn _ _ #[#[_,rfl],rfl,λi' z=>?_])))))
  ·refine st ?_;dsimp only[wS,wE,wV,wG];refine hr5 _ _ (hr _ _ (k _ (.inr #[i,rfl,?_])));rw[Pu];intro z;rw[(tz hs).mp z i (MK.mp ‹_›)]at h;cases h
  ·by_cases ei:i'=i
   ·rw[ei]; exact h
   ·exact no i' ∅
 ·rintro ρ S1 ⟨⟨a3,rfl⟩,rfl,no⟩;refine hK _ _ (st ?_);dsimp only[wS,wE];exact k _ (.inl #[rfl,(tz hs).mpr no])
theorem ll (hg:Is defs ("longer_wishes" : KZ) 2 5 bK){m0 b0:W}{N:Kr W}{n l:KC}{hs:Kr Pt}(hN:N.length=n)(hn:n<=3)(e:S[l]?=ba (.lst (hs.map dA)))(hol:∀h∈hs,h.2.length<=100)(hos:hs.length<=10000)
  (k:∀(q:KC) (S':aa),S'[q]?=ba (.lst ((du n hs).map dA))->S.length<=q->Ka S S'->Q (.ref q,S')) :
  wO (bw (ar defs fuel (d+1)) "longer_wishes" 2 [.tup [m0,.tup N,b0],.ref l] S) Q:=by
 refine az hg rfl rfl λQ' hR=>?_
 replace k:∀(q:KC) (S':aa),S'[q]?=ba (.lst ((du n hs).map dA))->S.length<=q->Ka S S'->Q' (.rt (.ref q),S'):=λa b c e f=>hR _ _ (k a b c e f)
 clear hR;show wZ _ _ bK [ba (.tup [m0,.tup N,b0]),ba (.ref l),gV,gV,gV] S Q';generalize hR0:W.tup [m0,.tup N,b0]=R;have hlS:=cr e;dsimp only[bK];refine st ?_;dsimp only[wS,wE,wA,KP];refine aW λK hK=>?_
 refine qx l (hs.map dA) (λi ρ S'=>(∃a3 a4,ρ=[ba R,ba (.ref l),ba (.ref S.length),a3,a4])/\S'[l]?=ba (.lst (hs.map dA))/\S'[S.length]?=ba (.lst ((du n (hs.take i)).map dA))/\Ka S S') rfl rfl #[rfl,#[gV,gV,rfl],aq e,ah,.push] (λi ρ S' h=>h.2.1) ?_ ?_
 ·rintro i w ρ S1 hw ⟨⟨a3,a4,rfl⟩,e0,e1,k1⟩;clear hK k;rw[KD,Kv]at hw;obtain⟨h,ho,rfl⟩:=hw;have hol:=hol h (KY ho);refine ab (show gC (.tp [3,4]) (dA h) [ba R,ba (.ref l),ba (.ref S.length),a3,a4] S1=ba ([ba R,ba (.ref l),ba (.ref S.length),ba (.int h.1),ba (.tup (ac h.2))],S1)from rfl) ?_
  intro Q2 hn2 _;refine st ?_;dsimp only[wS,wE,wA,wV,wG];refine#[dG e1,?_];refine Gc n (λ_=>true) (λ(w:KC)=>dA (h.1,h.2++[(w:KO)])) [ba (.int h.1),ba (.tup (ac h.2))] rfl rfl rfl rfl (by exact KQ ‹_› (KU rfl)) ?_ (λx hx S2 k2=>?_) λS2 k2=>?_
  ·dsimp only[wE,wA,wV,wG];subst hR0;refine am #v[] rfl (bH ?_)
   rw[hN];exact#[rfl,.refl]
  ·dsimp only[jb,wC,wE,wA,wV,wG];refine#[λ_=>ab (gq (jD ?_)) #[rfl,?_,.refl],λz=>by cases z]
   ·rw[KG,show(ac h.2).length=h.2.length from Kt ..]; show _+1<=_; omega
   ·simp[dA,ac]
  ·rw[Bo];have e1':=aq (u:=O.lst ((K9 n).map λ(w:KC)=>dA (h.1,h.2++[(w:KO)]))) (k2.get _ _ e1)
   have hle:(du n (hs.take i)).length<=30000:=by
    rw[pG,Ly];exact KQ (Qz (show min i hs.length<=10000 by omega) hn) #v[]
   refine uS e1' ah (by rw[Kt,Kt,Ls]; omega) (cj (hn2 _ _ #[#[_,_,rfl],?_,?_,((k1.trans k2).trans .push).late (KH _)]))
   ·rw[bN (Lx ‹_›)]; exact aq (k2.get _ _ e0)
   ·rw[bV e1'];unfold du;rw[Lj,ho];simp
 ·rintro ρ S1 ⟨⟨a3,a4,rfl⟩,e0,e1,k1⟩;rw[Kt,LC]at e1;exact hK _ _ (st (k _ _ e1 (KH _) k1))
theorem qJ {n s:KC}(hn:n<=3)(hs:s<=5):n ^ s<=243:=KQ (OW hn s) (OM (n:=3) #v[] hs)
theorem i3 {kvs:Kr (T×W)}{u:Wd}{n i:KC}(hn:n<=3)(hu:u.length<=5):((K9 i).flatMap λ(m:KC)=>cz kvs u n (m:KO) u.length).length<=i*243:=by
 induction i with
 | zero=>simp
 | succ i ih=>
  rw[NH,MM,KG,Ml,List.flatMap_nil,Mf];have:=KQ (ie (kvs:=kvs) (u:=u) (n:=n) (m:=(i:KC)) u.length) (qJ hn hu);omega
theorem nT (h3:Is defs ("three_at" : KZ) 4 6 cU)(hfb:Is defs ("first_bar" : KZ) 2 4 cV)(hlw:Is defs ("longer_wishes" : KZ) 2 5 bK)(hg:Is defs ("wishes_over" : KZ) 3 7 cF){M N:Kr W}{b0:W}{a n q:KC}{u:Wd}{kvs:Kr (T×W)}(hM:M.length=a)(hN:N.length=n)(ha3:a<=3)(hn3:n<=3)(hu:GoodW a n u)(hul:u.length<=5)(e:S[q]?=ba (.dic kvs))
  (k:∀(l:KC) (S':aa),S'[l]?=ba (.lst ((c7 kvs u a n).map dA))->S.length<=l->Ka S S'->Q (.ref l,S')) :
  wO (bw (ar defs fuel (d+3)) "wishes_over" 3 [.tup [.tup M,.tup N,b0],.ref q,aL u] S) Q:=by
 refine az hg rfl rfl λQ' hR=>?_
 replace k:∀(l:KC) (S':aa),S'[l]?=ba (.lst ((c7 kvs u a n).map dA))->S.length<=l->Ka S S'->Q' (.rt (.ref l),S'):=λa b c e f=>hR _ _ (k a b c e f)
 clear hR;show wZ _ _ cF [ba (.tup [.tup M,.tup N,b0]),ba (.ref q),ba (aL u),gV,gV,gV,gV] S Q';generalize hR0:W.tup [.tup M,.tup N,b0]=R;have hqS:=cr e;have ul:(u.map dA).length=u.length:=Kt ..;dsimp only[cF];refine st ?_;dsimp only[wS,wE,wA,KP];refine aW λK hK=>?_
 refine cJ (a:KO) (λi ρ S'=>(∃a4 a5 a6,ρ=[ba R,ba (.ref q),ba (aL u),ba (.ref S.length),a4,a5,a6])/\S'[S.length]?=ba (.lst (((K9 i).flatMap λ(m:KC)=>cz kvs u n (m:KO) u.length).map dA))/\Ka S S') rfl rfl ∅ ?_ ?_ ?_
 ·dsimp only[wE,wA,wV,wG];subst hR0;refine am #v[] rfl (bH ?_)
  rw[hM];exact#[rfl,#[_,_,_,rfl],ah,.push]
 ·rintro i ρ S1 hi ⟨⟨a4,a5,a6,rfl⟩,e1,k1⟩ Q2 hn2 _;clear hK k;have hl1:=cr e1;dsimp only[KP];refine st ?_;dsimp only[wS,wE,wA,wV,wG,KP];refine aW λK hK=>?_
  refine jB 1 ((u.length:KO)+1) (λm ρ S'=>∃(t:KC) (a6:Kz W),ρ=[ba R,ba (.ref q),ba (aL u),ba (.ref S.length),ba (.int i),ba (.ref t),a6]/\S'[t]?=ba (.lst ((cz kvs u n i m).map dA))/\Ka S1 S') rfl rfl rfl ∅ ?_ ?_ ?_
  ·dsimp only[wE,wA,wV,wG];refine#[rfl,bH (ab d7 ?_)];rw[ul];exact#[rfl,S1.length,a6,rfl,ah,.push]
  ·rintro m ρ S2 hm ⟨t,a6,rfl,e2,k2⟩ Q3 hn3 _;clear hK hn2;have hmu:m < u.length:=∅
   rw[show(1:KO)+m=((m+1:KC):KO) by omega]
   have hhl:(cz kvs u n i m).length<=243:=KQ (ie m) (qJ ‹n<=3› ∅)
   have hll:(du n (cz kvs u n i m)).length<=729:=by rw[pG]; exact Qz hhl ‹n<=3›
   dsimp only[KP];refine st ?_;dsimp only[wS,wE,KP];refine Gb (du n (cz kvs u n i m)) dA (λh=>li kvs (u.take (m+1)++[h])) dA [ba (.ref q),ba (.int ((m+1:KC):KO)),ba (aL u)] rfl rfl rfl rfl (by exact KQ ‹_› (KU rfl)) ?_ (λh hh S4 k4=>?_) λS4 k4=>?_
   ·dsimp only[wE,wA,wV,wG];subst hR0;exact ll (d:=d+1) hlw hN ‹n<=3› e2 (λh hh=>by have:=((eW (MF ‹_›)).mp hh).2.1; omega) (by exact KQ ‹_› (KU rfl)) λl S3 e3 _ k3=>#[l,rfl,e3,k3]
   ·have hgd:GoodW a n (u.take (m+1)++[h]):=by
     unfold du at hh;obtain⟨h0,hm0,hw⟩:=NC.mp hh;obtain⟨w,hwr,rfl⟩:=K6.mp hw;obtain⟨g1,g2,g3,_⟩:=(eW (MF ‹_›)).mp hm0;have hwr:=Ll.mp hwr;refine(ki hu).snoc (by rw[g1]; omega) (by rw[KG,g2,Ly,LO]; omega) λx hx=>?_
     rcases Ln.mp hx with z|z
     ·exact g3 x z
     ·rw[KS.mp z]; omega
    have hvl:(u.take (m+1)++[h]).length=m+2:=by rw[KG,Ly,LO]; omega
    dsimp only[jb,wC,wT,wE,wA,wP,wV,wG,wN];refine ab (show re (aL u) gV (ba ((m+1:KC):KO)) S4=ba (.tup ((u.map dA).take (m+1)),S4) by simp only[aL,re,gR]) ?_
    dsimp only;have ev:(u.map dA).take (m+1)++[dA h]=(u.take (m+1)++[h]).map dA:=by rw[Lh,OI]; rfl
    refine ab (gq (jD (by rw[ev,Kt]; omega))) ?_
    dsimp only;rw[ev];refine tB (d:=d) (v:=u.take (m+1)++[h]) h3 hfb hgd ∅ ∅ (k4.get _ _ (k2.get _ _ (k1.get _ _ e))) λw hw=>?_
    refine ab (show cM .is w .non S4=ba (.bl (li kvs (u.take (m+1)++[h])),S4) by rcases hw with⟨rfl,hb⟩|⟨i,rfl,hb⟩ <;> rw[hb] <;> rfl) ?_
    dsimp only[wB];exact#[λz=>#[z,rfl,.refl],λz=>#[z,.refl]]
   ·exact cj (hn3 _ _ #[_,_,rfl,ah,(k2.trans k4).trans .push])
  ·rintro ρ S2 ⟨t,a6,rfl,e2,k2⟩;rw[show((u.length:KO)+1 - 1).toNat=u.length by omega]at e2
   refine hK _ _ ?_;clear hK K;have e1':=k2.get _ _ e1;have hhl:(cz kvs u n i u.length).length<=243:=KQ (ie _) (qJ hn3 hul);have hfl:=i3 (kvs:=kvs) (i:=i) hn3 hul;refine st ?_;dsimp only[wS,wE,wA,wV,wG];refine#[dG e1',uS e1' e2 (by rw[Kt,Kt]; omega) (cj (hn2 _ _ #[#[_,_,_,rfl],?_,(k1.trans k2).late (KH _)]))]
   rw[bV e1',NH,MM,Lh];simp
 ·rintro ρ S1 ⟨⟨a4,a5,a6,rfl⟩,e1,k1⟩;rw[KN]at e1;exact hK _ _ (st (k _ _ e1 (KH _) k1))
theorem Br (hfu:20 < fuel)(P:Parts defs)(hp:Is defs ("part" : KZ) 3 3 iX)(hl:Is defs ("longer_orders" : KZ) 2 4 bJ)(hbt:Is defs ("barred_threes" : KZ) 1 5 b6)(h3:Is defs ("three_at" : KZ) 4 6 cU)(hfb:Is defs ("first_bar" : KZ) 2 4 cV)(hlw:Is defs ("longer_wishes" : KZ) 2 5 bK)(hwo:Is defs ("wishes_over" : KZ) 3 7 cF)(hg:Is defs ("wishes" : KZ) 2 2 gW)
  {ms ns:Kr KZ} {bs:Kr KO} {a:KC} {gs:Kr Wd} {u:Wd} (hml:ms.length=a) (ha3:a<=3) (hb:GoodB bs) (hnl:ns.length=bs.length) (hgs:∀g∈gs,GoodW a bs.length g/\g.length=3) (h64:gs.length<=100) (hu:GoodW a bs.length u) (hul:u.length<=5)
  (k:∀(l:KC) (kvs:Kr (T×W)) (S':aa),HasD kvs (eE bs gs)->S'[l]?=ba (.lst ((c7 kvs u a bs.length).map dA))->S.length<=l->Ka S S'->Q (.ref l,S')) :
  wO (bw (ar defs fuel (d+5)) "wishes" 2 [.tup [.tup (ms.map W.str),.tup (K4 bz ns bs),.tup (gs.map aL)],aL u] S) Q:=by
 refine az hg rfl rfl λQ' hR=>?_
 show wZ _ _ gW [ba (.tup [.tup (ms.map W.str),.tup (K4 bz ns bs),.tup (gs.map aL)]),ba (aL u)] S Q';have hb3:bs.length<=3:=by rcases hb with rfl|rfl|rfl|rfl|rfl|rfl <;> decide
 dsimp only[gW];refine st ?_;dsimp only[wS,wE,wA,wV,wG];refine Bl (d:=d) hfu P hp hl hbt hb hnl hgs h64 λq kvs S1 e1 h1 _ k1=>?_
 exact nT (d:=d+1) (M:=ms.map W.str) (N:=K4 bz ns bs) (n:=bs.length) h3 hfb hlw hwo (by rw[Kt,hml]) (by rw[ML,hnl]; omega) ha3 hb3 hu hul e1 λl S2 e2 hl2 k2=>hR _ _ (k l kvs S2 h1 e2 (KQ k1.len hl2) (k1.trans k2))
end
noncomputable def cq:Ss:=
 #v[.asg [4,5] (.ix (.v 2) (.v 3)),.loop (.nm 6) (.rng2 #v[.c (.int 1),.v 3]) #v[.loop (.nm 7) (.rng #v[.v 6]) #v[.ite (.cmp .isin (.tup #v[.tup #v[.ix (.ix (.v 2) (.v 7)) (.c (.int 0)),.tup .nil],.tup #v[.ix (.ix (.v 2) (.v 6)) (.c (.int 0)),.tup #v[.ix (.ix (.ix (.v 2) (.v 6)) (.c (.int 1))) (.v 7)]],.tup #v[.v 4,.tup #v[.ix (.v 5) (.v 7),.ix (.v 5) (.v 6)]]]) (.v 1)) #v[.ret (.c (.bl false))] .nil]],.ret (.c (.bl true))]
noncomputable def dM:Ss:=
 #v[.set 3 (.lst .nil),.loop (.nm 4) (.rng #v[.bi .len #v[.ix (.v 0) (.c (.int 0))]]) #v[.loop (.nm 5) (.seq (.own "_law_digits" 2 #v[.bi .len #v[.ix (.v 0) (.c (.int 1))],.bi .len #v[.v 2]])) #v[.ite (.own "_law_last_may" 4 #v[.v 0,.v 1,.op .add (.v 2) (.tup #v[.tup #v[.v 4,.v 5]]),.bi .len #v[.v 2]]) #v[.ex (.me .append (.v 3) #v[.tup #v[.v 4,.v 5]])] .nil]],.ret (.v 3)]
noncomputable def i4 (kvs:Kr (T×W))(u:Wd)(s:KC)(h:Pt):Lf:=(K9 s).all λq=>(K9 q).all λp=>!eF kvs u h p q
theorem lN {kvs:Kr (T×W)}{u:Wd}{s:KC}{h:Pt}:i4 kvs u s h=true↔∀q < s,∀p < q,eF kvs u h p q=false:=by
 unfold i4;simp only[K2,Ll,NL]
theorem mW {α β:Type}{d:α}(n:KC)(f:α->KC->β)(h:0 < n):∀xs:Kr α,(K9 (xs.length*n)).map (λi=>f (xs.getD (i / n) d) (i % n))=xs.flatMap λx=>(K9 n).map (f x)
 | []=>by simp
 | x::xs=>by
  rw[Ml,<- mW n f h xs,LJ,Oo,Tk,List.range_add,Lh,MJ];congr 1
  ·refine Ms λi hi=>?_
   have hi:=Ll.mp hi;rw[Nat.div_eq_of_lt hi,Nat.mod_eq_of_lt hi]; rfl
  ·refine Ms λi hi=>?_
   dsimp only[Ta];rw[Nat.add_div_left _ h,Nat.add_mod_left]; rfl
theorem Bs {n k:KC}(h:0 < n):bI n (k+1)=(bI n k).flatMap λds=>(K9 n).map λ(w:KC)=>ds++[(w:KO)]:=by
 rw[bI];exact mW (d:=[]) n (λds (w:KC)=>ds++[(w:KO)]) h (bI n k)
theorem ig {kvs:Kr (T×W)}{u:Wd}{n:KC}{m:KO}(h:0 < n):∀s:KC,s<=u.length->cz kvs u n m s=((bI n s).map λds=>(m,ds)).filter (i4 kvs u s)
 | 0,_=>rfl
 | s+1,hs=>by
  rw[cz,ig h s ∅,Bs h]
  unfold du;have len:∀ds∈bI n s,ds.length=s:=λds hd=>(uT hd).1
  generalize bI n s=D at len
  induction D with
  | nil=>rfl
  | cons ds D ih=>
   have ih:=ih λx hx=>len x (LZ _ hx)
   have hl:=len ds (L3 ..);have st:∀w:KC,i4 kvs u (s+1) (m,ds++[(w:KO)])=(i4 kvs u s (m,ds)&&li kvs (u.take (s+1)++[(m,ds++[(w:KO)])])):=λw=>by
    rw[pE ∅,OQ,KA,lN,lN,K2]
    constructor
    ·intro z;refine#[λq hq p hp=>?_,λp hp=>?_]
     ·rw[<- gA (x:=(w:KO)) hp ∅]; exact z q ∅ p hp
     ·rw[z s (Mh s) p (Ll.mp hp)]; rfl
    ·rintro⟨z1,z2⟩ q hq p hp
     by_cases e:q=s
     ·subst e
      simpa using z2 p (Ll.mpr hp)
     ·rw[gA hp ∅]; exact z1 q ∅ p hp
   rw[Ml,Lh,MR,<- ih,L0,MJ]
   by_cases hm:i4 kvs u s (m,ds)=true
   ·rw[Oi hm,Ml,MR];congr 1;rw[show((λds=>(m,ds))∘λ(w:KC)=>ds++[(w:KO)])=λ(w:KC)=>(m,ds++[(w:KO)])from rfl]
    refine RE λx hx=>?_
    obtain⟨w,_,rfl⟩:=K6.mp hx;dsimp only;rw[st w,hm]; rfl
   ·rw[Oj hm];have:((K9 n).map ((λds=>(m,ds))∘λ(w:KC)=>ds++[(w:KO)])).filter (i4 kvs u (s+1))=[]:=by
     rw[List.filter_eq_nil_iff];intro x hx;obtain⟨w,_,rfl⟩:=K6.mp hx;dsimp only[Ta];rw[st w,Pu.mpr hm];exact K8
    rw[this,R7]
theorem mX {kvs kvs':Kr (T×W)}{u:Wd}{a n:KC}(hn:0 < n)(h:∀t,(cw kvs t).isSome=(cw kvs' t).isSome):c7 kvs u a n=c7 kvs' u a n:=by
 unfold c7;refine mR λm _=>?_
 rw[ig hn _ (KH _),ig hn _ (KH _)];refine RE λx _=>?_
 have:∀p q,eF kvs u x p q=eF kvs' u x p q:=λp q=>h _
 unfold i4;simp only[this]
section
variable{defs:Kr (KZ×Df)}{fuel d:KC}{S:aa}{Q:QW}
theorem uV (hg:Is defs ("_law_last_may" : KZ) 4 8 cq){R:W}{a n q:KC}{u:Wd}{h:Pt}{kvs:Kr (T×W)}(hu:GoodW a n u)(hh:h.2.length=u.length)(hl:u.length<=1000)(e:S[q]?=ba (.dic kvs))(k:Q (.bl (i4 kvs u u.length h),S)) :
  wO (bw (ar defs fuel (d+1)) "_law_last_may" 4 [R,.ref q,aL (u++[h]),.int (u.length:KO)] S) Q:=by
 refine az hg rfl rfl λQ' hR=>?_
 replace k:=hR _ _ k;clear hR;show wZ _ _ cq [ba R,ba (.ref q),ba (aL (u++[h])),ba (.int (u.length:KO)),gV,gV,gV,gV] S Q';have hvl:u.length < (u++[h]).length:=by rw[KG,LO]; omega
 have at':∀p < u.length,(((u++[h]).map dA)[((p:KC):KO).toNat]?=ba (dA (u.getD p (0,[])))):=λp hp=>by
  rw[ee (Op ‹_› ‹_›),iZ hp]
 have hw:∀p < u.length,(ac h.2)[((p:KC):KO).toNat]?=ba (.int (h.2.getD p 0)):=λp hp=>by
  rw[KN]; unfold ac; rw[KD,aB (d:=0) ∅]; rfl
 dsimp only[cq];refine st ?_;dsimp only[wS,wE,wV,wG];refine am (KL _) (ee hvl) ?_;rw[mT];dsimp only[wU,dA];refine ab (show eu [4,5] [.int h.1,.tup (h.2.map W.int)] [ba R,ba (.ref q),ba (aL (u++[h])),ba (.int (u.length:KO)),gV,gV,gV,gV]=ba [ba R,ba (.ref q),ba (aL (u++[h])),ba (.int (u.length:KO)),ba (.int h.1),ba (.tup (ac h.2)),gV,gV]from rfl) ?_
 refine aW λK hK=>?_
 refine jB 1 (u.length:KO) (λm ρ S'=>(∃a6 a7,ρ=[ba R,ba (.ref q),ba (aL (u++[h])),ba (.int (u.length:KO)),ba (.int h.1),ba (.tup (ac h.2)),a6,a7])/\S'=S/\∀j < m+1,∀p < j,eF kvs u h p j=false) rfl rfl rfl ∅ #[rfl,rfl,#[_,_,rfl],rfl,λj hj p hp=>∅] ?_ ?_
 ·rintro m ρ S1 hm ⟨⟨a6,a7,rfl⟩,rfl,no⟩ Q2 hn2 hr2;clear hK;rw[show(1:KO)+m=((m+1:KC):KO) by omega]
  have hmu:m+1 < u.length:=∅
  generalize hj:m+1=j at hmu hn2 no;dsimp only[KP];refine aW λK hK=>?_
  refine cJ (j:KO) (λi ρ S'=>(∃a7,ρ=[ba R,ba (.ref q),ba (aL (u++[h])),ba (.int (u.length:KO)),ba (.int h.1),ba (.tup (ac h.2)),ba (.int (j:KO)),a7])/\S'=S1/\∀p < i,eF kvs u h p j=false) rfl rfl ∅ #[rfl,#[_,rfl],rfl,λp hp=>∅] ?_ ?_
  ·rintro i ρ S2 hi ⟨⟨a7,rfl⟩,rfl,no2⟩ Q3 hn3 hr3;clear hK;have hij:i < j:=by exact MK.mp ‹_›
   have hiu:i < u.length:=by exact Op ‹_› ‹_›
   have lj:i < (u.getD j (0,[])).2.length:=by rw[hu.len j _ (aB (d:=(0,[])) hmu)]; exact hij
   dsimp only[KP];refine aW λK hK=>?_
   dsimp only[wS,wT,wE,wA,wV,wG];refine am (KL i) (at' i hiu) (am #v[] rfl (am (KL j) (at' j hmu) (am #v[] rfl (am (KL j) (at' j hmu) (am #v[] rfl (am (w:=.int ((u.getD j (0,[])).2.getD i 0)) (KL i) (by rw[KN,KD,aB (d:=0) lj]; rfl) (am (KL i) (hw i hiu) (am (KL j) (hw j hmu) ?_))))))))
   refine ab (show cM .isin (aL [((u.getD i (0,[])).1,[]),((u.getD j (0,[])).1,[(u.getD j (0,[])).2.getD i 0]),(h.1,[h.2.getD i 0,h.2.getD j 0])]) (.ref q) S2=ba (.bl (eF kvs u h i j),S2) by simp only[cM,cW e,qB]; rfl) ?_
   dsimp only[wB];refine au (Q0:=Q3) (λhb Q5 _ hr5=>?_) (λhb Q5 hn5 _=>cj (hn5 _ _ (hK _ _ (cj (hn3 _ _ #[#[_,rfl],rfl,λp hp=>?_])))))
   ·refine st ?_;dsimp only[wS,wE];have:i4 kvs u u.length h=false:=by
     rw[Pu];intro z;rw[lN.mp z j hmu i hij]at hb;cases hb
    rw[this]at k;exact hr5 _ _ (hr3 _ _ (hr2 _ _ k))
   ·by_cases ep:p=i
    ·rw[ep]; exact hb
    ·exact no2 p ∅
  ·rintro ρ S2 ⟨⟨a7,rfl⟩,rfl,no2⟩;rw[KN]at no2;refine hK _ _ (cj (hn2 _ _ #[#[_,_,rfl],rfl,λj' hj' p hp=>?_]))
   by_cases ej:j'=j
   ·subst ej; exact no2 p hp
   ·exact no j' ∅ p hp
 ·rintro ρ S1 ⟨⟨a6,a7,rfl⟩,rfl,no⟩;refine hK _ _ (st ?_);dsimp only[wS,wE];rw[lN.mpr λq hq p hp=>no q ∅ p hp]at k
  exact k
theorem qK (hd:Is defs ("_law_digits" : KZ) 2 4 cy)(hlm:Is defs ("_law_last_may" : KZ) 4 8 cq)(hg:Is defs ("_law_wishes" : KZ) 3 6 dM){M N:Kr W}{b0:W}{a n q:KC}{u:Wd}{kvs:Kr (T×W)}(hM:M.length=a)(hN:N.length=n)(ha3:a<=3)(hn1:1<=n)(hn3:n<=3)(hu:GoodW a n u)(hul:u.length<=5)(e:S[q]?=ba (.dic kvs))
  (k:∀(l:KC) (S':aa),S'[l]?=ba (.lst ((c7 kvs u a n).map dA))->S.length<=l->Ka S S'->Q (.ref l,S')) :
  wO (bw (ar defs fuel (d+2)) "_law_wishes" 3 [.tup [.tup M,.tup N,b0],.ref q,aL u] S) Q:=by
 refine az hg rfl rfl λQ' hR=>?_
 replace k:∀(l:KC) (S':aa),S'[l]?=ba (.lst ((c7 kvs u a n).map dA))->S.length<=l->Ka S S'->Q' (.rt (.ref l),S'):=λa b c e f=>hR _ _ (k a b c e f)
 clear hR;show wZ _ _ dM [ba (.tup [.tup M,.tup N,b0]),ba (.ref q),ba (aL u),gV,gV,gV] S Q';generalize hR0:W.tup [.tup M,.tup N,b0]=R;have hqS:=cr e;have ul:(u.map dA).length=u.length:=Kt ..;dsimp only[dM];refine st ?_;dsimp only[wS,wE,wA,KP];refine aW λK hK=>?_
 refine cJ (a:KO) (λi ρ S'=>(∃a4 a5,ρ=[ba R,ba (.ref q),ba (aL u),ba (.ref S.length),a4,a5])/\S'[S.length]?=ba (.lst (((K9 i).flatMap λ(m:KC)=>cz kvs u n (m:KO) u.length).map dA))/\Ka S S') rfl rfl ∅ ?_ ?_ ?_
 ·dsimp only[wE,wA,wV,wG];subst hR0;refine am #v[] rfl (bH ?_)
  rw[hM];exact#[rfl,#[_,_,rfl],ah,.push]
 ·rintro i ρ S1 hi ⟨⟨a4,a5,rfl⟩,e1,k1⟩ Q2 hn2 _;clear hK k;have hl1:=cr e1;have hfl:=i3 (kvs:=kvs) (i:=i) hn3 hul;have hdl:=(uR (n:=n) (k:=u.length) hn3 hul).1;dsimp only[KP];refine aW λK hK=>?_
  refine gS rfl rfl ?_;dsimp only[wE,wA,wV,wG];have ed:∀Q:QW,(∀(l:KC) (S':aa),S'[l]?=ba (.lst ((bI n u.length).map λds=>.tup (ac ds)))->S1.length<=l->Ka S1 S'->Q (.ref l,S'))->wO (bw (ar defs fuel (d+1)) "_law_digits" 2 [.int n,.int u.length] S1) Q:=λQ kk=>sX (d:=d) hd hn1 hn3 hul kk
  subst hR0;refine am #v[] rfl (bH ?_)
  refine bH ?_;rw[hN,ul];refine ed _ λl S2 e2 hl2 k2=>?_
  refine#[l,(bI n u.length).map λds=>.tup (ac ds),λj ρ S'=>(∃a5,ρ=[ba (.tup [.tup M,.tup N,b0]),ba (.ref q),ba (aL u),ba (.ref S.length),ba (.int i),a5])/\S'[S.length]?=ba (.lst ((((K9 i).flatMap λ(m:KC)=>cz kvs u n (m:KO) u.length)++(((bI n u.length).take j).map λds=>((i:KO),ds)).filter (i4 kvs u u.length)).map dA))/\S'[l]?=ba (.lst ((bI n u.length).map λds=>.tup (ac ds)))/\Ka S S',rfl,#[#[_,rfl],by rw[QA,PY,Qf,Mf]; exact k2.get _ _ e1,e2,k1.trans k2],λj ρ S' h=>h.2.2.1,?_,?_]
  ·rintro j w ρ S3 hw ⟨⟨a5,rfl⟩,e3,el3,k3⟩;clear hK hn2;rw[KD,Kv]at hw;obtain⟨ds,hds,rfl⟩:=hw;obtain⟨dl,dw⟩:=uT (KY hds);refine ab (show gC (.nm 5) (.tup (ac ds)) [ba (.tup [.tup M,.tup N,b0]),ba (.ref q),ba (aL u),ba (.ref S.length),ba (.int i),a5] S3=ba ([ba (.tup [.tup M,.tup N,b0]),ba (.ref q),ba (aL u),ba (.ref S.length),ba (.int i),ba (.tup (ac ds))],S3)from rfl) ?_
   intro Q3 hn3 _;refine aW λK hK=>?_
   dsimp only[wS,wT,wE,wA,wV,wG,aL];have ev:u.map dA++[.tup [.int i,.tup (ac ds)]]=(u++[((i:KO),ds)]).map dA:=by rw[Lh]; rfl
   refine ab (gq (jD (by rw[ev,Kt,KG,LO]; omega))) (bH ?_)
   dsimp only;rw[ev,ul];have lm:=λ(Q:QW)=>uV (fuel:=fuel) (d:=d) (Q:=Q) (R:=.tup [.tup M,.tup N,b0]) (h:=((i:KO),ds)) hlm hu dl (by exact KQ ‹_› (KU rfl)) (k3.get _ _ e)
   unfold aL at lm;refine lm _ ?_;dsimp only;refine ab (show gE S3 (.bl (i4 kvs u u.length ((i:KO),ds)))=ba (i4 kvs u u.length ((i:KO),ds))from rfl) ?_
   have et:((bI n u.length).take (j+1)).map (λds=>((i:KO),ds))=((bI n u.length).take j).map (λds=>((i:KO),ds))++[((i:KO),ds)]:=by
    rw[Lj,hds,Lh]; rfl
   have bl:((((K9 i).flatMap λ(m:KC)=>cz kvs u n (m:KO) u.length)++(((bI n u.length).take j).map λds=>((i:KO),ds)).filter (i4 kvs u u.length)).map dA).length<=1000:=by
    rw[Kt,KG];have z1:=Nd (i4 kvs u u.length) (((bI n u.length).take j).map λds=>((i:KO),ds))
    rw[Kt,Ly]at z1;omega
   refine au (Q0:=Q3) (λhm Q5 hn5 _=>?_) (λhm Q5 hn5 _=>cj (hn5 _ _ (hK _ _ (cj (hn3 _ _ #[#[_,rfl],?_,el3,k3])))))
   ·refine st ?_;dsimp only[wS,wE,wA,wV,wG];refine#[dG e3,Bg e3 (by exact MA ‹_› (KU rfl)) (cj (hn5 _ _ (hK _ _ (cj (hn3 _ _ #[#[_,rfl],?_,?_,k3.late (KH _)])))))]
    ·rw[bV e3,et,MR,Oi hm,Qf,<- Mu,Lh (l₂:=[((i:KO),ds)])]; rfl
    ·rw[bN ∅]; exact el3
   ·rw[et,MR,Oj (by rw[hm]; exact K8),Qf,Mf]
    exact e3
  ·rintro ρ S3 ⟨⟨a5,rfl⟩,e3,el3,k3⟩;rw[Kt,LC,<- ig ∅ _ (KH _)]at e3
   refine hK _ _ (cj (hn2 _ _ #[#[_,_,rfl],?_,k3]));rw[e3,NH,MM];simp
 ·rintro ρ S1 ⟨⟨a4,a5,rfl⟩,e1,k1⟩;rw[KN]at e1;exact hK _ _ (st (k _ _ e1 (KH _) k1))
theorem Gd {L:Kr Pt}(h:∀p∈L,p.2.length<=1000):∀x∈L.map dA,Tr 2 x:=λx hx=>by
 obtain⟨p,hp,rfl⟩:=K6.mp hx;refine#[KU rfl,λy hy=>?_]
 simp only[Le,LP,Nb]at hy;rcases hy with rfl|rfl
 ·trivial
 ·refine#[by rw[Kt]; exact h p hp,λz hz=>?_]
  obtain⟨w,_,rfl⟩:=K6.mp hz;trivial
end
theorem Ge {bs:Kr KO}{a:KC}{v:Wd}{i j:KC}(hb:GoodB bs)(hv:GoodW a bs.length v)(hi:i < v.length)(hj:j < v.length)(hij:i≠j):0<=gx bs v i j/\gx bs v i j < (bs.length:KO):=by
 unfold gx
 by_cases h:j < i
 ·rw[La h];have hp:=aB (d:=(0,[])) hi;have hw:j < (v.getD i (0,[])).2.length:=by rw[hv.len i _ hp]; exact h
  exact hv.way i _ hp _ (KY (aB (d:=0) hw))
 ·rw[Li h];have hp:=aB (d:=(0,[])) hj;have hw:i < (v.getD j (0,[])).2.length:=by rw[hv.len j _ hp]; omega
  obtain⟨g1,g2⟩:=hv.way j _ hp _ (KY (aB (d:=0) hw));exact(hb.at g1 g2).2
theorem xZ {bs:Kr KO}{a:KC}{v:Wd}{ps:Kr KC}(hb:GoodB bs)(hv:GoodW a bs.length v)(hps:∀p∈ps,p < v.length)(hnd:ps.Nodup):GoodW a bs.length (br bs v ps):=by
 have at':∀(k:KC) (q:Pt),(br bs v ps)[k]?=ba q->∃hk:k < ps.length,q=((v.getD ps[k] (0,[])).1,(ps.take k).map λj=>gx bs v ps[k] j):=λk q e=>by
  have hk:k < ps.length:=by
   have:=(KJ.mp e).1;rw[ga]at this; exact this
  refine#[hk,?_];unfold br at e;rw[KD,M4 hk,Lw,show ps.getD k 0=ps[k] by simp[hk]]at e
  exact(LV e).symm
 refine#[λk q e=>?_,λk q e=>?_,λk q e=>?_]
 ·obtain⟨hk,rfl⟩:=at' k q e;have:=hv.mark _ _ (aB (d:=(0,[])) (hps _ (LL hk)));exact this
 ·obtain⟨hk,rfl⟩:=at' k q e;dsimp only;rw[Kt,Ly]; omega
 ·obtain⟨hk,rfl⟩:=at' k q e;intro w hw;obtain⟨j,hj,rfl⟩:=K6.mp hw;have hjm:=MY hj;refine Ge hb hv (hps _ (LL hk)) (hps _ hjm) λe=>?_
  obtain⟨m,hm,e2⟩:=NQ.mp hj;rw[Ly]at hm;rw[Ps]at e2;have:=(OB hnd).mp (e.trans e2.symm);omega
section
variable{defs:Kr (KZ×Df)}{fuel d:KC}{S:aa}{Q:QW}
theorem Gf (hd:Is defs ("_law_flow" : KZ) 1 1 fw){ns:Kr KO}{u:KC}(hu:S[u]?=ba (.fro (ns.map W.int)))(k:∀r S',Ka S S'->Fl S' r->Q (.ref r,S')) :
  wO (bw (ar defs fuel (d+1)) "_law_flow" 1 [.ref u] S) Q:=by
 refine az hd rfl rfl λQ' hR=>?_
 show wZ _ _ fw [ba (.ref u)] S Q';dsimp only[fw];refine st ?_;dsimp only[wS,wE,wA,wV,wG];have e:Bi.list.fn [.ref u] S=ba (.ref S.length,S++[.lst (ns.map W.int)]):=by
  have h1:y8 S u=gV:=by simp[y8,hu]
  simp only[Bi.fn,C7,kR,h1,jf,fH,Di hu]
 refine ab e (hR _ _ (k _ _ (Ka.push.trans .push) #[S.length,ns,0,0,1,0,?_,?_,?_,#v[],#v[],#v[],#v[]]))
 ·exact ah
 ·exact aq ah
 ·simp
end
theorem gf {n:KC}{x:KO}(h:x∈fF n):0<=x/\x < n:=by
 obtain⟨k,hk,rfl⟩:=K6.mp h;have:=Ll.mp hk;omega
theorem uW {a n:KC}{u:Wd}(h:u∈sN a n):GoodW a n u/\u.length=3:=by
 unfold sN at h;simp only[NC,K6]at h;obtain⟨m0,h0,m1,h1,m2,h2,w1,g1,w2,g2,w3,g3,rfl⟩:=h;refine#[?_,rfl];have s1:GoodW a n ([]++[(m0,[])]):=GoodW.nil.snoc (gf h0) rfl (λw hw=>nomatch hw)
 have s2:GoodW a n ([(m0,[])]++[(m1,[w1])]):=s1.snoc (gf h1) rfl (λw hw=>by rw[KS.mp hw]; exact gf g1)
 exact s2.snoc (gf h2) rfl (λw hw=>by
  simp only[Le,LP,Nb]at hw;rcases hw with rfl|rfl
  ·exact gf g2
  ·exact gf g3)
theorem ya {a:KC}{bs:Kr KO}{g:Wd}(hb:GoodB bs)(h:g∈bu a bs):GoodW a bs.length g/\g.length=3:=by
 unfold bu at h;rw[Pe]at h;obtain⟨u,hu,rfl⟩:=K6.mp h;obtain⟨gu,u3⟩:=uW hu;unfold j7;have hm:qc ((aA.map (br bs u)).map dj) < (aA.map (br bs u)).length:=by
  unfold qc;refine MA (gy _ _) ?_;rw[Kt,Kt]; decide
 have:=KY (aB (d:=[]) hm);obtain⟨t,ht,e⟩:=K6.mp this;rw[<- e];have tk:∀t∈aA,t.length=3/\t.Nodup/\∀p∈t,p < 3:=by decide
 obtain⟨t1,t2,t3⟩:=tk t ht;exact#[xZ hb gu (λp hp=>by have:=t3 p hp; omega) t2,by rw[ga]; exact t1]
theorem pH {a n:KC}{u:Wd}(hu:GoodW a n u):GoodW a n u.dropLast:=by
 have key:∀(k:KC) (x:Pt),(u.dropLast)[k]?=ba x->u[k]?=ba x:=λk x e=>by
  rw[List.getElem?_dropLast]at e;split at e
  ·exact e
  ·cases e
 exact#[λk x e=>hu.mark k x (key k x e),λk x e=>hu.len k x (key k x e),λk x e=>hu.way k x (key k x e)]
noncomputable def lO:Ss:=
 #v[.set 1 (.own "_law_flow" 1 #v[.v 0]),.set 2 (.own "_law_full_rule" 1 #v[.v 1]),.set 3 (.own "_law_bad" 1 #v[.v 2]),.set 4 (.own "_law_pick" 2 #v[.v 1,.c (.int 4)]),.ite (.cmp .eq (.own "_law_pick" 2 #v[.v 1,.c (.int 6)]) (.c (.int 0))) #v[.set 4 (.own "_law_pick" 2 #v[.v 1,.ix (.lst #v[.c (.int 6),.c (.int 5)]) (.bi .int #v[.cmp .gt (.bi .len #v[.ix (.v 2) (.c (.int 1))]) (.c (.int 2))])])] .nil,.set 5 (.own "_law_world" 4 #v[.v 1,.v 2,.v 3,.v 4]),.set 6 (.own "_law_wishes" 3 #v[.v 2,.v 3,.v 5]),.set 7 (.own "wishes" 2 #v[.v 2,.v 5]),.ite (.not (.own "_law_alike" 2 #v[.v 7,.v 6])) #v[.ret (.c (.bl false))] .nil,.ex (.me .append (.v 7) #v[.c .non]),.put (.v 7) (.c (.int 0)) (.c .non),.set 8 (.own "_law_other_rule" 1 #v[.v 2]),.ite (.not (.own "_law_alike" 2 #v[.own "wishes" 2 #v[.v 8,.sl (.v 5) .no (.yes (.c (.int 3)))],.own "_law_wishes" 3 #v[.v 8,.dnew,.sl (.v 5) .no (.yes (.c (.int 3)))]])) #v[.ret (.c (.bl false))] .nil,.ite (.not (.own "_law_alike" 2 #v[.own "wishes" 2 #v[.v 2,.sl (.v 5) .no (.yes (.neg (.c (.int 1))))],.own "_law_wishes" 3 #v[.v 2,.v 3,.sl (.v 5) .no (.yes (.neg (.c (.int 1))))]])) #v[.ret (.c (.bl false))] .nil,.ret (.own "_law_alike" 2 #v[.own "wishes" 2 #v[.v 2,.v 5],.v 6])]
structure Lw15 (defs:Kr (KZ×Df)):Prop where
 gen:Gen defs
 full:Full defs
 parts:Parts defs
 part:Is defs ("part" : KZ) 3 3 iX
 longer:Is defs ("longer_orders" : KZ) 2 4 bJ
 barred:Is defs ("barred_threes" : KZ) 1 5 b6
 three:Is defs ("three_at" : KZ) 4 6 cU
 fbar:Is defs ("first_bar" : KZ) 2 4 cV
 lwish:Is defs ("longer_wishes" : KZ) 2 5 bK
 wover:Is defs ("wishes_over" : KZ) 3 7 cF
 wishes:Is defs ("wishes" : KZ) 2 2 gW
 flow:Is defs ("_law_flow" : KZ) 1 1 fw
 alike:Is defs ("_law_alike" : KZ) 2 2 bP
 bad:Is defs ("_law_bad" : KZ) 1 4 gc
 ways:Is defs ("_law_new_ways" : KZ) 6 11 cp
 world:Is defs ("_law_world" : KZ) 4 8 eh
 lmay:Is defs ("_law_last_may" : KZ) 4 8 cq
 lwishes:Is defs ("_law_wishes" : KZ) 3 6 dM
 other:Is defs ("_law_other_rule" : KZ) 1 2 cm
 law:Is defs ("law" : KZ) 1 9 lO
section
variable{defs:Kr (KZ×Df)}{fuel d:KC}
theorem mY {kvs:Kr (T×W)}{u:Wd}{a n:KC}(ha:a<=3)(hn:n<=3)(hu:u.length<=5):((c7 kvs u a n).map dA).length<=1000:=by
 have:=i3 (kvs:=kvs) (u:=u) (n:=n) (i:=a) hn hu;rw[Kt];unfold c7;omega
theorem DL {kvs:Kr (T×W)}{u:Wd}{a n:KC}(hu:u.length<=5):∀x∈(c7 kvs u a n).map dA,Tr 2 x:=Gd λp hp=>by
 have:=(Bq.mp hp).2.1;omega
theorem Bt (hfu:50 < fuel)(L:Lw15 defs){zs:Kr KO}:∃S',ar defs fuel (d+9) "law" [.ref 0] [.fro (zs.map W.int)]=ba (.bl true,S'):=by
 suffices h:wO (bw (ar defs fuel (d+9)) "law" 1 [.ref 0] [.fro (zs.map W.int)]) (λp=>p.1=.bl true) by
  obtain⟨⟨v,S'⟩,e,q⟩:=db h;cases(show v=.bl true from q)
  exact#[S',e]
 have G:=L.gen;refine az L.law rfl rfl λQ' hR=>?_
 show wZ _ _ lO [ba (.ref 0),gV,gV,gV,gV,gV,gV,gV,gV] [.fro (zs.map W.int)] Q';unfold lO;refine aW λK hK=>?_
 dsimp only[wS,wE,wA,wV,wG,KP];refine Gf (d:=d+7) L.flow (ns:=zs) rfl λr S1 _ f1=>hK _ _ ?_
 clear hK K;refine aW λK hK=>?_
 dsimp only[wS,wE,wA,wV,wG,KP];refine F9 (d:=d) ∅ G L.full f1 λw S2 hw f2 _=>hK _ _ ?_
 clear hK K f1;obtain⟨a,bs,ms,ns,gs0,rfl,hr⟩:=hw;have hb:=hr.size.good;have hnl:=hr.nl;have hml:=hr.ml;have hpos:=hr.size.pos;have ha3:=hr.size.a3;have pm:(cY gs0).Perm gs0:=fj;have hgs:∀g∈cY gs0,GoodW a bs.length g/\g.length=3:=λg hg=>ya hb (hr.mem g (pm.mem_iff.mp hg))
 have h64:(cY gs0).length<=100:=by
  have h1:=mK gs0 _ hr.nd hr.mem;have h2:=lM hr.size;rw[pm.length_eq]; omega
 clear hr pm;unfold eD;generalize cY gs0=gs at hgs h64;clear gs0;have hb3:1<=bs.length/\bs.length<=3:=by rcases hb with rfl|rfl|rfl|rfl|rfl|rfl <;> decide
 have zl:∀cs:Kr KO,cs.length=bs.length->(K4 bz ns cs).length=bs.length:=λcs h=>by rw[ML,hnl]; omega
 have ml:(ms.map W.str).length=a:=by rw[Kt,hml]
 have wi:∀(cs:Kr KO) (hs:Kr Wd) (u:Wd) (S:aa) (Q:QW),GoodB cs->cs.length=bs.length->(∀g∈hs,GoodW a bs.length g/\g.length=3)->hs.length<=100->GoodW a bs.length u->u.length<=5->(∀(l:KC) (kvs:Kr (T×W)) (S':aa),HasD kvs (eE cs hs)->S'[l]?=ba (.lst ((c7 kvs u a bs.length).map dA))->S.length<=l->Ka S S'->Q (.ref l,S'))->wO (bw (ar defs fuel (d+8)) "wishes" 2 [.tup [.tup (ms.map W.str),.tup (K4 bz ns cs),.tup (hs.map aL)],aL u] S) Q:=λcs hs u S Q h1 h2 h3 h4 h5 h6 h7=>by
  rw[<- h2]at h3 h5 h7;exact Br (d:=d+3) ∅ L.parts L.part L.longer L.barred L.three L.fbar L.lwish L.wover L.wishes hml ha3 h1 ∅ h3 h4 h5 h6 h7
 have wl:∀(cs:Kr KO) (b0:W) (u:Wd) (S:aa) (q:KC) (kvs:Kr (T×W)) (Q:QW),cs.length=bs.length->GoodW a bs.length u->u.length<=5->S[q]?=ba (.dic kvs)->(∀(l:KC) (S':aa),S'[l]?=ba (.lst ((c7 kvs u a bs.length).map dA))->S.length<=l->Ka S S'->Q (.ref l,S'))->wO (bw (ar defs fuel (d+8)) "_law_wishes" 3 [.tup [.tup (ms.map W.str),.tup (K4 bz ns cs),b0],.ref q,aL u] S) Q:=λcs b0 u S q kvs Q h2 h5 h6 h8 h7=>qK (d:=d+6) L.full.digits L.lmay L.lwishes ml (zl cs h2) ha3 hb3.1 hb3.2 h5 h6 h8 h7
 have al:∀(S:aa) (i j:KC) (kvs:Kr (T×W)) (u:Wd) (Q:QW),u.length<=5->S[i]?=ba (.lst ((c7 kvs u a bs.length).map dA))->S[j]?=ba (.lst ((c7 kvs u a bs.length).map dA))->(∀S',Ka S S'->Q (.bl true,S'))->wO (bw (ar defs fuel (d+8)) "_law_alike" 2 [.ref i,.ref j] S) Q:=λS i j kvs u Q h1 h2 h3 h4=>xS (d:=d+4) (n:=2) L.alike h2 h3 (by have:=mY (kvs:=kvs) (u:=u) ha3 hb3.2 h1; exact KQ ‹_› (KU rfl)) (DL h1) h4
 refine aW λK hK=>?_
 dsimp only[wS,wE,wA,wV,wG,KP];refine Iq (d:=d+5) G L.bad hb hnl hgs h64 λq kvs S3 e3 h3 hq k3=>hK _ _ ?_
 clear hK K;have f3:=f2.ka k3;have hqr:q≠r:=by have:=f2.lt; omega
 have cg:∀(kvs2:Kr (T×W)) (u:Wd),HasD kvs2 (eE bs gs)->c7 kvs2 u a bs.length=c7 kvs u a bs.length:=λkvs2 u h=>mX hb3.1 λt=>(h.get t).trans (h3.get t).symm
 clear h3 k3 hq f2;refine aW λK hK=>?_
 dsimp only[wS,wE,wA,wV,wG,KP];refine bx (d:=d+7) G.pick f3 #v[] #v[] λv S4 v0 v1 f4 k4=>hK _ _ ?_
 clear hK K;have e4:=k4.get _ _ hqr e3;clear e3 f3 k4;refine aW λK hK=>?_
 have tl:∀(n:KC) (S5:aa),n<=5->S5[q]?=ba (.dic kvs)->Fl S5 r->K [ba (.ref 0),ba (.ref r),ba (.tup [.tup (ms.map W.str),.tup (K4 bz ns bs),.tup (gs.map aL)]),ba (.ref q),ba (.int (n:KO)),gV,gV,gV,gV] S5:=by
  intro n S5 hn e5 f5;refine hK _ _ ?_;clear hK K e4 f4 v0 v1;refine aW λK hK=>?_
  dsimp only[wS,wE,wA,wV,wG,KP];refine DK (d:=d+5) G L.ways L.world (M:=ms.map W.str) (N:=K4 bz ns bs) (n:=bs.length) ml hpos ha3 (zl bs rfl) hb3.2 (by exact KQ ‹_› (KU rfl)) e5 hqr f5 λu S6 hul hu _ k6=>hK _ _ ?_
  clear hK K;have e6:=k6.get _ _ hqr e5;have hu5:u.length<=5:=by exact KQ ‹_› ‹_›
  clear e5 f5 k6 hul hn;refine aW λK hK=>?_
  dsimp only[wS,wE,wA,wV,wG,KP];refine wl bs _ u _ _ _ _ rfl hu hu5 e6 λld S7 e7 hl7 k7=>hK _ _ ?_
  clear hK K;have q7:=k7.get _ _ e6;clear e6 k7 hl7;refine aW λK hK=>?_
  dsimp only[wS,wE,wA,wV,wG,KP];refine wi bs gs u _ _ hb rfl hgs h64 hu hu5 λlf kv8 S8 h8 e8 hl8 k8=>hK _ _ ?_
  clear hK K;rw[cg kv8 u h8]at e8;have d8:=k8.get _ _ e7;have q8:=k8.get _ _ q7;have ldf:ld≠lf:=by have:=cr e7; omega
  have qf:q≠lf:=by have:=cr q7; omega
  clear e7 q7 k8 hl8 h8;refine aW λK hK=>?_
  dsimp only[wS,wT,wE,wA,wV,wG];refine al _ _ _ kvs u _ hu5 e8 d8 λS9 k9=>?_
  refine ab (show gE S9 (.bl true)=ba true from rfl) ?_
  refine au (Q0:=Q') (λz=>by cases z) (λ_ Q2 hn2 _=>cj (hn2 _ _ (hK _ _ ?_)))
  clear hn2 hK K;have e9:=k9.get _ _ e8;have d9:=k9.get _ _ d8;have q9:=k9.get _ _ q8;clear e8 d8 q8 k9;have wb:=mY (kvs:=kvs) (u:=u) ha3 hb3.2 hu5;generalize hX:(c7 kvs u a bs.length).map dA=X at e9 wb;refine aW λK hK=>?_
  dsimp only[wS,wE,wA,wV,wG];refine#[dG e9,Bg e9 (by exact MA ‹_› (KU rfl)) (hK _ _ ?_)]
  clear hK K;have s9:=bV (o':=O.lst (X++[W.non])) e9;refine aW λK hK=>?_
  dsimp only[wS,wE,wA,wV,wG];refine ab (As (i:=0) s9 #v[] (by rw[KG,LO]; exact Tv _)) (hK _ _ ?_)
  clear hK K;have d10:((S9.set lf (.lst (X++[W.non]))).set lf (.lst ((X++[W.non]).set (Th 0) W.non)))[ld]?=ba (.lst X):=by rw[bN (Ne.symm ldf),bN (Ne.symm ldf),<- hX]; exact d9
  have q10:((S9.set lf (.lst (X++[W.non]))).set lf (.lst ((X++[W.non]).set (Th 0) W.non)))[q]?=ba (.dic kvs):=by rw[bN (Ne.symm qf),bN (Ne.symm qf)]; exact q9
  generalize(S9.set lf (.lst (X++[W.non]))).set lf (.lst ((X++[W.non]).set (Th 0) W.non))=S10 at d10 q10;rw[<- hX]at d10;clear e9 d9 q9 s9 ldf qf wb hX X;obtain⟨gb,gl⟩:=pB hb;refine aW λK hK=>?_
  dsimp only[wS,wE,wA,wV,wG,KP];refine DF (d:=d+7) L.other hb hnl λS11 k11=>hK _ _ ?_
  clear hK K;have d11:=k11.get _ _ d10;have q11:=k11.get _ _ q10;clear d10 q10 k11;have sl3:∀S:aa,re (aL u) gV (ba 3) S=ba (aL (u.take 3),S):=λS=>by
   simp only[aL,re];rw[show(ba (3:KO))=ba (((3:KC)):KO)from rfl,gR,OI]
  have sl1:∀S:aa,re (aL u) gV (ba (-1)) S=ba (aL u.dropLast,S):=λS=>by simp only[aL,re,Be,List.map_dropLast]
  have t5:(u.take 3).length<=5:=by rw[Ly]; omega
  refine aW λK hK=>?_
  dsimp only[wS,wT,wE,wA,wP,wV,wG,wN];refine ab (sl3 _) ?_;dsimp only;refine wi (gD bs) [] (u.take 3) _ _ gb gl (λg hg=>nomatch hg) #v[] (ki hu) t5 λl2 kv2 S12 h12 e12 _ k12=>?_
  have en:c7 kv2 (u.take 3) a bs.length=c7 [] (u.take 3) a bs.length:=mX hb3.1 λt=>(h12.get t).trans (by unfold eE; rfl)
  rw[en]at e12;refine ab (sl3 _) ?_;dsimp only;refine wl (gD bs) _ (u.take 3) _ _ [] _ gl (ki hu) t5 ah λl3 S13 e13 _ k13=>?_
  refine al _ _ _ [] (u.take 3) _ t5 (k13.get _ _ (aq e12)) e13 λS14 k14=>?_
  refine ab (show gE S14 (.bl true)=ba true from rfl) ?_
  refine au (Q0:=Q') (λz=>by cases z) (λ_ Q2 hn2 _=>cj (hn2 _ _ (hK _ _ ?_)))
  clear hn2 hK K;have k1114:Ka S11 S14:=((k12.trans .push).trans k13).trans k14;have d14:=k1114.get _ _ d11;have q14:=k1114.get _ _ q11;clear d11 q11 k1114 k12 k13 k14 e12 e13 h12 en;have l5:u.dropLast.length<=5:=by rw[QC]; omega
  refine aW λK hK=>?_
  dsimp only[wS,wT,wE,wA,wP,wV,wG,wN];refine ab (sl1 _) ?_;dsimp only;refine wi bs gs u.dropLast _ _ hb rfl hgs h64 (pH hu) l5 λl4 kv4 S15 h15 e15 _ k15=>?_
  rw[cg kv4 _ h15]at e15;refine ab (sl1 _) ?_;dsimp only;refine wl bs _ u.dropLast _ _ kvs _ rfl (pH hu) l5 (k15.get _ _ q14) λl5' S16 e16 _ k16=>?_
  refine al _ _ _ kvs u.dropLast _ l5 (k16.get _ _ e15) e16 λS17 k17=>?_
  refine ab (show gE S17 (.bl true)=ba true from rfl) ?_
  refine au (Q0:=Q') (λz=>by cases z) (λ_ Q2 hn2 _=>cj (hn2 _ _ (hK _ _ ?_)))
  clear hn2 hK K;have d17:=((k15.trans k16).trans k17).get _ _ d14;clear d14 q14 k15 k16 k17 e15 e16 h15;refine st ?_;dsimp only[wS,wE,wA,wV,wG];refine wi bs gs u _ _ hb rfl hgs h64 hu hu5 λl6 kv6 S18 h18 e18 _ k18=>?_
  rw[cg kv6 u h18]at e18;exact al _ _ _ kvs u _ hu5 e18 (k18.get _ _ d17) λS19 _=>hR _ _ rfl
 dsimp only[wS,wT,wE,wA,wV,wG];refine bx (d:=d+7) G.pick f4 #v[] #v[] λv2 S5 _ _ f5 k5=>?_
 have e5:=k5.get _ _ hqr e4;obtain⟨n,rfl⟩ : ∃n:KC,v=n:=#[v.toNat,∅]
 dsimp only[iT,aX,wB];refine au (Q0:=Q') (λ_ Q2 hn2 _=>?_) (λ_ Q2 hn2 _=>cj (hn2 _ _ (tl n S5 ∅ e5 f5)))
 refine st ?_;dsimp only[wS,wE,wA,wV,wG,KP];refine am #v[] rfl (bH (ab Dh ?_))
 dsimp only;generalize decide (((K4 bz ns bs).length:KO) > 2)=c;obtain⟨g,hg1,eg⟩ : ∃g:KC,g<=1/\∀S,Bi.int.fn [.bl c] S=ba (.int (g:KO),S):=by
  cases c
  ·exact#[0,#v[],λ_=>rfl]
  ·exact#[1,#v[],λ_=>rfl]
 refine ab (eg _) ?_;dsimp only;obtain⟨z,z5,z6,ez⟩ : ∃z:KC,5<=z/\z<=6/\([W.int 6,W.int 5])[g]?=ba (.int (z:KO)):=by
  rcases(show g=0\/g=1 by omega)with rfl|rfl
  ·exact#[6,#v[],#v[],rfl]
  ·exact#[5,#v[],#v[],rfl]
 refine fA ah ez ?_;refine bx (d:=d+7) G.pick (f5.ka .push) ∅ ∅ λv3 S6 u0 u1 f6 k6=>?_
 obtain⟨n3,rfl⟩ : ∃n:KC,v3=n:=#[v3.toNat,∅]
 exact cj (hn2 _ _ (tl n3 S6 ∅ (k6.get _ _ hqr (aq e5)) f6))
end
noncomputable def aj (i:KC):No:=PySem.Challenge.pw_layworld_k15_wishes_told.main.body.getD i (.Pass #[0,0,0,0])
noncomputable def iH:Df:=#[["rule","world","i","j"],["rule","world","i","j"],wm]
noncomputable def fS:Df:=#[["rule","world","points"],["rule","world","points"],iX]
noncomputable def bA:Df:=#[["rule","world","ahead","point"],["rule","world","ahead","point"],eP]
noncomputable def aP:Df:=#[["orders","size"],["orders","size","longer","order"],bJ]
noncomputable def aQ:Df:=#[["rule"],["rule","orders","barred","figure","order"],b6]
noncomputable def b8:Df:=#[["world","i","j","k"],["world","i","j","k","one","two"],cU]
noncomputable def bQ:Df:=#[["barred","world"],["barred","world","last","point"],cV]
noncomputable def dc:Df:=#[["rule","world"],["rule","world"],gW]
noncomputable def bh:Df:=#[["rule","barred","world"],["rule","barred","world","found","mark","heads","size"],cF]
noncomputable def aR:Df:=#[["rule","heads"],["rule","heads","longer","mark","ways"],bK]
noncomputable def bR:Df:=#[["_law_script"],["_law_script"],fw]
noncomputable def bS:Df:=#[["_law_flow_here","_law_many"],["_law_flow_here","_law_many","_law_cell","_law_digit"],dt]
noncomputable def aZ:Df:=#[["_law_flow_here","_law_many"],["_law_flow_here","_law_many"],dW]
noncomputable def bT:Df:=#[["_law_flow_here","_law_stem"],["_law_flow_here","_law_stem","_law_near"],gr]
noncomputable def bB:Df:=#[["_law_flow_here","_law_many"],["_law_flow_here","_law_many","_law_stem","_law_names_here","_law_k","_law_name_here","_law_spare"],dz]
noncomputable def bc:Df:=#[["_law_rule","_law_world_here","_law_i","_law_j"],["_law_rule","_law_world_here","_law_i","_law_j"],dX]
noncomputable def bU:Df:=#[["_law_rule","_law_world_here","_law_points"],["_law_rule","_law_world_here","_law_points","_law_told","_law_k","_law_i"],gv]
noncomputable def bC:Df:=#[[],[],gQ]
noncomputable def bj:Df:=#[["_law_rule","_law_three"],["_law_rule","_law_three"],eM]
noncomputable def cb:Df:=#[["_law_rule"],["_law_rule","_law_bad_here","_law_three","_law_points"],gc]
noncomputable def aS:Df:=#[["_law_rule","_law_bad_here","_law_world_here","_law_k"],["_law_rule","_law_bad_here","_law_world_here","_law_k","_law_mark","_law_to","_law_j","_law_i"],cq]
noncomputable def bD:Df:=#[["_law_flow_here","_law_many"],["_law_flow_here","_law_many","_law_menu"],fK]
noncomputable def be:Df:=#[["_law_flow_here","_law_marks","_law_backs_here","_law_barred"],["_law_flow_here","_law_marks","_law_backs_here","_law_barred","_law_names_here","_law_ways"],dY]
noncomputable def aH:Df:=#[["_law_flow_here","_law_marks","_law_ways"],["_law_flow_here","_law_marks","_law_ways","_law_told","_law_k"],cX]
noncomputable def bE:Df:=#[["_law_flow_here"],["_law_flow_here","_law_menu"],fL]
noncomputable def aT:Df:=#[["_law_flow_here"],["_law_flow_here","_law_marks","_law_ways","_law_rule","_law_barred","_law_k"],dI]
noncomputable def aD:Df:=#[["_law_flow_here"],["_law_flow_here","_law_menu"],cK]
noncomputable def bm:Df:=#[["_law_backs_here","_law_must","_law_to_one","_law_to_two","_law_between_here"],["_law_backs_here","_law_must","_law_to_one","_law_to_two","_law_between_here","_law_to","_law_pair","_law_x","_law_y","_law_z"],eN]
noncomputable def aU:Df:=#[["_law_flow_here","_law_backs_here","_law_must"],["_law_flow_here","_law_backs_here","_law_must","_law_many","_law_menu","_law_some","_law_numbers","_law_told","_law_k","_law_other","_law_u","_law_v"],bW]
noncomputable def aE:Df:=#[["_law_flow_here"],["_law_flow_here","_law_form","_law_backs_here","_law_must","_law_most","_law_marks","_law_rule","_law_barred","_law_many","_law_at","_law_one","_law_two","_law_between_here","_law_some","_law_first"],cL]
noncomputable def bn:Df:=#[["_law_marks"],["_law_marks","_law_told","_law_i","_law_j"],eO]
noncomputable def aM:Df:=#[["_law_flow_here"],["_law_flow_here","_law_marks","_law_ways","_law_rule","_law_k","_law_own","_law_free","_law_barred","_law_three"],di]
noncomputable def ay:Df:=#[["_law_flow_here"],["_law_flow_here","_law_marks","_law_barred"],cx]
noncomputable def aV:Df:=#[["_law_flow_here","_law_rule","_law_bad_here","_law_world_here","_law_mark","_law_to"],["_law_flow_here","_law_rule","_law_bad_here","_law_world_here","_law_mark","_law_to","_law_k","_law_left","_law_w","_law_seen","_law_i"],cp]
noncomputable def bF:Df:=#[["_law_flow_here","_law_rule","_law_bad_here","_law_many"],["_law_flow_here","_law_rule","_law_bad_here","_law_many","_law_world_here","_law_k","_law_mark","_law_to"],eh]
noncomputable def bG:Df:=#[["_law_found","_law_due"],["_law_found","_law_due"],bP]
noncomputable def bo:Df:=#[["_law_many","_law_size"],["_law_many","_law_size","_law_told","_law_k"],cy]
noncomputable def bp:Df:=#[["_law_rule","_law_size"],["_law_rule","_law_size","_law_told","_law_k","_law_points","_law_mark"],dL]
noncomputable def bf:Df:=#[["_law_rule"],["_law_rule"],dZ]
noncomputable def aN:Df:=#[["_law_flow_here"],["_law_flow_here","_law_form","_law_marks","_law_many","_law_rule"],dk]
noncomputable def bq:Df:=#[["_law_rule","_law_bad_here","_law_world_here"],["_law_rule","_law_bad_here","_law_world_here","_law_told","_law_mark","_law_some"],dM]
noncomputable def aI:Df:=#[["_law_rule"],["_law_rule","_law_backs_here"],cm]
noncomputable def iI:Df:=#[["_law_script"],["_law_script","_law_flow_here","_law_rule","_law_bad_here","_law_size","_law_world_here","_law_due","_law_found","_law_twin"],lO]
noncomputable def lb:Kr (KZ×Df):=[(("way" : KZ),iH),(("part" : KZ),fS),(("point_over" : KZ),bA),(("longer_orders" : KZ),aP),(("barred_threes" : KZ),aQ),(("three_at" : KZ),b8),(("first_bar" : KZ),bQ),(("wishes" : KZ),dc),(("wishes_over" : KZ),bh),(("longer_wishes" : KZ),aR),(("_law_flow" : KZ),bR),(("_law_pick" : KZ),bS),(("_law_letters" : KZ),aZ),(("_law_name" : KZ),bT),(("_law_names" : KZ),bB),(("_law_between" : KZ),bc),(("_law_part" : KZ),bU),(("_law_turns" : KZ),bC),(("_law_figure" : KZ),bj),(("_law_bad" : KZ),cb),(("_law_last_may" : KZ),aS),(("_law_backs" : KZ),bD),(("_law_rule_of" : KZ),be),(("_law_free_three" : KZ),aH),(("_law_sizes" : KZ),bE),(("_law_any_rule" : KZ),aT),(("_law_laying_kind" : KZ),aD),(("_law_breaks" : KZ),bm),(("_law_numbered" : KZ),aU),(("_law_laying_rule" : KZ),aE),(("_law_rising" : KZ),bn),(("_law_free_rule" : KZ),aM),(("_law_one_way_rule" : KZ),ay),(("_law_new_ways" : KZ),aV),(("_law_world" : KZ),bF),(("_law_alike" : KZ),bG),(("_law_digits" : KZ),bo),(("_law_worlds" : KZ),bp),(("_law_figures" : KZ),bf),(("_law_full_rule" : KZ),aN),(("_law_wishes" : KZ),bq),(("_law_other_rule" : KZ),aI),(("law" : KZ),iI)]
noncomputable def DM:Kr (KZ×KC):=[(("way" : KZ),4),(("part" : KZ),3),(("point_over" : KZ),4),(("longer_orders" : KZ),2),(("barred_threes" : KZ),1),(("three_at" : KZ),4),(("first_bar" : KZ),2),(("wishes" : KZ),2),(("wishes_over" : KZ),3),(("longer_wishes" : KZ),2),(("_law_flow" : KZ),1),(("_law_pick" : KZ),2),(("_law_letters" : KZ),2),(("_law_name" : KZ),2),(("_law_names" : KZ),2),(("_law_between" : KZ),4),(("_law_part" : KZ),3),(("_law_turns" : KZ),0),(("_law_figure" : KZ),2),(("_law_bad" : KZ),1),(("_law_last_may" : KZ),4),(("_law_backs" : KZ),2),(("_law_rule_of" : KZ),4),(("_law_free_three" : KZ),3),(("_law_sizes" : KZ),1),(("_law_any_rule" : KZ),1),(("_law_laying_kind" : KZ),1),(("_law_breaks" : KZ),5),(("_law_numbered" : KZ),3),(("_law_laying_rule" : KZ),1),(("_law_rising" : KZ),1),(("_law_free_rule" : KZ),1),(("_law_one_way_rule" : KZ),1),(("_law_new_ways" : KZ),6),(("_law_world" : KZ),4),(("_law_alike" : KZ),2),(("_law_digits" : KZ),2),(("_law_worlds" : KZ),2),(("_law_figures" : KZ),1),(("_law_full_rule" : KZ),1),(("_law_wishes" : KZ),3),(("_law_other_rule" : KZ),1),(("law" : KZ),1)]
noncomputable def Gg:Kr KZ:=["range","len","list","tuple","int","set","sorted","isinstance","bool","str","all","min","enumerate"]
noncomputable def eQ:Md:=#[DM,Gg]
theorem Gh:bX eQ (aj 1) iH:=by rfl
theorem Gi:FnScope iH.N iH.ps (ag (aj 1)):=#[rfl,rfl,rfl,by decide +kernel,rfl,by decide +kernel,by decide +kernel]
theorem DN:bX eQ (aj 3) fS:=by rfl
theorem DO:FnScope fS.N fS.ps (ag (aj 3)):=#[rfl,rfl,rfl,by decide +kernel,rfl,by decide +kernel,by decide +kernel]
theorem nU:bX eQ (aj 4) bA:=by rfl
theorem nV:FnScope bA.N bA.ps (ag (aj 4)):=#[rfl,rfl,rfl,by decide +kernel,rfl,by decide +kernel,by decide +kernel]
theorem kj:bX eQ (aj 5) aP:=by rfl
theorem km:FnScope aP.N aP.ps (ag (aj 5)):=#[rfl,rfl,rfl,by decide +kernel,rfl,by decide +kernel,by decide +kernel]
theorem kn:bX eQ (aj 7) aQ:=by rfl
theorem ko:FnScope aQ.N aQ.ps (ag (aj 7)):=#[rfl,rfl,rfl,by decide +kernel,rfl,by decide +kernel,by decide +kernel]
theorem tD:bX eQ (aj 8) b8:=by rfl
theorem tF:FnScope b8.N b8.ps (ag (aj 8)):=#[rfl,rfl,rfl,by decide +kernel,rfl,by decide +kernel,by decide +kernel]
theorem qL:bX eQ (aj 9) bQ:=by rfl
theorem qM:FnScope bQ.N bQ.ps (ag (aj 9)):=#[rfl,rfl,rfl,by decide +kernel,rfl,by decide +kernel,by decide +kernel]
theorem yb:bX eQ (aj 10) dc:=by rfl
theorem yc:FnScope dc.N dc.ps (ag (aj 10)):=#[rfl,rfl,rfl,by decide +kernel,rfl,by decide +kernel,by decide +kernel]
theorem mZ:bX eQ (aj 11) bh:=by rfl
theorem nb:FnScope bh.N bh.ps (ag (aj 11)):=#[rfl,rfl,rfl,by decide +kernel,rfl,by decide +kernel,by decide +kernel]
theorem kq:bX eQ (aj 12) aR:=by rfl
theorem kw:FnScope aR.N aR.ps (ag (aj 12)):=#[rfl,rfl,rfl,by decide +kernel,rfl,by decide +kernel,by decide +kernel]
theorem qN:bX eQ (aj 14) bR:=by rfl
theorem qO:FnScope bR.N bR.ps (ag (aj 14)):=#[rfl,rfl,rfl,by decide +kernel,rfl,by decide +kernel,by decide +kernel]
theorem qP:bX eQ (aj 15) bS:=by rfl
theorem qQ:FnScope bS.N bS.ps (ag (aj 15)):=#[rfl,rfl,rfl,by decide +kernel,rfl,by decide +kernel,by decide +kernel]
theorem ln:bX eQ (aj 16) aZ:=by rfl
theorem lp:FnScope aZ.N aZ.ps (ag (aj 16)):=#[rfl,rfl,rfl,by decide +kernel,rfl,by decide +kernel,by decide +kernel]
theorem qR:bX eQ (aj 17) bT:=by rfl
theorem qS:FnScope bT.N bT.ps (ag (aj 17)):=#[rfl,rfl,rfl,by decide +kernel,rfl,by decide +kernel,by decide +kernel]
theorem nW:bX eQ (aj 18) bB:=by rfl
theorem nX:FnScope bB.N bB.ps (ag (aj 18)):=#[rfl,rfl,rfl,by decide +kernel,rfl,by decide +kernel,by decide +kernel]
theorem lq:bX eQ (aj 19) bc:=by rfl
theorem lr:FnScope bc.N bc.ps (ag (aj 19)):=#[rfl,rfl,rfl,by decide +kernel,rfl,by decide +kernel,by decide +kernel]
theorem qT:bX eQ (aj 20) bU:=by rfl
theorem qU:FnScope bU.N bU.ps (ag (aj 20)):=#[rfl,rfl,rfl,by decide +kernel,rfl,by decide +kernel,by decide +kernel]
theorem nY:bX eQ (aj 21) bC:=by rfl
theorem nZ:FnScope bC.N bC.ps (ag (aj 21)):=#[rfl,rfl,rfl,by decide +kernel,rfl,by decide +kernel,by decide +kernel]
theorem nh:bX eQ (aj 22) bj:=by rfl
theorem ni:FnScope bj.N bj.ps (ag (aj 22)):=#[rfl,rfl,rfl,by decide +kernel,rfl,by decide +kernel,by decide +kernel]
theorem tH:bX eQ (aj 23) cb:=by rfl
theorem tJ:FnScope cb.N cb.ps (ag (aj 23)):=#[rfl,rfl,rfl,by decide +kernel,rfl,by decide +kernel,by decide +kernel]
theorem kz:bX eQ (aj 24) aS:=by rfl
theorem kA:FnScope aS.N aS.ps (ag (aj 24)):=#[rfl,rfl,rfl,by decide +kernel,rfl,by decide +kernel,by decide +kernel]
theorem n0:bX eQ (aj 25) bD:=by rfl
theorem n6:FnScope bD.N bD.ps (ag (aj 25)):=#[rfl,rfl,rfl,by decide +kernel,rfl,by decide +kernel,by decide +kernel]
theorem lu:bX eQ (aj 26) be:=by rfl
theorem lv:FnScope be.N be.ps (ag (aj 26)):=#[rfl,rfl,rfl,by decide +kernel,rfl,by decide +kernel,by decide +kernel]
theorem i5:bX eQ (aj 27) aH:=by rfl
theorem i6:FnScope aH.N aH.ps (ag (aj 27)):=#[rfl,rfl,rfl,by decide +kernel,rfl,by decide +kernel,by decide +kernel]
theorem n8:bX eQ (aj 28) bE:=by rfl
theorem og:FnScope bE.N bE.ps (ag (aj 28)):=#[rfl,rfl,rfl,by decide +kernel,rfl,by decide +kernel,by decide +kernel]
theorem kB:bX eQ (aj 29) aT:=by rfl
theorem kC:FnScope aT.N aT.ps (ag (aj 29)):=#[rfl,rfl,rfl,by decide +kernel,rfl,by decide +kernel,by decide +kernel]
theorem iq:bX eQ (aj 30) aD:=by rfl
theorem ir:FnScope aD.N aD.ps (ag (aj 30)):=#[rfl,rfl,rfl,by decide +kernel,rfl,by decide +kernel,by decide +kernel]
theorem nj:bX eQ (aj 31) bm:=by rfl
theorem nk:FnScope bm.N bm.ps (ag (aj 31)):=#[rfl,rfl,rfl,by decide +kernel,rfl,by decide +kernel,by decide +kernel]
theorem kD:bX eQ (aj 32) aU:=by rfl
theorem kE:FnScope aU.N aU.ps (ag (aj 32)):=#[rfl,rfl,rfl,by decide +kernel,rfl,by decide +kernel,by decide +kernel]
theorem iu:bX eQ (aj 33) aE:=by rfl
theorem iw:FnScope aE.N aE.ps (ag (aj 33)):=#[rfl,rfl,rfl,by decide +kernel,rfl,by decide +kernel,by decide +kernel]
theorem nq:bX eQ (aj 34) bn:=by rfl
theorem nr:FnScope bn.N bn.ps (ag (aj 34)):=#[rfl,rfl,rfl,by decide +kernel,rfl,by decide +kernel,by decide +kernel]
theorem jE:bX eQ (aj 35) aM:=by rfl
theorem jF:FnScope aM.N aM.ps (ag (aj 35)):=#[rfl,rfl,rfl,by decide +kernel,rfl,by decide +kernel,by decide +kernel]
theorem gX:bX eQ (aj 36) ay:=by rfl
theorem gY:FnScope ay.N ay.ps (ag (aj 36)):=#[rfl,rfl,rfl,by decide +kernel,rfl,by decide +kernel,by decide +kernel]
theorem kF:bX eQ (aj 37) aV:=by rfl
theorem kG:FnScope aV.N aV.ps (ag (aj 37)):=#[rfl,rfl,rfl,by decide +kernel,rfl,by decide +kernel,by decide +kernel]
theorem oh:bX eQ (aj 38) bF:=by rfl
theorem ol:FnScope bF.N bF.ps (ag (aj 38)):=#[rfl,rfl,rfl,by decide +kernel,rfl,by decide +kernel,by decide +kernel]
theorem om:bX eQ (aj 39) bG:=by rfl
theorem on:FnScope bG.N bG.ps (ag (aj 39)):=#[rfl,rfl,rfl,by decide +kernel,rfl,by decide +kernel,by decide +kernel]
theorem nu:bX eQ (aj 40) bo:=by rfl
theorem nv:FnScope bo.N bo.ps (ag (aj 40)):=#[rfl,rfl,rfl,by decide +kernel,rfl,by decide +kernel,by decide +kernel]
theorem nw:bX eQ (aj 41) bp:=by rfl
theorem ny:FnScope bp.N bp.ps (ag (aj 41)):=#[rfl,rfl,rfl,by decide +kernel,rfl,by decide +kernel,by decide +kernel]
theorem lw:bX eQ (aj 42) bf:=by rfl
theorem lx:FnScope bf.N bf.ps (ag (aj 42)):=#[rfl,rfl,rfl,by decide +kernel,rfl,by decide +kernel,by decide +kernel]
theorem jG:bX eQ (aj 43) aN:=by rfl
theorem jH:FnScope aN.N aN.ps (ag (aj 43)):=#[rfl,rfl,rfl,by decide +kernel,rfl,by decide +kernel,by decide +kernel]
theorem nz:bX eQ (aj 44) bq:=by rfl
theorem nA:FnScope bq.N bq.ps (ag (aj 44)):=#[rfl,rfl,rfl,by decide +kernel,rfl,by decide +kernel,by decide +kernel]
theorem i7:bX eQ (aj 45) aI:=by rfl
theorem i8:FnScope aI.N aI.ps (ag (aj 45)):=#[rfl,rfl,rfl,by decide +kernel,rfl,by decide +kernel,by decide +kernel]
theorem Bu:bX eQ (aj 46) iI:=by rfl
theorem Bv:FnScope iI.N iI.ps (ag (aj 46)):=#[rfl,rfl,rfl,by decide +kernel,rfl,by decide +kernel,by decide +kernel]
theorem ak {α:Type}{x y:KZ}{n m:α}{L:Kr (KZ×α)}(h:((y,m)::L).lookup x=ba n):(x=y/\n=m)\/L.lookup x=ba n:=by
 rw[MD]at h;split at h
 ·rename_i e;cases h;exact .inl #[eq_of_beq e,rfl]
 ·exact .inr h
theorem Ir:Lw15 lb:=#[#[#[bS,rfl,rfl,rfl,rfl],#[aZ,rfl,rfl,rfl,rfl],#[bT,rfl,rfl,rfl,rfl],#[bB,rfl,rfl,rfl,rfl],#[bc,rfl,rfl,rfl,rfl],#[bU,rfl,rfl,rfl,rfl],#[bC,rfl,rfl,rfl,rfl],#[bj,rfl,rfl,rfl,rfl],#[bD,rfl,rfl,rfl,rfl],#[be,rfl,rfl,rfl,rfl],#[aH,rfl,rfl,rfl,rfl],#[bE,rfl,rfl,rfl,rfl],#[aT,rfl,rfl,rfl,rfl],#[aD,rfl,rfl,rfl,rfl],#[bm,rfl,rfl,rfl,rfl],#[aU,rfl,rfl,rfl,rfl],#[aE,rfl,rfl,rfl,rfl],#[bn,rfl,rfl,rfl,rfl],#[aM,rfl,rfl,rfl,rfl],#[ay,rfl,rfl,rfl,rfl]],#[#[bo,rfl,rfl,rfl,rfl],#[bp,rfl,rfl,rfl,rfl],#[bf,rfl,rfl,rfl,rfl],#[aN,rfl,rfl,rfl,rfl]],#[#[iH,rfl,rfl,rfl,rfl],#[bA,rfl,rfl,rfl,rfl]],#[fS,rfl,rfl,rfl,rfl],#[aP,rfl,rfl,rfl,rfl],#[aQ,rfl,rfl,rfl,rfl],#[b8,rfl,rfl,rfl,rfl],#[bQ,rfl,rfl,rfl,rfl],#[aR,rfl,rfl,rfl,rfl],#[bh,rfl,rfl,rfl,rfl],#[dc,rfl,rfl,rfl,rfl],#[bR,rfl,rfl,rfl,rfl],#[bG,rfl,rfl,rfl,rfl],#[cb,rfl,rfl,rfl,rfl],#[aV,rfl,rfl,rfl,rfl],#[bF,rfl,rfl,rfl,rfl],#[aS,rfl,rfl,rfl,rfl],#[bq,rfl,rfl,rfl,rfl],#[aI,rfl,rfl,rfl,rfl],#[iI,rfl,rfl,rfl,rfl]]
noncomputable def BD (x:KZ)(st:No)(df:Df):Prop:=∀(kV doc pm:Ku) (an:Kz KF) (cdv ct:Ku) (us:Kr Ku),us.length=df.ps.length->bindArgs (MS x x (eG st) (dC st) (ag st) .none kV doc pm an cdv ct) #[us,[]]=pure (df.ps.zip us)
theorem Km {us:Kr Ku}(h:us.length=0):us=[]:=match us,h with|[],_=>rfl
theorem wo {us:Kr Ku}(h:us.length=1):∃a,us=[a]:=match us,h with|[a],_=>#[a,rfl]
theorem yd {us:Kr Ku}(h:us.length=2):∃a b,us=[a,b]:=match us,h with|[a,b],_=>#[a,b,rfl]
theorem Gv {us:Kr Ku}(h:us.length=3):∃a b c,us=[a,b,c]:=match us,h with|[a,b,c],_=>#[a,b,c,rfl]
theorem Gj {us:Kr Ku}(h:us.length=4):∃a b c d,us=[a,b,c,d]:=match us,h with|[a,b,c,d],_=>#[a,b,c,d,rfl]
theorem Kn {us:Kr Ku}(h:us.length=5):∃a b c d e,us=[a,b,c,d,e]:=match us,h with|[a,b,c,d,e],_=>#[a,b,c,d,e,rfl]
theorem Ko {us:Kr Ku}(h:us.length=6):∃a b c d e f,us=[a,b,c,d,e,f]:=match us,h with|[a,b,c,d,e,f],_=>#[a,b,c,d,e,f,rfl]
theorem Gk:BD "way" (aj 1) iH:=λ_ _ _ _ _ _ us h=>by
 obtain⟨x0,x1,x2,x3,rfl⟩:=Gj h;rfl
theorem DP:BD "part" (aj 3) fS:=λ_ _ _ _ _ _ us h=>by
 obtain⟨x0,x1,x2,rfl⟩:=Gv h;rfl
theorem oo:BD "point_over" (aj 4) bA:=λ_ _ _ _ _ _ us h=>by
 obtain⟨x0,x1,x2,x3,rfl⟩:=Gj h;rfl
theorem kH:BD "longer_orders" (aj 5) aP:=λ_ _ _ _ _ _ us h=>by
 obtain⟨x0,x1,rfl⟩:=yd h;rfl
theorem kI:BD "barred_threes" (aj 7) aQ:=λ_ _ _ _ _ _ us h=>by
 obtain⟨x0,rfl⟩:=wo h;rfl
theorem tK:BD "three_at" (aj 8) b8:=λ_ _ _ _ _ _ us h=>by
 obtain⟨x0,x1,x2,x3,rfl⟩:=Gj h;rfl
theorem qV:BD "first_bar" (aj 9) bQ:=λ_ _ _ _ _ _ us h=>by
 obtain⟨x0,x1,rfl⟩:=yd h;rfl
theorem ye:BD "wishes" (aj 10) dc:=λ_ _ _ _ _ _ us h=>by
 obtain⟨x0,x1,rfl⟩:=yd h;rfl
theorem nB:BD "wishes_over" (aj 11) bh:=λ_ _ _ _ _ _ us h=>by
 obtain⟨x0,x1,x2,rfl⟩:=Gv h;rfl
theorem kJ:BD "longer_wishes" (aj 12) aR:=λ_ _ _ _ _ _ us h=>by
 obtain⟨x0,x1,rfl⟩:=yd h;rfl
theorem qW:BD "_law_flow" (aj 14) bR:=λ_ _ _ _ _ _ us h=>by
 obtain⟨x0,rfl⟩:=wo h;rfl
theorem qX:BD "_law_pick" (aj 15) bS:=λ_ _ _ _ _ _ us h=>by
 obtain⟨x0,x1,rfl⟩:=yd h;rfl
theorem ly:BD "_law_letters" (aj 16) aZ:=λ_ _ _ _ _ _ us h=>by
 obtain⟨x0,x1,rfl⟩:=yd h;rfl
theorem qY:BD "_law_name" (aj 17) bT:=λ_ _ _ _ _ _ us h=>by
 obtain⟨x0,x1,rfl⟩:=yd h;rfl
theorem oq:BD "_law_names" (aj 18) bB:=λ_ _ _ _ _ _ us h=>by
 obtain⟨x0,x1,rfl⟩:=yd h;rfl
theorem lz:BD "_law_between" (aj 19) bc:=λ_ _ _ _ _ _ us h=>by
 obtain⟨x0,x1,x2,x3,rfl⟩:=Gj h;rfl
theorem qZ:BD "_law_part" (aj 20) bU:=λ_ _ _ _ _ _ us h=>by
 obtain⟨x0,x1,x2,rfl⟩:=Gv h;rfl
theorem ou:BD "_law_turns" (aj 21) bC:=λ_ _ _ _ _ _ us h=>by
 obtain rfl:=Km h;rfl
theorem nC:BD "_law_figure" (aj 22) bj:=λ_ _ _ _ _ _ us h=>by
 obtain⟨x0,x1,rfl⟩:=yd h;rfl
theorem tL:BD "_law_bad" (aj 23) cb:=λ_ _ _ _ _ _ us h=>by
 obtain⟨x0,rfl⟩:=wo h;rfl
theorem kK:BD "_law_last_may" (aj 24) aS:=λ_ _ _ _ _ _ us h=>by
 obtain⟨x0,x1,x2,x3,rfl⟩:=Gj h;rfl
theorem ow:BD "_law_backs" (aj 25) bD:=λ_ _ _ _ _ _ us h=>by
 obtain⟨x0,x1,rfl⟩:=yd h;rfl
theorem lA:BD "_law_rule_of" (aj 26) be:=λ_ _ _ _ _ _ us h=>by
 obtain⟨x0,x1,x2,x3,rfl⟩:=Gj h;rfl
theorem i9:BD "_law_free_three" (aj 27) aH:=λ_ _ _ _ _ _ us h=>by
 obtain⟨x0,x1,x2,rfl⟩:=Gv h;rfl
theorem ox:BD "_law_sizes" (aj 28) bE:=λ_ _ _ _ _ _ us h=>by
 obtain⟨x0,rfl⟩:=wo h;rfl
theorem kL:BD "_law_any_rule" (aj 29) aT:=λ_ _ _ _ _ _ us h=>by
 obtain⟨x0,rfl⟩:=wo h;rfl
theorem iy:BD "_law_laying_kind" (aj 30) aD:=λ_ _ _ _ _ _ us h=>by
 obtain⟨x0,rfl⟩:=wo h;rfl
theorem nD:BD "_law_breaks" (aj 31) bm:=λ_ _ _ _ _ _ us h=>by
 obtain⟨x0,x1,x2,x3,x4,rfl⟩:=Kn h;rfl
theorem kM:BD "_law_numbered" (aj 32) aU:=λ_ _ _ _ _ _ us h=>by
 obtain⟨x0,x1,x2,rfl⟩:=Gv h;rfl
theorem iz:BD "_law_laying_rule" (aj 33) aE:=λ_ _ _ _ _ _ us h=>by
 obtain⟨x0,rfl⟩:=wo h;rfl
theorem nE:BD "_law_rising" (aj 34) bn:=λ_ _ _ _ _ _ us h=>by
 obtain⟨x0,rfl⟩:=wo h;rfl
theorem jI:BD "_law_free_rule" (aj 35) aM:=λ_ _ _ _ _ _ us h=>by
 obtain⟨x0,rfl⟩:=wo h;rfl
theorem gZ:BD "_law_one_way_rule" (aj 36) ay:=λ_ _ _ _ _ _ us h=>by
 obtain⟨x0,rfl⟩:=wo h;rfl
theorem kN:BD "_law_new_ways" (aj 37) aV:=λ_ _ _ _ _ _ us h=>by
 obtain⟨x0,x1,x2,x3,x4,x5,rfl⟩:=Ko h;rfl
theorem oy:BD "_law_world" (aj 38) bF:=λ_ _ _ _ _ _ us h=>by
 obtain⟨x0,x1,x2,x3,rfl⟩:=Gj h;rfl
theorem oz:BD "_law_alike" (aj 39) bG:=λ_ _ _ _ _ _ us h=>by
 obtain⟨x0,x1,rfl⟩:=yd h;rfl
theorem nF:BD "_law_digits" (aj 40) bo:=λ_ _ _ _ _ _ us h=>by
 obtain⟨x0,x1,rfl⟩:=yd h;rfl
theorem nG:BD "_law_worlds" (aj 41) bp:=λ_ _ _ _ _ _ us h=>by
 obtain⟨x0,x1,rfl⟩:=yd h;rfl
theorem lB:BD "_law_figures" (aj 42) bf:=λ_ _ _ _ _ _ us h=>by
 obtain⟨x0,rfl⟩:=wo h;rfl
theorem jJ:BD "_law_full_rule" (aj 43) aN:=λ_ _ _ _ _ _ us h=>by
 obtain⟨x0,rfl⟩:=wo h;rfl
theorem nH:BD "_law_wishes" (aj 44) bq:=λ_ _ _ _ _ _ us h=>by
 obtain⟨x0,x1,x2,rfl⟩:=Gv h;rfl
theorem ja:BD "_law_other_rule" (aj 45) aI:=λ_ _ _ _ _ _ us h=>by
 obtain⟨x0,rfl⟩:=wo h;rfl
theorem Gm:BD "law" (aj 46) iI:=λ_ _ _ _ _ _ us h=>by
 obtain⟨x0,rfl⟩:=wo h;rfl
section
variable{P:Lk}{w:Lz}{K:KM}{mg:KZ->Kz Ku}{base:LI}
noncomputable def ap (K:KM)(mg:KZ->Kz Ku)(x:KZ)(st:No)(df:Df):Prop:=∃(f:KF) (fd:Na),Fun K x x st f fd/\mg x=ba (.ref f)/\Mn K (.ref f)=true/\Binds K fd df.ps []
theorem Bw {h:LI}{x:KZ}{st:No}{df:Df}{f:KF}{oc:Ku}{od an:Kz KF}{osl:Lg (Kz Ku)}{kV doc pm cdv ct:Ku}(X:K.In h)(G:h.Ns mainGlobals mg)
  (b:BD x st df)
  (a:Mc K mainGlobals x=ba (ba (.ref f))) (l:K.lookup f=ba #[oc,od,.func (MS x x (eG st) (dC st) (ag st) .none kV doc pm an cdv ct),osl]) (c:NO K cdv x=true) (k:Mn K (.ref f)=true):ap K mg x st df:=
 have F:=yL (st:=st) l c k
 #[f,_,F,Tb X G a,k,F.binds b]
theorem Bx {fuel:KC}(hb:MdOk w K mg eQ)(D:∀x n,DM.lookup x=ba n->∃st df,lb.lookup x=ba df/\df.ps.length=n/\FnScope df.N df.ps (ag st)/\bX eQ st df/\ap K mg x st df):∀d,D2 P w K mg base eQ lb fuel d
 | 0=>λf n h=>by
  obtain⟨st,df,h1,h2,h3,h4,fa,fd,F,m,kp,b⟩:=D f n h;refine#[fa,fd,df.ps,#[λvs H Q E z=>?_,λA outer s H args us vs Q E hr he hbd hv z=>?_],m,kp,b]
  all_goals
   obtain⟨_,_,_,_,_,_,_,_,z,_⟩:=z;cases z
 | d+1=>λf n h=>by
  obtain⟨st,df,h1,h2,h3,h4,fa,fd,F,m,kp,b⟩:=D f n h;refine#[fa,fd,df.ps,?_,m,kp,b];rw[<- h2];exact D6 F h3 h1 h4 hb (Bx hb D d)
theorem Iu (D1:ap K mg "way" (aj 1) iH)(D3:ap K mg "part" (aj 3) fS)(D4:ap K mg "point_over" (aj 4) bA)(D5:ap K mg "longer_orders" (aj 5) aP)(D7:ap K mg "barred_threes" (aj 7) aQ)(D8:ap K mg "three_at" (aj 8) b8)(D9:ap K mg "first_bar" (aj 9) bQ)(D10:ap K mg "wishes" (aj 10) dc)(D11:ap K mg "wishes_over" (aj 11) bh)(D12:ap K mg "longer_wishes" (aj 12) aR)(D14:ap K mg "_law_flow" (aj 14) bR)(D15:ap K mg "_law_pick" (aj 15) bS)(D16:ap K mg "_law_letters" (aj 16) aZ)(D17:ap K mg "_law_name" (aj 17) bT)(D18:ap K mg "_law_names" (aj 18) bB)(D19:ap K mg "_law_between" (aj 19) bc)(D20:ap K mg "_law_part" (aj 20) bU)(D21:ap K mg "_law_turns" (aj 21) bC)(D22:ap K mg "_law_figure" (aj 22) bj)(D23:ap K mg "_law_bad" (aj 23) cb)(D24:ap K mg "_law_last_may" (aj 24) aS)(D25:ap K mg "_law_backs" (aj 25) bD)(D26:ap K mg "_law_rule_of" (aj 26) be)(D27:ap K mg "_law_free_three" (aj 27) aH)(D28:ap K mg "_law_sizes" (aj 28) bE)(D29:ap K mg "_law_any_rule" (aj 29) aT)(D30:ap K mg "_law_laying_kind" (aj 30) aD)(D31:ap K mg "_law_breaks" (aj 31) bm)(D32:ap K mg "_law_numbered" (aj 32) aU)(D33:ap K mg "_law_laying_rule" (aj 33) aE)(D34:ap K mg "_law_rising" (aj 34) bn)(D35:ap K mg "_law_free_rule" (aj 35) aM)(D36:ap K mg "_law_one_way_rule" (aj 36) ay)(D37:ap K mg "_law_new_ways" (aj 37) aV)(D38:ap K mg "_law_world" (aj 38) bF)(D39:ap K mg "_law_alike" (aj 39) bG)(D40:ap K mg "_law_digits" (aj 40) bo)(D41:ap K mg "_law_worlds" (aj 41) bp)(D42:ap K mg "_law_figures" (aj 42) bf)(D43:ap K mg "_law_full_rule" (aj 43) aN)(D44:ap K mg "_law_wishes" (aj 44) bq)(D45:ap K mg "_law_other_rule" (aj 45) aI)(D46:ap K mg "law" (aj 46) iI):∀x n,DM.lookup x=ba n->∃st df,lb.lookup x=ba df/\df.ps.length=n/\FnScope df.N df.ps (ag st)/\bX eQ st df/\ap K mg x st df:=by
 intro x n h;unfold DM at h;rcases ak h with⟨rfl,rfl⟩|h
 ·exact#[aj 1,iH,by rfl,rfl,Gi,Gh,D1]
 rcases ak h with⟨rfl,rfl⟩|h
 ·exact#[aj 3,fS,by rfl,rfl,DO,DN,D3]
 rcases ak h with⟨rfl,rfl⟩|h
 ·exact#[aj 4,bA,by rfl,rfl,nV,nU,D4]
 rcases ak h with⟨rfl,rfl⟩|h
 ·exact#[aj 5,aP,by rfl,rfl,km,kj,D5]
 rcases ak h with⟨rfl,rfl⟩|h
 ·exact#[aj 7,aQ,by rfl,rfl,ko,kn,D7]
 rcases ak h with⟨rfl,rfl⟩|h
 ·exact#[aj 8,b8,by rfl,rfl,tF,tD,D8]
 rcases ak h with⟨rfl,rfl⟩|h
 ·exact#[aj 9,bQ,by rfl,rfl,qM,qL,D9]
 rcases ak h with⟨rfl,rfl⟩|h
 ·exact#[aj 10,dc,by rfl,rfl,yc,yb,D10]
 rcases ak h with⟨rfl,rfl⟩|h
 ·exact#[aj 11,bh,by rfl,rfl,nb,mZ,D11]
 rcases ak h with⟨rfl,rfl⟩|h
 ·exact#[aj 12,aR,by rfl,rfl,kw,kq,D12]
 rcases ak h with⟨rfl,rfl⟩|h
 ·exact#[aj 14,bR,by rfl,rfl,qO,qN,D14]
 rcases ak h with⟨rfl,rfl⟩|h
 ·exact#[aj 15,bS,by rfl,rfl,qQ,qP,D15]
 rcases ak h with⟨rfl,rfl⟩|h
 ·exact#[aj 16,aZ,by rfl,rfl,lp,ln,D16]
 rcases ak h with⟨rfl,rfl⟩|h
 ·exact#[aj 17,bT,by rfl,rfl,qS,qR,D17]
 rcases ak h with⟨rfl,rfl⟩|h
 ·exact#[aj 18,bB,by rfl,rfl,nX,nW,D18]
 rcases ak h with⟨rfl,rfl⟩|h
 ·exact#[aj 19,bc,by rfl,rfl,lr,lq,D19]
 rcases ak h with⟨rfl,rfl⟩|h
 ·exact#[aj 20,bU,by rfl,rfl,qU,qT,D20]
 rcases ak h with⟨rfl,rfl⟩|h
 ·exact#[aj 21,bC,by rfl,rfl,nZ,nY,D21]
 rcases ak h with⟨rfl,rfl⟩|h
 ·exact#[aj 22,bj,by rfl,rfl,ni,nh,D22]
 rcases ak h with⟨rfl,rfl⟩|h
 ·exact#[aj 23,cb,by rfl,rfl,tJ,tH,D23]
 rcases ak h with⟨rfl,rfl⟩|h
 ·exact#[aj 24,aS,by rfl,rfl,kA,kz,D24]
 rcases ak h with⟨rfl,rfl⟩|h
 ·exact#[aj 25,bD,by rfl,rfl,n6,n0,D25]
 rcases ak h with⟨rfl,rfl⟩|h
 ·exact#[aj 26,be,by rfl,rfl,lv,lu,D26]
 rcases ak h with⟨rfl,rfl⟩|h
 ·exact#[aj 27,aH,by rfl,rfl,i6,i5,D27]
 rcases ak h with⟨rfl,rfl⟩|h
 ·exact#[aj 28,bE,by rfl,rfl,og,n8,D28]
 rcases ak h with⟨rfl,rfl⟩|h
 ·exact#[aj 29,aT,by rfl,rfl,kC,kB,D29]
 rcases ak h with⟨rfl,rfl⟩|h
 ·exact#[aj 30,aD,by rfl,rfl,ir,iq,D30]
 rcases ak h with⟨rfl,rfl⟩|h
 ·exact#[aj 31,bm,by rfl,rfl,nk,nj,D31]
 rcases ak h with⟨rfl,rfl⟩|h
 ·exact#[aj 32,aU,by rfl,rfl,kE,kD,D32]
 rcases ak h with⟨rfl,rfl⟩|h
 ·exact#[aj 33,aE,by rfl,rfl,iw,iu,D33]
 rcases ak h with⟨rfl,rfl⟩|h
 ·exact#[aj 34,bn,by rfl,rfl,nr,nq,D34]
 rcases ak h with⟨rfl,rfl⟩|h
 ·exact#[aj 35,aM,by rfl,rfl,jF,jE,D35]
 rcases ak h with⟨rfl,rfl⟩|h
 ·exact#[aj 36,ay,by rfl,rfl,gY,gX,D36]
 rcases ak h with⟨rfl,rfl⟩|h
 ·exact#[aj 37,aV,by rfl,rfl,kG,kF,D37]
 rcases ak h with⟨rfl,rfl⟩|h
 ·exact#[aj 38,bF,by rfl,rfl,ol,oh,D38]
 rcases ak h with⟨rfl,rfl⟩|h
 ·exact#[aj 39,bG,by rfl,rfl,on,om,D39]
 rcases ak h with⟨rfl,rfl⟩|h
 ·exact#[aj 40,bo,by rfl,rfl,nv,nu,D40]
 rcases ak h with⟨rfl,rfl⟩|h
 ·exact#[aj 41,bp,by rfl,rfl,ny,nw,D41]
 rcases ak h with⟨rfl,rfl⟩|h
 ·exact#[aj 42,bf,by rfl,rfl,lx,lw,D42]
 rcases ak h with⟨rfl,rfl⟩|h
 ·exact#[aj 43,aN,by rfl,rfl,jH,jG,D43]
 rcases ak h with⟨rfl,rfl⟩|h
 ·exact#[aj 44,bq,by rfl,rfl,nA,nz,D44]
 rcases ak h with⟨rfl,rfl⟩|h
 ·exact#[aj 45,aI,by rfl,rfl,i8,i7,D45]
 rcases ak h with⟨rfl,rfl⟩|h
 ·exact#[aj 46,iI,by rfl,rfl,Bv,Bu,D46]
 cases h
theorem Iv {h:LI}(X:K.In h)(G:h.Ns mainGlobals mg)(z0:Mc K mainGlobals "range" = ba gV)(z1:Mc K mainGlobals "len" = ba gV)(z2:Mc K mainGlobals "list" = ba gV)(z3:Mc K mainGlobals "tuple" = ba gV)(z4:Mc K mainGlobals "int" = ba gV)(z5:Mc K mainGlobals "set" = ba gV)(z6:Mc K mainGlobals "sorted" = ba gV)(z7:Mc K mainGlobals "isinstance" = ba gV)(z8:Mc K mainGlobals "bool" = ba gV)(z9:Mc K mainGlobals "str" = ba gV)(z10:Mc K mainGlobals "all" = ba gV)(z11:Mc K mainGlobals "min" = ba gV)(z12:Mc K mainGlobals "enumerate" = ba gV):MdOk w K mg eQ:=by
 refine#[?_];show ∀y∈Gg,mg y=gV;intro y hy;unfold Gg at hy;simp only[Le,LP,Nb]at hy;rcases hy with rfl|rfl|rfl|rfl|rfl|rfl|rfl|rfl|rfl|rfl|rfl|rfl|rfl
 ·exact LX X G z0
 ·exact LX X G z1
 ·exact LX X G z2
 ·exact LX X G z3
 ·exact LX X G z4
 ·exact LX X G z5
 ·exact LX X G z6
 ·exact LX X G z7
 ·exact LX X G z8
 ·exact LX X G z9
 ·exact LX X G z10
 ·exact LX X G z11
 ·exact LX X G z12
end
theorem Gn {l:P6}{w:Lz}{K:KM}{h:LI}{mg:KZ->Kz Ku}{fa f:KF}(X:K.In h)(G:h.Ns mainGlobals mg)(hfa:mg "law" = ba (.ref fa))(hb:MdOk w K mg eQ)
  (D1:ap K mg "way" (aj 1) iH) (D3:ap K mg "part" (aj 3) fS) (D4:ap K mg "point_over" (aj 4) bA) (D5:ap K mg "longer_orders" (aj 5) aP) (D7:ap K mg "barred_threes" (aj 7) aQ) (D8:ap K mg "three_at" (aj 8) b8) (D9:ap K mg "first_bar" (aj 9) bQ) (D10:ap K mg "wishes" (aj 10) dc) (D11:ap K mg "wishes_over" (aj 11) bh) (D12:ap K mg "longer_wishes" (aj 12) aR) (D14:ap K mg "_law_flow" (aj 14) bR) (D15:ap K mg "_law_pick" (aj 15) bS) (D16:ap K mg "_law_letters" (aj 16) aZ) (D17:ap K mg "_law_name" (aj 17) bT) (D18:ap K mg "_law_names" (aj 18) bB) (D19:ap K mg "_law_between" (aj 19) bc) (D20:ap K mg "_law_part" (aj 20) bU) (D21:ap K mg "_law_turns" (aj 21) bC) (D22:ap K mg "_law_figure" (aj 22) bj) (D23:ap K mg "_law_bad" (aj 23) cb) (D24:ap K mg "_law_last_may" (aj 24) aS) (D25:ap K mg "_law_backs" (aj 25) bD) (D26:ap K mg "_law_rule_of" (aj 26) be) (D27:ap K mg "_law_free_three" (aj 27) aH) (D28:ap K mg "_law_sizes" (aj 28) bE) (D29:ap K mg "_law_any_rule" (aj 29) aT) (D30:ap K mg "_law_laying_kind" (aj 30) aD) (D31:ap K mg "_law_breaks" (aj 31) bm) (D32:ap K mg "_law_numbered" (aj 32) aU) (D33:ap K mg "_law_laying_rule" (aj 33) aE) (D34:ap K mg "_law_rising" (aj 34) bn) (D35:ap K mg "_law_free_rule" (aj 35) aM) (D36:ap K mg "_law_one_way_rule" (aj 36) ay) (D37:ap K mg "_law_new_ways" (aj 37) aV) (D38:ap K mg "_law_world" (aj 38) bF) (D39:ap K mg "_law_alike" (aj 39) bG) (D40:ap K mg "_law_digits" (aj 40) bo) (D41:ap K mg "_law_worlds" (aj 41) bp) (D42:ap K mg "_law_figures" (aj 42) bf) (D43:ap K mg "_law_full_rule" (aj 43) aN) (D44:ap K mg "_law_wishes" (aj 44) bq) (D45:ap K mg "_law_other_rule" (aj 45) aI)
  {oc:Ku} {od an:Kz KF} {osl:Lg (Kz Ku)} {kV doc pm cdv ct:Ku} (a:Mc K mainGlobals "law" = ba (ba (.ref f))) (l':K.lookup f=ba #[oc,od,.func (MS "law" "law" (eG (aj 46)) (dC (aj 46)) (ag (aj 46)) .none kV doc pm an cdv ct),osl]) (c:NO K cdv "law" = true) (k:Mn K (.ref f)=true) :
  ∃fd:Na,(∀(s:Kx) (v:Ku),Rm s fd #[[v],[]] [("_law_script",v)])/\∀base:LI,K.In base->base.Ns mainGlobals mg->FnOk l.prog w K mg base yg 9 fa fd ["_law_script"] (zN w K 1 (ar lb 100 9 "law")):=by
 have e:=hfa.symm.trans (Tb X G a);cases e;have D46:ap K mg "law" (aj 46) iI:=Bw X G Gm a l' c k;have F:=yL (st:=aj 46) l' c k;exact#[MS "law" "law" (eG (aj 46)) (dC (aj 46)) (ag (aj 46)) .none kV doc pm an cdv ct,λs v=>.of_eq rfl,λbase _ _=>D6 (df:=iI) F Bv (by rfl) Bu hb (Bx hb (Iu D1 D3 D4 D5 D7 D8 D9 D10 D11 D12 D14 D15 D16 D17 D18 D19 D20 D21 D22 D23 D24 D25 D26 D27 D28 D29 D30 D31 D32 D33 D34 D35 D36 D37 D38 D39 D40 D41 D42 D43 D44 D45 D46) 8)]
theorem J3 {l:P6}{q:Lk}{loose:Kr KZ}{XP:(KZ->Kz Ku)->LI->Prop}{YP:Lz->LI->Prop}{d:DefRec}{K:Sr->KM}(hn:l.most=ba 63)(hdf:d.params.defaults=[])
  (hY:∀(w:Lz) (h:LI),YP w h->(K w.params).In h)
  (F:∀(w:Lz) (mg:KZ->Kz Ku) (fa:KF) (h:LI),(K w.params).In h->h.Ns mainGlobals mg->mg d.name=ba (.ref fa)->
   ∃fd:Na,(∀(s:Kx) (u:Ku),Rm s fd #[[u],[]] [("_law_script",u)])/\∀base:LI,(K w.params).In base->base.Ns mainGlobals mg->FnOk l.prog w (K w.params) mg base yg 9 fa fd ["_law_script"] (zN w (K w.params) 1 (ar lb 100 9 "law"))) :
  SO q loose XP YP l.row.toRowW d [] (λf vs=>Su f vs):=
 L2.B2 (n:=63) (k:=9) (x:="_law_script") (CX:=λ_=>yg) (sp:=λw=>zN w (K w.params) 1 (ar lb 100 9 "law")) hn #v[] hdf #[rfl,#v[],#v[]] hY F
  (λw H a ns hl hO hS=>FJ (Bt (defs:=lb) (fuel:=100) (d:=0) #v[] Ir) hO hS) λ_ _ _ _ _ z=>z
end Mi
open PySem PySem.W PyProof.Rows L2
set_option maxHeartbeats 0
namespace Mi
section
noncomputable def pw:Lk:=PN
noncomputable def ge (P:Sr)(n:KZ)(t:KC)(v:Ku):M2:=#[PyData.keyHash P n,.str n t,v]
noncomputable def kd (a:KC)(es:Kr M2)(n:KC):KF×Mp:=(a,#[.type "dict",gV,.dict es.toArray n,#[]])
noncomputable def kt (a:KC)(c:Ku)(vs:Kr Ku)(n:KC):KF×Mp:=(a,#[c,gV,.seq vs.toArray n,#[]])
noncomputable def kc (a:KC)(vs:Kr Ku):KF×Mp:=(a,#[.type "code",gV,.fields vs.toArray,#[]])
noncomputable def kf (a:KC)(st:No)(n:KZ)(pm cd:Ku):KF×Mp:=(a,#[.type "function",gV,.func (MS n n (eG st) (dC st) (ag st) .none .none .none pm gV cd .none),#[]])
noncomputable def K0 (P:Sr):KM:=[kd 3 [ge P "__name__" 165 (.str "law_layworld_k15_wishes_told" 274),ge P "__doc__" 166 .none,ge P "__package__" 167 .none,ge P "__loader__" 168 (.builtin "__main__.__loader__#opaque"),ge P "__spec__" 169 .none,ge P "__annotations__" 170 (.ref 6),ge P "__builtins__" 171 (.ref 4),ge P "__file__" 173 (.str "/claim/cut.py" 172),ge P "__cached__" 174 .none,ge P "way" 198 (.ref 21),ge P "part" 206 (.ref 26),ge P "point_over" 212 (.ref 31),ge P "longer_orders" 218 (.ref 36),ge P "barred_threes" 231 (.ref 43),ge P "three_at" 243 (.ref 50),ge P "first_bar" 253 (.ref 57),ge P "wishes" 261 (.ref 64),ge P "wishes_over" 267 (.ref 69),ge P "longer_wishes" 273 (.ref 74),ge P "_law_flow" 282 (.ref 81),ge P "_law_pick" 292 (.ref 88),ge P "_law_letters" 298 (.ref 93),ge P "_law_name" 307 (.ref 100),ge P "_law_names" 320 (.ref 107),ge P "_law_between" 330 (.ref 114),ge P "_law_part" 336 (.ref 119),ge P "_law_turns" 342 (.ref 126),ge P "_law_figure" 348 (.ref 131),ge P "_law_bad" 358 (.ref 138),ge P "_law_last_may" 372 (.ref 145),ge P "_law_backs" 381 (.ref 152),ge P "_law_rule_of" 387 (.ref 157),ge P "_law_free_three" 393 (.ref 162),ge P "_law_sizes" 401 (.ref 169),ge P "_law_any_rule" 413 (.ref 176),ge P "_law_laying_kind" 421 (.ref 183),ge P "_law_breaks" 437 (.ref 190),ge P "_law_numbered" 443 (.ref 195),ge P "_law_laying_rule" 464 (.ref 202),ge P "_law_rising" 470 (.ref 207),ge P "_law_free_rule" 476 (.ref 212),ge P "_law_one_way_rule" 482 (.ref 217),ge P "_law_new_ways" 499 (.ref 224),ge P "_law_world" 513 (.ref 231),ge P "_law_alike" 519 (.ref 236),ge P "_law_digits" 525 (.ref 241),ge P "_law_worlds" 531 (.ref 246),ge P "_law_figures" 537 (.ref 251),ge P "_law_full_rule" 543 (.ref 256),ge P "_law_wishes" 555 (.ref 263),ge P "_law_other_rule" 561 (.ref 268),ge P "law" 576 (.ref 275)] 52,
 kc 20 [(.str "way" 189),(.str "way" 190),(.str "/claim/cut.py" 191),(.int 2 0),(.int 4 0),(.int 0 0),(.int 0 0),(.int 3 0),(.ref 15),(.bool true),(.int 181 0),(.ref 16),.none,(.ref 17),(.ref 18),(.ref 19),(.int 196 0),(.int 2 0),(.str "/claim/cut.py" 197)],
 kf 21 (aj 1) "way" (.str "layworld.worlds" 187) (.ref 20),
 kc 25 [(.str "part" 201),(.str "part" 202),(.str "/claim/cut.py" 203),(.int 7 0),(.int 3 0),(.int 0 0),(.int 0 0),(.int 3 0),(.ref 22),(.bool true),(.int 181 0),(.ref 23),.none,.none,.none,(.ref 24),(.int 204 0),(.int 7 0),(.str "/claim/cut.py" 205)],
 kf 26 (aj 3) "part" (.str "layworld.parts" 199) (.ref 25),
 kc 30 [(.str "point_over" 207),(.str "point_over" 208),(.str "/claim/cut.py" 209),(.int 9 0),(.int 4 0),(.int 0 0),(.int 0 0),(.int 3 0),(.ref 27),(.bool true),(.int 181 0),(.ref 28),.none,.none,.none,(.ref 29),(.int 210 0),(.int 9 0),(.str "/claim/cut.py" 211)],
 kf 31 (aj 4) "point_over" (.str "layworld.parts" 199) (.ref 30),
 kc 35 [(.str "longer_orders" 213),(.str "longer_orders" 214),(.str "/claim/cut.py" 215),(.int 11 0),(.int 2 0),(.int 0 0),(.int 0 0),(.int 3 0),(.ref 32),(.bool true),(.int 181 0),(.ref 33),.none,.none,.none,(.ref 34),(.int 216 0),(.int 11 0),(.str "/claim/cut.py" 217)],
 kf 36 (aj 5) "longer_orders" (.str "layworld.parts" 199) (.ref 35),
 kc 42 [(.str "barred_threes" 221),(.str "barred_threes" 222),(.str "/claim/cut.py" 223),(.int 17 0),(.int 1 0),(.int 0 0),(.int 0 0),(.int 3 0),(.ref 37),(.bool true),(.int 181 0),(.ref 38),.none,(.ref 39),(.ref 40),(.ref 41),(.int 229 0),(.int 17 0),(.str "/claim/cut.py" 230)],
 kf 43 (aj 7) "barred_threes" (.str "layworld.threes" 219) (.ref 42),
 kc 49 [(.str "three_at" 232),(.str "three_at" 233),(.str "/claim/cut.py" 234),(.int 26 0),(.int 4 0),(.int 0 0),(.int 0 0),(.int 3 0),(.ref 44),(.bool true),(.int 181 0),(.ref 45),.none,(.ref 46),(.ref 47),(.ref 48),(.int 241 0),(.int 26 0),(.str "/claim/cut.py" 242)],
 kf 50 (aj 8) "three_at" (.str "layworld.threes" 219) (.ref 49),
 kc 56 [(.str "first_bar" 244),(.str "first_bar" 245),(.str "/claim/cut.py" 246),(.int 30 0),(.int 2 0),(.int 0 0),(.int 0 0),(.int 3 0),(.ref 51),(.bool true),(.int 181 0),(.ref 52),.none,(.ref 53),(.ref 54),(.ref 55),(.int 251 0),(.int 30 0),(.str "/claim/cut.py" 252)],
 kf 57 (aj 9) "first_bar" (.str "layworld.threes" 219) (.ref 56),
 kc 63 [(.str "wishes" 254),(.str "wishes" 255),(.str "/claim/cut.py" 256),(.int 36 0),(.int 2 0),(.int 0 0),(.int 0 0),(.int 3 0),(.ref 58),(.bool true),(.int 181 0),(.ref 59),.none,(.ref 60),(.ref 61),(.ref 62),(.int 259 0),(.int 36 0),(.str "/claim/cut.py" 260)],
 kf 64 (aj 10) "wishes" (.str "layworld.threes" 219) (.ref 63),
 kc 68 [(.str "wishes_over" 262),(.str "wishes_over" 263),(.str "/claim/cut.py" 264),(.int 38 0),(.int 3 0),(.int 0 0),(.int 0 0),(.int 3 0),(.ref 65),(.bool true),(.int 181 0),(.ref 66),.none,.none,.none,(.ref 67),(.int 265 0),(.int 38 0),(.str "/claim/cut.py" 266)],
 kf 69 (aj 11) "wishes_over" (.str "layworld.threes" 219) (.ref 68),
 kc 73 [(.str "longer_wishes" 268),(.str "longer_wishes" 269),(.str "/claim/cut.py" 270),(.int 46 0),(.int 2 0),(.int 0 0),(.int 0 0),(.int 3 0),(.ref 70),(.bool true),(.int 181 0),(.ref 71),.none,.none,.none,(.ref 72),(.int 271 0),(.int 46 0),(.str "/claim/cut.py" 272)],
 kf 74 (aj 12) "longer_wishes" (.str "layworld.threes" 219) (.ref 73),
 kc 80 [(.str "_law_flow" 276),(.str "_law_flow" 277),(.str "/claim/cut.py" 278),(.int 52 0),(.int 1 0),(.int 0 0),(.int 0 0),(.int 3 0),(.ref 75),(.bool true),(.int 181 0),(.ref 76),.none,(.ref 77),(.ref 78),(.ref 79),(.int 280 0),(.int 52 0),(.str "/claim/cut.py" 281)],
 kf 81 (aj 14) "_law_flow" (.str "law_layworld_k15_wishes_told" 274) (.ref 80),
 kc 87 [(.str "_law_pick" 283),(.str "_law_pick" 284),(.str "/claim/cut.py" 285),(.int 54 0),(.int 2 0),(.int 0 0),(.int 0 0),(.int 3 0),(.ref 82),(.bool true),(.int 181 0),(.ref 83),.none,(.ref 84),(.ref 85),(.ref 86),(.int 290 0),(.int 54 0),(.str "/claim/cut.py" 291)],
 kf 88 (aj 15) "_law_pick" (.str "law_layworld_k15_wishes_told" 274) (.ref 87),
 kc 92 [(.str "_law_letters" 293),(.str "_law_letters" 294),(.str "/claim/cut.py" 295),(.int 69 0),(.int 2 0),(.int 0 0),(.int 0 0),(.int 3 0),(.ref 89),(.bool true),(.int 181 0),(.ref 90),.none,.none,.none,(.ref 91),(.int 296 0),(.int 69 0),(.str "/claim/cut.py" 297)],
 kf 93 (aj 16) "_law_letters" (.str "law_layworld_k15_wishes_told" 274) (.ref 92),
 kc 99 [(.str "_law_name" 299),(.str "_law_name" 300),(.str "/claim/cut.py" 301),(.int 71 0),(.int 2 0),(.int 0 0),(.int 0 0),(.int 3 0),(.ref 94),(.bool true),(.int 181 0),(.ref 95),.none,(.ref 96),(.ref 97),(.ref 98),(.int 305 0),(.int 71 0),(.str "/claim/cut.py" 306)],
 kf 100 (aj 17) "_law_name" (.str "law_layworld_k15_wishes_told" 274) (.ref 99),
 kc 106 [(.str "_law_names" 308),(.str "_law_names" 309),(.str "/claim/cut.py" 310),(.int 79 0),(.int 2 0),(.int 0 0),(.int 0 0),(.int 3 0),(.ref 101),(.bool true),(.int 181 0),(.ref 102),.none,(.ref 103),(.ref 104),(.ref 105),(.int 318 0),(.int 79 0),(.str "/claim/cut.py" 319)],
 kf 107 (aj 18) "_law_names" (.str "law_layworld_k15_wishes_told" 274) (.ref 106),
 kc 113 [(.str "_law_between" 321),(.str "_law_between" 322),(.str "/claim/cut.py" 323),(.int 92 0),(.int 4 0),(.int 0 0),(.int 0 0),(.int 3 0),(.ref 108),(.bool true),(.int 181 0),(.ref 109),.none,(.ref 110),(.ref 111),(.ref 112),(.int 328 0),(.int 92 0),(.str "/claim/cut.py" 329)],
 kf 114 (aj 19) "_law_between" (.str "law_layworld_k15_wishes_told" 274) (.ref 113),
 kc 118 [(.str "_law_part" 331),(.str "_law_part" 332),(.str "/claim/cut.py" 333),(.int 96 0),(.int 3 0),(.int 0 0),(.int 0 0),(.int 3 0),(.ref 115),(.bool true),(.int 181 0),(.ref 116),.none,.none,.none,(.ref 117),(.int 334 0),(.int 96 0),(.str "/claim/cut.py" 335)],
 kf 119 (aj 20) "_law_part" (.str "law_layworld_k15_wishes_told" 274) (.ref 118),
 kc 125 [(.str "_law_turns" 337),(.str "_law_turns" 338),(.str "/claim/cut.py" 339),(.int 102 0),(.int 0 0),(.int 0 0),(.int 0 0),(.int 3 0),(.ref 120),(.bool true),(.int 181 0),(.ref 121),.none,(.ref 122),(.ref 123),(.ref 124),(.int 340 0),(.int 102 0),(.str "/claim/cut.py" 341)],
 kf 126 (aj 21) "_law_turns" (.str "law_layworld_k15_wishes_told" 274) (.ref 125),
 kc 130 [(.str "_law_figure" 343),(.str "_law_figure" 344),(.str "/claim/cut.py" 345),(.int 104 0),(.int 2 0),(.int 0 0),(.int 0 0),(.int 3 0),(.ref 127),(.bool true),(.int 181 0),(.ref 128),.none,.none,.none,(.ref 129),(.int 346 0),(.int 104 0),(.str "/claim/cut.py" 347)],
 kf 131 (aj 22) "_law_figure" (.str "law_layworld_k15_wishes_told" 274) (.ref 130),
 kc 137 [(.str "_law_bad" 349),(.str "_law_bad" 350),(.str "/claim/cut.py" 351),(.int 106 0),(.int 1 0),(.int 0 0),(.int 0 0),(.int 3 0),(.ref 132),(.bool true),(.int 181 0),(.ref 133),.none,(.ref 134),(.ref 135),(.ref 136),(.int 356 0),(.int 106 0),(.str "/claim/cut.py" 357)],
 kf 138 (aj 23) "_law_bad" (.str "law_layworld_k15_wishes_told" 274) (.ref 137),
 kc 144 [(.str "_law_last_may" 359),(.str "_law_last_may" 360),(.str "/claim/cut.py" 361),(.int 112 0),(.int 4 0),(.int 0 0),(.int 0 0),(.int 3 0),(.ref 139),(.bool true),(.int 181 0),(.ref 140),.none,(.ref 141),(.ref 142),(.ref 143),(.int 370 0),(.int 112 0),(.str "/claim/cut.py" 371)],
 kf 145 (aj 24) "_law_last_may" (.str "law_layworld_k15_wishes_told" 274) (.ref 144),
 kc 151 [(.str "_law_backs" 373),(.str "_law_backs" 374),(.str "/claim/cut.py" 375),(.int 119 0),(.int 2 0),(.int 0 0),(.int 0 0),(.int 3 0),(.ref 146),(.bool true),(.int 181 0),(.ref 147),.none,(.ref 148),(.ref 149),(.ref 150),(.int 379 0),(.int 119 0),(.str "/claim/cut.py" 380)],
 kf 152 (aj 25) "_law_backs" (.str "law_layworld_k15_wishes_told" 274) (.ref 151),
 kc 156 [(.str "_law_rule_of" 382),(.str "_law_rule_of" 383),(.str "/claim/cut.py" 384),(.int 122 0),(.int 4 0),(.int 0 0),(.int 0 0),(.int 3 0),(.ref 153),(.bool true),(.int 181 0),(.ref 154),.none,.none,.none,(.ref 155),(.int 385 0),(.int 122 0),(.str "/claim/cut.py" 386)],
 kf 157 (aj 26) "_law_rule_of" (.str "law_layworld_k15_wishes_told" 274) (.ref 156),
 kc 161 [(.str "_law_free_three" 388),(.str "_law_free_three" 389),(.str "/claim/cut.py" 390),(.int 126 0),(.int 3 0),(.int 0 0),(.int 0 0),(.int 3 0),(.ref 158),(.bool true),(.int 181 0),(.ref 159),.none,.none,.none,(.ref 160),(.int 391 0),(.int 126 0),(.str "/claim/cut.py" 392)],
 kf 162 (aj 27) "_law_free_three" (.str "law_layworld_k15_wishes_told" 274) (.ref 161),
 kc 168 [(.str "_law_sizes" 394),(.str "_law_sizes" 395),(.str "/claim/cut.py" 396),(.int 131 0),(.int 1 0),(.int 0 0),(.int 0 0),(.int 3 0),(.ref 163),(.bool true),(.int 181 0),(.ref 164),.none,(.ref 165),(.ref 166),(.ref 167),(.int 399 0),(.int 131 0),(.str "/claim/cut.py" 400)],
 kf 169 (aj 28) "_law_sizes" (.str "law_layworld_k15_wishes_told" 274) (.ref 168),
 kc 175 [(.str "_law_any_rule" 402),(.str "_law_any_rule" 403),(.str "/claim/cut.py" 404),(.int 134 0),(.int 1 0),(.int 0 0),(.int 0 0),(.int 3 0),(.ref 170),(.bool true),(.int 181 0),(.ref 171),.none,(.ref 172),(.ref 173),(.ref 174),(.int 411 0),(.int 134 0),(.str "/claim/cut.py" 412)],
 kf 176 (aj 29) "_law_any_rule" (.str "law_layworld_k15_wishes_told" 274) (.ref 175),
 kc 182 [(.str "_law_laying_kind" 414),(.str "_law_laying_kind" 415),(.str "/claim/cut.py" 416),(.int 141 0),(.int 1 0),(.int 0 0),(.int 0 0),(.int 3 0),(.ref 177),(.bool true),(.int 181 0),(.ref 178),.none,(.ref 179),(.ref 180),(.ref 181),(.int 419 0),(.int 141 0),(.str "/claim/cut.py" 420)],
 kf 183 (aj 30) "_law_laying_kind" (.str "law_layworld_k15_wishes_told" 274) (.ref 182),
 kc 189 [(.str "_law_breaks" 422),(.str "_law_breaks" 423),(.str "/claim/cut.py" 424),(.int 150 0),(.int 5 0),(.int 0 0),(.int 0 0),(.int 3 0),(.ref 184),(.bool true),(.int 181 0),(.ref 185),.none,(.ref 186),(.ref 187),(.ref 188),(.int 435 0),(.int 150 0),(.str "/claim/cut.py" 436)],
 kf 190 (aj 31) "_law_breaks" (.str "law_layworld_k15_wishes_told" 274) (.ref 189),
 kc 194 [(.str "_law_numbered" 438),(.str "_law_numbered" 439),(.str "/claim/cut.py" 440),(.int 158 0),(.int 3 0),(.int 0 0),(.int 0 0),(.int 3 0),(.ref 191),(.bool true),(.int 181 0),(.ref 192),.none,.none,.none,(.ref 193),(.int 441 0),(.int 158 0),(.str "/claim/cut.py" 442)],
 kf 195 (aj 32) "_law_numbered" (.str "law_layworld_k15_wishes_told" 274) (.ref 194),
 kc 201 [(.str "_law_laying_rule" 444),(.str "_law_laying_rule" 445),(.str "/claim/cut.py" 446),(.int 173 0),(.int 1 0),(.int 0 0),(.int 0 0),(.int 3 0),(.ref 196),(.bool true),(.int 181 0),(.ref 197),.none,(.ref 198),(.ref 199),(.ref 200),(.int 462 0),(.int 173 0),(.str "/claim/cut.py" 463)],
 kf 202 (aj 33) "_law_laying_rule" (.str "law_layworld_k15_wishes_told" 274) (.ref 201),
 kc 206 [(.str "_law_rising" 465),(.str "_law_rising" 466),(.str "/claim/cut.py" 467),(.int 193 0),(.int 1 0),(.int 0 0),(.int 0 0),(.int 3 0),(.ref 203),(.bool true),(.int 181 0),(.ref 204),.none,.none,.none,(.ref 205),(.int 468 0),(.int 193 0),(.str "/claim/cut.py" 469)],
 kf 207 (aj 34) "_law_rising" (.str "law_layworld_k15_wishes_told" 274) (.ref 206),
 kc 211 [(.str "_law_free_rule" 471),(.str "_law_free_rule" 472),(.str "/claim/cut.py" 473),(.int 199 0),(.int 1 0),(.int 0 0),(.int 0 0),(.int 3 0),(.ref 208),(.bool true),(.int 181 0),(.ref 209),.none,.none,.none,(.ref 210),(.int 474 0),(.int 199 0),(.str "/claim/cut.py" 475)],
 kf 212 (aj 35) "_law_free_rule" (.str "law_layworld_k15_wishes_told" 274) (.ref 211),
 kc 216 [(.str "_law_one_way_rule" 477),(.str "_law_one_way_rule" 478),(.str "/claim/cut.py" 479),(.int 212 0),(.int 1 0),(.int 0 0),(.int 0 0),(.int 3 0),(.ref 213),(.bool true),(.int 181 0),(.ref 214),.none,.none,.none,(.ref 215),(.int 480 0),(.int 212 0),(.str "/claim/cut.py" 481)],
 kf 217 (aj 36) "_law_one_way_rule" (.str "law_layworld_k15_wishes_told" 274) (.ref 216),
 kc 223 [(.str "_law_new_ways" 483),(.str "_law_new_ways" 484),(.str "/claim/cut.py" 485),(.int 216 0),(.int 6 0),(.int 0 0),(.int 0 0),(.int 3 0),(.ref 218),(.bool true),(.int 181 0),(.ref 219),.none,(.ref 220),(.ref 221),(.ref 222),(.int 497 0),(.int 216 0),(.str "/claim/cut.py" 498)],
 kf 224 (aj 37) "_law_new_ways" (.str "law_layworld_k15_wishes_told" 274) (.ref 223),
 kc 230 [(.str "_law_world" 500),(.str "_law_world" 501),(.str "/claim/cut.py" 502),(.int 229 0),(.int 4 0),(.int 0 0),(.int 0 0),(.int 3 0),(.ref 225),(.bool true),(.int 181 0),(.ref 226),.none,(.ref 227),(.ref 228),(.ref 229),(.int 511 0),(.int 229 0),(.str "/claim/cut.py" 512)],
 kf 231 (aj 38) "_law_world" (.str "law_layworld_k15_wishes_told" 274) (.ref 230),
 kc 235 [(.str "_law_alike" 514),(.str "_law_alike" 515),(.str "/claim/cut.py" 516),(.int 237 0),(.int 2 0),(.int 0 0),(.int 0 0),(.int 3 0),(.ref 232),(.bool true),(.int 181 0),(.ref 233),.none,.none,.none,(.ref 234),(.int 517 0),(.int 237 0),(.str "/claim/cut.py" 518)],
 kf 236 (aj 39) "_law_alike" (.str "law_layworld_k15_wishes_told" 274) (.ref 235),
 kc 240 [(.str "_law_digits" 520),(.str "_law_digits" 521),(.str "/claim/cut.py" 522),(.int 249 0),(.int 2 0),(.int 0 0),(.int 0 0),(.int 3 0),(.ref 237),(.bool true),(.int 181 0),(.ref 238),.none,.none,.none,(.ref 239),(.int 523 0),(.int 249 0),(.str "/claim/cut.py" 524)],
 kf 241 (aj 40) "_law_digits" (.str "law_layworld_k15_wishes_told" 274) (.ref 240),
 kc 245 [(.str "_law_worlds" 526),(.str "_law_worlds" 527),(.str "/claim/cut.py" 528),(.int 254 0),(.int 2 0),(.int 0 0),(.int 0 0),(.int 3 0),(.ref 242),(.bool true),(.int 181 0),(.ref 243),.none,.none,.none,(.ref 244),(.int 529 0),(.int 254 0),(.str "/claim/cut.py" 530)],
 kf 246 (aj 41) "_law_worlds" (.str "law_layworld_k15_wishes_told" 274) (.ref 245),
 kc 250 [(.str "_law_figures" 532),(.str "_law_figures" 533),(.str "/claim/cut.py" 534),(.int 262 0),(.int 1 0),(.int 0 0),(.int 0 0),(.int 3 0),(.ref 247),(.bool true),(.int 181 0),(.ref 248),.none,.none,.none,(.ref 249),(.int 535 0),(.int 262 0),(.str "/claim/cut.py" 536)],
 kf 251 (aj 42) "_law_figures" (.str "law_layworld_k15_wishes_told" 274) (.ref 250),
 kc 255 [(.str "_law_full_rule" 538),(.str "_law_full_rule" 539),(.str "/claim/cut.py" 540),(.int 264 0),(.int 1 0),(.int 0 0),(.int 0 0),(.int 3 0),(.ref 252),(.bool true),(.int 181 0),(.ref 253),.none,.none,.none,(.ref 254),(.int 541 0),(.int 264 0),(.str "/claim/cut.py" 542)],
 kf 256 (aj 43) "_law_full_rule" (.str "law_layworld_k15_wishes_told" 274) (.ref 255),
 kc 262 [(.str "_law_wishes" 544),(.str "_law_wishes" 545),(.str "/claim/cut.py" 546),(.int 273 0),(.int 3 0),(.int 0 0),(.int 0 0),(.int 3 0),(.ref 257),(.bool true),(.int 181 0),(.ref 258),.none,(.ref 259),(.ref 260),(.ref 261),(.int 553 0),(.int 273 0),(.str "/claim/cut.py" 554)],
 kf 263 (aj 44) "_law_wishes" (.str "law_layworld_k15_wishes_told" 274) (.ref 262),
 kc 267 [(.str "_law_other_rule" 556),(.str "_law_other_rule" 557),(.str "/claim/cut.py" 558),(.int 280 0),(.int 1 0),(.int 0 0),(.int 0 0),(.int 3 0),(.ref 264),(.bool true),(.int 181 0),(.ref 265),.none,.none,.none,(.ref 266),(.int 559 0),(.int 280 0),(.str "/claim/cut.py" 560)],
 kf 268 (aj 45) "_law_other_rule" (.str "law_layworld_k15_wishes_told" 274) (.ref 267),
 kc 274 [(.str "law" 562),(.str "law" 563),(.str "/claim/cut.py" 564),(.int 285 0),(.int 1 0),(.int 0 0),(.int 0 0),(.int 3 0),(.ref 269),(.bool true),(.int 181 0),(.ref 270),.none,(.ref 271),(.ref 272),(.ref 273),(.int 574 0),(.int 285 0),(.str "/claim/cut.py" 575)],
 kf 275 (aj 46) "law" (.str "law_layworld_k15_wishes_told" 274) (.ref 274)]
noncomputable def Kc:Kr KC:=[3,20,21,25,26,30,31,35,36,42,43,49,50,56,57,63,64,68,69,73,74,80,81,87,88,92,93,99,100,106,107,113,114,118,119,125,126,130,131,137,138,144,145,151,152,156,157,161,162,168,169,175,176,182,183,189,190,194,195,201,202,206,207,211,212,216,217,223,224,230,231,235,236,240,241,245,246,250,251,255,256,262,263,267,268,274,275]
noncomputable def vq:Lk:={ pw with main:={ pw.main with body:=[aj 46] } }
noncomputable def lo:Kr KZ:=[("way" : KZ),("part" : KZ),("point_over" : KZ),("longer_orders" : KZ),("barred_threes" : KZ),("three_at" : KZ),("first_bar" : KZ),("wishes" : KZ),("wishes_over" : KZ),("longer_wishes" : KZ),("_law_flow" : KZ),("_law_pick" : KZ),("_law_letters" : KZ),("_law_name" : KZ),("_law_names" : KZ),("_law_between" : KZ),("_law_part" : KZ),("_law_turns" : KZ),("_law_figure" : KZ),("_law_bad" : KZ),("_law_last_may" : KZ),("_law_backs" : KZ),("_law_rule_of" : KZ),("_law_free_three" : KZ),("_law_sizes" : KZ),("_law_any_rule" : KZ),("_law_laying_kind" : KZ),("_law_breaks" : KZ),("_law_numbered" : KZ),("_law_laying_rule" : KZ),("_law_rising" : KZ),("_law_free_rule" : KZ),("_law_one_way_rule" : KZ),("_law_new_ways" : KZ),("_law_world" : KZ),("_law_alike" : KZ),("_law_digits" : KZ),("_law_worlds" : KZ),("_law_figures" : KZ),("_law_full_rule" : KZ),("_law_wishes" : KZ),("_law_other_rule" : KZ)]
theorem aG {K:KM}{h:LI}{mg:KZ->Kz Ku}{x:KZ}{st:No}{df:Df}(a:KC)(pm cd:Ku)(X:K.In h)(G:h.Ns mainGlobals mg)
  (b:BD x st df)
  (e:Mc K mainGlobals x=ba (ba (.ref a))) (l:K.lookup a=ba (kf a st x pm cd).2) (c:NO K cd x=true) (k:Mn K (.ref a)=true):ap K mg x st df:=Bw X G b e l c k
theorem eK:∀P,Kc=(K0 P).map (·.1):=λ_=>by kernel_rfl
noncomputable def hk:PySem.W.Hook:=PySem.W.kHook K0 Kc eK
theorem hl:PySem.W.LeftO pw vq lo (λs=>Tx vq [] s&&Tc [] s) hk.obs hk.val 2774:=λw=>by kernel_rfl
end
end Mi
end ZZ.Lean
open ZZ.Lean
theorem PySem.Challenge.cw_layworld_k15_wishes_told_holds : PySem.Challenge.rw_layworld_k15_wishes_told.Holds := by
 w_on
 refine PySem.W.holds_law (by kernel_rfl) (λsaid=>?_)
 refine PySem.W.holds_open (q:=Mi.vq) (loose:=Mi.lo) (Xt:=λs=>Tx Mi.vq [] s&&Tc [] s) (XP:=PySem.W.XL Mi.vq []) (Yf:=Mi.hk.obs) (Ya:=Mi.hk.val) (YP:=Mi.hk.says) (N:=2774) Mi.hl Mi.hk.of Mi.hk.keeps (λs e=>PySem.W.xl_of s (QD.mp e).1) Uk (by rfl) (by rfl) (by rfl) (λs e=>PySem.W.recFacts_of (QD.mp e).2) (by rfl) said (by decide +kernel) #[rfl,rfl,rfl,rfl,rfl,by decide +kernel] ?hw ?hc
 case hw=>w_witness2
 case hc=>
 refine Mi.J3 (l:=PP) (K:=Mi.K0) rfl rfl (λw h Y=>PySem.W.kIn_of Y) ?F
 case F=>
  intro w mg fa h KX G hmg;exact Mi.Gn KX G hmg (Mi.Iv KX G (by kernel_rfl) (by kernel_rfl) (by kernel_rfl) (by kernel_rfl) (by kernel_rfl) (by kernel_rfl) (by kernel_rfl) (by kernel_rfl) (by kernel_rfl) (by kernel_rfl) (by kernel_rfl) (by kernel_rfl) (by kernel_rfl))
   (Mi.aG 21 (.str "layworld.worlds" 187) (.ref 20) (x:="way") (st:=Mi.aj 1) (df:=Mi.iH) KX G Mi.Gk (by kernel_rfl) (by kernel_rfl) (by kernel_rfl) (by kernel_rfl))
   (Mi.aG 26 (.str "layworld.parts" 199) (.ref 25) (x:="part") (st:=Mi.aj 3) (df:=Mi.fS) KX G Mi.DP (by kernel_rfl) (by kernel_rfl) (by kernel_rfl) (by kernel_rfl))
   (Mi.aG 31 (.str "layworld.parts" 199) (.ref 30) (x:="point_over") (st:=Mi.aj 4) (df:=Mi.bA) KX G Mi.oo (by kernel_rfl) (by kernel_rfl) (by kernel_rfl) (by kernel_rfl))
   (Mi.aG 36 (.str "layworld.parts" 199) (.ref 35) (x:="longer_orders") (st:=Mi.aj 5) (df:=Mi.aP) KX G Mi.kH (by kernel_rfl) (by kernel_rfl) (by kernel_rfl) (by kernel_rfl))
   (Mi.aG 43 (.str "layworld.threes" 219) (.ref 42) (x:="barred_threes") (st:=Mi.aj 7) (df:=Mi.aQ) KX G Mi.kI (by kernel_rfl) (by kernel_rfl) (by kernel_rfl) (by kernel_rfl))
   (Mi.aG 50 (.str "layworld.threes" 219) (.ref 49) (x:="three_at") (st:=Mi.aj 8) (df:=Mi.b8) KX G Mi.tK (by kernel_rfl) (by kernel_rfl) (by kernel_rfl) (by kernel_rfl))
   (Mi.aG 57 (.str "layworld.threes" 219) (.ref 56) (x:="first_bar") (st:=Mi.aj 9) (df:=Mi.bQ) KX G Mi.qV (by kernel_rfl) (by kernel_rfl) (by kernel_rfl) (by kernel_rfl))
   (Mi.aG 64 (.str "layworld.threes" 219) (.ref 63) (x:="wishes") (st:=Mi.aj 10) (df:=Mi.dc) KX G Mi.ye (by kernel_rfl) (by kernel_rfl) (by kernel_rfl) (by kernel_rfl))
   (Mi.aG 69 (.str "layworld.threes" 219) (.ref 68) (x:="wishes_over") (st:=Mi.aj 11) (df:=Mi.bh) KX G Mi.nB (by kernel_rfl) (by kernel_rfl) (by kernel_rfl) (by kernel_rfl))
   (Mi.aG 74 (.str "layworld.threes" 219) (.ref 73) (x:="longer_wishes") (st:=Mi.aj 12) (df:=Mi.aR) KX G Mi.kJ (by kernel_rfl) (by kernel_rfl) (by kernel_rfl) (by kernel_rfl))
   (Mi.aG 81 (.str "law_layworld_k15_wishes_told" 274) (.ref 80) (x:="_law_flow") (st:=Mi.aj 14) (df:=Mi.bR) KX G Mi.qW (by kernel_rfl) (by kernel_rfl) (by kernel_rfl) (by kernel_rfl))
   (Mi.aG 88 (.str "law_layworld_k15_wishes_told" 274) (.ref 87) (x:="_law_pick") (st:=Mi.aj 15) (df:=Mi.bS) KX G Mi.qX (by kernel_rfl) (by kernel_rfl) (by kernel_rfl) (by kernel_rfl))
   (Mi.aG 93 (.str "law_layworld_k15_wishes_told" 274) (.ref 92) (x:="_law_letters") (st:=Mi.aj 16) (df:=Mi.aZ) KX G Mi.ly (by kernel_rfl) (by kernel_rfl) (by kernel_rfl) (by kernel_rfl))
   (Mi.aG 100 (.str "law_layworld_k15_wishes_told" 274) (.ref 99) (x:="_law_name") (st:=Mi.aj 17) (df:=Mi.bT) KX G Mi.qY (by kernel_rfl) (by kernel_rfl) (by kernel_rfl) (by kernel_rfl))
   (Mi.aG 107 (.str "law_layworld_k15_wishes_told" 274) (.ref 106) (x:="_law_names") (st:=Mi.aj 18) (df:=Mi.bB) KX G Mi.oq (by kernel_rfl) (by kernel_rfl) (by kernel_rfl) (by kernel_rfl))
   (Mi.aG 114 (.str "law_layworld_k15_wishes_told" 274) (.ref 113) (x:="_law_between") (st:=Mi.aj 19) (df:=Mi.bc) KX G Mi.lz (by kernel_rfl) (by kernel_rfl) (by kernel_rfl) (by kernel_rfl))
   (Mi.aG 119 (.str "law_layworld_k15_wishes_told" 274) (.ref 118) (x:="_law_part") (st:=Mi.aj 20) (df:=Mi.bU) KX G Mi.qZ (by kernel_rfl) (by kernel_rfl) (by kernel_rfl) (by kernel_rfl))
   (Mi.aG 126 (.str "law_layworld_k15_wishes_told" 274) (.ref 125) (x:="_law_turns") (st:=Mi.aj 21) (df:=Mi.bC) KX G Mi.ou (by kernel_rfl) (by kernel_rfl) (by kernel_rfl) (by kernel_rfl))
   (Mi.aG 131 (.str "law_layworld_k15_wishes_told" 274) (.ref 130) (x:="_law_figure") (st:=Mi.aj 22) (df:=Mi.bj) KX G Mi.nC (by kernel_rfl) (by kernel_rfl) (by kernel_rfl) (by kernel_rfl))
   (Mi.aG 138 (.str "law_layworld_k15_wishes_told" 274) (.ref 137) (x:="_law_bad") (st:=Mi.aj 23) (df:=Mi.cb) KX G Mi.tL (by kernel_rfl) (by kernel_rfl) (by kernel_rfl) (by kernel_rfl))
   (Mi.aG 145 (.str "law_layworld_k15_wishes_told" 274) (.ref 144) (x:="_law_last_may") (st:=Mi.aj 24) (df:=Mi.aS) KX G Mi.kK (by kernel_rfl) (by kernel_rfl) (by kernel_rfl) (by kernel_rfl))
   (Mi.aG 152 (.str "law_layworld_k15_wishes_told" 274) (.ref 151) (x:="_law_backs") (st:=Mi.aj 25) (df:=Mi.bD) KX G Mi.ow (by kernel_rfl) (by kernel_rfl) (by kernel_rfl) (by kernel_rfl))
   (Mi.aG 157 (.str "law_layworld_k15_wishes_told" 274) (.ref 156) (x:="_law_rule_of") (st:=Mi.aj 26) (df:=Mi.be) KX G Mi.lA (by kernel_rfl) (by kernel_rfl) (by kernel_rfl) (by kernel_rfl))
   (Mi.aG 162 (.str "law_layworld_k15_wishes_told" 274) (.ref 161) (x:="_law_free_three") (st:=Mi.aj 27) (df:=Mi.aH) KX G Mi.i9 (by kernel_rfl) (by kernel_rfl) (by kernel_rfl) (by kernel_rfl))
   (Mi.aG 169 (.str "law_layworld_k15_wishes_told" 274) (.ref 168) (x:="_law_sizes") (st:=Mi.aj 28) (df:=Mi.bE) KX G Mi.ox (by kernel_rfl) (by kernel_rfl) (by kernel_rfl) (by kernel_rfl))
   (Mi.aG 176 (.str "law_layworld_k15_wishes_told" 274) (.ref 175) (x:="_law_any_rule") (st:=Mi.aj 29) (df:=Mi.aT) KX G Mi.kL (by kernel_rfl) (by kernel_rfl) (by kernel_rfl) (by kernel_rfl))
   (Mi.aG 183 (.str "law_layworld_k15_wishes_told" 274) (.ref 182) (x:="_law_laying_kind") (st:=Mi.aj 30) (df:=Mi.aD) KX G Mi.iy (by kernel_rfl) (by kernel_rfl) (by kernel_rfl) (by kernel_rfl))
   (Mi.aG 190 (.str "law_layworld_k15_wishes_told" 274) (.ref 189) (x:="_law_breaks") (st:=Mi.aj 31) (df:=Mi.bm) KX G Mi.nD (by kernel_rfl) (by kernel_rfl) (by kernel_rfl) (by kernel_rfl))
   (Mi.aG 195 (.str "law_layworld_k15_wishes_told" 274) (.ref 194) (x:="_law_numbered") (st:=Mi.aj 32) (df:=Mi.aU) KX G Mi.kM (by kernel_rfl) (by kernel_rfl) (by kernel_rfl) (by kernel_rfl))
   (Mi.aG 202 (.str "law_layworld_k15_wishes_told" 274) (.ref 201) (x:="_law_laying_rule") (st:=Mi.aj 33) (df:=Mi.aE) KX G Mi.iz (by kernel_rfl) (by kernel_rfl) (by kernel_rfl) (by kernel_rfl))
   (Mi.aG 207 (.str "law_layworld_k15_wishes_told" 274) (.ref 206) (x:="_law_rising") (st:=Mi.aj 34) (df:=Mi.bn) KX G Mi.nE (by kernel_rfl) (by kernel_rfl) (by kernel_rfl) (by kernel_rfl))
   (Mi.aG 212 (.str "law_layworld_k15_wishes_told" 274) (.ref 211) (x:="_law_free_rule") (st:=Mi.aj 35) (df:=Mi.aM) KX G Mi.jI (by kernel_rfl) (by kernel_rfl) (by kernel_rfl) (by kernel_rfl))
   (Mi.aG 217 (.str "law_layworld_k15_wishes_told" 274) (.ref 216) (x:="_law_one_way_rule") (st:=Mi.aj 36) (df:=Mi.ay) KX G Mi.gZ (by kernel_rfl) (by kernel_rfl) (by kernel_rfl) (by kernel_rfl))
   (Mi.aG 224 (.str "law_layworld_k15_wishes_told" 274) (.ref 223) (x:="_law_new_ways") (st:=Mi.aj 37) (df:=Mi.aV) KX G Mi.kN (by kernel_rfl) (by kernel_rfl) (by kernel_rfl) (by kernel_rfl))
   (Mi.aG 231 (.str "law_layworld_k15_wishes_told" 274) (.ref 230) (x:="_law_world") (st:=Mi.aj 38) (df:=Mi.bF) KX G Mi.oy (by kernel_rfl) (by kernel_rfl) (by kernel_rfl) (by kernel_rfl))
   (Mi.aG 236 (.str "law_layworld_k15_wishes_told" 274) (.ref 235) (x:="_law_alike") (st:=Mi.aj 39) (df:=Mi.bG) KX G Mi.oz (by kernel_rfl) (by kernel_rfl) (by kernel_rfl) (by kernel_rfl))
   (Mi.aG 241 (.str "law_layworld_k15_wishes_told" 274) (.ref 240) (x:="_law_digits") (st:=Mi.aj 40) (df:=Mi.bo) KX G Mi.nF (by kernel_rfl) (by kernel_rfl) (by kernel_rfl) (by kernel_rfl))
   (Mi.aG 246 (.str "law_layworld_k15_wishes_told" 274) (.ref 245) (x:="_law_worlds") (st:=Mi.aj 41) (df:=Mi.bp) KX G Mi.nG (by kernel_rfl) (by kernel_rfl) (by kernel_rfl) (by kernel_rfl))
   (Mi.aG 251 (.str "law_layworld_k15_wishes_told" 274) (.ref 250) (x:="_law_figures") (st:=Mi.aj 42) (df:=Mi.bf) KX G Mi.lB (by kernel_rfl) (by kernel_rfl) (by kernel_rfl) (by kernel_rfl))
   (Mi.aG 256 (.str "law_layworld_k15_wishes_told" 274) (.ref 255) (x:="_law_full_rule") (st:=Mi.aj 43) (df:=Mi.aN) KX G Mi.jJ (by kernel_rfl) (by kernel_rfl) (by kernel_rfl) (by kernel_rfl))
   (Mi.aG 263 (.str "law_layworld_k15_wishes_told" 274) (.ref 262) (x:="_law_wishes") (st:=Mi.aj 44) (df:=Mi.bq) KX G Mi.nH (by kernel_rfl) (by kernel_rfl) (by kernel_rfl) (by kernel_rfl))
   (Mi.aG 268 (.str "law_layworld_k15_wishes_told" 274) (.ref 267) (x:="_law_other_rule") (st:=Mi.aj 45) (df:=Mi.aI) KX G Mi.ja (by kernel_rfl) (by kernel_rfl) (by kernel_rfl) (by kernel_rfl))
   (f:=275) (oc:=.type "function") (od:=gV) (an:=gV) (osl:=#[]) (kV:=.none) (doc:=.none) (pm:=(.str "law_layworld_k15_wishes_told" 274)) (cdv:=(.ref 274)) (ct:=.none) (by kernel_rfl) (by kernel_rfl) (by kernel_rfl) (by kernel_rfl)
