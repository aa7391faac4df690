import PyProof.Rows.All
import Wide.All
import OpenK.AllK
import Wide.FinOn
import Lean
import PyProof.EqAt
import PyProof.EqKinds
import PyProof.TupleCall
import KE.KDictList
import PyProof.SetKind
import PyProof.IsRules
import KE.KSortTup
import PyProof.ZipIter
import PyProof.Draws
import PySem.Challenge.RW_layworld_k13_figures
noncomputable section
open Option renaming some→ba,none→gV
open _root_ renaming List→J9,Option→Ki,Nat→Kk,Int→Ky,decide_eq_true_eq→KG,if_pos→KJ,Bool→KP,Array→KQ,if_neg→KW,decide_eq_false→K5,of_decide_eq_true→Lm,beq_self_eq_true→Lp,if_false→LH,False→LL,String→LN,decide_eq_true→L3,if_true→L7,or_false→MJ,of_decide_eq_false→Nr,DecidableEq→ND,beq_eq_false_iff_ne→OH,decide_eq_false_iff_not→Py,True→QP,bne_self_eq_false→Rt,decide_true→RV,decide_false→Td,not_or→Te,dif_pos→T5
open PySem renaming wpAny_bind→Kb,Value→Kd,Shared→Kg,wpAny_pure→Kh,Addr→Kl,Str→KF,Expr→KN,Program→K1,Around→K9,World→Lb,wpAny_newObj_type→Lc,Heap→Lj,sizeLine_eq→Lo,wpAny_holding→Ly,wpAny_callSpecial?_slot→Lz,wpAny_call_entry→LA,codeAny_builtin→LB,SetTable→LG,wpAny_setState_of→LK,wpAny_seqItems→LU,Obj→LZ,wpAny_mono→Mj,NameKind→Mm,plainId_quiet→Mp,wpAny_typeNameOfWhole_keyiter→MC,wpAny_truthy_bool→ME,DictEntry→MF,wpAny_field→MN,Pos→MP,FuncData→MQ,wpAny_passesOwn→MU,Spec→M4,Stmt→M5,wpAny_typeNameOf_keyiter→M8,mem_of_lookup→M9,wpAny_askSetting→Nh,wpAny_typeOf→No,wpAny_setField_rec→Nq,wpAny_ite_split→Nu,Scope→Nz,Builtin→NA,wpAny_pyIter_list→NB,wpAny_forIn_list→NO,wpAny_isInstance→NP,wpAny_updateSeq→N4,wpAny_Call_Name_kw→N6,wpAny_of_eq→Oc,wpAny_letGo→Od,codeAny_mono→Oe,wpAny_runValue→Oi,wpAny_dictEntries→Om,call_meets→Ow,IsPair→Oy,wpAny_standAt→Oz,wpAny_attempt→OA,wpAny_loadPart'→OD,wpAny_setEntries_of→OI,IsPart→OR,wpAny_fieldsOf→OV,wpAny_setField→OZ,wpAny_tryCatch→O0,wpAny_pyIter_slot→Pe,wpAny_newList→Pq,wpAny_comprehension_free→Pr,noFill_tuple_add→Pv,Paired→PH,wpAny_rule→PK,wpAny_load→PL,ItemsOf→PQ,wpAny_execs_nil→PY,codeAny_of_tree→P2,wpAny_specialOf→P3,wpAny_dictEpoch→P4,builtinLookup_eq_fast→P8,wpAny_isSame_ref_self→Qa,wpAny_isOneOf_keyiter→Qd,GenState→Qi,isSubtype_stop→Qk,wpAny_newTuple→Ql,wpAny_pyIter_keyiter→Qo,wpAny_updateSeq_pair→Qs,PassesOwn→Qz,rangeSize_one→QG,seq_tuple_add→QH,wpAny_handled→QJ,IsZip→QK,sub_set_self→QU,wpAny_pyIter_tuple→Q5,Env→Q9,wpAny_assign_Name→Ra,Operator→Rc,BindsTo→Re,concat_meets→Rf,wpAny_sequenceKey→Rg,seqIndex_neg→Rh,list_append→Ri,wpAny_setEpoch_of→Ro,wpAny_pyHash_int→Rw,wpAny_pyHash_str→Rx,Result→Rz,wpAny_pyIter_zip→RK,seqIndex_of→RQ,wpAny_throw→RS,Walks→RT,typeLookup_type→R1,Keyword→R9,wpAny_Name→Sd,wpAny_bindName→Se,typeIs_int→Sh,fitsIndex_both→Sj,Params→Sn,call→So,isSubtype_type→Su,entryFor_alias→Sv,intBits_le_64→SF,evalPart_none→SH,call_list_seq→SI,wpAny_onRaise→SU,small_one→SX,CmpOp→SY,call_range_1→Tb,Sem→Tp,IsRangeIter→Tq,wpAny_alloc→Tz,wpAny_mkInt→TB,BoolOp→T0,IsRange→T6,Fin→Ua,Drawn→Ui,Model→Uj,Tok→Uu
open List renaming length_map→Kc,getElem?_map→Km,getElem?_eq_getElem→Ko,getElem?_eq_some_iff→Kq,length_append→Ks,mem_of_getElem?→Kt,size_toArray→Kv,mem_map→Kw,mem_singleton→Kx,set→KD,all_eq_true→KH,mem_cons→KL,range→KS,length_range→KU,zipWith→KZ,mem_range→K6,replicate→K7,mem_append_right→K8,map_append→Le,getElem_mem→Lf,take_add_one→Lg,length_cons→Li,getElem?_append_left→Lk,mem_append→Ln,not_mem_nil→Lr,all_cons→Lu,getElem?_eq_none_iff→Lv,take_length→Lw,mem_cons_of_mem→LD,map_cons→LF,length_take→LJ,mem_cons_self→LM,map_congr_left→LO,length_singleton→LW,length_eq_zero_iff→LY,getD_eq_getElem?_getD→L5,replicate_succ→L6,mem_filter→Ma,nodup_cons→Mb,map_map→Mg,mem_append_left→Mk,lookup_cons→Mo,getElem?_append_right→Ms,getElem?_set→Mt,length_nil→Mu,length_filter_le→Mx,mem_flatMap→My,mem_iff_getElem→MB,append_nil→MH,getElem?_range→MK,idxOf_lt_length_of_mem→MM,any_cons→MO,nodup_iff_pairwise_ne→MS,flatten_cons→MX,append_assoc→MZ,mem_of_mem_take→M1,pairwise_map→M2,length_zipWith→Nb,flatMap_append→Nd,getElem_inj→Nf,ext_getElem→Ni,foldlM_cons→Nk,eq_nil_of_length_eq_zero→Nn,zip_cons_cons→Np,filter_append→Nt,find?_cons→Nv,dropLast_concat_getLast→Nw,getElem?_eq_none→Nx,mem_of_mem_drop→NJ,length_drop→NM,pairwise_iff_getElem→NT,exists_mem_of_ne_nil→NU,filterMap_cons→NV,range_succ→N5,mem_eraseDups→Oa,drop_of_length_le→Ol,take_of_length_le→On,nodup_append→Oo,length_replicate→Op,take_append_drop→Os,forIn_cons→OE,mem_filterMap→OQ,length_eraseIdx_of_lt→OU,ne_nil_of_mem→O5,getElem_idxOf→O6,extract_eq_take_drop→O8,rel_of_pairwise_cons→O9,ext_getElem?→Pf,getElem_take→Pi,flatMap_cons→Pj,getElem?_take_of_lt→Pl,filter_cons_of_pos→PC,filter_cons_of_neg→PD,cons_append→PF,getElem?_set_self→PJ,range_succ_eq_map→PN,of_mem_zip→PZ,find?_some→P7,getElem?_zipWith→Qf,getElem?_set_ne→Qj,drop_zero→Qn,forIn_nil→Qq,nodup_nil→Qr,replicate_succ'→Qt,dropLast_concat→Qu,getLastD_concat→Qv,eraseDups_cons→QE,length_pos_iff→QF,map_take→QL,pairwise_cons→Q1,zip_nil_left→Rm,any_toArray→RG,getElem_map→RI,nodup_range→RJ,isEmpty_iff→RM,cons_ne_nil→RO,perm_middle→RP,nil_append→R0,foldr_cons→R6,drop_left'→R8,foldl→Si,all_map→Tc,extract→Tj,length→Ts,map→TC,Nodup→T3
open PySem.Heap renaming get?_push_of_some→Ke,get?_push_size→Ku,lt_size→KA,get?_update_other→Lh,get?_update_self→LV,size_push→L9,SameBut→Mq,get?_update_ne→NX,size_update→RH,ExtBut→RW
open Option renaming map_eq_some_iff→Kf,map_some→Ld,isSome_iff_exists→Lq,map_eq_none_iff→Oh,toList→Ps,getD_none→RB,getD_some→RL
open Bool renaming and_eq_true→Kj,false_ne_true→KI,false_eq_true→KO,or_eq_true→Mc,not_true→M7,and_true→N1,true_and→OB,and_false→OT,not_eq_true'→Pg,false_or→Po,and_eq_false_iff→P9,not_false→Qm,and_eq_true_iff→Qw,or_false→QI
open Nat renaming le_refl→Kn,ne_of_lt→KM,lt_of_lt_of_le→KR,le_trans→KT,lt_irrefl→LQ,zero_le→L1,lt_succ_self→Mn,ne_of_gt→Mr,div_lt_of_lt_mul→MD,le_succ→MY,lt_succ_of_lt→M0,pow_le_pow_right→M3,pow_le_pow_left→Nc,le_add_right→Nl,le_of_ble_eq_true→Ny,mul_le_mul_right→NK,le_of_lt→NL,mul_comm→NN,succ_le_succ→Ov,lt_of_le_of_lt→O2,eq_zero_or_pos→O3,mul_le_mul→O4,mod_lt→PP,mul_zero→PX,not_lt→QX,lt_or_gt_of_ne→QZ,succ_mul→Rk,add_comm→Rl,min_self→Rp,le_of_not_lt→RE,succ_ne_zero→RF,min_eq_right→RN,min_eq_left→R7,add_assoc→SO,sub_zero→Tk,pow_succ→Tl,add_mul→TF,one_mul→TH,ble→Uw
open PySem.W renaming Frag→Kr,mg_none_of→LC,nsIn→LS,keepIn→L0,fnOf→Mz,kia_one→MV,kas_sort→Nm,codeIn→NF,methodObj→Pb,cellsFrom_some→PM,OpenLaw→P0,kat_nil→P6,KdlSrc→Qp,WalkO→SJ,Looks→SS,mg_of→SV,recOk→SW,xlAt→Tn
open Array renaming length_toList→Kz,getElem?_toList→LI,size_map→LP,getElem?_eq_some_iff→L4,getElem?_eq_getElem→Mw,map→Nj,mem_toList_iff→NH,toList_extract→NI,getD→N7,forIn_toList→N8,mem_of_getElem?→Oq,getElem_toList→OC,toList_append→OJ,getElem?_map→OX,perm_iff_toList_perm→O1,toList_push→Pd,toList_map→Px,append_assoc→QQ,filterMap→R3,map_map→SQ,toList→Ta
open Int renaming toNat_natCast→KC,natCast_nonneg→KY,emod_lt_of_pos→MR,emod_nonneg→MW,toNat_of_nonneg→NW,ediv_nonneg→OG,zero_add→PV,natCast_mul→P1
open Option.some renaming injEq→K2,inj→Lx
open PySem.Value renaming ref→K4,none→Ll,type→Mh,bool→NE,str→Ot,int→Pu
open PySem.SetTable renaming insertAt→La,below→Ng,grown→Oj,Probe→OW,sizeAbove→OY,layClean→Ru,fits→SL,sameMemory→TV,relaid→Uf,laid→Ur
open PySem.Around renaming under_plainId→Ls
open PySem.Obj renaming mapSeq→LR,data_mapFields→N9,isFreed_of_fields→Qe,cls_mapFields→Rr,mapFields→SR
open PySem.Builtin.List renaming listExtendWith→LX,listTooLong→M6,listLengthHint→OM,listSameRef→Pn,listFitsIndex→Sl
open PySem.Builtin.Tuple renaming tupleExact→L8,tupleItemsOf→NG,tupleHashOf→NR,tupleCompareSizes→Rv,tupleIsExact→Sq
open ForInStep renaming yield→Mf
open PySem.Builtin.Range renaming rangeSize→Ml,small→OL
open PyProof.Rows renaming slot_tuple_getitem→Mv,callWith_type1→ML,subscriptTail_builtinR→Og,assignInOrder_cons→OP,AllBare→Pc,listUpdate_at→Pp,SortKind→Pw,get?_update_seq→P5,entry_tuple_getitem→QC,lt_int→QD,args_tuple_getitem→QS,IsTup→Q8,assignInOrder_nil→Rb,listItems_at→Rs,callWith_builtin1→RA,seqEpoch_at→RX,entry_list_sort→R5,IntsAre→Sc,slicePart_none→Sg,slot_list_sort→Sx,args_list_sort→Sy,tupleItemsOf_→SG,plain_sorted→Tf,entry_sorted→Th,args_sorted1→Ti,kind_sorted→TD
open PySem.Str renaming ofString→MA,length→TX,join→Uo
open PySem.F renaming plainAttrs_list→MG,args_tuple_add_2→NZ,entry_tuple_add→Ob,slot_tuple_add→Of,slot_list_clear→Pz,type_list_clear→PB,slot_dict_get→Qb
open PySem.Builtin.Slice renaming slicePlaces→MT,sliceAdjust→NQ,sliceApplied→OS,slicePartIndex→RY,sliceFields→Sz
open PySem.Heap.SameBut renaming update→Na,refl→Rq
open Function renaming comp_def→NC,comp→Ut
open PySem.Calls renaming call_function_entry→NS,Name_function_global→OO,callWith_builtin→PR,Constant_str→QR
open PySem.Builtin.SmallTypes renaming ownedTupleHandOut→NY,ownedTupleIsFree→N2,nextOf→Pa
open PySem.NameKind renaming free→N3,cell→Us
open PySem.SeqAt renaming EqAt→Ou,notIn_listAt→QT,in_tupleAt→RC,in_listAt→RZ
open True renaming intro→Ox
open PySem.Builtin.Dict_items renaming ownsTuple→OF
open PySem.Builtin.Builtins renaming bindParams→ON
open Classical renaming byContradiction→O7,propDecidable→SZ
open PySem.SetTable.probe renaming go→Ph
open PySem.Paired renaming length→Pk
open PySem.Env renaming kindOf→PU
open PySem.Builtin.Dict renaming showsAll→Qc,dictSlotNone→SC,pendingCount→SD
open PySem.Challenge renaming pw_layworld_k13_figures→Qg,rw_layworld_k13_figures→Qh
open Sum renaming inl→Qx,inr→Qy
open PySem.Expr renaming Name→QA
open PySem.SeqAt.EqAt renaming int_str→QM,str_int→QN,none_bool→Tt,bool_none→Tu,bool_bool→Tv,none_int→TJ,none_str→TK,bool_int→TL,bool_str→TM,int_none→TN,int_bool→TQ,str_none→TR,str_bool→TU,int_int→TY,str_str→TZ,same→Ue
open PUnit renaming unit→QV
open PySem.Code renaming quiet_builtin→QY
open PySem.ScopeKind renaming function→Q6
open PySem.AutoListH renaming list___mul___list_int_3→Q7
open PySem.AutoSeq1 renaming list_extend_list_list_0→Rj,list_clear_list_0→Sk,sub_tuple_tuple→SK
open PySem.SetTable.below renaming go→Rn
open PyProof.Rows.IsTup renaming new→Ry
open PySem.IsL renaming update→RD
open PySem.Builtin.Frozenset renaming updateFrom→R4,newClass→Sr,sizeOf→SM
open PySem.Walks renaming list→Sw
open PySem.Builtin.Str renaming tooLong→SA,glued→T7
open PySem.Moved renaming eq_with→SN
open List.Pairwise renaming sublist→To,nil→T4
open PySem.MeetsSeq renaming list_pop_at→Tw
open PySem.Txt renaming join→Tx,mul→Uv
open PySem.Heap.IsSliceOf renaming new→TW
open List.Sublist renaming refl→T8
open PySem.Flow renaming next→T9
open PySem.W.Looks renaming ld→Ub
open List.Perm renaming nil_eq→Uc,swap→Um,map→Uq
open PySem.W.XL renaming keeps→Ud
open PySem.PassesOwn renaming never→Ug
open List.cons renaming injEq→Uh
open Prod renaming ext→Uk
open Or renaming inr→Ul
set_option genSizeOf false
namespace ZZ.Lean
set_option Elab.async false
set_option linter.all false
set_option maxRecDepth 100000
namespace L2
open PySem PySem.Spec PyProof.Rows
noncomputable abbrev o9:=Sum Ky KF
noncomputable def De:o9->Kd->KP
 | .inl k,v=>Value.isInt k v
 | .inr x,v=>Value.isStrOf x v
noncomputable def Iq (w:Lb):o9->Ky
 | .inl k=>hashInt k
 | .inr x=>hashStr w x
theorem bS:∀ {k:o9} {v:Kd},De k v=true->(∃i t,k=Qx i/\v=Pu i t)\/(∃x t,k=Qy x/\v=Ot x t)
 | .inl i,v,h=>by
  obtain⟨t,e⟩:=Value.isInt_shape (k:=i) (v:=v) h;exact .inl ⟨i,t,rfl,e⟩
 | .inr x,v,h=>by
  obtain⟨t,e⟩:=Value.isStrOf_shape (x:=x) (v:=v) h;exact .inr ⟨x,t,rfl,e⟩
theorem DJ (a b:Ky):decide ((Qx a:o9)=Qx b)=(a==b):=by
 by_cases e:a=b
 ·subst e; simp
 ·have h:¬ (Qx a:o9)=Qx b:=λq=>e (Sum.inl.inj q)
  rw[K5 h];exact(OH.mpr e).symm
theorem DK (a b:KF):decide ((Qy a:o9)=Qy b)=decide (a=b):=by
 by_cases e:a=b
 ·subst e; simp
 ·have h:¬ (Qy a:o9)=Qy b:=λq=>e (Sum.inr.inj q)
  rw[K5 h,K5 e]
theorem DL (a:Ky)(b:KF):decide ((Qx a:o9)=Qy b)=false:=K5 (λq=>nomatch q)
theorem DM (a:KF)(b:Ky):decide ((Qy a:o9)=Qx b)=false:=K5 (λq=>nomatch q)
noncomputable def pb (prog:K1)(w:Lb):PySem.KeyKind prog w o9 where
 is:=De
 hash:=Iq w
 inj:=λv a b ha hb=>by
  rcases bS ha with⟨i,t,rfl,rfl⟩|⟨x,t,rfl,rfl⟩
  ·rcases bS hb with⟨j,u,rfl,e⟩|⟨y,u,rfl,e⟩
   ·injection e with e1 _; rw[e1]
   ·exact nomatch e
  ·rcases bS hb with⟨j,u,rfl,e⟩|⟨y,u,rfl,e⟩
   ·exact nomatch e
   ·injection e with e1 _; rw[e1]
 byValue:=λk v h=>by
  rcases bS h with⟨i,t,rfl,rfl⟩|⟨x,t,rfl,rfl⟩ <;> rfl
 pyHash:=λhv h=>by
  rcases bS hv with⟨i,t,rfl,rfl⟩|⟨x,t,rfl,rfl⟩
  ·exact Rw h
  ·exact Rx h
 eqBool:=λhu hv h=>by
  rcases bS hu with⟨i,t,rfl,rfl⟩|⟨x,t,rfl,rfl⟩
  ·rcases bS hv with⟨j,u,rfl,rfl⟩|⟨y,u,rfl,rfl⟩
   ·rw[DJ]at h; exact wpAny_eqBool_int h
   ·rw[DL]at h; exact QM i t y u _ _ _ _ h
  ·rcases bS hv with⟨j,u,rfl,rfl⟩|⟨y,u,rfl,rfl⟩
   ·rw[DM]at h; exact QN x t j u _ _ _ _ h
   ·rw[DK]at h; exact wpAny_eqBool_str h
 «strs»:=λk x t v h=>by
  rcases bS h with⟨i,u,rfl,e⟩|⟨y,u,rfl,e⟩
  ·exact nomatch e
  ·injection e with e1 _
   subst e1;cases v <;> rfl
inductive V where
 | non|bl (b:KP)|int (i:Ky)|str (x:KF)|byt (b:KQ UInt8)|flt (b:UInt64)|ref (a:Kl)|ty (n:LN)
 deriving ND
noncomputable def RelV:V->Kd->Prop
 | .non,u=>u=Ll
 | .bl b,u=>u=NE b
 | .int i,u=>∃t,u=Pu i t
 | .str x,u=>∃t,u=Ot x t
 | .byt b,u=>∃t,u=Value.bytes b t
 | .flt b,u=>∃t,u=Value.float b t
 | .ref a,u=>u=K4 a
 | .ty n,u=>u=Mh n
noncomputable abbrev Vals:J9 V->J9 Kd->Prop:=PH RelV
theorem Vals.length {xs:J9 V}{us:J9 Kd}(r:Vals xs us):xs.length=us.length:=Pk r
theorem Vals.get:∀ {xs:J9 V} {us:J9 Kd} {i:Kk} {x:V},Vals xs us->xs[i]?=ba x->∃u,us[i]?=ba u/\RelV x u
 | _,_,_,_,.nil,e=>by simp at e
 | _,_,0,_,.cons r _,e=>by simp at e; subst e; exact⟨_,rfl,r⟩
 | _,_,i+1,x,.cons _ t,e=>by
  obtain⟨u,h1,h2⟩:=Vals.get (i:=i) (x:=x) t (by simpa using e)
  exact⟨u,by simpa using h1,h2⟩
theorem Vals.set {x:V}{u:Kd}(r:RelV x u):∀ {xs:J9 V} {us:J9 Kd} (i:Kk),Vals xs us->Vals (xs.set i x) (us.set i u)
 | _,_,_,.nil=>.nil
 | _,_,0,.cons _ t=>.cons r t
 | _,_,i+1,.cons q t=>.cons q (Vals.set r i t)
theorem Vals.append:∀ {xs ys:J9 V} {us ws:J9 Kd},Vals xs us->Vals ys ws->Vals (xs++ys) (us++ws)
 | _,_,_,_,.nil,s=>s
 | _,_,_,_,.cons r t,s=>.cons r (Vals.append t s)
theorem Vals.take:∀ {xs:J9 V} {us:J9 Kd} (n:Kk),Vals xs us->Vals (xs.take n) (us.take n)
 | _,_,0,_=>.nil
 | _,_,_+1,.nil=>.nil
 | _,_,n+1,.cons r t=>.cons r (Vals.take n t)
theorem Vals.drop:∀ {xs:J9 V} {us:J9 Kd} (n:Kk),Vals xs us->Vals (xs.drop n) (us.drop n)
 | _,_,0,r=>r
 | _,_,_+1,.nil=>.nil
 | _,_,n+1,.cons _ t=>Vals.drop n t
noncomputable def F4:Ki V->Ki Kd->Prop
 | some v,ba u=>RelV v u
 | none,gV=>QP
 | _,_=>LL
noncomputable def KV {κ:Type}:J9 (κ×V)->J9 (κ×Kd)->Prop:=PH λ(p:κ×V) (q:κ×Kd)=>p.1=q.1/\RelV p.2 q.2
noncomputable def kV:o9->V
 | .inl i=>.int i
 | .inr x=>.str x
inductive HO where
 | lst (xs:J9 V)
 | tup (xs:J9 V)
 | dK (kvs:J9 (o9×V))|dT (kvs:J9 (J9 o9×V))
 | set (S:Ky->KP) (n:Kk)
 | ins (C dx:Kl) (fs:J9 (KF×V))
 | own (x:Kl)
 | xd (fs:J9 (KF×V))
 | met (f x:Kl)
 | rng (lo hi:Ky)
 | frz (o:LZ) (u:HO)
 | tbl (ps:KQ Kd)
 | ext (φ:Lj->Prop)
noncomputable abbrev Hp:=Kl->Ki HO
noncomputable def bZ (H:Hp)(a:Kl)(o:HO):Hp:=λb=>if b=a then ba o else H b
theorem bh {H:Hp}{a:Kl}{o:HO}:bZ H a o a=ba o:=by unfold bZ; rw[KJ rfl]
theorem aK {H:Hp}{a b:Kl}{o:HO}(h:b≠a):bZ H a o b=H b:=by unfold bZ; rw[KW h]
theorem eD {H:Hp}{a b:Kl}{o:HO}(h:H a=ba o)(h':H b=gV):a≠b:=by
 intro e; subst e; rw[h]at h'; cases h'
section
variable (P:K1) (w:Lb)
noncomputable def ObjOk (H:Hp)(h:Lj)(a:Kl):HO->Prop
 | .lst xs=>xs.length<=sizeLine/\∃(its:J9 Kd) (n:Kk),Vals xs its/\h.get? a=ba { cls:=.type "list",data:=.seq its.toArray n }
 | .tup xs=>xs.length<=sizeLine/\∃its:J9 Kd,Vals xs its/\Q8 h a its.toArray
 | .dK kvs=>kvs.length<=sizeLine/\(a==sysModules)=false/\∃vs,KV kvs vs/\h.DictOf (pb P w) a vs
 | .dT kvs=>kvs.length<=sizeLine/\(a==sysModules)=false/\∃xs:J9 (J9 o9×Kl×Kd),
   PH (λ(p:J9 o9×V) (q:J9 o9×Kl×Kd)=>p.1=q.1/\H q.2.1=ba (.tup (p.1.map kV))/\RelV p.2 q.2.2) kvs xs/\
   ∃o es ep,h.get? a=ba o/\o.ExactDict/\o.data=.dict es ep/\es.toList=xs.map (entryOfKey (tupleKind (pb P w)))/\(xs.map (·.1)).Nodup
 | .set S n=>h.SetOf (intKind P w) a S n
 | .ins C dx fs=>H dx=ba (.own a)/\fs.length<=1000/\dx≠a/\h.get? a=ba (PySem.W.instObj C dx)/\
   ∃mA,h.Ns1 dx mA/\(∀f,F4 (fs.lookup f) (mA f))/\PySem.Within mA (fs.map (·.1))
 | .own _=>∃o,h.get? a=ba o
 | .xd fs=>∃mA,h.Ns1 a mA/\∀f,F4 (fs.lookup f) (mA f)
 | .rng lo hi=>∃t u v,h.get? a=ba { cls:=.type "range",data:=.fields [.int lo t,.int hi u,.int 1 v].toArray }
 | .frz o u=>h.get? a=ba o/\ObjOk H h a u
 | .tbl ps=>h.get? a=ba { cls:=.none,data:=.fields ps }
 | .met f x=>h.get? a=ba (Pb (.ref f) (.ref x))
 | .ext φ=>φ h/\(∃o,h.get? a=ba o)/\∀h1 h2:Lj,φ h1->(∀o,h1.get? a=ba o->h2.get? a=ba o)->φ h2
noncomputable def HOk (H:Hp)(h:Lj):Prop:=∀a o,H a=ba o->ObjOk P w H h a o
end
section
variable{P:K1}{w:Lb}{H H':Hp}{h h':Lj}{a:Kl}{o:HO}
theorem ObjOk.lt (x:ObjOk P w H h a o):a < h.objs.size:=by
 cases o with
 | lst xs=>obtain⟨_,_,_,_,e⟩:=x; exact KA e
 | tup xs=>obtain⟨_,_,_,p⟩:=x; exact p.lt
 | dK kvs=>obtain⟨_,_,_,_,o,_,_,e,_⟩:=x; exact KA e
 | dT kvs=>obtain⟨_,_,_,_,o,_,_,e,_⟩:=x; exact KA e
 | set S n=>obtain⟨o,_,_,_,e,_⟩:=x; exact KA e
 | ins C dx fs=>obtain⟨_,_,_,e,_⟩:=x; exact KA e
 | own y=>obtain⟨_,e⟩:=x; exact KA e
 | xd fs=>obtain⟨_,⟨_,_,_,e,_⟩,_⟩:=x; exact KA e
 | rng lo hi=>obtain⟨_,_,_,e⟩:=x; exact KA e
 | frz ob u=>obtain⟨e,_⟩:=x; exact KA e
 | tbl ps=>exact KA (show h.get? a=ba _ from x)
 | met f y=>exact KA (show h.get? a=ba _ from x)
 | ext φ=>obtain⟨_,⟨_,e⟩,_⟩:=x; exact KA e
theorem Paired.mapP {α β:Type}{F G:α->β->Prop}:∀ {l₁:J9 α} {l₂:J9 β},PH F l₁ l₂->(∀a b,F a b->G a b)->PH G l₁ l₂
 | _,_,.nil,_=>.nil
 | _,_,.cons r t,f=>.cons (f _ _ r) (Paired.mapP t f)
theorem ObjOk.stay (x:ObjOk P w H h a o)(k:∀b u,(b=a\/H b=ba (.own a))->h.get? b=ba u->h'.get? b=ba u)
  (ho:∀b,H b=ba (.own a)->H' b=ba (.own a)) (ht:∀b xs,H b=ba (.tup xs)->H' b=ba (.tup xs)):ObjOk P w H' h' a o:=by
 induction o with
 | lst xs=>obtain⟨z,its,n,r,e⟩:=x; exact⟨z,its,n,r,k _ _ (.inl rfl) e⟩
 | tup xs=>obtain⟨z,its,r,ob,e,c⟩:=x; exact⟨z,its,r,ob,k _ _ (.inl rfl) e,c⟩
 | dK kvs=>obtain⟨z,y,vs,r,ob,es,ep,e,c⟩:=x; exact⟨z,y,vs,r,ob,es,ep,k _ _ (.inl rfl) e,c⟩
 | dT kvs=>
  obtain⟨z,y,xs,r,ob,es,ep,e,c⟩:=x;exact⟨z,y,xs,Paired.mapP r λp q z=>⟨z.1,ht _ _ z.2.1,z.2.2⟩,ob,es,ep,k _ _ (.inl rfl) e,c⟩
 | set S n=>obtain⟨ob,es,ep,t,e,c⟩:=x; exact⟨ob,es,ep,t,k _ _ (.inl rfl) e,c⟩
 | ins C dx fs=>
  obtain⟨d,z,ne,e,mA,⟨od,es,ep,e2,c⟩,r⟩:=x;exact⟨ho _ d,z,ne,k _ _ (.inl rfl) e,mA,⟨od,es,ep,k _ _ (.inr d) e2,c⟩,r⟩
 | own y=>obtain⟨ob,e⟩:=x; exact⟨ob,k _ _ (.inl rfl) e⟩
 | xd fs=>obtain⟨mA,⟨od,es,ep,e,c⟩,r⟩:=x; exact⟨mA,⟨od,es,ep,k _ _ (.inl rfl) e,c⟩,r⟩
 | rng lo hi=>obtain⟨t,u,v,e⟩:=x; exact⟨t,u,v,k _ _ (.inl rfl) e⟩
 | frz ob u ih=>obtain⟨e,q⟩:=x; exact⟨k _ _ (.inl rfl) e,ih q⟩
 | tbl ps=>
  have e:h.get? a=ba { cls:=.none,data:=.fields ps }:=x;show h'.get? a=ba { cls:=.none,data:=.fields ps };exact k a _ (.inl rfl) e
 | met f y=>
  have e:h.get? a=ba (Pb (.ref f) (.ref y)):=x;show h'.get? a=ba (Pb (.ref f) (.ref y));exact k a _ (.inl rfl) e
 | ext φ=>obtain⟨p,⟨o,e⟩,st⟩:=x; exact⟨st _ _ p λo q=>k _ _ (.inl rfl) q,⟨o,k _ _ (.inl rfl) e⟩,st⟩
theorem HOk.lt (x:HOk P w H h)(e:H a=ba o):a < h.objs.size:=(x a o e).lt
theorem HOk.fresh (x:HOk P w H h)(e:h.objs.size<=a):H a=gV:=by
 cases q:H a with
 | none=>rfl
 | some u=>exact absurd (KR (x.lt q) e) (LQ _)
theorem HOk.kept (x:HOk P w H h)(k:∀b u,h.get? b=ba u->h'.get? b=ba u):HOk P w H h':=λa o e=>
 (x a o e).stay (λb u _ q=>k b u q) (λ_ q=>q) λ_ _ q=>q
theorem HOk.laid (x:HOk P w H h)(k:∀b u,h.get? b=ba u->h'.get? b=ba u)(hp:h.objs.size<=a)(new:ObjOk P w (bZ H a o) h' a o):HOk P w (bZ H a o) h':=λb u e=>by
 have hn:=x.fresh hp
 by_cases hb:b=a
 ·subst hb; rw[bh]at e; cases e; exact new
 ·rw[aK hb]at e;exact(x b u e).stay (λc v _ q=>k c v q) (λc q=>by rw[aK (eD q hn)]; exact q) λc xs q=>by rw[aK (eD q hn)]; exact q
end
noncomputable def Rd (H:Hp)(a:Kl)(u:HO):Prop:=H a=ba u\/∃o,H a=ba (.frz o u)
theorem Rd.ok {P:K1}{w:Lb}{H:Hp}{h:Lj}{a:Kl}{u:HO}(r:Rd H a u)(x:HOk P w H h):ObjOk P w H h a u:=by
 rcases r with r|⟨o,r⟩
 ·exact x a u r
 ·obtain⟨_,q⟩:=x a _ r;exact q
noncomputable def F5:Ki HO->Prop
 | some (.lst _)=>QP
 | some (.dK _)=>QP
 | some (.dT _)=>QP
 | some (.set _ _)=>QP
 | some (.ins _ _ _)=>QP
 | some (.ext _)=>QP
 | _=>LL
section
variable{P:K1}{w:Lb}{H:Hp}{h h':Lj}{x e:Kl}{o':HO}
theorem HOk.write (ok:HOk P w H h)(mu:F5 (H x))(he:e=x\/H e=ba (.own x))(k:∀b u,b≠e->h.get? b=ba u->h'.get? b=ba u)(heo:∃u,h'.get? e=ba u)
  (new:ObjOk P w (bZ H x o') h' x o'):HOk P w (bZ H x o') h':=λb u q=>by
 have nown:∀c y,H c=ba (.own y)->c≠x:=λc y r z=>by subst z; rw[r]at mu; exact mu
 have ntup:∀c xs,H c=ba (.tup xs)->c≠x:=λc xs r z=>by subst z; rw[r]at mu; exact mu
 by_cases hb:b=x
 ·subst hb; rw[bh]at q; cases q; exact new
 ·rw[aK hb]at q
  by_cases hbe:b=e
  ·have q':H b=ba (.own x):=by
    rcases he with z|z
    ·exact absurd (hbe.trans z) hb
    ·rw[hbe]; exact z
   rw[q]at q'; cases q'
   obtain⟨v,hv⟩:=heo;exact⟨v,by rw[hbe]; exact hv⟩
  ·refine(ok b u q).stay (λc v hc r=>k c v ?_ r) (λc r=>by rw[aK (nown c b r)]; exact r) λc xs r=>by rw[aK (ntup c xs r)]; exact r
   rcases hc with rfl|hc
   ·exact hbe
   ·rintro rfl;rcases he with z|z
    ·exact nown c b hc z
    ·rw[hc]at z; cases z; exact hb rfl
end
structure Un (fs ex:J9 Kl)(H H':Hp)(h h':Lj):Prop where
 keep:∀b o,h.get? b=ba o->H b=gV->b∉fs->b∉ex->h'.get? b=ba o
 slot:∀b o,h.get? b=ba o->H b=gV->b∈fs->b∉ex->∃sl,h'.get? b=ba { o with slots:=sl }
 free:∀b o,h.get? b=ba o->H b=gV->b∉ex->H' b=gV
 there:∀b o,h.get? b=ba o->b∉ex->∃o',h'.get? b=ba o'
 tups:∀b xs,H b=ba (.tup xs)->H' b=ba (.tup xs)
 frzs:∀b o u,H b=ba (.frz o u)->H' b=ba (.frz o u)
 tbls:∀b ps,H b=ba (.tbl ps)->∃more,H' b=ba (.tbl (ps++more))
section
variable{fs fs' ex ex':J9 Kl}{H H1 H2:Hp}{h h1 h2 h':Lj}{a x e:Kl}{o:HO}
theorem Un.any (u:Un fs ex H H1 h h1){b:Kl}{ob:LZ}(q:h.get? b=ba ob)(n:H b=gV)(hx:b∉ex):∃sl,h1.get? b=ba { ob with slots:=sl }:=by
 by_cases hb:b∈fs
 ·exact u.slot b ob q n hb hx
 ·exact⟨ob.slots,u.keep b ob q n hb hx⟩
theorem Un.trans (a:Un fs ex H H1 h h1)(b:Un fs ex H1 H2 h1 h2):Un fs ex H H2 h h2 where
 keep:=λc ob q n hc hx=>b.keep c ob (a.keep c ob q n hc hx) (a.free c ob q n hx) hc hx
 slot:=λc ob q n hc hx=>by
  obtain⟨sl,e1⟩:=a.slot c ob q n hc hx;obtain⟨sl',e2⟩:=b.slot c _ e1 (a.free c ob q n hx) hc hx;exact⟨sl',e2⟩
 free:=λc ob q n hx=>by
  obtain⟨o',e1⟩:=a.there c ob q hx;exact b.free c o' e1 (a.free c ob q n hx) hx
 there:=λc ob q hx=>by
  obtain⟨o',e1⟩:=a.there c ob q hx;exact b.there c o' e1 hx
 tups:=λc xs q=>b.tups c xs (a.tups c xs q)
 frzs:=λc ob xs q=>b.frzs c ob xs (a.frzs c ob xs q)
 tbls:=λc ps q=>by
  obtain⟨m1,e1⟩:=a.tbls c ps q;obtain⟨m2,e2⟩:=b.tbls c _ e1;exact⟨m1++m2,by rw[e2,QQ]⟩
theorem Un.kept (k:∀b u,h.get? b=ba u->h'.get? b=ba u):Un fs ex H H h h':=
 ⟨λb ob q _ _ _=>k b ob q,λb ob q _ _ _=>⟨ob.slots,k b ob q⟩,λ_ _ _ n _=>n,λb ob q _=>⟨ob,k b ob q⟩,λ_ _ q=>q,λ_ _ _ q=>q,λ_ ps q=>⟨#[],by rw[q]; simp⟩⟩
theorem Un.refl:Un fs ex H H h h:=Un.kept λ_ _ q=>q
theorem Un.laid (k:∀b u,h.get? b=ba u->h'.get? b=ba u)(hp:h.objs.size<=a)(hn:H a=gV):Un fs ex H (bZ H a o) h h' where
 keep:=λb u q _ _ _=>k b u q
 slot:=λb u q _ _ _=>⟨u.slots,k b u q⟩
 free:=λb u q n _=>by rw[aK (KM (KR (KA q) hp))]; exact n
 there:=λb u q _=>⟨u,k b u q⟩
 tups:=λb xs q=>by rw[aK (eD q hn)]; exact q
 frzs:=λb u xs q=>by rw[aK (eD q hn)]; exact q
 tbls:=λb ps q=>⟨#[],by rw[aK (eD q hn),q]; simp⟩
theorem Un.write (mu:F5 (H x))(he:e=x\/H e=ba (.own x))(k:∀b u,b≠e->h.get? b=ba u->h'.get? b=ba u)(heo:∃u,h'.get? e=ba u):Un fs ex H (bZ H x o) h h':=by
 have hx:∀b,H b=gV->b≠x:=λb n z=>by subst z; rw[n]at mu; exact mu
 have hb:∀b,H b=gV->b≠e:=λb n z=>by
  subst z;rcases he with r|r
  ·exact hx b n r
  ·rw[n]at r; cases r
 have hm:∀b u,H b=ba u->¬ F5 (ba u)->b≠x:=λb u q nm z=>by subst z; rw[q]at mu; exact nm mu
 refine⟨λb u q n _ _=>k b u (hb b n) q,λb u q n _ _=>⟨u.slots,k b u (hb b n) q⟩,λb u q n _=>by rw[aK (hx b n)]; exact n,λb u q _=>?_,
  λb xs q=>by rw[aK (hm b _ q λz=>z)]; exact q,λb u xs q=>by rw[aK (hm b _ q λz=>z)]; exact q,λb ps q=>⟨#[],by rw[aK (hm b _ q λz=>z),q]; simp⟩⟩
 by_cases hbe:b=e
 ·subst hbe; exact heo
 ·exact⟨u,k b u hbe q⟩
end
noncomputable def HV (h:Lj)(H:Hp):J9 Kl:=(KS h.objs.size).filter λa=>(H a).isSome
noncomputable def pc (h:Lj)(H:Hp):Lj:=PySem.W.hideAll h (HV h H)
theorem v6 (h:Lj)(H:Hp):(pc h H).objs.size=h.objs.size:=PySem.W.hideAll_size _ _
theorem xH {h:Lj}{H:Hp}{b:Kl}{o:LZ}(e:h.get? b=ba o)(n:H b=gV):(pc h H).get? b=ba o:=
 PySem.W.hideAll_get _ e λhm=>by
  have q:(H b).isSome=true:=(Ma.mp hm).2;rw[n]at q; simp at q
theorem A7 {h:Lj}{H:Hp}{b:Kl}{o:LZ}(e:(pc h H).get? b=ba o):h.get? b=ba o/\H b=gV:=by
 have e':h.get? b=ba o:=PySem.W.of_hideAll (HV h H) e;refine⟨e',?_⟩;cases q:H b with
 | none=>rfl
 | some x=>
  have hm:b∈HV h H:=Ma.mpr ⟨K6.mpr (KA e'),by simp[q]⟩
  have z:(pc h H).get? b=gV:=PySem.W.hideAll_none (HV h H) hm;rw[z]at e; cases e
noncomputable def Ba (g h:Lj)(L:Kl):J9 (Kl×LZ):=(KS h.objs.size).filterMap λa=>if a=L\/(g.get? a).isSome=true then gV else(h.get? a).map λo=>(a,o)
noncomputable def bV (g h:Lj)(L d:Kl):J9 (Kl×LZ):=(Ba g h L).filter λp=>decide (p.1≠d)
structure Mod (K:Kr)(mg:KF->Ki Kd)(base:Lj):Prop where
 kin:K.In base
 glob:base.Ns mainGlobals mg
 blt:∃mb,base.Ns builtinsNs mb/\∀x:KF,x≠"__name__"->mb x=bootBuiltins x
 nolimit:base.NoLimit
structure Cx where
 prog:K1
 w:Lb
 K:Kr
 mg:KF->Ki Kd
 base:Lj
 A:K9
 N:J9 KF
 s₀:Kg
 H₀:Hp
 env:Q9
 outer:J9 Q9
 stack:J9 Q9
 ex:J9 Kl
 fn:KF->KP
 calm:KP
 pn:J9 (Kl×LZ)
 xe:Kd->Kg->Prop
noncomputable def sV (l:J9 Q9):J9 Kl:=l.filterMap (·.frame)
noncomputable abbrev Cx.fs (X:Cx):J9 Kl:=sV X.outer
noncomputable def HW (sc:Nz)(x:KF):Prop:=sc.names.lookup x=ba .local\/sc.names.lookup x=ba .cell\/sc.names.lookup x=ba .free
noncomputable def Bb (sc:Nz)(x:KF):Prop:=sc.names.lookup x=ba .local\/sc.names.lookup x=ba .cell
noncomputable def Ir (env:Q9)(h:Lj)(m:KF->Ki Kd)(x:KF)(u:Kd):Prop:=
 (env.kindOf x=ba .local/\m x=ba u)\/((env.kindOf x=ba .cell\/env.kindOf x=ba .free)/\∃c,env.cells.lookup x=ba c/\h.IsCell c (ba u))
structure Cx.Ok (X:Cx):Prop where
 mod:Mod X.K X.mg X.base
 kind:X.env.scope.kind=.function
 glob:X.env.globals=mainGlobals
 blt:X.env.builtins=builtinsNs
 above:X.s₀.heap.objs.size<=X.env.locals
 inj:∀x y c,X.env.cells.lookup x=ba c->X.env.cells.lookup y=ba c->x=y
 has:∀x,(X.env.kindOf x=ba .cell\/X.env.kindOf x=ba .free)->∃c,X.env.cells.lookup x=ba c
 cab:∀x c,X.fn x=true->X.env.cells.lookup x=ba c->X.s₀.heap.objs.size<=c
 hd:X.calm=true->X.A.handled=gV
 frames:X.A.frames=ba X.stack
 stk:X.stack=X.outer\/(X.stack=X.env::X.outer/\X.env.frame=ba X.env.locals)
 exf:∀b∈X.ex,b≠X.env.locals/\∀x c,X.env.cells.lookup x=ba c->c≠b
 bs:∀b o,X.base.get? b=ba o->X.s₀.heap.get? b=ba o/\X.H₀ b=gV
 bsz:X.base.objs.size<=X.s₀.heap.objs.size
 noex:∀b o,X.base.get? b=ba o->b∉X.ex
 exfs:∀b∈X.ex,b∉X.fs
 funs:X.s₀.heap.FunFrames X.base X.outer
 frf:∀b∈X.fs,X.H₀ b=gV
structure Inv (X:Cx)(pins:J9 (Kl×LZ))(σ:J9 (Ki V))(H:Hp)(s:Kg):Prop where
 ok:X.Ok
 os:s.os=X.s₀.os
 bare:Pc s.gens
 base:Un X.fs X.ex X.H₀ H X.s₀.heap s.heap
 loc:∃m,s.heap.Ns X.env.locals m/\∀(i:Kk) (x:KF) (v:V),X.N[i]?=ba x->σ[i]?=ba (ba v)->HW X.env.scope x->∃u,RelV v u/\Ir X.env s.heap m x u
 cell:∀x c,X.env.cells.lookup x=ba c->∃v,s.heap.IsCell c v
 free:H X.env.locals=gV
 freeC:∀x c,X.env.cells.lookup x=ba c->H c=gV
 pin:∀p∈X.pn++pins,s.heap.get? p.1=ba p.2/\H p.1=gV/\p.1≠X.env.locals/\p.1∉X.fs/\∀v,p.2.data≠.cell v
 hok:HOk X.prog X.w H s.heap
 len:σ.length=X.N.length
section
variable{X:Cx}{pins:J9 (Kl×LZ)}{σ:J9 (Ki V)}{H H':Hp}{s:Kg}{h':Lj}
theorem Cx.Ok.nofr (ok:X.Ok){b:Kl}{o:LZ}(e:X.base.get? b=ba o):b∉X.fs:=λhb=>by
 have:=(ok.funs.mem hb).1;rw[e]at this; cases this
theorem Inv.bs (I:Inv X pins σ H s):∀b o,X.base.get? b=ba o->s.heap.get? b=ba o/\H b=gV:=λb o e=>
 ⟨I.base.keep b o (I.ok.bs b o e).1 (I.ok.bs b o e).2 (I.ok.nofr e) (I.ok.noex b o e),I.base.free b o (I.ok.bs b o e).1 (I.ok.bs b o e).2 (I.ok.noex b o e)⟩
theorem Inv.bk (I:Inv X pins σ H s):∀b o,X.base.get? b=ba o->s.heap.get? b=ba o:=λb o e=>(I.bs b o e).1
theorem Inv.mod (I:Inv X pins σ H s):Mod X.K X.mg X.base:=I.ok.mod
theorem Inv.kIn (I:Inv X pins σ H s):X.K.In s.heap:=I.ok.mod.kin.keeps I.bk
theorem Inv.lt (I:Inv X pins σ H s):X.env.locals < s.heap.objs.size:=let ⟨_,hn,_⟩:=I.loc; hn.lt
theorem Inv.sz (I:Inv X pins σ H s):X.s₀.heap.objs.size<=s.heap.objs.size:=KT I.ok.above (NL I.lt)
theorem Inv.nofs (I:Inv X pins σ H s){a:Kl}(h:s.heap.objs.size<=a):a∉X.fs:=λhb=>by
 obtain⟨_,o,ho,_⟩:=I.ok.funs.mem hb;exact absurd (KR (KA ho) (KT I.sz h)) (LQ _)
theorem Inv.cne (I:Inv X pins σ H s):∀x c,X.env.cells.lookup x=ba c->c≠X.env.locals:=λx c e z=>by
 obtain⟨v,o,ho,hd⟩:=I.cell x c e;obtain⟨m,⟨o',es,ep,ho',hd',_⟩,_⟩:=I.loc;rw[z,ho']at ho; cases ho; rw[hd']at hd; cases hd
theorem Inv.funs (I:Inv X pins σ H s):s.heap.FunFrames X.base X.outer:=by
 have all:∀(l:J9 Q9),(∀b∈sV l,b∈X.fs)->X.s₀.heap.FunFrames X.base l->s.heap.FunFrames X.base l:=by
  intro l
  induction l with
  | nil=>intro _ _; trivial
  | cons env r ih=>
   intro hs hl;obtain⟨hk,⟨L,o,hf,hn,ho,hd⟩,hr⟩:=hl;have hL:L∈X.fs:=hs L (by unfold sV; rw[NV,hf]; exact LM)
   obtain⟨sl,e⟩:=I.base.slot L o ho (I.ok.frf L hL) hL λz=>I.ok.exfs L z hL
   exact⟨hk,⟨L,_,hf,hn,e,hd⟩,ih (λb hb=>hs b (by unfold sV; rw[NV,hf]; exact LD _ hb)) hr⟩
 exact all X.outer (λ_ hb=>hb) I.ok.funs
theorem Inv.stack (I:Inv X pins σ H s):s.heap.FunFrames X.base X.stack:=by
 rcases I.ok.stk with e|⟨e,hf⟩
 ·rw[e]; exact I.funs
 ·rw[e];obtain⟨m,hn,_⟩:=I.loc;refine .cons (by rw[I.ok.kind]; decide) hf hn ?_ I.funs
  exact Heap.get?_none_of_le (KT I.ok.bsz I.ok.above)
theorem Inv.stkSub (I:Inv X pins σ H s):∀b∈sV X.stack,b∈X.env.locals::X.fs:=λb hb=>by
 rcases I.ok.stk with e|⟨e,hf⟩
 ·rw[e]at hb; exact LD _ hb
 ·rw[e]at hb;unfold sV at hb;rw[NV,hf]at hb;exact hb
theorem Inv.stkFree (I:Inv X pins σ H s):∀b∈sV X.stack,H b=gV:=λb hb=>by
 rcases KL.mp (I.stkSub b hb)with e|hb
 ·rw[e]; exact I.free
 ·obtain⟨_,o,ho,_⟩:=I.ok.funs.mem hb;exact I.base.free b o ho (I.ok.frf b hb) λz=>I.ok.exfs b z hb
theorem Inv.step {g':KQ Qi}{t':Kk}{d':Ui}{ch:J9 Kl}(I:Inv X pins σ H s)
  (hch:∀b∈ch,(b∈X.ex\/X.s₀.heap.objs.size<=b)/\b≠X.env.locals/\(∀x c,X.env.cells.lookup x=ba c->c≠b)/\∀p∈X.pn++pins,p.1≠b)
  (keep:∀b o,b≠X.env.locals->b∉X.fs->b∉ch->s.heap.get? b=ba o->H b=gV->h'.get? b=ba o)
  (slot:∀b o,b≠X.env.locals->b∈X.fs->b∉ch->s.heap.get? b=ba o->H b=gV->∃sl,h'.get? b=ba { o with slots:=sl }) (free:∀b o,b∉ch->s.heap.get? b=ba o->H b=gV->H' b=gV)
  (there:∀b o,b∉ch->s.heap.get? b=ba o->∃o',h'.get? b=ba o')
  (tups:∀b xs,H b=ba (.tup xs)->H' b=ba (.tup xs)) (frzs:∀b o u,H b=ba (.frz o u)->H' b=ba (.frz o u)) (tbls:∀b ps,H b=ba (.tbl ps)->∃more,H' b=ba (.tbl (ps++more)))
  (ns:∀m,s.heap.Ns X.env.locals m->h'.Ns X.env.locals m) (hok:HOk X.prog X.w H' h') (hg:Pc g') :
  Inv X pins σ H' { s with heap:=h',gens:=g',drawn:=d',toks:=t' }:=by
 have neL:∀b o,X.s₀.heap.get? b=ba o->b≠X.env.locals:=λb o e=>KM (KR (KA e) I.ok.above)
 have neC:∀b o,X.s₀.heap.get? b=ba o->b∉X.ex->b∉ch:=λb o e hx hb=>by
  rcases(hch b hb).1 with z|z
  ·exact hx z
  ·exact absurd (KR (KA e) z) (LQ _)
 have cellK:∀x c,X.env.cells.lookup x=ba c->∀v,s.heap.IsCell c v->h'.IsCell c v:=λx c e v ⟨o,ho,hd⟩=>by
  have nch:c∉ch:=λz=>(hch c z).2.2.1 x c e rfl
  by_cases hc:c∈X.fs
  ·obtain⟨sl,q⟩:=slot c o (I.cne x c e) hc nch ho (I.freeC x c e);exact⟨_,q,hd⟩
  ·exact⟨o,keep c o (I.cne x c e) hc nch ho (I.freeC x c e),hd⟩
 refine⟨I.ok,I.os,hg,⟨λb o e n hb hx=>?_,λb o e n hb hx=>?_,λb o e n hx=>?_,λb o e hx=>?_,λb xs e=>tups b xs (I.base.tups b xs e),λb o xs e=>frzs b o xs (I.base.frzs b o xs e),λb ps e=>?_⟩,?_,λx c e=>?_,?_,λx c e=>?_,λp hp=>?_,hok,I.len⟩
 ·exact keep b o (neL b o e) hb (neC b o e hx) (I.base.keep b o e n hb hx) (I.base.free b o e n hx)
 ·obtain⟨sl,e1⟩:=I.base.slot b o e n hb hx;obtain⟨sl',e2⟩:=slot b _ (neL b o e) hb (neC b o e hx) e1 (I.base.free b o e n hx);exact⟨sl',e2⟩
 ·obtain⟨o',e1⟩:=I.base.there b o e hx;exact free b o' (neC b o e hx) e1 (I.base.free b o e n hx)
 ·obtain⟨o',e1⟩:=I.base.there b o e hx;exact there b o' (neC b o e hx) e1
 ·obtain⟨m1,e1⟩:=I.base.tbls b ps e;obtain⟨m2,e2⟩:=tbls b _ e1;exact⟨m1++m2,by rw[e2,QQ]⟩
 ·obtain⟨m,hn,hl⟩:=I.loc;refine⟨m,ns m hn,λi x v e1 e2 e3=>?_⟩
  obtain⟨u,r,l⟩:=hl i x v e1 e2 e3;refine⟨u,r,?_⟩;rcases l with l|⟨k,c,e,z⟩
  ·exact .inl l
  ·exact .inr ⟨k,c,e,cellK x c e _ z⟩
 ·obtain⟨v,z⟩:=I.cell x c e;exact⟨v,cellK x c e v z⟩
 ·obtain⟨m,⟨o,_,_,ho,_⟩,_⟩:=I.loc;exact free _ o (λz=>(hch _ z).2.1 rfl) ho I.free
 ·obtain⟨v,o,ho,hd⟩:=I.cell x c e;exact free c o (λz=>(hch c z).2.2.1 x c e rfl) ho (I.freeC x c e)
 ·obtain⟨e,n,ne,nf,d⟩:=I.pin p hp;have nch:p.1∉ch:=λz=>(hch p.1 z).2.2.2 p hp rfl
  exact⟨keep p.1 p.2 ne nf nch e n,free p.1 p.2 nch e n,ne,nf,d⟩
theorem Inv.un {t':Kk}(I:Inv X pins σ H s)(u:Un X.fs [] H H' s.heap h')(hok:HOk X.prog X.w H' h'):Inv X pins σ H' { s with heap:=h',toks:=t' }:=by
 obtain⟨m,⟨o,es,ep,ho,r⟩,_⟩:=id I.loc;obtain⟨sl,hL⟩:=u.any ho I.free (by simp)
 exact I.step (g':=s.gens) (d':=s.drawn) (ch:=[]) (λ_ z=>nomatch z) (λb o _ hb _ e n=>u.keep b o e n hb (by simp)) (λb o _ hb _ e n=>u.slot b o e n hb (by simp)) (λb o _ e n=>u.free b o e n (by simp)) (λb o _ e=>u.there b o e (by simp)) u.tups u.frzs u.tbls (λm' hm=>by
  obtain⟨o',es',ep',ho',r'⟩:=hm;rw[ho]at ho'; cases ho'
  exact⟨_,es',ep',hL,r'⟩) hok I.bare
theorem Inv.call {g':KQ Qi}{t':Kk}{d':Ui}{ch:J9 Kl}(I:Inv X pins σ H s)(u:Un (sV X.stack) ch H H' s.heap h')(hok:HOk X.prog X.w H' h')(hg:Pc g')
  (hch:∀b∈ch,(b∈X.ex\/X.s₀.heap.objs.size<=b)/\b≠X.env.locals/\(∀x c,X.env.cells.lookup x=ba c->c≠b)/\∀p∈X.pn++pins,p.1≠b) :
  Inv X pins σ H' { s with heap:=h',gens:=g',drawn:=d',toks:=t' }:=by
 obtain⟨m,⟨o,es,ep,ho,r⟩,_⟩:=id I.loc;obtain⟨sl,hL⟩:=u.any ho I.free λz=>(hch _ z).2.1 rfl
 exact I.step (ch:=ch) hch (λb o hL hb hc e n=>u.keep b o e n (λz=>(KL.mp (I.stkSub b z)).elim hL hb) hc) (λb o _ _ hc e n=>u.any e n hc) (λb o hc e n=>u.free b o e n hc) (λb o hc e=>u.there b o e hc) u.tups u.frzs u.tbls (λm' hm=>by
  obtain⟨o',es',ep',ho',r'⟩:=hm;rw[ho]at ho'; cases ho'
  exact⟨_,es',ep',hL,r'⟩) hok hg
theorem Inv.turned {t':Kk}{it:Kl}(I:Inv X pins σ H s)(k:∀b o,b≠it->s.heap.get? b=ba o->h'.get? b=ba o)(hn:H it=gV)(hL:it≠X.env.locals)
  (h1:it∈X.ex\/X.s₀.heap.objs.size<=it) (h2:∀x c,X.env.cells.lookup x=ba c->c≠it) (h3:∀p∈X.pn++pins,p.1≠it):Inv X pins σ H { s with heap:=h',toks:=t' }:=by
 have nit:∀b u,H b=ba u->b≠it:=λb u e z=>by rw[z,hn]at e; cases e
 refine I.step (g':=s.gens) (d':=s.drawn) (ch:=[it]) (λb hb=>?_) (λb o _ _ hc e _=>k b o (λz=>hc (by simp[z])) e) (λb o _ _ hc e _=>⟨o.slots,k b o (λz=>hc (by simp[z])) e⟩) (λ_ _ _ _ n=>n)
  (λb o hc e=>⟨o,k b o (λz=>hc (by simp[z])) e⟩) (λ_ _ e=>e) (λ_ _ _ e=>e) (λb ps e=>⟨#[],by rw[e]; simp⟩) (λm hm=>?_) (λb u e=>?_) I.bare
 ·have e:b=it:=by simpa using hb
  subst e;exact⟨h1,hL,h2,h3⟩
 ·obtain⟨o,es,ep,ho,r⟩:=hm;exact⟨o,es,ep,k _ o (Ne.symm hL) ho,r⟩
 ·refine(I.hok b u e).stay (λc v hc q=>k c v ?_ q) (λ_ q=>q) λ_ _ q=>q
  rcases hc with z|z
  ·rw[z]; exact nit b u e
  ·exact nit c _ z
theorem Inv.tok (I:Inv X pins σ H s)(t:Kk):Inv X pins σ H { s with toks:=t }:=I.un (h':=s.heap) (t':=t) Un.refl I.hok
theorem Inv.kept {t':Kk}(I:Inv X pins σ H s)(k:∀b u,s.heap.get? b=ba u->h'.get? b=ba u):Inv X pins σ H { s with heap:=h',toks:=t' }:=I.un (Un.kept k) (I.hok.kept k)
theorem Inv.laid {a:Kl}{o:HO}{t':Kk}(I:Inv X pins σ H s)(k:∀b u,s.heap.get? b=ba u->h'.get? b=ba u)(hp:s.heap.objs.size<=a)(new:ObjOk X.prog X.w (bZ H a o) h' a o) :
  Inv X pins σ (bZ H a o) { s with heap:=h',toks:=t' }:=I.un (Un.laid k hp (I.hok.fresh hp)) (I.hok.laid k hp new)
theorem Inv.write {x e:Kl}{o:HO}{t':Kk}(I:Inv X pins σ H s)(mu:F5 (H x))(he:e=x\/H e=ba (.own x))(k:∀b u,b≠e->s.heap.get? b=ba u->h'.get? b=ba u)(heo:∃u,h'.get? e=ba u)
  (new:ObjOk X.prog X.w (bZ H x o) h' x o):Inv X pins σ (bZ H x o) { s with heap:=h',toks:=t' }:=I.un (Un.write mu he k heo) (I.hok.write mu he k heo new)
theorem Inv.pins_of {pins':J9 (Kl×LZ)}(I:Inv X pins σ H s)(h:∀p∈pins',s.heap.get? p.1=ba p.2/\H p.1=gV/\p.1≠X.env.locals/\p.1∉X.fs/\∀v,p.2.data≠.cell v):Inv X pins' σ H s:=
 ⟨I.ok,I.os,I.bare,I.base,I.loc,I.cell,I.free,I.freeC,λp hp=>(Ln.mp hp).elim (λz=>I.pin p (Mk _ z)) (h p),I.hok,I.len⟩
theorem qS {N:J9 KF}(hN:N.Nodup){i j:Kk}{x:KF}(a:N[i]?=ba x)(b:N[j]?=ba x):i=j:=by
 obtain⟨h1,e1⟩:=Kq.mp a;obtain⟨h2,e2⟩:=Kq.mp b;exact(Nf hN).mp (e1.trans e2.symm)
theorem v8 {M:Uj}{A:K9}{E:Kd->Kg->Prop}{i:Kk}{x:KF}{v:V}{u:Kd}{Q:Unit->Kg->Prop}(I:Inv X pins σ H s)(hN:X.N.Nodup)(hi:X.N[i]?=ba x)(hx:Bb X.env.scope x)(r:RelV v u)
  (h:∀s',Inv X pins (σ.set i (ba v)) H s'->(∃a,Mq a s.heap s'.heap/\(a=X.env.locals\/X.env.cells.lookup x=ba a))->Q () s') (hf:X.fn x=true\/X.env.scope.names.lookup x=ba .local):wpAny M A (storeName X.env x u) Q E s:=by
 obtain⟨m,hn,hl⟩:=id I.loc;have hcls:(X.env.scope.kind==.class||(X.env.scope.kind==.module&&X.env.locals != X.env.globals))=false:=by rw[I.ok.kind]; rfl
 have hiσ:i < σ.length:=by rw[I.len]; exact(Kq.mp hi).1
 have cne:=I.cne;have tracked:∀ {a:Kl} {h':Lj},(∃o,s.heap.get? a=ba o/\H a=gV)->Mq a s.heap h'->HOk X.prog X.w H h':=λ{a h'} ha hs b ob e=>by
  obtain⟨_,_,hfree⟩:=ha;refine(I.hok b ob e).stay (λc w' hc q=>(hs.2 c ?_).trans q) (λ_ q=>q) λ_ _ q=>q
  rintro rfl;rcases hc with rfl|hc
  ·rw[hfree]at e; cases e
  ·rw[hfree]at hc; cases hc
 rcases hx with hk|hk
 ·refine wpAny_storeName_local hk hn (λh' hn' hs=>?_) hcls
  obtain⟨oL,_,_,hoL,_⟩:=id hn;refine h _ ⟨I.ok,I.os,I.bare,⟨λb o e n hb hx=>?_,λb o e n hb hx=>?_,I.base.free,λb o e hx=>?_,I.base.tups,I.base.frzs,I.base.tbls⟩,⟨_,hn',λj y v' e1 e2 e3=>?_⟩,λy c e=>?_,I.free,I.freeC,λp hp=>?_,tracked ⟨oL,hoL,I.free⟩ hs,by simpa using I.len⟩ ⟨_,hs,.inl rfl⟩
  ·exact(hs.2 b (KM (KR (KA e) I.ok.above))).trans (I.base.keep b o e n hb hx)
  ·obtain⟨sl,e1⟩:=I.base.slot b o e n hb hx;exact⟨sl,(hs.2 b (KM (KR (KA e) I.ok.above))).trans e1⟩
  ·obtain⟨o',e1⟩:=I.base.there b o e hx;exact⟨o',(hs.2 b (KM (KR (KA e) I.ok.above))).trans e1⟩
  ·by_cases hj:j=i
   ·subst hj;rw[hi]at e1; cases e1
    rw[PJ hiσ]at e2;cases e2;exact⟨u,r,.inl ⟨hk,by simp⟩⟩
   ·rw[Qj (Ne.symm hj)]at e2;obtain⟨u',r',q⟩:=hl j y v' e1 e2 e3;refine⟨u',r',?_⟩;rcases q with⟨k,e⟩|⟨k,c,e,z⟩
    ·refine .inl ⟨k,?_⟩;have:y≠x:=λe=>hj (qS hN e1 (e ▸ hi))
     simp[this,e]
    ·exact .inr ⟨k,c,e,z.sameBut hs (cne y c e)⟩
  ·obtain⟨w',z⟩:=I.cell y c e;exact⟨w',z.sameBut hs (cne y c e)⟩
  ·obtain⟨e,n,ne,nf,d⟩:=I.pin p hp;exact⟨(hs.2 p.1 ne).trans e,n,ne,nf,d⟩
 ·have hfn:X.fn x=true:=by
   rcases hf with z|z
   ·exact z
   ·rw[z]at hk; cases hk
  obtain⟨c,hc⟩:=I.ok.has x (.inl hk);obtain⟨w',z⟩:=I.cell x c hc;refine wpAny_storeName_cell I.ok.kind hk hc z (λh' hc' hs=>?_)
  obtain⟨oc,hoc,hocd⟩:=id z;refine h { s with heap:=h' } ⟨I.ok,I.os,I.bare,⟨λb o e n hb hx=>?_,λb o e n hb hx=>?_,I.base.free,λb o e hx=>?_,I.base.tups,I.base.frzs,I.base.tbls⟩,⟨m,hn.sameBut hs (Ne.symm (cne x c hc)),λj y v' e1 e2 e3=>?_⟩,λy c' e=>?_,I.free,I.freeC,λp hp=>?_,tracked ⟨oc,hoc,I.freeC x c hc⟩ hs,by simpa using I.len⟩ ⟨c,hs,.inr hc⟩
  ·exact(hs.2 b (KM (KR (KA e) (I.ok.cab x c hfn hc)))).trans (I.base.keep b o e n hb hx)
  ·obtain⟨sl,e1⟩:=I.base.slot b o e n hb hx;exact⟨sl,(hs.2 b (KM (KR (KA e) (I.ok.cab x c hfn hc)))).trans e1⟩
  ·obtain⟨o',e1⟩:=I.base.there b o e hx;exact⟨o',(hs.2 b (KM (KR (KA e) (I.ok.cab x c hfn hc)))).trans e1⟩
  ·by_cases hj:j=i
   ·subst hj;rw[hi]at e1; cases e1
    rw[PJ hiσ]at e2;cases e2;exact⟨u,r,.inr ⟨.inl hk,c,hc,hc'⟩⟩
   ·rw[Qj (Ne.symm hj)]at e2;obtain⟨u',r',q⟩:=hl j y v' e1 e2 e3;refine⟨u',r',?_⟩;rcases q with q|⟨k,c',e,z'⟩
    ·exact .inl q
    ·refine .inr ⟨k,c',e,z'.sameBut hs ?_⟩;rintro rfl;exact hj (qS hN e1 (I.ok.inj _ _ _ e hc ▸ hi))
  ·by_cases hcc:c'=c
   ·subst hcc; exact⟨_,hc'⟩
   ·obtain⟨w2,z2⟩:=I.cell y c' e;exact⟨w2,z2.sameBut hs hcc⟩
  ·obtain⟨e,n,ne,nf,d⟩:=I.pin p hp;refine⟨(hs.2 p.1 ?_).trans e,n,ne,nf,d⟩;intro q;rw[q,hoc]at e;have q':oc=p.2:=Lx e;exact d w' (by rw[<- q']; exact hocd)
theorem iV {M:Uj}{A:K9}{E:Kd->Kg->Prop}{i:Kk}{x:KF}{v:V}{u:Kd}{Q:Unit->Kg->Prop}(I:Inv X pins σ H s)(hN:X.N.Nodup)(hi:X.N[i]?=ba x)(hx:Bb X.env.scope x)(r:RelV v u)
  (h:∀s',Inv X pins (σ.set i (ba v)) H s'->Q () s') (hf:X.fn x=true\/X.env.scope.names.lookup x=ba .local):wpAny M A (storeName X.env x u) Q E s:=
 v8 I hN hi hx r (λs' I' _=>h s' I') hf
theorem Inv.call' {s':Kg}{ch:J9 Kl}(I:Inv X pins σ H s)(ho:s'.os=s.os)(u:Un (sV X.stack) ch H H' s.heap s'.heap)(hok:HOk X.prog X.w H' s'.heap)(hg:Pc s'.gens)
  (hch:∀b∈ch,(b∈X.ex\/X.s₀.heap.objs.size<=b)/\b≠X.env.locals/\(∀x c,X.env.cells.lookup x=ba c->c≠b)/\∀p∈X.pn++pins,p.1≠b):Inv X pins σ H' s':=by
 obtain⟨h',g',d',t',o'⟩:=s';have e:o'=s.os:=ho;subst e;exact I.call (g':=g') (t':=t') (d':=d') u hok hg hch
end
noncomputable abbrev XK:=Kd->Ki Kl->Hp->Prop
noncomputable abbrev St:=J9 (Ki V)
noncomputable abbrev VK:=V->Hp->Prop
noncomputable abbrev TE:=St->Hp->VK->Prop
noncomputable abbrev TT:=St->Hp->(KP->Hp->Prop)->Prop
noncomputable abbrev TA:=St->Hp->(J9 V->Hp->Prop)->Prop
structure Ends where
 nx:St->Hp->Prop
 rt:VK
 bk:St->Hp->Prop:=λ_ _=>LL
 ct:St->Hp->Prop:=λ_ _=>LL
noncomputable abbrev TS:=Ends->St->Hp->Prop
noncomputable def EP (X:Cx)(pins:J9 (Kl×LZ))(σ:St)(Q:VK)(u:Kd)(s':Kg):Prop:=∃v H',Inv X pins σ H' s'/\RelV v u/\Q v H'
noncomputable def TP (X:Cx)(pins:J9 (Kl×LZ))(σ:St)(Q:KP->Hp->Prop)(b:KP)(s':Kg):Prop:=∃H',Inv X pins σ H' s'/\Q b H'
noncomputable def AP (X:Cx)(pins:J9 (Kl×LZ))(σ:St)(Q:J9 V->Hp->Prop)(us:J9 Kd)(s':Kg):Prop:=∃vs H',Inv X pins σ H' s'/\Vals vs us/\Q vs H'
noncomputable def SP (X:Cx)(pins:J9 (Kl×LZ))(D:Ends)(f:Flow)(s':Kg):Prop:=
 match f with
 | .next=>∃σ' H',Inv X pins σ' H' s'/\D.nx σ' H'
 | .brk=>∃σ' H',Inv X pins σ' H' s'/\D.bk σ' H'
 | .cont=>∃σ' H',Inv X pins σ' H' s'/\D.ct σ' H'
 | .ret u=>∃v σ' H',Inv X pins σ' H' s'/\RelV v u/\D.rt v H'
noncomputable def PE (X:Cx)(e:KN)(t:TE):Prop:=
 ∀(pins:J9 (Kl×LZ)) (s:Kg) (σ:St) (H:Hp) (Q:VK),Inv X pins σ H s->t σ H Q->wpAny (model X.prog X.w) X.A (eval e X.env) (EP X pins σ Q) X.xe s
noncomputable def PT (X:Cx)(e:KN)(t:TT):Prop:=
 ∀(pins:J9 (Kl×LZ)) (s:Kg) (σ:St) (H:Hp) (Q:KP->Hp->Prop),Inv X pins σ H s->t σ H Q->wpAny (model X.prog X.w) X.A (isTrue e X.env (eval e X.env)) (TP X pins σ Q) X.xe s
noncomputable def PW (X:Cx)(e:KN)(t:TT):Prop:=
 ∀(whole:Tp Kd) (pins:J9 (Kl×LZ)) (s:Kg) (σ:St) (H:Hp) (Q:KP->Hp->Prop),Inv X pins σ H s->t σ H Q->wpAny (model X.prog X.w) X.A (isTrue e X.env whole) (TP X pins σ Q) X.xe s
theorem PW.pt {X:Cx}{e:KN}{t:TT}(h:PW X e t):PT X e t:=h _
noncomputable def PA (X:Cx)(es:J9 KN)(t:TA):Prop:=
 ∀(pos:MP) (pins:J9 (Kl×LZ)) (s:Kg) (σ:St) (H:Hp) (Q:J9 V->Hp->Prop),Inv X pins σ H s->t σ H Q->wpAny (model X.prog X.w) X.A (spliced (backTo pos (starEach es X.env))) (AP X pins σ Q) X.xe s
noncomputable def PS (X:Cx)(st:M5)(t:TS):Prop:=
 ∀(pins:J9 (Kl×LZ)) (s:Kg) (σ:St) (H:Hp) (D:Ends),Inv X pins σ H s->t D σ H->wpAny (model X.prog X.w) X.A (exec st X.env) (SP X pins D) X.xe s
noncomputable def PSs (X:Cx)(st:J9 M5)(t:TS):Prop:=
 ∀(pins:J9 (Kl×LZ)) (s:Kg) (σ:St) (H:Hp) (D:Ends),Inv X pins σ H s->t D σ H->wpAny (model X.prog X.w) X.A (execs st X.env) (SP X pins D) X.xe s
theorem bT {α:Type}{t:Tp α}{Q Q':α->Kg->Prop}{M:Uj}{A:K9}{E:Kd->Kg->Prop}{s:Kg}(h:wpAny M A t Q E s)(hQ:∀a s,Q a s->Q' a s):wpAny M A t Q' E s:=Mj h hQ λ_ _ x=>x
section
variable{X:Cx}
theorem J8 {a b:KN}{ta tb:TE}(ha:PE X a ta)(hb:PE X b tb){pins:J9 (Kl×LZ)}{s:Kg}{σ:St}{H:Hp}{R:V->V->Hp->Prop}(I:Inv X pins σ H s)(h:ta σ H λx H1=>tb σ H1 λy H2=>R x y H2)
  {α:Type} {Q:α->Kg->Prop} {f:Kd->Kd->Tp α}
  (hf:∀v u s2 x y H2,Inv X pins σ H2 s2->RelV x v->RelV y u->R x y H2->wpAny (model X.prog X.w) X.A (f v u) Q X.xe s2) :
  wpAny (model X.prog X.w) X.A (eval a X.env) (λv s₁=>wpAny (model X.prog X.w) X.A (eval b X.env) (λu s₂=>wpAny (model X.prog X.w) X.A (f v u) Q X.xe s₂) X.xe s₁) X.xe s:=by
 refine bT (ha pins s σ H _ I h) λv s1 ⟨x,H1,I1,r1,q1⟩=>?_
 refine bT (hb pins s1 σ H1 _ I1 q1) λu s2 ⟨y,H2,I2,r2,q2⟩=>?_
 exact hf v u s2 x y H2 I2 r1 r2 q2
noncomputable def DN (i:Kk):TE:=λσ H Q=>∃v,σ[i]?=ba (ba v)/\Q v H
noncomputable def tC (v:V):TE:=λ_ H Q=>Q v H
theorem xI {i:Kk}{x:KF}{pos:MP}(hN:X.N[i]?=ba x)(hv:HW X.env.scope x)(hd:(x==("__debug__" : KF))=false:=by decide)(hcd:(x==("__classdict__" : KF))=false:=by decide):PE X (.Name x pos) (DN i):=by
 intro pins s σ H Q I h;obtain⟨v,e,h⟩:=h;obtain⟨m,hn,hl⟩:=I.loc;obtain⟨u,r,l⟩:=hl i x v hN e hv;have fin:EP X pins σ Q u s:=⟨v,H,I,r,h⟩;rcases l with⟨hk,hm⟩|⟨hk,c,hc,hcell⟩
 ·exact Sd (wpAny_loadName_local I.ok.kind hk hn hm fin) hd
 ·rcases hk with hk|hk
  ·exact Sd (wpAny_loadName_cell I.ok.kind hk hc hcell fin) hd
  ·exact Sd (wpAny_loadName_free I.ok.kind hk hc hcell fin hcd) hd
theorem xJ {i j pos}:PE X (.Constant (.int i) j pos) (tC (.int i)):=λ_ _ _ H _ I h=>wpAny_Constant_int ⟨.int i,H,I.tok _,⟨_,rfl⟩,h⟩
theorem Dg {b j pos}:PE X (.Constant (.bool b) j pos) (tC (.bl b)):=λ_ _ _ H _ I h=>Constant_bool ⟨.bl b,H,I,rfl,h⟩
theorem xK {j pos}:PE X (.Constant .none j pos) (tC .non):=λ_ _ _ H _ I h=>Constant_none ⟨.non,H,I,rfl,h⟩
theorem xL {x j pos}:PE X (.Constant (.str x) j pos) (tC (.str x)):=λ_ _ _ H _ I h=>QR ⟨.str x,H,I.tok _,⟨_,rfl⟩,h⟩
noncomputable def Gl (X:Cx)(x:KF):Prop:=X.env.kindOf x=ba .globalImplicit
theorem uF {E:Kd->Kg->Prop}{pins:J9 (Kl×LZ)}{s:Kg}{σ:St}{H:Hp}{x:KF}{u:Kd}{pos:MP}{Q:Kd->Kg->Prop}(I:Inv X pins σ H s)(hg:Gl X x)(hm:X.mg x=ba u)(h:Q u s)
  (hd:(x==("__debug__" : KF))=false:=by decide):wpAny (model X.prog X.w) X.A (eval (.Name x pos) X.env) Q E s:=
 OO I.ok.kind hg (Calls.loadGlobal_global (by rw[I.ok.glob]; exact I.mod.glob.keeps I.bk) hm h) hd
theorem jA {E:Kd->Kg->Prop}{pins:J9 (Kl×LZ)}{s:Kg}{σ:St}{H:Hp}{x:KF}{u:Kd}{pos:MP}{Q:Kd->Kg->Prop}(I:Inv X pins σ H s)(hg:Gl X x)(hm:X.mg x=gV)(hv:bootBuiltins x=ba u)(h:Q u s)
  (hn:x≠"__name__":=by decide) (hd:(x==("__debug__" : KF))=false:=by decide):wpAny (model X.prog X.w) X.A (eval (.Name x pos) X.env) Q E s:=by
 obtain⟨mb,h1,h2⟩:=I.mod.blt;exact OO I.ok.kind hg (Calls.loadGlobal_builtin (by rw[I.ok.glob]; exact I.mod.glob.keeps I.bk) hm (by rw[I.ok.blt]; exact h1.keeps I.bk) ((h2 x hn).trans hv) h) hd
theorem Bc {x:KF}{v:V}{u:Kd}{pos:MP}(hg:Gl X x)(hm:X.mg x=gV)(hv:bootBuiltins x=ba u)(r:RelV v u)(hn:x≠"__name__":=by decide)(hd:(x==("__debug__" : KF))=false:=by decide):PE X (.Name x pos) (tC v):=
 λ_ _ _ H _ I h=>jA I hg hm hv ⟨v,H,I,r,h⟩ hn hd
variable{a b:KN}{ta tb:TE}{pos:MP}
variable{tA tB':TT}{bV:J9 KN}
noncomputable def F6 (t u:TT):TT:=λσ H Q=>t σ H λc H1=>if c=true then u σ H1 Q else Q false H1
noncomputable def JO (t u:TT):TT:=λσ H Q=>t σ H λc H1=>if c=true then Q true H1 else u σ H1 Q
noncomputable def Iu (t:TT):TT:=λσ H Q=>t σ H λc H1=>Q (!c) H1
theorem Bd (ha:PT X a tA):PW X (.BoolOp .And [a] pos) tA:=by
 intro wh pins s σ H Q I h;refine isTrue_and (bT (ha pins s σ H Q I h) λc s1 e=>?_)
 cases c with
 | true=>exact isTrue_and_nil e
 | false=>exact e
theorem DO (ha:PT X a tA):PW X (.BoolOp .Or [a] pos) tA:=by
 intro wh pins s σ H Q I h;refine isTrue_or (bT (ha pins s σ H Q I h) λc s1 e=>?_)
 cases c with
 | false=>exact isTrue_or_nil e
 | true=>exact e
theorem DP (ha:PT X a tA)(hb:PW X (.BoolOp .And (b::bV) pos) tB'):PW X (.BoolOp .And (a::b::bV) pos) (F6 tA tB'):=by
 intro wh pins s σ H Q I h;refine isTrue_and (bT (ha pins s σ H _ I h) λc s1 ⟨H1,I1,q1⟩=>?_)
 cases c with
 | true=>exact hb wh pins s1 σ H1 Q I1 q1
 | false=>exact⟨H1,I1,q1⟩
theorem F7 (ha:PT X a tA)(hb:PW X (.BoolOp .Or (b::bV) pos) tB'):PW X (.BoolOp .Or (a::b::bV) pos) (JO tA tB'):=by
 intro wh pins s σ H Q I h;refine isTrue_or (bT (ha pins s σ H _ I h) λc s1 ⟨H1,I1,q1⟩=>?_)
 cases c with
 | true=>exact⟨H1,I1,q1⟩
 | false=>exact hb wh pins s1 σ H1 Q I1 q1
theorem DQ (ha:PT X a tA):PT X (.UnaryOp .Not a pos) (Iu tA):=by
 intro pins s σ H Q I h;exact isTrue_not (ha pins s σ H (λc H1=>Q (!c) H1) I h)
noncomputable def F8 (ta tb:TE):TE:=λσ H Q=>ta σ H λx H1=>∃c,x=.bl c/\if c=true then tb σ H1 Q else Q (.bl false) H1
noncomputable def Iv (ta tb:TE):TE:=λσ H Q=>ta σ H λx H1=>∃c,x=.bl c/\if c=true then Q (.bl true) H1 else tb σ H1 Q
noncomputable def F9 (ta:TE):TE:=λσ H Q=>ta σ H λx H1=>∃c,x=.bl c/\Q (.bl (!c)) H1
theorem DR {op}{t:TE}(h:PE X a t):PE X (.BoolOp op [a] pos) t:=λpins s σ H Q I hw=>BoolOp_one (h pins s σ H Q I hw)
theorem DS (ha:PE X a ta)(hb:PE X (.BoolOp .And (b::bV) pos) tb):PE X (.BoolOp .And (a::b::bV) pos) (F8 ta tb):=by
 intro pins s σ H Q I h;refine BoolOp_and (bT (ha pins s σ H _ I h) λv s1 ⟨x,H1,I1,r1,q1⟩=>?_)
 obtain⟨c,rfl,q1⟩:=q1;cases r1;refine ME ?_;cases c with
 | true=>exact hb pins s1 σ H1 Q I1 q1
 | false=>exact⟨.bl false,H1,I1,rfl,q1⟩
theorem Ga (ha:PE X a ta)(hb:PE X (.BoolOp .Or (b::bV) pos) tb):PE X (.BoolOp .Or (a::b::bV) pos) (Iv ta tb):=by
 intro pins s σ H Q I h;refine BoolOp_or (bT (ha pins s σ H _ I h) λv s1 ⟨x,H1,I1,r1,q1⟩=>?_)
 obtain⟨c,rfl,q1⟩:=q1;cases r1;refine ME ?_;cases c with
 | false=>exact hb pins s1 σ H1 Q I1 q1
 | true=>exact⟨.bl true,H1,I1,rfl,q1⟩
theorem DT (ha:PE X a ta):PE X (.UnaryOp .Not a pos) (F9 ta):=by
 intro pins s σ H Q I h;refine UnaryOp_ (bT (ha pins s σ H _ I h) λv s1 ⟨x,H1,I1,r1,q1⟩=>?_)
 obtain⟨c,rfl,q1⟩:=q1;cases r1;exact not_of (ME ⟨.bl (!c),H1,I1,rfl,q1⟩)
noncomputable def JV (t:TT)(ta tb:TE):TE:=λσ H Q=>t σ H λc H1=>if c=true then ta σ H1 Q else tb σ H1 Q
theorem xM {c:KN}(hc:PT X c tA)(ha:PE X a ta)(hb:PE X b tb):PE X (.IfExp c a b pos) (JV tA ta tb):=by
 intro pins s σ H Q I h;refine wpAny_IfExp (bT (hc pins s σ H _ I h) λd s1 ⟨H1,I1,q1⟩=>?_)
 cases d with
 | true=>exact ha pins s1 σ H1 Q I1 q1
 | false=>exact hb pins s1 σ H1 Q I1 q1
end
noncomputable def SqL (K:Kr)(H:Hp)(a:Kl)(xs:J9 V):Prop:=
 Rd H a (.lst xs)\/
  ∃(o:LZ) (its:KQ Kd) (n:Kk),K.lookup a=ba o/\o.cls=.type "list"/\o.dict=gV/\o.data=.seq its n/\its.size<=sizeLine/\Vals xs its.toList
noncomputable def SqT (K:Kr)(H:Hp)(a:Kl)(xs:J9 V):Prop:=
 Rd H a (.tup xs)\/
  ∃(o:LZ) (its:KQ Kd) (n:Kk),K.lookup a=ba o/\o.cls=.type "tuple"/\o.data=.seq its n/\its.size<=sizeLine/\Vals xs its.toList
noncomputable def Iw:Kd->Ki V
 | .none=>ba .non
 | .bool b=>ba (.bl b)
 | .int i _=>ba (.int i)
 | .str x _=>ba (.str x)
 | .bytes b _=>ba (.byt b)
 | .float b _=>ba (.flt b)
 | .ref a=>ba (.ref a)
 | .type n=>ba (.ty n)
 | _=>gV
theorem RelV.abs {x:V}{u:Kd}(r:RelV x u):Iw u=ba x:=by
 cases x with
 | non=>cases r; rfl
 | bl _=>cases r; rfl
 | int _=>obtain⟨t,rfl⟩:=r; rfl
 | str _=>obtain⟨t,rfl⟩:=r; rfl
 | byt _=>obtain⟨t,rfl⟩:=r; rfl
 | flt _=>obtain⟨t,rfl⟩:=r; rfl
 | ref _=>cases r; rfl
 | ty _=>cases r; rfl
theorem RelV.inj {x y:V}{u:Kd}(r:RelV x u)(q:RelV y u):x=y:=Lx (r.abs.symm.trans q.abs)
theorem Vals.inj:∀ {xs ys:J9 V} {us:J9 Kd},Vals xs us->Vals ys us->xs=ys
 | _,_,_,.nil,.nil=>rfl
 | _,_,_,.cons r t,.cons r' t'=>by rw[r.inj r',Vals.inj t t']
section
variable{X:Cx}{pins:J9 (Kl×LZ)}{σ:St}{H:Hp}{s:Kg}{a:Kl}{xs ys:J9 V}
theorem SqL.of {K:Kr}(h:H a=ba (.lst xs)):SqL K H a xs:=.inl (.inl h)
theorem SqT.of {K:Kr}(h:H a=ba (.tup xs)):SqT K H a xs:=.inl (.inl h)
theorem Inv.list (I:Inv X pins σ H s)(h:SqL X.K H a xs):∃its:J9 Kd,Vals xs its/\PlainL s.heap a its.toArray/\xs.length<=sizeLine:=by
 rcases h with h|⟨o,its,n,hk,hc,hd,hs,hz,r⟩
 ·obtain⟨z,its,n,r,e⟩:=h.ok I.hok;exact⟨its,r,⟨_,n,e,rfl,rfl,rfl⟩,z⟩
 ·refine⟨its.toList,r,⟨o,n,I.kIn a o hk,hc,hd,by simpa using hs⟩,?_⟩
  have e:=r.length;simp only[Kz]at e;omega
theorem Inv.tuple (I:Inv X pins σ H s)(h:SqT X.K H a xs):∃its:J9 Kd,Vals xs its/\Q8 s.heap a its.toArray/\xs.length<=sizeLine:=by
 rcases h with h|⟨o,its,n,hk,hc,hs,hz,r⟩
 ·obtain⟨z,its,r,p⟩:=h.ok I.hok;exact⟨its,r,p,z⟩
 ·refine⟨its.toList,r,⟨o,I.kIn a o hk,hc,n,by simpa using hs⟩,?_⟩
  have e:=r.length;simp only[Kz]at e;omega
theorem Inv.list_inj (I:Inv X pins σ H s)(h:SqL X.K H a xs)(h':SqL X.K H a ys):xs=ys:=by
 obtain⟨its,r,⟨o,n,e,_,_,d⟩,_⟩:=I.list h;obtain⟨its',r',⟨o',n',e',_,_,d'⟩,_⟩:=I.list h';rw[e]at e'; cases e'
 rw[d]at d';injection d' with d1 _
 have:its=its':=by simpa using congrArg Ta d1
 subst this;exact r.inj r'
theorem Inv.tuple_inj (I:Inv X pins σ H s)(h:SqT X.K H a xs)(h':SqT X.K H a ys):xs=ys:=by
 obtain⟨its,r,⟨o,e,_,n,d⟩,_⟩:=I.tuple h;obtain⟨its',r',⟨o',e',_,n',d'⟩,_⟩:=I.tuple h';rw[e]at e'; cases e'
 rw[d]at d';injection d' with d1 _
 have:its=its':=by simpa using congrArg Ta d1
 subst this;exact r.inj r'
end
noncomputable abbrev Cx.wish (X:Cx)(E:Kd->Kg->Prop):Cx:={ X with xe:=E }
noncomputable abbrev Cx.nox (X:Cx):Cx:=X.wish λ_ _=>LL
theorem Cx.Ok.wish {X:Cx}(ok:X.Ok)(E:Kd->Kg->Prop):(X.wish E).Ok:=
 ⟨ok.mod,ok.kind,ok.glob,ok.blt,ok.above,ok.inj,ok.has,ok.cab,ok.hd,ok.frames,ok.stk,ok.exf,ok.bs,ok.bsz,ok.noex,ok.exfs,ok.funs,ok.frf⟩
theorem Cx.Ok.unwish {X:Cx}{E:Kd->Kg->Prop}(ok:(X.wish E).Ok):X.Ok:=
 ⟨ok.mod,ok.kind,ok.glob,ok.blt,ok.above,ok.inj,ok.has,ok.cab,ok.hd,ok.frames,ok.stk,ok.exf,ok.bs,ok.bsz,ok.noex,ok.exfs,ok.funs,ok.frf⟩
section
variable{X:Cx}{pins:J9 (Kl×LZ)}{σ:St}{H:Hp}{s:Kg}{E:Kd->Kg->Prop}
theorem Inv.wish (I:Inv X pins σ H s)(E:Kd->Kg->Prop):Inv (X.wish E) pins σ H s:=⟨I.ok.wish E,I.os,I.bare,I.base,I.loc,I.cell,I.free,I.freeC,I.pin,I.hok,I.len⟩
theorem Inv.unwish (I:Inv (X.wish E) pins σ H s):Inv X pins σ H s:=⟨I.ok.unwish,I.os,I.bare,I.base,I.loc,I.cell,I.free,I.freeC,I.pin,I.hok,I.len⟩
theorem SP.unwish {D:Ends}{f:Flow}{s':Kg}(h:SP (X.wish E) pins D f s'):SP X pins D f s':=by
 cases f with
 | next=>obtain⟨σ',H',I,q⟩:=h; exact⟨σ',H',I.unwish,q⟩
 | brk=>obtain⟨σ',H',I,q⟩:=h; exact⟨σ',H',I.unwish,q⟩
 | cont=>obtain⟨σ',H',I,q⟩:=h; exact⟨σ',H',I.unwish,q⟩
 | ret u=>obtain⟨v,σ',H',I,r,q⟩:=h; exact⟨v,σ',H',I.unwish,r,q⟩
theorem PSs.nox {st:J9 M5}{t:TS}(h:PSs X.nox st t):PSs X st t:=λpins s σ H D I hw=>
 Mj (h pins s σ H D (I.wish _) hw) (λ_ _ q=>q.unwish) λ_ _ z=>LL.elim z
end
section
variable{X:Cx}{st:M5}{bV:J9 M5}{t u:TS}{e:KN}{te:TE}{pos:MP}
noncomputable def xN:TS:=λD σ H=>D.nx σ H
noncomputable def Ix (t u:TS):TS:=λD σ H=>t { D with nx:=u D } σ H
theorem Be:PSs X [] xN:=λ_ _ σ H _ I h=>PY ⟨σ,H,I,h⟩
theorem xO (h1:PS X st t)(h2:PSs X bV u):PSs X (st::bV) (Ix t u):=by
 intro pins s σ H D I h;refine wpAny_execs_cons (bT (h1 pins s σ H { D with nx:=u D } I h) λf s1 q=>?_)
 cases f with
 | next=>
  obtain⟨σ',H',I',q⟩:=q;exact h2 pins s1 σ' H' D I' q
 | ret v=>exact q
 | brk=>exact q
 | cont=>exact q
noncomputable def DU:TS:=λD σ H=>D.bk σ H
noncomputable def Gb:TS:=λD σ H=>D.ct σ H
theorem Bf:PS X (.Pass pos) xN:=λ_ _ σ H _ I h=>wpAny_Pass ⟨σ,H,I,h⟩
theorem xP:PS X (.Break pos) DU:=λ_ _ σ H _ I h=>wpAny_Break ⟨σ,H,I,h⟩
theorem qT:PS X (.Continue pos) Gb:=λ_ _ σ H _ I h=>wpAny_Continue ⟨σ,H,I,h⟩
theorem Inv.quiet {pins:J9 (Kl×LZ)}{σ:St}{H:Hp}{s:Kg}(I:Inv X pins σ H s):interactive X.env=false:=by simp[interactive,I.ok.kind]
theorem DV {x j pos pos'}:PS X (.Expr (.Constant (.str x) j pos) pos') xN:=λ_ s σ H _ I h=>wpAny_Expr (QR (show SP X _ _ .next { s with toks:=s.toks+1 } from⟨σ,H,I.tok _,h⟩)) I.quiet
noncomputable def Gc (te:TE):TS:=λD σ H=>te σ H λ_ H1=>D.nx σ H1
theorem Bg (he:PE X e te)(hs:swapsWith e gV pos.line X.env=pure false:=by rfl):PS X (.Expr e pos) (Gc te):=by
 intro pins s σ H D I h;exact wpAny_Expr_any (bT (he pins s σ H _ I h) λv s1 ⟨x,H1,I1,r1,q1⟩=>⟨σ,H1,I1,q1⟩) I.quiet hs
noncomputable def Iy (te:TE):TS:=λD σ H=>te σ H D.rt
theorem DW (he:PE X e te):PS X (.Return (ba e) pos) (Iy te):=by
 intro pins s σ H D I h;exact wpAny_Return_some (bT (he pins s σ H _ I h) λv s1 ⟨x,H1,I1,r1,q1⟩=>⟨x,σ,H1,I1,r1,q1⟩)
noncomputable def Gd:TS:=λD _ H=>D.rt .non H
theorem Bh:PS X (.Return gV pos) Gd:=λ_ _ σ H _ I h=>wpAny_Return_none ⟨.non,σ,H,I,rfl,h⟩
noncomputable def Iz (c:TT)(t u:TS):TS:=λD σ H=>c σ H λb H1=>if b=true then t D σ H1 else u D σ H1
theorem Ge {c:KN}{a b:J9 M5}{tc:TT}(hc:PT X c tc)(ha:PSs X a t)(hb:PSs X b u):PS X (.If c a b pos) (Iz tc t u):=by
 intro pins s σ H D I h;refine wpAny_If (bT (hc pins s σ H _ I h) λd s1 ⟨H1,I1,q1⟩=>?_)
 cases d with
 | true=>exact ha pins s1 σ H1 D I1 q1
 | false=>exact hb pins s1 σ H1 D I1 q1
end
noncomputable abbrev TG:=V->St->Hp->(St->Hp->Prop)->Prop
noncomputable abbrev DX:=J9 V->St->Hp->(St->Hp->Prop)->Prop
noncomputable def PG (X:Cx)(target:KN)(t:TG):Prop:=
 ∀(pins:J9 (Kl×LZ)) (s:Kg) (σ:St) (H:Hp) (v:V) (u:Kd) (Q:St->Hp->Prop),Inv X pins σ H s->RelV v u->t v σ H Q->
  wpAny (model X.prog X.w) X.A (assign target X.env u) (λ_ s'=>∃σ' H',Inv X pins σ' H' s'/\Q σ' H') X.xe s
noncomputable def Gf (X:Cx)(ts:J9 KN)(t:DX):Prop:=
 ∀(pins:J9 (Kl×LZ)) (s:Kg) (σ:St) (H:Hp) (vs:J9 V) (us:J9 Kd) (Q:St->Hp->Prop),Inv X pins σ H s->Vals vs us->t vs σ H Q->
  wpAny (model X.prog X.w) X.A (assignInOrder ((assignEach ts X.env).map (·.2)) us) (λ_ s'=>∃σ' H',Inv X pins σ' H' s'/\Q σ' H') X.xe s
noncomputable abbrev DY:=V->V->V->Hp->(Hp->Prop)->Prop
noncomputable def DZ (X:Cx)(t:DY):Prop:=
 ∀(pins:J9 (Kl×LZ)) (s:Kg) (σ:St) (H:Hp) (o i v:V) (ov iv u:Kd) (Q:Hp->Prop),Inv X pins σ H s->RelV o ov->RelV i iv->RelV v u->t o i v H Q->
  wpAny (model X.prog X.w) X.A (setItem ov iv u) (λ_ s'=>∃H',Inv X pins σ H' s'/\Q H') X.xe s
section
variable{X:Cx}{pos:MP}
noncomputable def Gg (i:Kk):TG:=λv σ H Q=>Q (σ.set i (ba v)) H
theorem uG {i:Kk}{x:KF}(hN:X.N.Nodup)(hi:X.N[i]?=ba x)(hx:Bb X.env.scope x)(hf:X.fn x=true\/X.env.scope.names.lookup x=ba .local):PG X (.Name x pos) (Gg i):=by
 intro pins s σ H v u Q I r h;exact Ra (iV I hN hi hx r (λs' I'=>⟨_,H,I',h⟩) hf)
noncomputable def IA:DX:=λvs σ H Q=>vs=[]/\Q σ H
noncomputable def Gh (t:TG)(u:DX):DX:=λvs σ H Q=>∃v r,vs=v::r/\t v σ H λσ' H'=>u r σ' H' Q
theorem Bj:Gf X [] IA:=by
 intro pins s σ H vs us Q I r h;obtain⟨e,h⟩:=h;subst e;cases r;exact Rb ⟨σ,H,I,h⟩
theorem xQ {e:KN}{es:J9 KN}{t:TG}{u:DX}(h1:PG X e t)(h2:Gf X es u)
  (hs:(assignEach (e::es) X.env).map (·.2)=assign e X.env::(assignEach es X.env).map (·.2):=by rfl):Gf X (e::es) (Gh t u):=by
 intro pins s σ H vs us Q I r h;obtain⟨v,vr,e1,h⟩:=h;subst e1;cases r with
 | cons r rr=>
  rw[hs];refine OP (bT (h1 pins s σ H _ _ _ I r h) λ_ s1 ⟨σ1,H1,I1,q1⟩=>?_)
  exact h2 pins s1 σ1 H1 _ _ Q I1 rr q1
noncomputable def IB (K:Kr)(n:Kk)(t:DX):TG:=λv σ H Q=>∃a xs,v=.ref a/\SqT K H a xs/\xs.length=n/\t xs σ H Q
theorem D0 {es:J9 KN}{k:Kk}{t:DX}{n:Kk}(hc:X.calm=true)(h:Gf X es t)
  (hn:(assignEach es X.env).length=n:=by rfl) (hst:(assignEach es X.env).findIdx? (·.1)=gV:=by rfl):PG X (.Tuple es k pos) (IB X.K n t):=by
 intro pins s σ H v u Q I r hw;obtain⟨a,xs,e1,hq,hl,hw⟩:=hw;subst e1;cases r;obtain⟨its,rv,ht,hz⟩:=I.tuple hq;refine assign_Tuple_tuple (I.ok.hd hc) ht (by simp[hn,<- hl,rv.length]) hst λh' hx=>?_
 have I1:Inv X pins σ H { s with heap:=h' }:=I.kept (t':=s.toks) λb o e=>hx b o (KM (KA e)) e
 exact h pins _ σ H xs _ Q I1 (by simpa using rv) hw
noncomputable def IC (to ti:TE)(t:DY):TG:=λv σ H Q=>to σ H λo H1=>ti σ H1 λi H2=>t o i v H2 λH3=>Q σ H3
theorem D2 {o i:KN}{to ti:TE}{t:DY}(ho:PE X o to)(hi:PE X i ti)(hs:DZ X t)
  (ha:∀v,assign (.Subscript o i pos) X.env v=(do
   let ov <- holding [v] (eval o X.env)
   let iv <- holding [v,ov] (eval i X.env)
   standAt pos
   holding [v,ov,iv] (setItem ov iv v)
   release [v,ov,iv] []):=by intro _; rfl):PG X (.Subscript o i pos) (IC to ti t):=by
 intro pins s σ H v u Q I r h;rw[ha];refine Kb (Ly (bT (ho pins s σ H _ I h) λov s1 ⟨x,H1,I1,r1,q1⟩=>?_))
 refine Kb (Ly (bT (hi pins s1 σ H1 _ I1 q1) λiv s2 ⟨y,H2,I2,r2,q2⟩=>?_))
 refine Kb (Oz (Kb (Ly (bT (hs pins s2 σ H2 x y v ov iv u _ I2 r1 r2 r q2) λ_ s3 ⟨H3,I3,q3⟩=>?_))))
 exact wpAny_release ⟨σ,H3,I3,q3⟩
noncomputable def ID (te:TE)(g:TG):TS:=λD σ H=>te σ H λx H1=>g x σ H1 D.nx
theorem Ea {tg e:KN}{te:TE}{g:TG}(he:PE X e te)(hg:PG X tg g)(hs:swapsWithSole [tg] e pos.line X.env=pure false:=by rfl)(hw:swappedStores [tg] e X.env=pure gV:=by rfl)
  (h1:(assignEach [tg] X.env).map (·.2)=[assign tg X.env]:=by rfl):PS X (.Assign [tg] e pos) (ID te g):=by
 intro pins s σ H D I h;refine wpAny_Assign_stores (bT (he pins s σ H _ I h) λv s1 ⟨x,H1,I1,r1,q1⟩=>?_) hs hw
 rw[h1];exact bT (hg pins s1 σ H1 x v _ I1 r1 q1) λ_ s2 q=>q
noncomputable def IE (i j:Kk)(ta:TA):TS:=λD σ H=>ta σ H λvs H1=>∃v w,vs=[v,w]/\D.nx ((σ.set i (ba v)).set j (ba w)) H1
theorem Eb {i j:Kk}{x y:KF}{a b:KN}{ta:TA}{px py pt:MP}{kt k2 pt2}(hc:X.calm=true)(hN:X.N.Nodup)(hi:X.N[i]?=ba x)(hj:X.N[j]?=ba y)(hij:i≠j)
  (hx:X.env.scope.names.lookup x=ba .local) (hy:X.env.scope.names.lookup y=ba .local) (ha:PA X [a,b] ta)
  (hw:swappedStores [.Tuple [.Name x px,.Name y py] kt pt] (.Tuple [a,b] k2 pt2) X.env=pure (ba [x,y]))
  (hs:swapsWithSole [.Tuple [.Name x px,.Name y py] kt pt] (.Tuple [a,b] k2 pt2) pos.line X.env=pure false:=by rfl) :
  PS X (.Assign [.Tuple [.Name x px,.Name y py] kt pt] (.Tuple [a,b] k2 pt2) pos) (IE i j ta):=by
 intro pins s σ H D I h;rw[exec_Assign_arm];refine Kb (Oz ?_);rw[hs];refine Kb (Kh ?_);rw[KW (by decide)]
 refine Kb (Tuple_ (bT (ha _ pins s σ H _ I h) λus s1 ⟨vs,H1,I1,r1,q1⟩=>?_))
 obtain⟨v,w,e1,q1⟩:=q1;subst e1;obtain⟨u1,u2,rfl,rv,rw'⟩ : ∃u1 u2,us=[u1,u2]/\RelV v u1/\RelV w u2:=by
  cases r1 with
  | cons p q=>
   cases q with
   | cons p' q'=>
    cases q';exact⟨_,_,rfl,p,p'⟩
 refine Lc ?_ (by show 2<=sizeLine; decide)
 have I2:Inv X pins σ H1 { s1 with heap:=s1.heap.push { cls:=.type "tuple",data:=.seq [u1,u2].toArray } }:=I1.kept (t':=s1.toks) λb o e=>Ke _ e
 rw[hw];refine Kb (Kh ?_);show wpAny (model X.prog X.w) X.A (do rule "assign.swapped-stores"; let items <- unpackItems (.ref s1.heap.objs.size) 2 gV; assignInOrder [λv=>bindName X.env y v,λv=>bindName X.env x v] items.reverse; pure T9) _ _ _
 refine Kb (PK (Kb (unpackItems_tuple (items:=[u1,u2].toArray) (I.ok.hd hc) (Ry s1.heap _) λh' hx'=>?_)))
 have I3:=I2.kept (h':=h') (t':=s1.toks) λb o e=>hx' b o (KM (KA e)) e
 show wpAny _ _ (assignInOrder [λv=>bindName X.env y v,λv=>bindName X.env x v] [u2,u1] >>= λ_=>pure T9) _ _ _
 refine Kb (OP (Se (iV I3 hN hj (.inl hy) rw' (λs2 I4=>?_) (.inr hy))))
 refine OP (Se (iV I4 hN hi (.inl hx) rv (λs3 I5=>Rb (Kh ?_)) (.inr hx)))
 rw[List.set_comm _ _ (Ne.symm hij)]at I5;exact⟨_,H1,I5,q1⟩
end
section
variable{X:Cx}{pos:MP}
noncomputable def Ec (c:TT)(tb:TS):TS:=λD σ H=>∃W:Kk->St->Hp->Prop,(∃m,W m σ H)/\∀m σ H,W m σ H->
 c σ H λb H1=>if b=true then ∃N:St->Hp->Prop,(∀σ' H',N σ' H'->∃m',m' < m/\W m' σ' H')/\tb { D with nx:=N,ct:=N,bk:=D.nx } σ H1 else D.nx σ H1
theorem xR {c:KN}{body:J9 M5}{tc:TT}{tb:TS}(hp:Qz (model X.prog X.w) X.A X.env X.xe)(hc:PT X c tc)(hb:PSs X body tb):PS X (.While c body [] pos) (Ec tc tb):=by
 intro pins s σ H D I h;obtain⟨W,⟨m0,w0⟩,turn⟩:=h;refine wpAny_While (codeAny_whileLoop (λn s'=>∃σ' H',Inv X pins σ' H' s'/\W n σ' H') ?_ m0 ⟨σ,H,I,w0⟩)
 rintro n s1 ⟨σ1,H1,I1,w1⟩;refine MU hp (bT (hc pins s1 σ1 H1 _ I1 (turn n σ1 H1 w1)) λb s2 ⟨H2,I2,q2⟩=>?_)
 cases b with
 | true=>
  obtain⟨N,hN,q2⟩:=q2;rw[KJ rfl];refine MU hp (bT (hb pins s2 σ1 H2 _ I2 q2) λf s3 q3=>?_)
  cases f with
  | next=>
   obtain⟨σ3,H3,I3,n3⟩:=q3;obtain⟨m',hm,w3⟩:=hN σ3 H3 n3;exact⟨m',hm,σ3,H3,I3,w3⟩
  | cont=>
   obtain⟨σ3,H3,I3,n3⟩:=q3;obtain⟨m',hm,w3⟩:=hN σ3 H3 n3;exact⟨m',hm,σ3,H3,I3,w3⟩
  | brk=>exact q3
  | ret v=>exact q3
 | false=>
  rw[KW KI];exact PY ⟨σ1,H2,I2,q2⟩
end
structure It where
 go:Kk->Hp->Prop
 yld:Kk->Hp->V->Hp->Prop
 stop:Kk->Hp->Prop
noncomputable def jB (X:Cx)(pins:J9 (Kl×LZ))(H:Hp)(b:Kl):Prop:=
 H b=gV/\b≠X.env.locals/\b∉X.fs/\(b∈X.ex\/X.s₀.heap.objs.size<=b)/\(∀x c,X.env.cells.lookup x=ba c->c≠b)/\∀p∈X.pn++pins,p.1≠b
theorem Inv.fpOk {X:Cx}{pins:J9 (Kl×LZ)}{σ:St}{H H':Hp}{s:Kg}{b:Kl}(I:Inv X pins σ H s)(hb:s.heap.objs.size<=b)(hn:H' b=gV):jB X pins H' b:=by
 refine⟨hn,Mr (KR I.lt hb),I.nofs hb,.inr (KT I.sz hb),λx c e z=>?_,λp hp z=>?_⟩
 ·obtain⟨v,q⟩:=I.cell x c e;exact absurd (KR q.lt (by rw[z]; exact hb)) (LQ _)
 ·exact absurd (KR (KA (I.pin p hp).1) (by rw[z]; exact hb)) (LQ _)
structure Turn (P:K1)(w:Lb)(K:Kr)(tg:KN)(J:It)(fp:J9 Kl)(it:Kl)(tn:Kk->Lj->Prop):Prop where
 mem:it∈fp
 obj:∀i h,tn i h->∀b∈fp,∃o,h.get? b=ba o/\∀v,o.data≠.cell v
 keep:∀i h h',tn i h->(∀b∈fp,∀o,h.get? b=ba o->h'.get? b=ba o)->tn i h'
 item:∀(X:Cx),X.prog=P->X.w=w->X.K=K->X.calm=true->∀(i:Kk) (pins:J9 (Kl×LZ)) (s:Kg) (σ:St) (H:Hp) (E:Kd->Kg->Prop),Inv X pins σ H s->(∀b∈fp,jB X pins H b)->tn i s.heap->J.go i H->
  wpAny (model P w) X.A (pyNext (.ref it)) (λr s1=>∃u,r=ba u/\
   wpAny (model P w) X.A (letOwnedTupleGo tg (.ref it) u) (λ_ s2=>∃x H',Inv X pins σ H' s2/\RelV x u/\J.yld i H x H'/\tn (i+1) s2.heap/\∀b∈fp,H' b=gV) E s1) E s
 done:∀(X:Cx),X.prog=P->X.w=w->X.K=K->X.calm=true->∀(i:Kk) (pins:J9 (Kl×LZ)) (s:Kg) (σ:St) (H:Hp) (E:Kd->Kg->Prop),Inv X pins σ H s->(∀b∈fp,jB X pins H b)->tn i s.heap->J.stop i H->
  wpAny (model P w) X.A (pyNext (.ref it)) (λr s1=>r=gV/\Inv X pins σ H s1) E s
 self:∀(A:K9) (i:Kk) (s:Kg) (Q:Kd->Kg->Prop) (E:Kd->Kg->Prop),tn i s.heap->Q (.ref it) s->wpAny (model P w) A (pyIter (.ref it)) Q E s
noncomputable abbrev TI:=St->Hp->(It->Hp->Prop)->Prop
noncomputable def Gi (X:Cx)(pins:J9 (Kl×LZ))(σ:St)(tg:KN)(R:It->Hp->Prop)(itv:Kd)(s2:Kg):Prop:=
 ∃(it:Kl) (fp:J9 Kl) (tn:Kk->Lj->Prop) (J:It) (H':Hp),itv=.ref it/\Inv X pins σ H' s2/\Turn X.prog X.w X.K tg J fp it tn/\tn 0 s2.heap/\(∀b∈fp,jB X pins H' b)/\R J H'
noncomputable def PI (X:Cx)(tg iter:KN)(wi:TI):Prop:=
 ∀(pins:J9 (Kl×LZ)) (s:Kg) (σ:St) (H:Hp) (R:It->Hp->Prop),Inv X pins σ H s->wi σ H R->
  wpAny (model X.prog X.w) X.A (eval iter X.env) (λv s1=>wpAny (model X.prog X.w) X.A (pyIter v) (Gi X pins σ tg R) X.xe s1) X.xe s
theorem uH {M:Uj}{A:K9}{E:Kd->Kg->Prop}{s:Kg}{tg:KN}{it:Kl}{u:Kd}{o:LZ}{n:LN}{vs:KQ Kd}{Q:Unit->Kg->Prop}(ho:s.heap.get? it=ba o)(hc:o.cls=.type n)(hd:o.data=.fields vs)
    (hn:["enumerate","zip","dict_itemiterator","dict_reverseitemiterator","odict_iterator","itertools.zip_longest","itertools.pairwise"].contains n=false) (hQ:Q () s):wpAny M A (letOwnedTupleGo tg (.ref it) u) Q E s:=by
  unfold letOwnedTupleGo;cases tg <;> first
    | exact Kh hQ
    | (cases u <;> first
        | exact Kh hQ
        | (refine Kb (PL ho ?_)
           rw[hc,hd];show wpAny M A (if (["enumerate","zip","dict_itemiterator","dict_reverseitemiterator","odict_iterator","itertools.zip_longest","itertools.pairwise"].contains n&&vs[0]?==ba (rawInt _))=true then _ else _) Q E s
           rw[KW (by intro h; rw[hn,Bool.false_and]at h; cases h)]
           exact Kh hQ))
noncomputable def IF (K:Kr)(a:Kl):It:=
 ⟨λi H=>∃xs x,SqL K H a xs/\xs[i]?=ba x,λi H x H'=>H'=H/\∀xs,SqL K H a xs->xs[i]?=ba x,λi H=>∃xs,SqL K H a xs/\xs.length<=i⟩
noncomputable def IG (K:Kr)(a:Kl):It:=
 ⟨λi H=>∃xs x,SqT K H a xs/\xs[i]?=ba x,λi H x H'=>H'=H/\∀xs,SqT K H a xs->xs[i]?=ba x,λi H=>∃xs,SqT K H a xs/\xs.length<=i⟩
noncomputable def Gj (lo:Ky)(n:Kk):It:=⟨λi _=>i < n,λi H x H'=>H'=H/\x=.int (lo+i),λi _=>n<=i⟩
theorem wa {P:K1}{w:Lb}{K:Kr}{tg:KN}(a it:Kl):Turn P w K tg (IF K a) [it] it (λi h=>h.IsListIter it a i) where
 mem:=by simp
 obj:=λi h st b hb=>by
  have e:b=it:=by simpa using hb
  subst e;obtain⟨o,e,c,d⟩:=st;exact⟨o,e,λv z=>by rw[d]at z; cases z⟩
 keep:=λi h h' st k=>st.at λo e=>k it (by simp) o e
 item:=by
  intro X hP hw hK hc i pins s σ H E I hf st hg;subst hP hw hK;obtain⟨xs,x,hq,hx⟩:=hg;obtain⟨its,rv,p,hz⟩:=I.list hq;obtain⟨u,hu,ru⟩:=rv.get hx;obtain⟨f0,f1,f2,f3,f4,f5⟩:=hf it (by simp)
  refine wpAny_pyNext_list_item st p.isList (x:=u) (by simpa using hu) λh' st' sb=>?_
  have I1:Inv X pins σ H { s with heap:=h' }:=I.turned (t':=s.toks) (λb o hb e=>(sb.2 b hb).trans e) f0 f1 f3 f4 f5
  obtain⟨o,e,c,d⟩:=id st';exact⟨u,rfl,uH (s:={ s with heap:=h' }) e c d (by decide) ⟨x,H,I1,ru,⟨rfl,λys hy=>by rw[I.list_inj hy hq]; exact hx⟩,st',λb hb=>(hf b hb).1⟩⟩
 done:=by
  intro X hP hw hK hc i pins s σ H E I hf st hg;subst hP hw hK;obtain⟨xs,hq,hx⟩:=hg;obtain⟨its,rv,p,hz⟩:=I.list hq;obtain⟨f0,f1,f2,f3,f4,f5⟩:=hf it (by simp)
  have hl:=rv.length;exact wpAny_pyNext_list_end (I.ok.hd hc) st p.isList (by simp; omega) λh' eb=>⟨rfl,I.turned (t':=s.toks) (λb o hb e=>eb b o hb e) f0 f1 f3 f4 f5⟩
 self:=λ_ _ _ _ _ st h=>wpAny_pyIter_listiter st h
theorem sW {P:K1}{w:Lb}{K:Kr}{tg:KN}(a it:Kl):Turn P w K tg (IG K a) [it] it (λi h=>h.IsTupleIter it a i) where
 mem:=by simp
 obj:=λi h st b hb=>by
  have e:b=it:=by simpa using hb
  subst e;obtain⟨o,e,c,d⟩:=st;exact⟨o,e,λv z=>by rw[d]at z; cases z⟩
 keep:=λi h h' st k=>st.at λo e=>k it (by simp) o e
 item:=by
  intro X hP hw hK hc i pins s σ H E I hf st hg;subst hP hw hK;obtain⟨xs,x,hq,hx⟩:=hg;obtain⟨its,rv,p,hz⟩:=I.tuple hq;obtain⟨u,hu,ru⟩:=rv.get hx;obtain⟨f0,f1,f2,f3,f4,f5⟩:=hf it (by simp)
  refine wpAny_pyNext_tuple_item st (show s.heap.IsTuple a its.toArray from p) (x:=u) (by simpa using hu) λh' st' sb=>?_
  have I1:Inv X pins σ H { s with heap:=h' }:=I.turned (t':=s.toks) (λb o hb e=>(sb.2 b hb).trans e) f0 f1 f3 f4 f5
  obtain⟨o,e,c,d⟩:=id st';exact⟨u,rfl,uH (s:={ s with heap:=h' }) e c d (by decide) ⟨x,H,I1,ru,⟨rfl,λys hy=>by rw[I.tuple_inj hy hq]; exact hx⟩,st',λb hb=>(hf b hb).1⟩⟩
 done:=by
  intro X hP hw hK hc i pins s σ H E I hf st hg;subst hP hw hK;obtain⟨xs,hq,hx⟩:=hg;obtain⟨its,rv,p,hz⟩:=I.tuple hq;obtain⟨f0,f1,f2,f3,f4,f5⟩:=hf it (by simp)
  have hl:=rv.length;exact wpAny_pyNext_tuple_end (I.ok.hd hc) st (show s.heap.IsTuple a its.toArray from p) (by simp; omega) λh' eb=>⟨rfl,I.turned (t':=s.toks) (λb o hb e=>eb b o hb e) f0 f1 f3 f4 f5⟩
 self:=λ_ _ _ _ _ st h=>wpAny_pyIter_tupleiter st h
theorem sX {P:K1}{w:Lb}{K:Kr}{tg:KN}(it:Kl)(lo:Ky)(n:Kk):Turn P w K tg (Gj lo n) [it] it (λi h=>Tq h it (lo+(i:Kk)*1) ((n:Ky) - (i:Kk)) 1) where
 mem:=by simp
 obj:=λi h st b hb=>by
  have e:b=it:=by simpa using hb
  subst e;exact⟨_,st,λv z=>by
   have z':Data.fields _=Data.cell v:=z;cases z'⟩
 keep:=λi h h' st k=>k it (by simp) _ st
 item:=by
  intro X hP hw hK hc i pins s σ H E I hf st hg;subst hP hw hK;obtain⟨f0,f1,f2,f3,f4,f5⟩:=hf it (by simp)
  have W:=Walks.range (prog:=X.prog) (w:=X.w) (I.ok.hd hc) it lo 1 n;refine W.item i s _ _ hg st λv h' tk hv st' kk=>?_
  obtain⟨t,rfl⟩:=hv;have I1:Inv X pins σ H { s with heap:=h',toks:=tk }:=I.turned (λb o hb e=>kk b o (by simpa using hb) e) f0 f1 f3 f4 f5
  refine⟨_,rfl,uH (s:={ s with heap:=h',toks:=tk }) (n:="range_iterator") st' rfl rfl (by decide) ⟨.int (lo+i),H,I1,⟨t,?_⟩,⟨rfl,rfl⟩,st',λb hb=>(hf b hb).1⟩⟩
  rw[Int.mul_one]
 done:=by
  intro X hP hw hK hc i pins s σ H E I hf st hg;subst hP hw hK;obtain⟨f0,f1,f2,f3,f4,f5⟩:=hf it (by simp)
  exact wpAny_pyNext_range_end (I.ok.hd hc) st (by have:n<=i:=hg; omega) λh' eb=>⟨rfl,I.turned (t':=s.toks) (λb o hb e=>eb b o hb e) f0 f1 f3 f4 f5⟩
 self:=λ_ _ _ _ _ st h=>wpAny_pyIter_rangeiter st h
section
variable{X:Cx}{tg:KN}
theorem qU {pins:J9 (Kl×LZ)}{σ:St}{H:Hp}{s:Kg}{R:It->Hp->Prop}{E:Kd->Kg->Prop}{lo hi:Ky}{t u v:Uu}{tk:Kk}(I:Inv X pins σ H s)(h1 : -(2 ^ 62)<=lo)(h2:lo < 2 ^ 62)(h3 : -(2 ^ 62)<=hi)(h4:hi < 2 ^ 62)
  (q:R (Gj lo (hi - lo).toNat) H):wpAny (model X.prog X.w) X.A (pyIter (.ref s.heap.objs.size)) (Gi X pins σ tg R) E { s with heap:=s.heap.push { cls:=.type "range",data:=.fields [.int lo t,.int hi u,.int 1 v].toArray },toks:=tk }:=by
 refine wpAny_pyIter_range (IsRange.new ..) (SX h1 h2 h3 h4) ?_;have I1:Inv X pins σ H { s with heap:=s.heap.push { cls:=.type "range",data:=.fields [.int lo t,.int hi u,.int 1 v].toArray },toks:=tk }:=I.kept λb o e=>Ke _ e
 refine⟨(s.heap.push { cls:=.type "range",data:=.fields [.int lo t,.int hi u,.int 1 v].toArray }).objs.size,[(s.heap.push { cls:=.type "range",data:=.fields [.int lo t,.int hi u,.int 1 v].toArray }).objs.size],_,_,H,rfl,
  I1.kept (t':=tk) λb o e=>Ke _ e,sX _ lo (hi - lo).toNat,?_,λb hb=>?_,q⟩
 ·have e1:lo+((0:Kk):Ky)*1=lo:=by simp
  have e2:(((hi - lo).toNat:Kk):Ky) - ((0:Kk):Ky)=Ml lo hi 1:=by rw[QG]; split <;> omega
  show Tq _ _ (lo+((0:Kk):Ky)*1) ((((hi - lo).toNat:Kk):Ky) - ((0:Kk):Ky)) 1;rw[e1,e2];exact Ku _ rfl
 ·have e:b=(s.heap.push { cls:=.type "range",data:=.fields [.int lo t,.int hi u,.int 1 v].toArray }).objs.size:=by simpa using hb
  subst e;exact I1.fpOk (Kn _) (I1.hok.fresh (Kn _))
noncomputable def Gk (ta:TA):TI:=λσ H R=>ta σ H λvs H1=>∃j:Ky,vs=[.int j]/\-(2 ^ 62)<=j/\j < 2 ^ 62/\R (Gj 0 j.toNat) H1
noncomputable def iRng2 (ta:TA):TI:=λσ H R=>ta σ H λvs H1=>∃i j:Ky,vs=[.int i,.int j]/\(-(2 ^ 62)<=i/\i < 2 ^ 62/\-(2 ^ 62)<=j/\j < 2 ^ 62)/\R (Gj i (j - i).toNat) H1
theorem wb {a:KN}{ta:TA}{p pos:MP}(hg:Gl X "range")(hm:X.mg "range" = gV)(ha:PA X [a] ta)(hs:starEach [a] X.env=[(false,eval a X.env)]:=by rfl):PI X tg (.Call (.Name "range" p) [a] [] pos) (Gk ta):=by
 intro pins s σ H R I h;refine Call_ (jA I hg hm boot_range (ML (bT (ha pos pins s σ H _ I h) λus s1 ⟨vs,H1,I1,r1,q1⟩=>?_) hs rfl))
 obtain⟨j,e,q1,q2,q⟩:=q1;subst e;cases r1 with
 | cons r rr=>
  cases rr;obtain⟨t,rfl⟩:=r;exact Tb (qU I1 (by omega) (by omega) q1 q2 (by simpa using q))
theorem wc {a b:KN}{ta:TA}{p pos:MP}(hg:Gl X "range")(hm:X.mg "range" = gV)(ha:PA X [a,b] ta)(hs:starEach [a,b] X.env=[(false,eval a X.env),(false,eval b X.env)]:=by rfl)(hs2:starEach [b] X.env=[(false,eval b X.env)]:=by rfl) :
  PI X tg (.Call (.Name "range" p) [a,b] [] pos) (iRng2 ta):=by
 intro pins s σ H R I h;refine Call_ (jA I hg hm boot_range (ML (bT (ha pos pins s σ H _ I h) λus s1 ⟨vs,H1,I1,r1,q1⟩=>?_) (by rw[hs,hs2]) (by rw[hs2]; rfl)))
 obtain⟨i,j,e,⟨q1,q2,q3,q4⟩,q⟩:=q1;subst e;cases r1 with
 | cons r rr=>
  cases rr with
  | cons r' rr=>
   cases rr;obtain⟨t,rfl⟩:=r;obtain⟨t',rfl⟩:=r';exact call_range_2 (qU I1 q1 q2 q3 q4 q)
noncomputable def IH (wi:TI)(g:TG)(tb:TS):TS:=λD σ H=>wi σ H λJ H1=>∃W:Kk->Kk->St->Hp->Prop,(∃m,W 0 m σ H1)/\∀i m σ H,W i m σ H->
 (J.stop i H/\D.nx σ H)\/(J.go i H/\∃N:St->Hp->Prop,(∀σ' H',N σ' H'->∃m',m' < m/\W (i+1) m' σ' H')/\∀x H',J.yld i H x H'->g x σ H' λσ2 H2=>tb { D with nx:=N,ct:=N,bk:=D.nx } σ2 H2)
noncomputable def jC (fp:J9 Kl)(h:Lj):J9 (Kl×LZ):=fp.filterMap λb=>(h.get? b).map λo=>(b,o)
theorem fK {fp:J9 Kl}{h:Lj}{b:Kl}{o:LZ}(hb:b∈fp)(e:h.get? b=ba o):(b,o)∈jC fp h:=OQ.mpr ⟨b,hb,by rw[e]; rfl⟩
theorem we {fp:J9 Kl}{h:Lj}{p:Kl×LZ}(hp:p∈jC fp h):p.1∈fp/\h.get? p.1=ba p.2:=by
 obtain⟨b,hb,e⟩:=OQ.mp hp;cases q:h.get? b with
 | none=>rw[q]at e; cases e
 | some o=>
  rw[q]at e;have e':(b,o)=p:=Lx e;subst e';exact⟨hb,q⟩
theorem Inv.pinned {pins:J9 (Kl×LZ)}{σ:St}{H:Hp}{s:Kg}{fp:J9 Kl}(I:Inv X pins σ H s)(hf:∀b∈fp,jB X pins H b)(ho:∀b∈fp,∃o,s.heap.get? b=ba o/\∀v,o.data≠.cell v):Inv X (pins++jC fp s.heap) σ H s:=
 I.pins_of λp hp=>(Ln.mp hp).elim (λz=>I.pin p (K8 _ z)) λz=>by
  obtain⟨hb,e⟩:=we z;obtain⟨f0,f1,f2,_⟩:=hf p.1 hb;obtain⟨o,e',d⟩:=ho p.1 hb;rw[e]at e'; cases e'
  exact⟨e,f0,f1,f2,d⟩
theorem Inv.unpinned {pins pl:J9 (Kl×LZ)}{σ:St}{H:Hp}{s:Kg}(I:Inv X (pins++pl) σ H s):Inv X pins σ H s:=I.pins_of λp hp=>I.pin p (K8 _ (Mk _ hp))
theorem Ed {iter:KN}{body:J9 M5}{wi:TI}{g:TG}{tb:TS}{pos:MP}(hp:Qz (model X.prog X.w) X.A X.env X.xe)(hc:X.calm=true)(hi:PI X tg iter wi)(hg:PG X tg g)(hb:PSs X body tb)
  (hs:∀x,foldedSetIterable iter X.env x=pure x:=by intro _; rfl):PS X (.For tg iter body [] pos) (IH wi g tb):=by
 intro pins s σ H D I h;refine wpAny_For (bT (hi pins s σ H _ I h) λv s1 h1=>bT h1 λitv s2 h2=>?_) hs
 obtain⟨it,fp,tn,J,H2,e,I2,T,bm,f2,W,⟨m0,w0⟩,turn⟩:=h2;subst e;have stat:∀ {H':Hp},(∀b∈fp,H' b=gV)->∀b∈fp,jB X pins H' b:=λhn b hb=>⟨hn b hb,(f2 b hb).2⟩
 refine codeAny_forLoop_any (λn s'=>∃i σ' H',Inv X pins σ' H' s'/\tn i s'.heap/\(∀b∈fp,H' b=gV)/\W i n σ' H') ?_ m0 ⟨0,σ,H2,I2,bm,λb hb=>(f2 b hb).1,w0⟩
 rintro n s3 ⟨i,σ3,H3,I3,st3,fr3,w3⟩;rcases turn i n σ3 H3 w3 with⟨stop,qn⟩|⟨go,N,hN,step⟩
 ·refine MU hp (bT (T.done X rfl rfl rfl hc i pins s3 σ3 H3 X.xe I3 (stat fr3) st3 stop) λr s4 ⟨hr,I4⟩=>?_)
  subst hr;exact PY ⟨σ3,H3,I4,qn⟩
 ·refine MU hp (bT (T.item X rfl rfl rfl hc i pins s3 σ3 H3 X.xe I3 (stat fr3) st3 go) λr s4 ⟨u,hr,h4⟩=>?_)
  subst hr;refine MU hp (bT h4 λ_ s5 ⟨x,H5,I5,r5,y5,st5,fr5⟩=>?_)
  have I5':=I5.pinned (stat fr5) (T.obj _ _ st5);refine MU hp (bT (hg _ s5 σ3 H5 x u _ I5' r5 (step x H5 y5)) λ_ s6 ⟨σ6,H6,I6,q6⟩=>?_)
  refine MU hp (bT (hb _ s6 σ6 H6 _ I6 q6) λf s7 q7=>?_)
  have again:∀ {σ7:St} {H7:Hp},Inv X (pins++jC fp s5.heap) σ7 H7 s7->N σ7 H7->∃m,m < n/\∃i σ' H',Inv X pins σ' H' s7/\tn i s7.heap/\(∀b∈fp,H' b=gV)/\W i m σ' H':=λ{σ7 H7} I7 n7=>by
   obtain⟨m',hm,w7⟩:=hN σ7 H7 n7;refine⟨m',hm,i+1,σ7,H7,I7.unpinned,T.keep _ _ _ st5 λb hb o e=>(I7.pin (b,o) (K8 _ (K8 _ (fK hb e)))).1,λb hb=>?_,w7⟩
   obtain⟨o,e,d⟩:=T.obj _ _ st5 b hb;exact(I7.pin (b,o) (K8 _ (K8 _ (fK hb e)))).2.1
  cases f with
  | next=>obtain⟨σ7,H7,I7,n7⟩:=q7; exact again I7 n7
  | cont=>obtain⟨σ7,H7,I7,n7⟩:=q7; exact again I7 n7
  | brk=>obtain⟨σ7,H7,I7,q7⟩:=q7; exact⟨σ7,H7,I7.unpinned,q7⟩
  | ret v=>obtain⟨x7,σ7,H7,I7,r7,q7⟩:=q7; exact⟨x7,σ7,H7,I7.unpinned,r7,q7⟩
end
noncomputable abbrev R2:=V->V->Hp->VK->Prop
noncomputable def OpR (X:Cx)(f:Kd->Kd->Tp Kd)(r:R2):Prop:=
 ∀(pins:J9 (Kl×LZ)) (s:Kg) (σ:St) (H:Hp) (x y:V) (v u:Kd) (Q:VK),Inv X pins σ H s->RelV x v->RelV y u->r x y H Q->
  wpAny (model X.prog X.w) X.A (f v u) (EP X pins σ Q) X.xe s
noncomputable def II (X:Cx)(f:Kd->Tp Kd)(r:V->Hp->VK->Prop):Prop:=
 ∀(pins:J9 (Kl×LZ)) (s:Kg) (σ:St) (H:Hp) (x:V) (v:Kd) (Q:VK),Inv X pins σ H s->RelV x v->r x H Q->
  wpAny (model X.prog X.w) X.A (f v) (EP X pins σ Q) X.xe s
noncomputable def CallR (X:Cx)(f:Kd)(r:J9 V->Hp->VK->Prop):Prop:=
 ∀(pins:J9 (Kl×LZ)) (s:Kg) (σ:St) (H:Hp) (xs:J9 V) (us:J9 Kd) (Q:VK),Inv X pins σ H s->Vals xs us->r xs H Q->
  wpAny (model X.prog X.w) X.A (call f us) (EP X pins σ Q) X.xe s
noncomputable def IJ (X:Cx)(r:V->Hp->(KP->Hp->Prop)->Prop):Prop:=
 ∀(pins:J9 (Kl×LZ)) (s:Kg) (σ:St) (H:Hp) (x:V) (v:Kd) (Q:KP->Hp->Prop),Inv X pins σ H s->RelV x v->r x H Q->
  wpAny (model X.prog X.w) X.A (truthy v) (TP X pins σ Q) X.xe s
noncomputable def HX (r:R2)(ta tb:TE):TE:=λσ H Q=>ta σ H λx H1=>tb σ H1 λy H2=>r x y H2 Q
noncomputable def JW (r:V->Hp->VK->Prop)(ta:TE):TE:=λσ H Q=>ta σ H λx H1=>r x H1 Q
noncomputable def rI (C:Ky->Ky->Prop)(g:Ky->Ky->V):R2:=λx y H Q=>∃i j,x=.int i/\y=.int j/\C i j/\Q (g i j) H
noncomputable def Dh (g:Ky->Ky->V):R2:=λx y H Q=>∃i j,x=.int i/\y=.int j/\Q (g i j) H
noncomputable def rU (g:Ky->V):V->Hp->VK->Prop:=λx H Q=>∃i,x=.int i/\Q (g i) H
section
variable{X:Cx}{a b c:KN}{ta tb tc:TE}{pos:MP}
theorem Ee (ha:PE X a ta)(hb:PE X b tb){pins:J9 (Kl×LZ)}{s:Kg}{σ:St}{H:Hp}{R:V->V->Hp->Prop}(I:Inv X pins σ H s)
  (h:ta σ H λx H1=>tb σ H1 λy H2=>R x y H2) {Q:Kd->Kg->Prop} {f:Kd->Kd->Tp Kd}
  (hf:∀v u s2 x y H2,Inv X pins σ H2 s2->RelV x v->RelV y u->R x y H2->wpAny (model X.prog X.w) X.A (f v u) Q X.xe s2) :
  wpAny (model X.prog X.w) X.A (eval a X.env) (λv s₁=>wpAny (model X.prog X.w) X.A (eval b X.env) (λu s₂=>wpAny (model X.prog X.w) X.A (f v u) Q X.xe s₂) X.xe s₁) X.xe s:=by
 refine bT (ha pins s σ H _ I h) λv s1 ⟨x,H1,I1,r1,q1⟩=>?_
 refine bT (hb pins s1 σ H1 _ I1 q1) λu s2 ⟨y,H2,I2,r2,q2⟩=>?_
 exact hf v u s2 x y H2 I2 r1 r2 q2
theorem Gm {op:Rc}{r:R2}(ho:OpR X (binaryOp op) r)(ha:PE X a ta)(hb:PE X b tb):PE X (.BinOp a op b pos) (HX r ta tb):=by
 intro pins s σ H Q I h;exact wpAny_BinOp (Ee ha hb I h λv u s2 x y H2 I2 rx ry q=>ho pins s2 σ H2 x y v u Q I2 rx ry q)
theorem Gn {op:UnaryOp}{r:V->Hp->VK->Prop}(ho:II X (unaryOp op) r)(ha:PE X a ta):PE X (.UnaryOp op a pos) (JW r ta):=by
 intro pins s σ H Q I h;exact UnaryOp_ (bT (ha pins s σ H _ I h) λv s1 ⟨x,H1,I1,r1,q1⟩=>ho pins s1 σ H1 x v Q I1 r1 q1)
theorem HY {f:Kd->Kd->Tp Kd}{C:Ky->Ky->Prop}{g:Ky->Ky->Ky}
  (rule:∀(i j:Ky) (t u:Uu) (s:Kg) (Q:Kd->Kg->Prop) (E:Kd->Kg->Prop),C i j->Q (.int (g i j) s.toks) { s with toks:=s.toks+1 }->wpAny (model X.prog X.w) X.A (f (.int i t) (.int j u)) Q E s) :
  OpR X f (rI C λi j=>.int (g i j)):=by
 intro pins s σ H x y v u Q I rx ry h;obtain⟨i,j,rfl,rfl,hc,q⟩:=h;obtain⟨t,rfl⟩:=rx;obtain⟨t',rfl⟩:=ry;exact rule i j t t' s _ _ hc ⟨.int (g i j),H,I.tok _,⟨_,rfl⟩,q⟩
theorem Go {f:Kd->Kd->Tp Kd}{g:Ky->Ky->Ky}
  (rule:∀(i j:Ky) (t u:Uu) (s:Kg) (Q:Kd->Kg->Prop) (E:Kd->Kg->Prop),Q (.int (g i j) s.toks) { s with toks:=s.toks+1 }->wpAny (model X.prog X.w) X.A (f (.int i t) (.int j u)) Q E s) :
  OpR X f (Dh λi j=>.int (g i j)):=by
 intro pins s σ H x y v u Q I rx ry h;obtain⟨i,j,rfl,rfl,q⟩:=h;obtain⟨t,rfl⟩:=rx;obtain⟨t',rfl⟩:=ry;exact rule i j t t' s _ _ ⟨.int (g i j),H,I.tok _,⟨_,rfl⟩,q⟩
theorem Bk {f:Kd->Kd->Tp Kd}{g:Ky->Ky->KP}
  (rule:∀(i j:Ky) (t u:Uu) (s:Kg) (Q:Kd->Kg->Prop) (E:Kd->Kg->Prop),Q (.bool (g i j)) s->wpAny (model X.prog X.w) X.A (f (.int i t) (.int j u)) Q E s) :
  OpR X f (Dh λi j=>.bl (g i j)):=by
 intro pins s σ H x y v u Q I rx ry h;obtain⟨i,j,rfl,rfl,q⟩:=h;obtain⟨t,rfl⟩:=rx;obtain⟨t',rfl⟩:=ry;exact rule i j t t' s _ _ ⟨.bl (g i j),H,I,rfl,q⟩
noncomputable def IK (i j:Ky):Prop:=0 < j/\j < 1073741824
noncomputable def IL (i j:Ky):Prop:=0<=j/\j<=1000000/\i.natAbs < 2 ^ 64
noncomputable def CMul (i j:Ky):Prop:=(-(2 ^ 64) < i/\i < 2 ^ 64)\/(-(2 ^ 64) < j/\j < 2 ^ 64)
theorem CMul.ok {i j:Ky}(h:CMul i j):IntMulOk i j:=by
 rcases h with⟨h1,h2⟩|⟨h1,h2⟩
 ·exact .of_left (SF h1 h2)
 ·exact .of_right (SF h1 h2)
theorem Ef:OpR X (binaryOp .Add) (Dh λi j=>.int (i+j)):=Go λ_ _ _ _ _ _ _ q=>add_int q
theorem Eg:OpR X (binaryOp .Sub) (Dh λi j=>.int (i - j)):=Go λ_ _ _ _ _ _ _ q=>sub_int q
theorem Eh:OpR X (binaryOp .Mult) (rI CMul λi j=>.int (i*j)):=HY λ_ _ _ _ _ _ _ hc q=>mul_int q hc.ok
theorem Bl:OpR X (binaryOp .FloorDiv) (rI IK λi j=>.int (i / j)):=HY λi j _ _ _ _ _ hc q=>by
 have h1:(0:Ky) < j:=hc.1;have h2:j < 1073741824:=hc.2;exact floordiv_int (by omega) (by rw[Int.fdiv_eq_ediv_of_nonneg i (by omega)]; exact q) (.inl (PyProof.noPylong_small (by omega)))
theorem Ei:OpR X (binaryOp .Mod) (rI (λ_ j=>0 < j) λi j=>.int (i % j)):=HY λi j _ _ _ _ _ hc q=>by
 have h1:(0:Ky) < j:=hc;exact mod_int' (by omega) (by rw[Int.fmod_eq_emod_of_nonneg i (by omega)]; exact q)
theorem Ej:OpR X (binaryOp .Pow) (rI IL λi j=>.int (i ^ j.toNat)):=HY λ_ _ _ _ _ _ _ hc q=>pow_int_small hc.1 hc.2.1 hc.2.2 q
theorem JX {f:Kd->Tp Kd}{g:Ky->Ky}
  (rule:∀(i:Ky) (t:Uu) (s:Kg) (Q:Kd->Kg->Prop) (E:Kd->Kg->Prop),Q (.int (g i) s.toks) { s with toks:=s.toks+1 }->wpAny (model X.prog X.w) X.A (f (.int i t)) Q E s) :
  II X f (rU λi=>.int (g i)):=by
 intro pins s σ H x v Q I rx h;obtain⟨i,rfl,q⟩:=h;obtain⟨t,rfl⟩:=rx;exact rule i t s _ _ ⟨.int (g i),H,I.tok _,⟨_,rfl⟩,q⟩
theorem Ek:II X (unaryOp .USub) (rU λi=>.int (-i)):=JX λ_ _ _ _ _ q=>neg_int q
end
section
variable{X:Cx}{a b c:KN}{ta tb tc:TE}{pos:MP}
theorem xS {pins:J9 (Kl×LZ)}{σ:St}{H:Hp}{s:Kg}{Q:VK}{k k':KP}(I:Inv X pins σ H s)(q:Q (.bl k) H)(e:k=k'):EP X pins σ Q (.bool k') s:=by
 subst e;exact⟨.bl k,H,I,rfl,q⟩
theorem Gp:OpR X (compareOp .Lt) (Dh λi j=>.bl (decide (i < j))):=Bk λ_ _ _ _ _ _ _ q=>lt_int q
theorem Gq:OpR X (compareOp .LtE) (Dh λi j=>.bl (decide (i<=j))):=Bk λ_ _ _ _ _ _ _ q=>le_int q
theorem Gr:OpR X (compareOp .Gt) (Dh λi j=>.bl (decide (j < i))):=Bk λ_ _ _ _ _ _ _ q=>gt_int q
theorem Gs:OpR X (compareOp .GtE) (Dh λi j=>.bl (decide (j<=i))):=Bk λ_ _ _ _ _ _ _ q=>ge_int q
theorem El:OpR X (compareOp .Is) (λx y H Q=>y=.non/\Q (.bl (decide (x=.non))) H):=by
 intro pins s σ H x y v u Q I rx ry h;obtain⟨rfl,q⟩:=h;cases ry;refine is_none_gen (xS I q ?_);cases x <;> first
  | (cases rx; rfl)
  | (obtain⟨t,rfl⟩:=rx; rfl)
theorem Bm:OpR X (compareOp .IsNot) (λx y H Q=>y=.non/\Q (.bl (!decide (x=.non))) H):=by
 intro pins s σ H x y v u Q I rx ry h;obtain⟨rfl,q⟩:=h;cases ry;refine isnot_none_gen (xS I q ?_);cases x <;> first
  | (cases rx; rfl)
  | (obtain⟨t,rfl⟩:=rx; rfl)
theorem Bn {op:SY}{r:R2}(ho:OpR X (compareOp op) r)(ha:PE X a ta)(hb:PE X b tb)(hm:behindInMarks op b=false):PE X (.Compare a [op] [b] pos) (HX r ta tb):=by
 intro pins s σ H Q I h;exact wpAny_Compare1 (Ee ha hb I h λv u s2 x y H2 I2 rx ry q=>ho pins s2 σ H2 x y v u Q I2 rx ry q) hm
noncomputable def Gu (t:TE):TT:=λσ H Q=>t σ H λx H'=>∃k,x=.bl k/\Q k H'
theorem Bo {op:SY}{r:R2}(ho:OpR X (compareOp op) r)(ha:PE X a ta)(hb:PE X b tb)(hm:behindInMarks op b=false):PT X (.Compare a [op] [b] pos) (Gu (HX r ta tb)):=by
 intro pins s σ H Q I h;refine wpAny_isTrue_Compare1 (bT (ha pins s σ H _ I h) λv s1 ⟨x,H1,I1,r1,q1⟩=>bT (hb pins s1 σ H1 _ I1 q1) λu s2 ⟨y,H2,I2,r2,q2⟩=>
  bT (ho pins s2 σ H2 x y v u _ I2 r1 r2 q2) λc s3 ⟨z,H3,I3,r3,k,e,q3⟩=>?_) hm
 subst e;cases r3;exact ME ⟨H3,I3,q3⟩
noncomputable def IM (K:Kr)(x:V)(H:Hp)(k:KP):Prop:=
 match x with
 | .non=>k=false
 | .bl b=>k=b
 | .int i=>k=(i != 0)
 | .str y=>y.length<=sizeLine/\k=((y.length:Ky) != 0)
 | .byt y=>y.size<=sizeLine/\k=((y.size:Ky) != 0)
 | .ref p=>(∃xs,SqL K H p xs/\k = !xs.isEmpty)\/(∃xs,SqT K H p xs/\k = !xs.isEmpty)\/∃kvs,H p=ba (.dK kvs)/\k = !kvs.isEmpty
 | _=>LL
theorem sY {κ:Type}{kvs:J9 (κ×V)}{vs:J9 (κ×Kd)}(r:KV kvs vs):(!vs.isEmpty) = !kvs.isEmpty:=by
 cases r <;> rfl
theorem lh {xs:J9 V}{its:J9 Kd}(r:Vals xs its):(!its.toArray.isEmpty) = !xs.isEmpty:=by
 cases r <;> simp
theorem jD:(sizeLine:Kk) < 2 ^ 63:=by rw[Lo]; decide
theorem Em:IJ X (λx H Q=>∃k,IM X.K x H k/\Q k H):=by
 intro pins s σ H x v Q I rx h;obtain⟨k,e,q⟩:=h;have hl:=jD;have hs:sizeLine=16777216:=Lo;cases x with
 | non=>
  cases rx;have e':k=false:=e;subst e';exact truthy_none ⟨H,I,q⟩
 | bl b=>
  cases rx;have e':k=b:=e;subst e';exact ME ⟨H,I,q⟩
 | int i=>
  obtain⟨t,rfl⟩:=rx;have e':k=(i != 0):=e;subst e';exact PySem.P.truthy_int ⟨H,I,q⟩
 | str y=>
  obtain⟨t,rfl⟩:=rx;obtain⟨hy,e'⟩ : y.length<=sizeLine/\k=((y.length:Ky) != 0):=e;subst e';exact PySem.P.truthy_str (by omega) ⟨H,I.tok _,q⟩
 | byt y=>
  obtain⟨t,rfl⟩:=rx;obtain⟨hy,e'⟩ : y.size<=sizeLine/\k=((y.size:Ky) != 0):=e;subst e';exact PySem.W.truthy_bytes (by omega) ⟨H,I.tok _,q⟩
 | ref p=>
  cases rx;have e':(∃xs,SqL X.K H p xs/\k = !xs.isEmpty)\/(∃xs,SqT X.K H p xs/\k = !xs.isEmpty)\/∃kvs,H p=ba (.dK kvs)/\k = !kvs.isEmpty:=e;rcases e' with⟨xs,hx,e'⟩|⟨xs,hx,e'⟩|⟨kvs,hx,e'⟩
  ·subst e';obtain⟨its,r,pl,hz⟩:=I.list hx;have hlen:=r.length;exact wpAny_truthy_list pl.isList (by simp only[Kv]; omega) ⟨H,I.tok _,by rw[lh r]; exact q⟩
  ·subst e';obtain⟨its,r,pl,hz⟩:=I.tuple hx;have hlen:=r.length;exact truthy_tuple pl (by simp only[Kv]; omega) ⟨H,I.tok _,by rw[lh r]; exact q⟩
  ·subst e';obtain⟨hz,hS,vs,r,m⟩ : kvs.length<=sizeLine/\(p==sysModules)=false/\∃vs,KV kvs vs/\s.heap.DictOf (pb X.prog X.w) p vs:=I.hok p _ hx;have hlen:kvs.length=vs.length:=Pk r;exact wpAny_truthy_dict hS m (by omega) ⟨H,I.tok _,by rw[sY r]; exact q⟩
 | _=>exact(show LL from e).elim
theorem sZ:OpR X (binaryOp .Add) (λx y H Q=>∃i j,x=.str i/\y=.str j/\i.length+j.length<=sizeLine/\Q (.str (i++j)) H):=by
 intro pins s σ H x y v u Q I rx ry h;obtain⟨i,j,rfl,rfl,hz,q⟩:=h;obtain⟨t,rfl⟩:=rx;obtain⟨t',rfl⟩:=ry;exact add_str (λt' tk=>⟨.str (i++j),H,I.tok _,⟨_,rfl⟩,q⟩) hz
theorem nR {x:V}{us:J9 Kd}(r:Vals [x] us):∃u,us=[u]/\RelV x u:=by
 cases r with
 | cons r1 r2=>cases r2; exact⟨_,rfl,r1⟩
theorem nS:CallR X (.type "int") (λxs H Q=>(∃i,xs=[.int i]/\Q (.int i) H)\/∃k,xs=[.bl k]/\Q (.int (if k then 1 else 0)) H):=by
 intro pins s σ H xs us Q I r h;rcases h with⟨i,rfl,q⟩|⟨k,rfl,q⟩
 ·obtain⟨u,rfl,t,rfl⟩:=nR r;exact call_int_int ⟨.int i,H,I,⟨_,rfl⟩,q⟩
 ·obtain⟨u,rfl,r1⟩:=nR r;cases r1;exact call_int_bool ⟨.int (if k then 1 else 0),H,I.tok _,⟨_,rfl⟩,q⟩
noncomputable def IN (K:Kr)(x:V)(H:Hp)(n:Kk):Prop:=
 match x with
 | .str y=>y.length<=sizeLine/\n=y.length
 | .byt y=>y.size<=sizeLine/\n=y.size
 | .ref p=>(∃xs,SqL K H p xs/\n=xs.length)\/∃xs,SqT K H p xs/\n=xs.length
 | _=>LL
theorem ll:CallR X (.builtin "len") (λxs H Q=>∃x n,xs=[x]/\IN X.K x H n/\Q (.int n) H):=by
 intro pins s σ H xs us Q I r h;obtain⟨x,n,rfl,e,q⟩:=h;obtain⟨u,rfl,rx⟩:=nR r;have hl:=jD;have hs:sizeLine=16777216:=Lo;cases x with
 | str y=>
  obtain⟨t,rfl⟩:=rx;obtain⟨hy,e'⟩ : y.length<=sizeLine/\n=y.length:=e;subst e';exact len_str (by omega) ⟨.int _,H,I.tok _,⟨_,rfl⟩,q⟩
 | byt y=>
  obtain⟨t,rfl⟩:=rx;obtain⟨hy,e'⟩ : y.size<=sizeLine/\n=y.size:=e;subst e';exact PySem.W.len_bytes (by omega) ⟨.int _,H,I.tok _,⟨_,rfl⟩,q⟩
 | ref p=>
  cases rx;have e':(∃xs,SqL X.K H p xs/\n=xs.length)\/∃xs,SqT X.K H p xs/\n=xs.length:=e;rcases e' with⟨xs,hx,e'⟩|⟨xs,hx,e'⟩
  ·subst e';obtain⟨its,r',pl,hz⟩:=I.list hx;have hlen:=r'.length;exact Calls.call_len_list pl.isList (by simp only[Kv]; omega) ⟨.int xs.length,H,I.tok _,⟨_,by simp only[Kv]; rw[hlen]⟩,q⟩
  ·subst e';obtain⟨its,r',pl,hz⟩:=I.tuple hx;have hlen:=r'.length;exact len_tuple pl (by simp only[Kv]; omega) ⟨.int xs.length,H,I.tok _,⟨_,by simp only[Kv]; rw[hlen]⟩,q⟩
 | _=>exact(show LL from e).elim
end
structure Room (k:Kk)(A:K9):Prop where
 hd:A.handled=gV
 dp:A.depth+3*k+5 < recursionLimit
 un:A.units+16*k+200 < cLine
theorem Room.deeper {k:Kk}{A:K9}(r:Room (k+1) A)(env:Q9):Room k (A.deeper env):=
 ⟨r.hd,by have:=r.dp; show A.depth+1+3*k+5 < _; omega,by have:=r.un; show A.units+3+16*k+200 < _; omega⟩
theorem Room.depth {k:Kk}{A:K9}(r:Room k A):A.depth < recursionLimit:=by have:=r.dp; omega
noncomputable def Gv:TA:=λ_ H Q=>Q [] H
noncomputable def Gw (ta:TE)(tr:TA):TA:=λσ H Q=>ta σ H λx H1=>tr σ H1 λxs H2=>Q (x::xs) H2
section
variable{X:Cx}{e:KN}{es:J9 KN}{te:TE}{t:TA}{pos:MP}
theorem xT:PA X [] Gv:=λ_ _ _ _ H Q I h=>Calls.spliced_nil ⟨[],H,I,.nil,h⟩
theorem pd (ha:PE X e te)(hr:PA X es t)(hs:starEach (e::es) X.env=(false,eval e X.env)::starEach es X.env:=by rfl):PA X (e::es) (Gw te t):=by
 intro pos pins s σ H Q I h;rw[hs];show wpAny _ _ (spliced ((false,eval e X.env)::backTo pos (starEach es X.env))) _ _ s;refine Calls.spliced_cons (bT (ha pins s σ H _ I h) λu s1 ⟨x,H1,I1,r1,q1⟩=>?_)
 exact bT (hr pos pins s1 σ H1 _ I1 q1) λus s2 ⟨xs,H2,I2,r2,q2⟩=>⟨x::xs,H2,I2,.cons r1 r2,q2⟩
noncomputable def IP (t:TA):TE:=λσ H Q=>t σ H λxs H1=>xs.length<=sizeLine/\∀p,H1 p=gV->Q (.ref p) (bZ H1 p (.tup xs))
noncomputable def IQ (t:TA):TE:=λσ H Q=>t σ H λxs H1=>xs.length<=sizeLine/\∀p,H1 p=gV->Q (.ref p) (bZ H1 p (.lst xs))
theorem En {x1}(h:PA X es t):PE X (.Tuple es x1 pos) (IP t):=by
 intro pins s σ H Q I hq;refine wpAny_Tuple_spliced (bT (h pos pins s σ H _ I hq) λus s1 ⟨xs,H1,I1,r,z,q⟩=>⟨by rw[<- r.length]; exact z,?_⟩)
 have hf:H1 s1.heap.objs.size=gV:=I1.hok.fresh (Kn _);refine⟨.ref s1.heap.objs.size,bZ H1 s1.heap.objs.size (.tup xs),I1.laid (t':=s1.toks) (λb u e=>Ke _ e) (Kn _) ?_,rfl,q _ hf⟩
 exact⟨z,us,r,⟨_,Ku _ rfl,rfl,_,rfl⟩⟩
theorem Eo (h:PA X es t):PE X (.List es pos) (IQ t):=by
 intro pins s σ H Q I hq;refine wpAny_List_spliced (bT (h pos pins s σ H _ I hq) λus s1 ⟨xs,H1,I1,r,z,q⟩=>⟨by rw[<- r.length]; exact z,?_⟩)
 have hf:H1 s1.heap.objs.size=gV:=I1.hok.fresh (Kn _);refine⟨.ref s1.heap.objs.size,bZ H1 s1.heap.objs.size (.lst xs),I1.laid (t':=s1.toks) (λb u e=>Ke _ e) (Kn _) ?_,rfl,q _ hf⟩
 exact⟨z,us,0,r,Ku _ rfl⟩
end
noncomputable abbrev Sp:=J9 V->Hp->VK->XK->Prop
noncomputable abbrev xU:=J9 Q9->Hp->Kg->XK->Kd->Kg->Prop
structure Env0 (P:K1)(w:Lb)(K:Kr)(mg:KF->Ki Kd)(base:Lj)(A:K9)(outer:J9 Q9)(s:Kg)(H:Hp):Prop where
 frames:A.frames=ba outer
 mod:Mod K mg base
 bs:∀b o,base.get? b=ba o->s.heap.get? b=ba o/\H b=gV
 bsz:base.objs.size<=s.heap.objs.size
 funs:s.heap.FunFrames base outer
 frf:∀b∈sV outer,H b=gV
 hok:HOk P w H s.heap
 bare:Pc s.gens
noncomputable def CE (outer:J9 Q9)(P:K1)(w:Lb)(H:Hp)(s:Kg)(Q:VK)(u:Kd)(s':Kg):Prop:=
 ∃v H',s'.os=s.os/\Pc s'.gens/\Un (sV outer) [] H H' s.heap s'.heap/\HOk P w H' s'.heap/\RelV v u/\Q v H'
noncomputable def CR (CX:xU)(outer:J9 Q9)(P:K1)(w:Lb)(H:Hp)(s:Kg)(Q:VK)(E:XK)(r:Rz)(s':Kg):Prop:=
 match r with
 | .ok (.ret u)=>CE outer P w H s Q u s'
 | .ok _=>LL
 | .error e=>CX outer H s E e s'
structure FnOk (P:K1)(w:Lb)(K:Kr)(mg:KF->Ki Kd)(base:Lj)(CX:xU)(k:Kk)(f:Kl)(fd:MQ)(ps:J9 KF)(sp:Sp):Prop where
 len:∀vs H Q E,sp vs H Q E->vs.length=ps.length
 run:∀(A:K9) (outer:J9 Q9) (s:Kg) (H:Hp) (args:Args) (us:J9 Kd) (vs:J9 V) (Q:VK) (E:XK),Room k A->Env0 P w K mg base A outer s H->Re s fd args (ps.zip us)->Vals vs us->sp vs H Q E->
  codeAny (model P w) A (.call (.ref f) args) (CR CX outer P w H s Q E) s
section
variable{X:Cx}{pins:J9 (Kl×LZ)}{σ:St}{H:Hp}{s s':Kg}
theorem Inv.env0 (I:Inv X pins σ H s):Env0 X.prog X.w X.K X.mg X.base X.A X.stack s H:=
 ⟨I.ok.frames,I.ok.mod,I.bs,KT I.ok.bsz I.sz,I.stack,I.stkFree,I.hok,I.bare⟩
theorem Inv.after {Q:VK}{u:Kd}(I:Inv X pins σ H s)(h:CE X.stack X.prog X.w H s Q u s'):EP X pins σ Q u s':=by
 obtain⟨v,H',os,bare,un,hok,r,q⟩:=h;obtain⟨hh,g,d,t,os'⟩:=s';obtain rfl:os'=s.os:=os;exact⟨v,H',I.call (h':=hh) (g':=g) (d':=d) (t':=t) (ch:=[]) un hok bare (λb z=>absurd z (by simp)),r,q⟩
end
noncomputable def xV (sp:Sp)(dvs:J9 V)(E:XK)(t:TA):TE:=λσ H Q=>t σ H λvs H1=>sp (vs++dvs) H1 Q E
noncomputable def Binds (K:Kr)(fd:MQ)(ps:J9 KF)(ds:J9 Kd):Prop:=
 ∀(s:Kg) (us:J9 Kd),K.In s.heap->(us++ds).length=ps.length->Re s fd ⟨us,[]⟩ (ps.zip (us++ds))
theorem Binds.all {K:Kr}{fd:MQ}{ps:J9 KF}(h:∀us:J9 Kd,us.length=ps.length->bindArgs fd ⟨us,[]⟩=pure (ps.zip us)):Binds K fd ps []:=λs us _ hl=>by
 rw[MH]at hl ⊢;exact .of_eq (h us hl)
noncomputable def pe (CX:xU)(X:Cx)(E:XK):Prop:=∀(pins:J9 (Kl×LZ)) (σ:St) (H:Hp) (s:Kg) (e:Kd) (s':Kg),Inv X pins σ H s->CX X.stack H s E e s'->X.xe e s'
section
variable{X:Cx}{CX:xU}{k:Kk}{f C:Kl}{fd:MQ}{ps:J9 KF}{sp:Sp}{dvs:J9 V}{ds:J9 Kd}{E:XK}{x m:KF}{p pos apos:MP}{e o:KN}{es:J9 KN}{ta:TE}{t:TA}
theorem xW {pins:J9 (Kl×LZ)}{σ:St}{H:Hp}{s:Kg}{Q:VK}{us:J9 Kd}{vs:J9 V}(F:FnOk X.prog X.w X.K X.mg X.base CX k f fd ps sp)(hr:Room k X.A)(hb:Binds X.K fd ps ds)(hd:Vals dvs ds)(hx:pe CX X E)
  (I:Inv X pins σ H s) (r:Vals vs us) (h:sp (vs++dvs) H Q E):wpAny (model X.prog X.w) X.A (call (.ref f) us) (EP X pins σ Q) X.xe s:=by
 have r2:Vals (vs++dvs) (us++ds):=r.append hd;have hl:(us++ds).length=ps.length:=by rw[<- r2.length]; exact F.len _ _ _ _ h
 refine wpAny_call (Oe (F.run X.A X.stack s H ⟨us,[]⟩ (us++ds) (vs++dvs) Q E hr I.env0 (hb s us I.kIn hl) r2 h) λr s' hq=>?_)
 cases r with
 | error e=>exact hx pins σ H s e s' I hq
 | ok fl=>
  cases fl with
  | ret u=>exact I.after hq
  | next=>exact LL.elim hq
  | brk=>exact LL.elim hq
  | cont=>exact LL.elim hq
theorem Bp (F:FnOk X.prog X.w X.K X.mg X.base CX k f fd ps sp)(hr:Room k X.A)(hg:Gl X x)(hm:X.mg x=ba (.ref f))(hk:L0 X.K (.ref f)=true)(hb:Binds X.K fd ps ds)(hd:Vals dvs ds)(hx:pe CX X E)
  (ha:PA X (e::es) t) (hdb:(x==("__debug__" : KF))=false:=by decide) (he:starEach (e::es) X.env=(false,eval e X.env)::starEach es X.env:=by rfl) (hpl:(backTo pos (starEach es X.env)).any (·.1)=false:=by rfl) :
  PE X (.Call (.Name x p) (e::es) [] pos) (xV sp dvs E t):=by
 intro pins s σ H Q I h;refine N6 (uF I hg hm ?_ hdb);refine PySem.W.callWith_K (h₀:=X.base) I.ok.mod.kin hk (bT (ha pos pins s σ H _ I h) λus s1 ⟨vs,H1,I1,r,q⟩=>⟨I1.kIn,?_⟩) he hpl
 exact xW F hr hb hd hx I1 r q
theorem xX (F:FnOk X.prog X.w X.K X.mg X.base CX k f fd ps sp)(hr:Room k X.A)(hg:Gl X x)(hm:X.mg x=ba (.ref f))(hk:L0 X.K (.ref f)=true)(hb:Binds X.K fd ps ds)(hd:Vals dvs ds)(hx:pe CX X E)
  (hdb:(x==("__debug__" : KF))=false:=by decide):PE X (.Call (.Name x p) [] [] pos) (xV sp dvs E Gv):=by
 intro pins s σ H Q I h;refine N6 (uF I hg hm ?_ hdb);exact PySem.W.callWith_K0 I.kIn hk (xW (us:=[]) F hr hb hd hx I .nil h)
end
structure FnScope (N P:J9 KF)(sc:Nz):Prop where
 kind:sc.kind=.function
 co:sc.isCoroutine=false
 gen:sc.isGenerator=false
 nd:N.Nodup
 pre:N.take P.length=P
 par:∀x∈P,sc.names.lookup x=ba .local\/sc.names.lookup x=ba .cell
 nofree:∀y∈sc.names,y.2≠.free
theorem nT {kindOf:KF->Ki Mm}{x:KF}:∀ {binds:J9 (KF×Kd)} {m:KF->Ki Kd},(∀v,(x,v)∉binds)->bindL kindOf binds m x=m x
 | [],_,_=>rfl
 | (n,v)::r,m,h=>by
  unfold bindL;rw[nT λw hw=>h w (LD _ hw)]
  split
  ·have:x≠n:=by rintro rfl; exact h v LM
   simp[this]
  ·rfl
theorem nU {kindOf:KF->Ki Mm}{x:KF}:∀ {binds:J9 (KF×Kd)} {m:KF->Ki Kd},(∀v,(x,v)∉binds)->bindC kindOf binds m x=m x
 | [],_,_=>rfl
 | (n,v)::r,m,h=>by
  unfold bindC;rw[nU λw hw=>h w (LD _ hw)]
  split
  ·rfl
  ·have:x≠n:=by rintro rfl; exact h v LM
   simp[this]
theorem nV {kindOf:KF->Ki Mm}{x:KF}{v:Kd}:∀ {P:J9 KF} {vs:J9 Kd} {i:Kk} {m:KF->Ki Kd},P.Nodup->P[i]?=ba x->vs[i]?=ba v->kindOf x=ba .local->
  bindL kindOf (P.zip vs) m x=ba v
 | [],_,_,_,_,h,_,_=>by simp at h
 | _::_,[],_,_,_,_,h,_=>by simp at h
 | p::P,w::vs,0,m,nd,h1,h2,hk=>by
  simp at h1 h2; subst h1; subst h2
  show bindL kindOf ((p,w)::P.zip vs) m p=_;unfold bindL;rw[nT λv hv=>(Mb.mp nd).1 (PZ hv).1,KJ hk]
  simp
 | p::P,w::vs,i+1,m,nd,h1,h2,hk=>by
  show bindL kindOf ((p,w)::P.zip vs) m x=_;unfold bindL;exact nV (i:=i) (Mb.mp nd).2 (by simpa using h1) (by simpa using h2) hk
theorem nW {kindOf:KF->Ki Mm}{x:KF}{v:Kd}:∀ {P:J9 KF} {vs:J9 Kd} {i:Kk} {m:KF->Ki Kd},P.Nodup->P[i]?=ba x->vs[i]?=ba v->kindOf x≠ba .local->
  bindC kindOf (P.zip vs) m x=ba v
 | [],_,_,_,_,h,_,_=>by simp at h
 | _::_,[],_,_,_,_,h,_=>by simp at h
 | p::P,w::vs,0,m,nd,h1,h2,hk=>by
  simp at h1 h2; subst h1; subst h2
  show bindC kindOf ((p,w)::P.zip vs) m p=_;unfold bindC;rw[nU λv hv=>(Mb.mp nd).1 (PZ hv).1,KW hk]
  simp
 | p::P,w::vs,i+1,m,nd,h1,h2,hk=>by
  show bindC kindOf ((p,w)::P.zip vs) m x=_;unfold bindC;exact nW (i:=i) (Mb.mp nd).2 (by simpa using h1) (by simpa using h2) hk
noncomputable def ga (N:J9 KF)(vs:J9 V):St:=vs.map ba++K7 (N.length - vs.length) gV
noncomputable def tf (CX:xU)(P:K1)(w:Lb)(K:Kr)(mg:KF->Ki Kd)(base:Lj)(N:J9 KF)(qual:KF)(scope:Nz)(f:Kl)(cd:Kd)(A:K9)(outer:J9 Q9)(s:Kg)(H:Hp)(E:XK):Cx where
 prog:=P
 w:=w
 K:=K
 mg:=mg
 base:=base
 A:=A.deeper (envOfC qual scope s.heap.objs.size f cd)
 N:=N
 s₀:=s
 H₀:=H
 env:=envOfC qual scope s.heap.objs.size f cd
 outer:=outer
 stack:=envOfC qual scope s.heap.objs.size f cd::outer
 ex:=[]
 calm:=true
 fn:=λ_=>true
 pn:=[]
 xe:=λe s'=>wpAny (model P w) (A.deeper (envOfC qual scope s.heap.objs.size f cd)) (leaving (envOfC qual scope s.heap.objs.size f cd) e) (λ_ s''=>CX outer H s E e s'') (λe' s''=>CX outer H s E e' s'') s'
theorem qV {sc:Nz}{n:Kk}{x:KF}(h:sc.names.lookup x=ba .cell):∃c,(cellsFrom n sc.names []).lookup x=ba c:=by
 have q:=PM sc.names n [] (.inl h);exact Lq.mp q
theorem wf {CX:xU}{P:K1}{w:Lb}{K:Kr}{mg:KF->Ki Kd}{base:Lj}{N ps:J9 KF}{qual:KF}{scope:Nz}{f:Kl}{cd:Kd}{A:K9}{outer:J9 Q9}{s s1:Kg}{H:Hp}{E:XK}{us:J9 Kd}{vs:J9 V}
  (S:FnScope N ps scope) (hd:A.handled=gV) (e0:Env0 P w K mg base A outer s H) (hl:vs.length=ps.length) (r:Vals vs us)
  (x:InCallC s s.heap.objs.size (bindL (envOfC qual scope s.heap.objs.size f cd).kindOf (ps.zip us) λ_=>gV) (cellsFrom (s.heap.objs.size+1) scope.names []) (bindC (envOfC qual scope s.heap.objs.size f cd).kindOf (ps.zip us) λ_=>gV) s1) :
  Inv (tf CX P w K mg base N qual scope f cd A outer s H E) [] (ga N vs) H s1:=by
 have hpl:ps.length<=N.length:=by have:=congrArg Ts S.pre; rw[LJ]at this; omega
 obtain⟨h1,tk,rfl,hk⟩:=x.done;have noA:∀b:Kl,b∉(tf CX P w K mg base N qual scope f cd A outer s H E).ex:=λb z=>absurd (show b∈([]:J9 Kl)from z) (by simp)
 refine⟨⟨e0.mod,S.kind,rfl,rfl,Kn _,λy z c h1 h2=>?_,λy hy=>?_,λy c _ h=>?_,λ_=>hd,Around.frames_deeper e0.frames,.inr ⟨rfl,rfl⟩,λb z=>absurd z (noA b),e0.bs,e0.bsz,λb _ _=>noA b,λb z=>absurd z (noA b),e0.funs,e0.frf⟩,
  rfl,e0.bare,Un.kept hk,⟨_,x.toInCall.ns,λi y v h1 h2 h3=>?_⟩,λy c h=>⟨_,x.cell y c h⟩,e0.hok.fresh (Kn _),λy c h=>?_,λp hp=>absurd (show p∈([]:J9 (Kl×LZ))from hp) (by simp),e0.hok.kept hk,?_⟩
 ·exact name_of_addr x.apart (M9 h1) (M9 h2)
 ·have hy:scope.names.lookup y=ba .cell\/scope.names.lookup y=ba .free:=hy;rcases hy with hy|hy
  ·exact qV hy
  ·exact absurd rfl (S.nofree _ (M9 hy))
 ·exact NL (x.above y c (M9 h))
 ·have hi:i < vs.length:=by
   unfold ga at h2
   by_cases hi:i < vs.length
   ·exact hi
   ·rw[Ms (by simpa using hi)]at h2
    rw[List.getElem?_replicate]at h2;split at h2 <;> cases h2
  have ha:vs[i]?=ba v:=by
   unfold ga at h2;rw[Lk (by simpa using hi),Km]at h2
   cases e:vs[i]? with
   | none=>rw[e]at h2; cases h2
   | some a=>rw[e]at h2; cases h2; rfl
  obtain⟨u,hu,rv⟩:=r.get ha;have hp:ps[i]?=ba y:=by
   rw[<- S.pre,Pl (by omega)]; exact h1
  have ndP:ps.Nodup:=by rw[<- S.pre]; exact S.nd.sublist (List.take_sublist _ _)
  refine⟨u,rv,?_⟩;rcases S.par y (Kt hp)with k|k
  ·exact .inl ⟨k,nV ndP hp hu k⟩
  ·obtain⟨c,e⟩:=qV (n:=s.heap.objs.size+1) k;refine .inr ⟨.inl k,c,e,?_⟩;have q:=x.cell y c e;rw[nW ndP hp hu (by show scope.names.lookup y≠_; rw[k]; decide)]at q
   exact q
 ·exact e0.hok.fresh (NL (x.above y c (M9 h)))
 ·unfold ga;show _=N.length;rw[Ks,Kc,Op];omega
theorem Gx {CX:xU}{P:K1}{w:Lb}{K:Kr}{mg:KF->Ki Kd}{base:Lj}{k:Kk}{f:Kl}{name qual:KF}{params:Arguments}{body:J9 M5}{scope:Nz}{dV kV doc pm cdv ct oc:Kd}{an od:Ki Kl}
  {osl:KQ (Ki Kd)} {N ps:J9 KF} {sp:Sp} (lk:K.lookup f=ba ⟨oc,od,.func (Mz name qual params body scope dV kV doc pm an cdv ct),osl⟩) (hcd:NF K cdv qual=true) (S:FnScope N ps scope)
  (len:∀vs H Q E,sp vs H Q E->vs.length=ps.length)
  (hbody:∀(A:K9) (outer:J9 Q9) (s:Kg) (H:Hp) (vs:J9 V) (Q:VK) (E:XK),Room k (A.deeper (envOfC qual scope s.heap.objs.size f cdv))->sp vs H Q E->
   ∃t,PSs (tf CX P w K mg base N qual scope f cdv A outer s H E) body t/\t { nx:=λ_ H'=>Q .non H',rt:=Q } (ga N vs) H) :
  FnOk P w K mg base CX (k+1) f (Mz name qual params body scope dV kV doc pm an cdv ct) ps sp:=by
 refine⟨len,λA outer s H args us vs Q E hr e0 hb r hsp=>?_⟩
 have hl:=len _ _ _ _ hsp;have KX:K.In s.heap:=e0.mod.kin.keeps λb o e=>(e0.bs b o e).1
 have lim:s.heap.NoLimit:=e0.mod.nolimit.keeps λb o e=>(e0.bs b o e).1
 have hkind:∀y∈ps.zip us,scope.names.lookup y.1=ba .local\/(scope.names.lookup y.1=ba .cell/\((cellsFrom (s.heap.objs.size+1) scope.names []).lookup y.1).isSome=true):=λ⟨n,v⟩ hy=>by
  rcases S.par n (PZ hy).1 with q|q
  ·exact .inl q
  ·exact .inr ⟨q,PM _ _ _ (.inl q)⟩
 refine codeAny_call_function hr.depth (KX _ _ lk) rfl S.co S.gen rfl (PySem.W.codeRec_of KX hcd) (hb _ _ _ _ ?_);refine wpAny_newFunctionEnv_cells S.kind hkind λenv he s1 x=>?_
 subst he;refine⟨lim.keeps x.toInCall.keep,codeAny_func ?_⟩;obtain⟨t,ht,hq⟩:=hbody A outer s H vs Q E (hr.deeper _) hsp;have I:Inv (tf CX P w K mg base N qual scope f cdv A outer s H E) [] (ga N vs) H s1:=wf S hr.hd e0 hl r x;refine Mj (ht [] s1 (ga N vs) H _ I hq) (λfl s' hs=>?_) λe s' hs=>hs
 have fin:∀ {σ':St} {H':Hp} {v:V} {u:Kd},Inv (tf CX P w K mg base N qual scope f cdv A outer s H E) [] σ' H' s'->RelV v u->Q v H'->CE outer P w H s Q u s':=
  λ{σ' H' v u} J rv q=>⟨v,H',J.os,J.bare,J.base,J.hok,rv,q⟩
 cases fl with
 | ret u=>
  obtain⟨v,σ',H',J,rv,q⟩:=hs;exact fin J rv q
 | next=>
  obtain⟨σ',H',J,q⟩:=hs;exact fin (v:=V.non) (u:=Ll) J rfl q
 | brk=>
  obtain⟨_,_,_,q⟩:=hs;exact LL.elim q
 | cont=>
  obtain⟨_,_,_,q⟩:=hs;exact LL.elim q
section
variable{X:Cx}{x:KF}{p pos:MP}{e:KN}{es:J9 KN}{t:TA}{id T:LN}{r:J9 V->Hp->VK->Prop}
noncomputable def JP (r:J9 V->Hp->VK->Prop)(t:TA):TE:=λσ H Q=>t σ H λvs H1=>r vs H1 Q
theorem qW (hc:CallR X (.builtin id) r)(hg:Gl X x)(hm:X.mg x=gV)(hv:bootBuiltins x=ba (.builtin id))(ha:PA X (e::es) t)(hn:x≠"__name__":=by decide)(hdb:(x==("__debug__" : KF))=false:=by decide)
  (he:starEach (e::es) X.env=(false,eval e X.env)::starEach es X.env:=by rfl) (hpl:(backTo pos (starEach es X.env)).any (·.1)=false:=by rfl):PE X (.Call (.Name x p) (e::es) [] pos) (JP r t):=by
 intro pins s σ H Q I h;refine N6 (jA I hg hm hv ?_ hn hdb);exact RA (bT (ha pos pins s σ H _ I h) λus s1 ⟨vs,H1,I1,r1,q1⟩=>hc pins s1 σ H1 vs us Q I1 r1 q1) he hpl
theorem wg (hc:CallR X (.type T) r)(hg:Gl X x)(hm:X.mg x=gV)(hv:bootBuiltins x=ba (.type T))(ha:PA X (e::es) t)(hn:x≠"__name__":=by decide)(hdb:(x==("__debug__" : KF))=false:=by decide)
  (he:starEach (e::es) X.env=(false,eval e X.env)::starEach es X.env:=by rfl) (hpl:(backTo pos (starEach es X.env)).any (·.1)=false:=by rfl):PE X (.Call (.Name x p) (e::es) [] pos) (JP r t):=by
 intro pins s σ H Q I h;refine N6 (jA I hg hm hv ?_ hn hdb);exact ML (bT (ha pos pins s σ H _ I h) λus s1 ⟨vs,H1,I1,r1,q1⟩=>hc pins s1 σ H1 vs us Q I1 r1 q1) he hpl
end
end L2
namespace HT
open PySem PyProof.Rows
section
open PySem.SeqAt
open PySem.AutoSeq1 (wpAny_loadPart')
open PySem.MeetsSeq PySem.MeetsSeq2 PySem.MeetsSeq3
end
section
variable{prog:K1}{w:Lb}{A:K9}{E:Kd->Kg->Prop}{s:Kg}
theorem Bq {t b:Kl}{vs ws:J9 Kd}{Q:Kd->Kg->Prop}(ht:Q8 s.heap t vs.toArray)(hb:Q8 s.heap b ws.toArray)(hv:vs≠[])
  (h1:ws=[]->Q (.ref t) s) (h2:ws≠[]->Q (.ref s.heap.objs.size) { s with heap:=s.heap.push { cls:=.type "tuple",data:=.seq (vs++ws).toArray } })
  (hsz:vs.length+ws.length<=sizeLine):wpAny (model prog w) A (binaryOp .Add (.ref t) (.ref b)) Q E s:=by
 obtain⟨⟨cls,dd,data,sl⟩,ho,hc,n,hd⟩:=id ht;obtain⟨⟨cls2,dd2,data2,sl2⟩,ho2,hc2,n2,hd2⟩:=id hb;simp only at hc hd hc2 hd2;subst hc hd hc2 hd2;have e:vs.toArray++ws.toArray=(vs++ws).toArray:=by simp
 by_cases hw:ws=[]
 ·exact Rf ⟨_,ho,rfl⟩ ⟨_,ho2,rfl⟩ Pv QH Of Ob (NZ _ _)
   (tuple_addW1 t b vs.toArray ws.toArray n n2 dd dd2 sl sl2 (by simpa using hv) (by simp[hw])) ⟨ho,ho2,h1 hw⟩
 ·refine Rf ⟨_,ho,rfl⟩ ⟨_,ho2,rfl⟩ Pv QH Of Ob (NZ _ _)
   (tuple_addW2 t b vs.toArray ws.toArray n n2 dd dd2 sl sl2 (by simpa using hv) (by simpa using hw) (by rw[Kv,Kv]; exact hsz)) ⟨ho,ho2,?_⟩
  rw[e];exact h2 hw
noncomputable def cJ (n d:Kk):Ki Ky->Kk
 | none=>d
 | some v=>if v < 0 then(v+(n:Ky)).toNat else min v.toNat n
theorem lm (n d:Kk):cJ n d gV=d:=rfl
theorem uI (n d k:Kk):cJ n d (ba (k:Ky))=min k n:=by
 show(if (k:Ky) < 0 then((k:Ky)+(n:Ky)).toNat else min (k:Ky).toNat n)=min k n
 rw[KW (by omega),KC]
theorem Er (n d:Kk)(hd:d<=n)(o:Ki Ky):cJ n d o<=n:=by
 cases o with
 | none=>exact hd
 | some v=>
  show(if v < 0 then(v+(n:Ky)).toNat else min v.toNat n)<=n
  by_cases hv:v < 0
  ·rw[KJ hv]; omega
  ·rw[KW hv]; exact Nat.min_le_right _ _
theorem uJ (v:Ky)(n d:Kk):(if v < 0 then max (v+(n:Ky)) 0 else min v (n:Ky))=((cJ n d (ba v):Kk):Ky):=by
 show(if v < 0 then max (v+(n:Ky)) 0 else min v (n:Ky))=(((if v < 0 then(v+(n:Ky)).toNat else min v.toNat n):Kk):Ky)
 by_cases hv:v < 0
 ·simp only[KJ hv]; omega
 ·simp only[KW hv]; omega
theorem tj (lo hi:Ki Ky)(n:Kk):NQ lo hi 1 (n:Ky)=(((cJ n 0 lo:Kk):Ky),((cJ n n hi:Kk):Ky)):=by
 have h1:¬ ((1:Ky) < 0):=by omega
 unfold NQ;simp only[h1,LH];refine Uk ?_ ?_
 ·cases lo with
  | none=>rfl
  | some v=>exact uJ v n 0
 ·cases hi with
  | none=>rfl
  | some v=>exact uJ v n n
theorem tm (i j:Kk):MT (i:Ky) (j:Ky) 1=j - i:=by
 unfold MT;have h1:(1:Ky) > 0:=by omega
 simp only[h1,L7,Int.ediv_one];split <;> omega
theorem lp {v:Kd}{o:Ki Ky}{Q:Ki Ky->Kg->Prop}(p:OR v o)(h:Q o s):wpAny (model prog w) A (RY v) Q E s:=by
 cases p with
 | none=>exact Sg h
 | int i t=>exact slicePart_int h
theorem fA {sl:Kl}{vl vu:Kd}{lo hi:Ki Ky}{n:Kk}{Q:Ky×Ky×Kk->Kg->Prop}(hs:s.heap.IsSliceOf sl vl vu .none)(pl:OR vl lo)(pu:OR vu hi)
  (h:Q (((cJ n 0 lo:Kk):Ky),1,cJ n n hi - cJ n 0 lo) s):wpAny (model prog w) A (OS (.ref sl) (pure (n:Ky))) Q E s:=by
 obtain⟨os,hos,hcs,hds⟩:=id hs;unfold OS Sz;refine Kb (Kb (MN hos hds (x:=vl) rfl (Kb (MN hos hds (x:=vu) rfl (Kb (MN hos hds (x:=.none) rfl (Kh ?_)))))));refine Kb (Sg ?_);show wpAny _ _ (if ((1:Ky)==0)=true then _ else _) _ _ s
 rw[KW (by decide)]
 refine Kb (lp pl (Kb (lp pu (Kb (Kh ?_)))));show wpAny _ _ (match NQ lo hi 1 (n:Ky)with|(lo,hi)=>pure (lo,(1:Ky),MT lo hi 1)) _ _ s
 rw[tj lo hi n];show wpAny _ _ (pure (((cJ n 0 lo:Kk):Ky),(1:Ky),MT ((cJ n 0 lo:Kk):Ky) ((cJ n n hi:Kk):Ky) 1)) _ _ s;rw[tm];exact Kh h
theorem xY (xs:KQ Kd)(i k:Kk):((KS k).filterMap λ(m:Kk)=>xs[((i:Ky)+(m:Ky)*1).toNat]?).toArray=((xs.toList.drop i).take k).toArray:=by
 have e:(λ(m:Kk)=>xs[((i:Ky)+(m:Ky)*1).toNat]?)=λm=>xs[i+m]?:=by
  funext m
  have:((i:Ky)+(m:Ky)*1).toNat=i+m:=by omega
  rw[this]
 rw[e];have:=pick_run xs i k;rw[List.filterMap_map]at this;have e2:((λx=>xs[x]?)∘λx=>i+x)=λm=>xs[i+m]?:=rfl
 rw[e2]at this;rw[this]
theorem iW {t sl:Kl}{items:KQ Kd}{vl vu:Kd}{lo hi:Ki Ky}{Q:Kd->Kg->Prop}(ht:Q8 s.heap t items)(hs:s.heap.IsSliceOf sl vl vu .none)(pl:OR vl lo)(pu:OR vu hi)
  (hw:¬ (cJ items.size 0 lo=0/\cJ items.size items.size hi=items.size))
  (h:Q (.ref s.heap.objs.size) { s with heap:=s.heap.push { cls:=.type "tuple",data:=.seq ((items.toList.drop (cJ items.size 0 lo)).take (cJ items.size items.size hi - cJ items.size 0 lo)).toArray } })
  (hsz:items.size<=sizeLine):wpAny (model prog w) A (getItem (.ref t) (.ref sl)) Q E s:=by
 have htake:sizeOk (.seq ((items.toList.drop (cJ items.size 0 lo)).take (cJ items.size items.size hi - cJ items.size 0 lo)).toArray):=by
  show((items.toList.drop (cJ items.size 0 lo)).take (cJ items.size items.size hi - cJ items.size 0 lo)).toArray.size<=sizeLine;rw[Kv,LJ,NM,Kz];omega
 have hj:cJ items.size items.size hi<=items.size:=Er _ _ (Kn _) hi;obtain⟨os,hos,hcs,hds⟩:=id hs;have hTs:s.TypeIs (.ref sl) "slice":=⟨os,hos,hcs⟩;unfold getItem
 try with_reducible refine Ly ?_
 first|refine Kb (Kh ?_)|skip
 refine Kb (Rg ht.typeIs (by decide) ?_)
 refine Kb (Lz (name:=MA "__getitem__") ht.typeIs Mv
  (LA Mv ht.typeIs QC ?_ (QS _ _)))
 show wpAny _ _ (NG (.ref t) >>= _) _ _ s;refine Kb (SG ht ?_);refine Kb (No hTs ?_);rw[KJ (by decide)]
 refine Kb (fA hs pl pu ?_);have hno:¬ ((((cJ items.size 0 lo:Kk):Ky)==0&&(1:Ky)==1&&(cJ items.size items.size hi - cJ items.size 0 lo)==items.size)=true):=by
  intro q;rw[Kj,Kj]at q;have q1:((cJ items.size 0 lo:Kk):Ky)=0:=eq_of_beq q.1.1;have q2:cJ items.size items.size hi - cJ items.size 0 lo=items.size:=eq_of_beq q.2;exact hw ⟨by omega,by omega⟩
 show wpAny _ _ (if (((cJ items.size 0 lo:Kk):Ky)==0&&(1:Ky)==1&&(cJ items.size items.size hi - cJ items.size 0 lo)==items.size)=true then _ else _) _ _ s
 rw[KW hno,xY]
 first
  | exact Kb (m:=L8 _) (Lc (Kh ⟨_,rfl,Kh h⟩) htake)
  | exact Kb (m:=L8 _) (Lc (Kb (Kh (Kh ⟨_,rfl,Kh h⟩))) htake)
  | exact Kb (Kb (m:=L8 _) (Lc (Kh (Kh ⟨_,rfl,Kh h⟩)) htake))
  | exact Kb (Kb (m:=L8 _) (Lc (Kh ⟨_,rfl,Kh h⟩) htake))
end
end HT
namespace L2
open PySem PySem.Spec PyProof.Rows
noncomputable abbrev TO:=St->Hp->(Ki Ky->Hp->Prop)->Prop
noncomputable def PO (X:Cx)(e:Ki KN)(t:TO):Prop:=
 ∀(pins:J9 (Kl×LZ)) (s:Kg) (σ:St) (H:Hp) (Q:Ki Ky->Hp->Prop),Inv X pins σ H s->t σ H Q->
  wpAny (model X.prog X.w) X.A (evalPart e X.env) (λu s'=>∃o H',Inv X pins σ H' s'/\OR u o/\Q o H') X.xe s
noncomputable def Br:TO:=λ_ H Q=>Q gV H
noncomputable def Gy (t:TE):TO:=λσ H Q=>t σ H λx H1=>∃i,x=.int i/\Q (ba i) H1
section
variable{X:Cx}{e:KN}{te:TE}{lo hi:Ki KN}{tl th:TO}{pos p2:MP}
theorem Bs:PO X gV Br:=by
 intro pins s σ H Q I h;rw[SH];exact Kh ⟨gV,H,I,.none,h⟩
theorem Bt (h:PE X e te):PO X (ba e) (Gy te):=by
 intro pins s σ H Q I hw;rw[evalPart_some];refine bT (h pins s σ H _ I hw) λu s1 ⟨x,H1,I1,r1,q1⟩=>?_
 obtain⟨i,rfl,q⟩:=q1;obtain⟨t,rfl⟩:=r1;exact⟨ba i,H1,I1,.int i t,q⟩
noncomputable def Gz (X:Cx)(r:V->Ki Ky->Ki Ky->Hp->VK->Prop):Prop:=
 ∀(pins:J9 (Kl×LZ)) (s:Kg) (σ:St) (H:Hp) (x:V) (v vl vu:Kd) (lo hi:Ki Ky) (sl:Kl) (Q:VK),Inv X pins σ H s->RelV x v->s.heap.IsSliceOf sl vl vu .none->OR vl lo->OR vu hi->r x lo hi H Q->
  ∃T id,typeLookup (.type T) "__getitem__" = pure (ba (.builtin id))/\s.TypeIs v T/\wpAny (model X.prog X.w) X.A (getItem v (.ref sl)) (EP X pins σ Q) X.xe s
noncomputable def JY (r:V->Ki Ky->Ki Ky->Hp->VK->Prop)(te:TE)(tl th:TO):TE:=λσ H Q=>te σ H λx H1=>tl σ H1 λl H2=>th σ H2 λu H3=>r x l u H3 Q
theorem xZ {r:V->Ki Ky->Ki Ky->Hp->VK->Prop}(hr:Gz X r)(he:PE X e te)(hl:PO X lo tl)(hu:PO X hi th):PE X (.Subscript e (.Slice lo hi gV p2) pos) (JY r te tl th):=by
 intro pins s σ H Q I h;refine Subscript_ (bT (he pins s σ H _ I h) λv s1 ⟨x,H1,I1,r1,q1⟩=>?_)
 refine wpAny_Slice (bT (hl pins s1 σ H1 _ I1 q1) λvl s2 ⟨l,H2,I2,pl,q2⟩=>bT (hu pins s2 σ H2 _ I2 q2) λvu s3 ⟨u,H3,I3,pu,q3⟩=>?_)
 rw[SH];refine Kh ?_;have I4:Inv X pins σ H3 { s3 with heap:=s3.heap.push { cls:=.type "slice",data:=.fields [vl,vu,.none].toArray } }:=I3.kept (t':=s3.toks) λb ob q=>Ke _ q
 obtain⟨T,id,hT,ht,hg⟩:=hr pins { s3 with heap:=s3.heap.push { cls:=.type "slice",data:=.fields [vl,vu,.none].toArray } } σ H3 x v vl vu l u s3.heap.objs.size Q I4 r1 (TW ..) pl pu q3
 show wpAny (model X.prog X.w) X.A (subscriptTail e (.Slice lo hi gV p2) v (.ref s3.heap.objs.size)) (EP X pins σ Q) X.xe { s3 with heap:=s3.heap.push { cls:=.type "slice",data:=.fields [vl,vu,.none].toArray } }
 exact tail_any (ops:=[.ref s3.heap.objs.size,v]) ht hT hg (by with_unfolding_all rfl)
noncomputable def lq (xs:J9 V)(lo hi:Ki Ky):J9 V:=(xs.drop (HT.cJ xs.length 0 lo)).take (HT.cJ xs.length xs.length hi - HT.cJ xs.length 0 lo)
theorem ke (xs:J9 V)(lo hi:Ki Ky):(lq xs lo hi).length<=xs.length:=by
 unfold lq;rw[LJ,NM];omega
noncomputable def IR (K:Kr):V->Ki Ky->Ki Ky->Hp->VK->Prop:=λx lo hi H Q=>∃a xs,x=.ref a/\SqT K H a xs/\
 ¬ (HT.cJ xs.length 0 lo=0/\HT.cJ xs.length xs.length hi=xs.length)/\∀p,H p=gV->Q (.ref p) (bZ H p (.tup (lq xs lo hi)))
theorem Et:Gz X (IR X.K):=by
 intro pins s σ H x v vl vu lo hi sl Q I rx hs pl pu h;obtain⟨a,xs,rfl,hx,hw,q⟩:=h;cases rx;obtain⟨its,r,ht,hz⟩:=I.tuple hx;have hlen:its.toArray.size=xs.length:=by rw[Kv]; exact r.length.symm
 refine⟨"tuple",_,PyProof.Rows.slot_tuple_getitem.lookup,ht.typeIs,?_⟩;refine HT.iW ht hs pl pu (by rw[hlen]; exact hw) ?_ (by rw[hlen]; exact hz)
 rw[hlen];refine⟨.ref s.heap.objs.size,_,I.laid (t':=s.toks) (o:=.tup (lq xs lo hi)) (λb ob q=>Ke _ q) (Kn _) ?_,rfl,q _ (I.hok.fresh (Kn _))⟩
 exact⟨KT (ke xs lo hi) hz,_,(r.drop (HT.cJ xs.length 0 lo)).take (HT.cJ xs.length xs.length hi - HT.cJ xs.length 0 lo),Ry _ _⟩
theorem Vals.nil_iff {xs:J9 V}{us:J9 Kd}(r:Vals xs us):us=[]↔xs=[]:=by
 cases r with
 | nil=>simp
 | cons _ _=>simp
end
noncomputable def uK (n:Kk)(i:Ky):Ki Kk:=if 0<=i then(if i < n then ba i.toNat else gV)else if -(n:Ky)<=i then ba (i+n).toNat else gV
noncomputable def qX {α:Type}(xs:J9 α)(i:Ky):Ki α:=(uK xs.length i).bind λj=>xs[j]?
theorem uL {n:Kk}{i:Ky}{j:Kk}(h:uK n i=ba j):seqIndex? i n=ba j/\j < n/\-(n:Ky)<=i/\i < n:=by
 unfold uK at h
 by_cases h0:0<=i
 ·rw[KJ h0]at h
  by_cases h1:i < n
  ·rw[KJ h1]at h;have e:i.toNat=j:=Lx h;exact⟨by rw[RQ h0 h1,e],by omega,by omega,h1⟩
  ·rw[KW h1]at h; cases h
 ·rw[KW h0]at h
  by_cases h1 : -(n:Ky)<=i
  ·rw[KJ h1]at h;have e:(i+n).toNat=j:=Lx h;exact⟨by rw[Rh (by omega) h1,e],by omega,h1,by omega⟩
  ·rw[KW h1]at h; cases h
theorem pf {α:Type}{xs:J9 α}{i:Ky}{v:α}(h:qX xs i=ba v):∃j,seqIndex? i xs.length=ba j/\xs[j]?=ba v/\j < xs.length/\-(xs.length:Ky)<=i/\i < xs.length:=by
 unfold qX at h;cases e:uK xs.length i with
 | none=>rw[e]at h; cases h
 | some j=>
  rw[e]at h;obtain⟨h1,h2,h3,h4⟩:=uL e;exact⟨j,h1,h,h2,h3,h4⟩
theorem atI_nat {α:Type}{xs:J9 α}{j:Kk}{v:α}(h:xs[j]?=ba v):qX xs (j:Ky)=ba v:=by
 have hj:j < xs.length:=(Kq.mp h).1;have e:uK xs.length (j:Ky)=ba j:=by
  unfold uK;rw[KJ (by omega),KJ (by omega)]; simp
 unfold qX; rw[e]; exact h
noncomputable def pg (b:KN):Prop:=∀o i,subscripted b false o i=operate [o,i] (getItem o i)
noncomputable def IxR (X:Cx)(r:R2):Prop:=
 ∀(value slice:KN) (pins:J9 (Kl×LZ)) (s:Kg) (σ:St) (H:Hp) (x y:V) (v u:Kd) (Q:VK),Inv X pins σ H s->RelV x v->RelV y u->r x y H Q->
  subscripted slice false v u=operate [v,u] (getItem v u)->wpAny (model X.prog X.w) X.A (subscriptTail value slice v u) (EP X pins σ Q) X.xe s
noncomputable def MtR (X:Cx)(id:LN)(r:V->J9 V->Hp->VK->Prop):Prop:=
 ∀(pins:J9 (Kl×LZ)) (s:Kg) (σ:St) (H:Hp) (x:V) (xs:J9 V) (v:Kd) (us:J9 Kd) (Q:VK),Inv X pins σ H s->RelV x v->Vals xs us->r x xs H Q->
  wpAny (model X.prog X.w) X.A (call (.builtin id) (v::us)) (EP X pins σ Q) X.xe s
section
variable{X:Cx}{a b:KN}{ta tb:TE}{pos:MP}
theorem GB {r:R2}(hr:IxR X r)(ha:PE X a ta)(hb:PE X b tb)(hs:pg b):PE X (.Subscript a b pos) (HX r ta tb):=by
 intro pins s σ H Q I h;exact Subscript_ (Ee ha hb I h λv u s2 x y H2 I2 rx ry q=>hr a b pins s2 σ H2 x y v u Q I2 rx ry q (hs _ _))
noncomputable def IS (K:Kr):R2:=λx y H Q=>∃p xs i v,x=.ref p/\y=.int i/\SqL K H p xs/\qX xs i=ba v/\Q v H
noncomputable def IT (K:Kr):R2:=λx y H Q=>∃p xs i v,x=.ref p/\y=.int i/\SqT K H p xs/\qX xs i=ba v/\Q v H
noncomputable def IU:R2:=λx y H Q=>∃z i c,x=.str z/\y=.int i/\z.length<=sizeLine/\qX z.cps.toList i=ba c/\Q (.str ⟨[c].toArray⟩) H
theorem Bu:IxR X (IS X.K):=by
 intro value slice pins s σ H x y v u Q I rx ry h hs;obtain⟨p,xs,i,z,rfl,rfl,hq,he,q⟩:=h;cases rx;obtain⟨t,rfl⟩:=ry;obtain⟨its,r,pl,hz⟩:=I.list hq;obtain⟨j,h1,h2,h3,h4,h5⟩:=pf he;obtain⟨w,ew,rw'⟩:=r.get h2;have hl:=r.length;have hn:=jD;have fin:EP X pins σ Q w s:=⟨z,H,I,rw',q⟩
 by_cases h0:0<=i
 ·have hj:i.toNat=j:=by
   rw[RQ h0 h5]at h1;exact Lx h1
  exact item_listR pl.isList h0 (by omega) (by rw[hj]; simpa using ew) fin hs
 ·have hj:(i+(its.toArray.size:Ky)).toNat=j:=by
   rw[Rh (by omega) h4]at h1
   rw[Kv,<- hl];exact Lx h1
  exact Og (x:=w) pl.isList.typeIs slot_list_getitem.lookup
   (wpAny_getItem_list_neg (Q:=λr s'=>r=w/\EP X pins σ Q r s') pl.isList (by omega) (by rw[Kv] <;> omega) (by omega) (by rw[hj]; simpa using ew) ⟨rfl,fin⟩) hs
theorem Eu:IxR X (IT X.K):=by
 intro value slice pins s σ H x y v u Q I rx ry h hs;obtain⟨p,xs,i,z,rfl,rfl,hq,he,q⟩:=h;cases rx;obtain⟨t,rfl⟩:=ry;obtain⟨its,r,pl,hz⟩:=I.tuple hq;obtain⟨j,h1,h2,h3,h4,h5⟩:=pf he;obtain⟨w,ew,rw'⟩:=r.get h2;have hl:=r.length;have hn:=jD;have fin:EP X pins σ Q w s:=⟨z,H,I,rw',q⟩;exact Og (x:=w) pl.typeIs slot_tuple_getitem.lookup
  (getItem_tuple (j:=j) (Q:=λr s'=>r=w/\EP X pins σ Q r s') pl (by omega) (by omega) (by rw[Kv,<- hl]; exact h1) (by simpa using ew) ⟨rfl,fin⟩) hs
theorem Ev:IxR X IU:=by
 intro value slice pins s σ H x y v u Q I rx ry h hs;obtain⟨z,i,c,rfl,rfl,hz,he,q⟩:=h;obtain⟨t,rfl⟩:=rx;obtain⟨t',rfl⟩:=ry;obtain⟨j,h1,h2,h3,h4,h5⟩:=pf he;have hl:z.cps.toList.length=z.length:=by simp[TX]
 rw[hl]at h1 h4 h5;have hn:=jD;exact tail_any (typeIs_str s z t) slot_str_getitem.lookup (getItem_str (c:=c) (by
  have e1:decide (i < -(2 ^ 63:Ky))=false:=K5 (by omega)
  have e2:decide (i>=2 ^ 63)=false:=K5 (by omega)
  rw[e1,e2,QI]) (by rw[h1]; simpa using h2) ⟨.str ⟨[c].toArray⟩,H,I.tok _,⟨_,rfl⟩,q⟩) hs
theorem tq (its:J9 Kd)(n j:Kk)(u:Kd):LR (·.setIfInBounds j u) { cls:=.type "list",data:=.seq its.toArray n }={ cls:=.type "list",data:=.seq (its.set j u).toArray n }:=by
 simp[LR]
theorem Inv.lst {pins:J9 (Kl×LZ)}{σ:St}{H:Hp}{s:Kg}{p:Kl}{xs:J9 V}(I:Inv X pins σ H s)(h:H p=ba (.lst xs)) :
  ∃(its:J9 Kd) (n:Kk),Vals xs its/\s.heap.get? p=ba { cls:=.type "list",data:=.seq its.toArray n }/\xs.length<=sizeLine:=by
 obtain⟨z,its,n,r,e⟩:=I.hok p _ h;exact⟨its,n,r,e,z⟩
theorem Inv.lstUpd {pins:J9 (Kl×LZ)}{σ:St}{H:Hp}{s:Kg}{p:Kl}{xs ys:J9 V}{its its':J9 Kd}{n n':Kk}{f:LZ->LZ}(I:Inv X pins σ H s)(h:H p=ba (.lst xs))
  (ho:s.heap.get? p=ba { cls:=.type "list",data:=.seq its.toArray n }) (hf:f { cls:=.type "list",data:=.seq its.toArray n }={ cls:=.type "list",data:=.seq its'.toArray n' }) (r:Vals ys its') (hz:ys.length<=sizeLine) (t:Kk) :
  Inv X pins σ (bZ H p (.lst ys)) { s with heap:=s.heap.update p f,toks:=t }:=by
 have e:(s.heap.update p f).get? p=ba { cls:=.type "list",data:=.seq its'.toArray n' }:=by
  rw[LV f ho (by rw[hf] <;> rfl),hf]
 refine I.write (x:=p) (e:=p) (by rw[h]; trivial) (.inl rfl) (λb u hb q=>(Lh _ _ (Ne.symm hb)).trans q) ⟨_,e⟩ ?_
 exact⟨hz,its',n',r,e⟩
noncomputable def GC:V->V->V->Hp->(Hp->Prop)->Prop:=λo i v H Q=>∃p xs k j,o=.ref p/\i=.int k/\H p=ba (.lst xs)/\uK xs.length k=ba j/\Q (bZ H p (.lst (xs.set j v)))
theorem x5:DZ X GC:=by
 intro pins s σ H o i v ov iv u Q I ro ri rv h;obtain⟨p,xs,k,j,rfl,rfl,hp,hj,q⟩:=h;cases ro;obtain⟨t,rfl⟩:=ri;obtain⟨its,n,r,ho,hz⟩:=I.lst hp;obtain⟨h1,h2,h3,h4⟩:=uL hj;have hl:=r.length;have hn:=jD;have I':Inv X pins σ (bZ H p (.lst (xs.set j v))) { s with heap:=s.heap.update p (LR (·.setIfInBounds j u)) }:=
  I.lstUpd hp ho (tq its n j u) (r.set rv j) (by rw[List.length_set]; exact hz) s.toks
 by_cases h0:0<=k
 ·have hk:k.toNat=j:=by
   rw[RQ h0 h4]at h1;exact Lx h1
  exact PySem.W.ki_setAt ho h0 (by omega) (by rw[Kv,<- hl]; exact h4) (by rw[hk]; exact⟨_,I',q⟩)
 ·have hk:(k+(its.toArray.size:Ky)).toNat=j:=by
   rw[Rh (by omega) h3]at h1
   rw[Kv,<- hl];exact Lx h1
  exact PySem.W.ki_setBack ho (by omega) (by rw[Kv,<- hl]; exact h3) (by omega) (by rw[hk]; exact⟨_,I',q⟩)
theorem ph (lo hi:Ki Ky)(n:Kk):(sliceBounds lo hi gV n).1=((HT.cJ n 0 lo:Kk):Ky)/\(sliceBounds lo hi gV n).2.1=((HT.cJ n n hi:Kk):Ky)/\(sliceBounds lo hi gV n).2.2=1:=by
 refine⟨?_,?_,rfl⟩
 ·cases lo with
  | none=>simp[sliceBounds,HT.cJ]
  | some i=>
   simp only[sliceBounds,HT.cJ,RB,show(1:Ky) > 0 by decide,L7]
   by_cases h:i < 0
   ·simp only[h,L7] <;> omega
   ·simp only[h,LH] <;> omega
 ·cases hi with
  | none=>simp[sliceBounds,HT.cJ]
  | some i=>
   simp only[sliceBounds,HT.cJ,RB,show(1:Ky) > 0 by decide,L7]
   by_cases h:i < 0
   ·simp only[h,L7] <;> omega
   ·simp only[h,LH] <;> omega
theorem mS (its:J9 Kd)(lo hi:Ki Ky):slicePick its.toArray lo hi gV=((its.drop (HT.cJ its.length 0 lo)).take (HT.cJ its.length its.length hi - HT.cJ its.length 0 lo)).toArray:=by
 obtain⟨h1,h2,h3⟩:=ph lo hi its.toArray.size;unfold slicePick;rw[h1,h2,h3];simp only[sliceRange_one,pick_run,Kv] <;> rfl
noncomputable def IV (K:Kr):V->Ki Ky->Ki Ky->Hp->VK->Prop:=λx lo hi H Q=>∃a xs,x=.ref a/\SqL K H a xs/\∀p,H p=gV->Q (.ref p) (bZ H p (.lst (lq xs lo hi)))
theorem Bv:Gz X (IV X.K):=by
 intro pins s σ H x v vl vu lo hi sl Q I rx hs pl pu h;obtain⟨a,xs,rfl,hx,q⟩:=h;cases rx;obtain⟨its,r,ht,hz⟩:=I.list hx;have hlen:=r.length;refine⟨"list",_,slot_list_getitem.lookup,ht.isList.typeIs,?_⟩;refine wpAny_getItem_list_slice ht.isList hs pl pu .none (by simp) ?_ (by rw[Kv] <;> omega)
 rw[mS,<- hlen];refine⟨.ref s.heap.objs.size,_,I.laid (t':=s.toks) (o:=.lst (lq xs lo hi)) (λb ob q=>Ke _ q) (Kn _) ?_,rfl,q _ (I.hok.fresh (Kn _))⟩
 exact⟨KT (ke xs lo hi) hz,_,0,(r.drop (HT.cJ xs.length 0 lo)).take (HT.cJ xs.length xs.length hi - HT.cJ xs.length 0 lo),Ku _ rfl⟩
noncomputable def ig:V->KP
 | .non=>true
 | .bl _=>true
 | .int _=>true
 | .str _=>true
 | _=>false
noncomputable def Bw:V->V->KP
 | .non,.non=>true
 | .bl a,.bl b=>a==b
 | .bl a,.int b=>(if a then 1 else 0)==b
 | .int a,.bl b=>a==(if b then 1 else 0)
 | .int a,.int b=>a==b
 | .str a,.str b=>a==b
 | _,_=>false
theorem Ew {A:K9}{s:Kg}{y x:V}{u v:Kd}(ry:RelV y u)(rx:RelV x v)(fy:ig y=true)(fx:ig x=true):Ou A s u v (Bw y x):=by
 cases y with
 | non=>
  cases ry;cases x with
  | non=>cases rx; exact Ue _
  | bl b=>cases rx; exact Tt b
  | int b=>obtain⟨t,rfl⟩:=rx; exact TJ b t
  | str b=>obtain⟨t,rfl⟩:=rx; exact TK b t
  | _=>exact absurd (show false=true from fx) KI
 | bl a=>
  cases ry;cases x with
  | non=>cases rx; exact Tu a
  | bl b=>cases rx; exact Tv a b
  | int b=>obtain⟨t,rfl⟩:=rx; exact TL a b t
  | str b=>obtain⟨t,rfl⟩:=rx; exact TM a b t
  | _=>exact absurd (show false=true from fx) KI
 | int a=>
  obtain⟨t',rfl⟩:=ry;cases x with
  | non=>cases rx; exact TN a t'
  | bl b=>cases rx; exact TQ a t' b
  | int b=>obtain⟨t,rfl⟩:=rx; exact TY a t' b t
  | str b=>obtain⟨t,rfl⟩:=rx; exact QM a t' b t
  | _=>exact absurd (show false=true from fx) KI
 | str a=>
  obtain⟨t',rfl⟩:=ry;cases x with
  | non=>cases rx; exact TR a t'
  | bl b=>cases rx; exact TU a t' b
  | int b=>obtain⟨t,rfl⟩:=rx; exact QN a t' b t
  | str b=>obtain⟨t,rfl⟩:=rx; exact TZ a t' b t
  | _=>exact absurd (show false=true from fx) KI
 | _=>exact absurd (show false=true from fy) KI
noncomputable def tu (x:V)(u:Kd):KP:=match u with
 | .none=>Bw .non x
 | .bool b=>Bw (.bl b) x
 | .int i _=>Bw (.int i) x
 | .str z _=>Bw (.str z) x
 | _=>false
theorem ya {x y:V}{u:Kd}(r:RelV y u)(f:ig y=true):tu x u=Bw y x:=by
 cases y with
 | non=>cases r; rfl
 | bl b=>cases r; rfl
 | int i=>obtain⟨t,rfl⟩:=r; rfl
 | str z=>obtain⟨t,rfl⟩:=r; rfl
 | _=>exact absurd (show false=true from f) KI
theorem iX {x:V}:∀ {xs:J9 V} {us:J9 Kd},Vals xs us->xs.all ig=true->us.any (tu x)=xs.any λy=>Bw y x
 | _,_,.nil,_=>rfl
 | y::xs,u::us,.cons r t,f=>by
  rw[Lu,Kj]at f;rw[MO,MO,ya r f.1,iX t f.2]
theorem gb {A:K9}{s:Kg}{x:V}{v:Kd}(rx:RelV x v)(fx:ig x=true):∀ {xs:J9 V} {us:J9 Kd},Vals xs us->xs.all ig=true->∀u∈us,Ou A s u v (tu x u)
 | _,_,.nil,_=>λu hu=>by cases hu
 | y::xs,u::us,.cons r t,f=>λu' hu=>by
  rw[Lu,Kj]at f;rcases KL.mp hu with rfl|hu
  ·rw[ya r f.1]; exact Ew r rx f.1 fx
  ·exact gb rx fx t f.2 u' hu
noncomputable def HZ (x:V)(xs:J9 V):KP:=xs.any λy=>Bw y x
noncomputable def IW (K:Kr)(neg:KP):R2:=λx y H Q=>∃p xs,y=.ref p/\(SqL K H p xs\/SqT K H p xs)/\ig x=true/\xs.all ig=true/\Q (.bl (if neg then !HZ x xs else HZ x xs)) H
theorem wj:OpR X (compareOp .In) (IW X.K false):=by
 intro pins s σ H x y v u Q I rx ry h;obtain⟨p,xs,rfl,hq,fx,fs,q⟩:=h;cases ry;rcases hq with hq|hq
 ·obtain⟨its,r,pl,hz⟩:=I.list hq;refine RZ (tu x) pl.isList (λw hw=>gb rx fx r fs w (by simpa using hw)) ⟨.bl _,H,I,rfl,?_⟩
  rw[show its.toArray.any (tu x)=its.any (tu x) by simp,iX r fs]
  exact q
 ·obtain⟨its,r,pl,hz⟩:=I.tuple hq;refine RC (tu x) pl (λw hw=>gb rx fx r fs w (by simpa using hw)) ⟨.bl _,H,I,rfl,?_⟩
  rw[show its.toArray.any (tu x)=its.any (tu x) by simp,iX r fs]
  exact q
theorem pr:OpR X (compareOp .NotIn) (IW X.K true):=by
 intro pins s σ H x y v u Q I rx ry h;obtain⟨p,xs,rfl,hq,fx,fs,q⟩:=h;cases ry;rcases hq with hq|hq
 ·obtain⟨its,r,pl,hz⟩:=I.list hq;refine QT (tu x) pl.isList (λw hw=>gb rx fx r fs w (by simpa using hw)) ⟨.bl _,H,I,rfl,?_⟩
  rw[show its.toArray.any (tu x)=its.any (tu x) by simp,iX r fs]
  exact q
 ·obtain⟨its,r,pl,hz⟩:=I.tuple hq;refine SeqAt.notIn_tupleAt (tu x) pl (λw hw=>gb rx fx r fs w (by simpa using hw)) ⟨.bl _,H,I,rfl,?_⟩
  rw[show its.toArray.any (tu x)=its.any (tu x) by simp,iX r fs]
  exact q
theorem pA:CallR X (.type "list") (λxs H Q=>∃p ys,xs=[.ref p]/\(SqL X.K H p ys\/SqT X.K H p ys)/\∀l,H l=gV->Q (.ref l) (bZ H l (.lst ys))):=by
 intro pins s σ H xs us Q I r h;obtain⟨p,ys,rfl,hq,q⟩:=h;obtain⟨u,rfl,rx⟩:=nR r;cases rx;have fin:∀(its:J9 Kd),Vals ys its->ys.length<=sizeLine->∀(h':Lj) (c':Kk),(∀b o',s.heap.get? b=ba o'->h'.get? b=ba o')->
   h'.get? s.heap.objs.size=ba { cls:=.type "list",dict:=gV,data:=.seq its.toArray c',slots:=#[] }->EP X pins σ Q (.ref s.heap.objs.size) { s with heap:=h' }:=λits r' hz h' c' kp e=>
  ⟨.ref s.heap.objs.size,_,I.laid (t':=s.toks) kp (Kn _) (show ObjOk X.prog X.w _ h' _ (.lst ys)from⟨hz,its,c',r',e⟩),rfl,q _ (I.hok.fresh (Kn _))⟩
 rcases hq with hq|hq
 ·obtain⟨its,r',pl,hz⟩:=I.list hq;have hlen:=r'.length;obtain⟨o,ho,hc,n,hd⟩:=pl.isList;exact SI p (.inl rfl) ho hc hd (λh' c' kp e=>fin its r' hz h' c' kp e) (by simp only[Kv] <;> omega)
 ·obtain⟨its,r',pl,hz⟩:=I.tuple hq;have hlen:=r'.length;obtain⟨o,ho,hc,n,hd⟩:=pl;exact SI p (.inr rfl) ho hc hd (λh' c' kp e=>fin its r' hz h' c' kp e) (by simp only[Kv] <;> omega)
theorem ii:CallR X (.type "tuple") (λxs H Q=>∃p ys,xs=[.ref p]/\((SqL X.K H p ys/\∀l,H l=gV->Q (.ref l) (bZ H l (.tup ys)))\/(SqT X.K H p ys/\Q (.ref p) H))):=by
 intro pins s σ H xs us Q I r h;obtain⟨p,ys,rfl,h⟩:=h;obtain⟨u,rfl,rx⟩:=nR r;cases rx;rcases h with⟨hq,q⟩|⟨hq,q⟩
 ·obtain⟨its,r',pl,hz⟩:=I.list hq;have hlen:=r'.length;refine call_tuple_list pl.isList (λh' kp=>?_) (by simp only[Kv] <;> omega)
  have I1:Inv X pins σ H { s with heap:=h' }:=I.kept (t':=s.toks) kp
  have I2:Inv X pins σ (bZ H h'.objs.size (.tup ys)) { s with heap:=h'.push { cls:=.type "tuple",data:=.seq its.toArray } }:=
   I1.laid (t':=s.toks) (λb o e=>Ke _ e) (Kn _) (show ObjOk X.prog X.w _ _ _ (.tup ys)from⟨hz,its,r',Ry _ _⟩)
  exact⟨.ref h'.objs.size,_,I2,rfl,q _ (I1.hok.fresh (Kn _))⟩
 ·obtain⟨its,r',pl,hz⟩:=I.tuple hq;exact call_tuple_same pl ⟨.ref p,H,I,rfl,q⟩
noncomputable def IX (K:Kr)(T:LN)(x:V)(H:Hp):Prop:=match x with
 | .str _=>T = "str"
 | .int _=>T = "int"
 | .ref p=>(T = "list"/\∃xs,SqL K H p xs)\/(T = "tuple"/\∃o,K.lookup p=ba o/\o.cls=.type "tuple"/\o.dict=gV)\/
   (T = "dict"/\((∃kvs,H p=ba (.dK kvs))\/∃kvs,H p=ba (.dT kvs)))\/(T = "set"/\∃S n,H p=ba (.set S n))
 | _=>LL
theorem yb {pins:J9 (Kl×LZ)}{σ:St}{H:Hp}{s:Kg}{T:LN}{x:V}{v:Kd}(I:Inv X pins σ H s)(r:RelV x v)(ty:IX X.K T x H) :
  s.TypeIs v T/\∀a,v=.ref a->∃ob,s.heap.get? a=ba ob/\ob.dict=gV:=by
 cases x with
 | str z=>
  obtain⟨t,rfl⟩:=r;cases(show T = "str" from ty)
  exact⟨typeIs_str s z t,λ_ e=>nomatch e⟩
 | int i=>
  obtain⟨t,rfl⟩:=r;cases(show T = "int" from ty)
  exact⟨Sh s i t,λ_ e=>nomatch e⟩
 | ref p=>
  cases r;rcases ty with⟨rfl,xs,hq⟩|⟨rfl,o,hk,hc,hd⟩|⟨rfl,hk⟩|⟨rfl,S,n,hk⟩
  ·obtain⟨its,_,pl,_⟩:=I.list hq;refine⟨pl.isList.typeIs,λa e=>?_⟩
   cases e;obtain⟨o,n,e,c,hd,_⟩:=pl;exact⟨o,e,hd⟩
  ·refine⟨⟨o,I.kIn p o hk,hc⟩,λa e=>?_⟩
   cases e;exact⟨o,I.kIn _ o hk,hd⟩
  ·have z:∃o,s.heap.get? p=ba o/\o.ExactDict:=by
    rcases hk with⟨kvs,hk⟩|⟨kvs,hk⟩
    ·obtain⟨_,_,_,_,o,_,_,e,ex,_⟩:=I.hok p _ hk;exact⟨o,e,ex⟩
    ·obtain⟨_,_,_,_,o,_,_,e,ex,_⟩:=I.hok p _ hk;exact⟨o,e,ex⟩
   obtain⟨o,e,ex⟩:=z;refine⟨⟨o,e,ex.1⟩,λa e2=>?_⟩
   cases e2;exact⟨o,e,ex.2.1⟩
  ·obtain⟨o,_,_,_,e,ex,_⟩:=I.hok p _ hk;refine⟨⟨o,e,ex.1⟩,λa e2=>?_⟩
   cases e2;exact⟨o,e,ex.2.1⟩
 | _=>exact LL.elim ty
variable{o e:KN}{es:J9 KN}{to:TE}{t:TA}{name:KF}{apos cpos:MP}{T id:LN}{r:V->J9 V->Hp->VK->Prop}
end
noncomputable def Ic (X:Cx)(id:LN)(r:V->J9 V->Hp->VK->Prop):Prop:=
 ∀(pins:J9 (Kl×LZ)) (s:Kg) (σ:St) (H:Hp) (x:V) (xs:J9 V) (v:Kd) (us:J9 Kd) (Q:VK),Inv X pins σ H s->RelV x v->Vals xs us->r x xs H Q->
  wpAny (model X.prog X.w) X.A (call (.builtin id) (v::us)) (EP X pins σ Q) X.xe s
theorem Vals.one:∀ {x:V} {us:J9 Kd},Vals [x] us->∃u,us=[u]/\RelV x u
 | _,_,.cons r .nil=>⟨_,rfl,r⟩
theorem Vals.zero:∀ {us:J9 Kd},Vals [] us->us=[]
 | _,.nil=>rfl
theorem Vals.eraseIdx:∀ {xs:J9 V} {us:J9 Kd} (i:Kk),Vals xs us->Vals (xs.eraseIdx i) (us.eraseIdx i)
 | _,_,_,.nil=>.nil
 | _,_,0,.cons _ t=>t
 | _,_,i+1,.cons r t=>.cons r (Vals.eraseIdx i t)
theorem Vals.rep {xs:J9 V}{us:J9 Kd}(h:Vals xs us):∀k:Kk,Vals (K7 k xs).flatten (K7 k us).flatten
 | 0=>.nil
 | k+1=>by
  rw[L6,L6,MX,MX];exact Vals.append h (Vals.rep h k)
theorem nX {α:Type}:∀(l:J9 α) (i:Kk),(l.eraseIdx i).length<=l.length
 | [],_=>Kn _
 | _::_,0=>MY _
 | _::r,i+1=>Ov (nX r i)
theorem nY (its:J9 Kd):∀(k:Kk) (acc:J9 Kd),
  Si (λx1 x2=>x1++x2) acc.toArray (K7 k its.toArray)=(acc++(K7 k its).flatten).toArray
 | 0,acc=>by simp
 | k+1,acc=>by
  have e:acc.toArray++its.toArray=(acc++its).toArray:=by simp
  have e2:(acc++its)++(K7 k its).flatten=acc++(K7 (k+1) its).flatten:=by
   rw[L6,MX,MZ]
  rw[<- e2,<- nY its k (acc++its),<- e,L6,List.foldl_cons]
section
variable{X:Cx}{pins:J9 (Kl×LZ)}{σ:St}{H:Hp}{s:Kg}{l b:Kl}{xs ys zs:J9 V}
theorem Inv.lset {its its':J9 Kd}{n:Kk}{f:KQ Kd->KQ Kd}{t':Kk}(I:Inv X pins σ H s)(hH:H l=ba (.lst xs))
  (e:s.heap.get? l=ba { cls:=.type "list",data:=.seq its.toArray n }) (hf:f its.toArray=its'.toArray) (hv:Vals ys its') (hz:ys.length<=sizeLine) :
  Inv X pins σ (bZ H l (.lst ys)) { s with heap:=s.heap.update l (LR f),toks:=t' }:=by
 have q:=RD e f;rw[hf]at q;refine I.write (x:=l) (e:=l) (by rw[hH]; exact trivial) (.inl rfl) (λb' u hb hu=>(Lh s.heap (LR f) (Ne.symm hb)).trans hu) ⟨_,q⟩ ?_
 exact⟨hz,its',_,hv,q⟩
theorem Inv.lnew {its:J9 Kd}{t':Kk}(I:Inv X pins σ H s)(hv:Vals ys its)(hz:ys.length<=sizeLine) :
  Inv X pins σ (bZ H s.heap.objs.size (.lst ys)) { s with heap:=s.heap.push { cls:=.type "list",data:=.seq its.toArray },toks:=t' }:=
 I.laid (λ_ _ q=>Ke _ q) (Kn _) ⟨hz,its,0,hv,Ku _ rfl⟩
theorem Inv.fresh (I:Inv X pins σ H s):H s.heap.objs.size=gV:=I.hok.fresh (Kn _)
theorem Inv.lstM (I:Inv X pins σ H s)(hH:H l=ba (.lst xs)):xs.length<=sizeLine/\∃(its:J9 Kd) (n:Kk),Vals xs its/\xs.length=its.length/\s.heap.get? l=ba { cls:=.type "list",data:=.seq its.toArray n }:=by
 obtain⟨z,its,n,r,e⟩:=I.hok l _ hH;exact⟨z,its,n,r,r.length,e⟩
theorem qY {n:Kk}(h:n<=sizeLine):M6 n=false:=by
 unfold M6;exact K5 (by omega)
end
section
variable{X:Cx}
noncomputable def Bx:V->J9 V->Hp->VK->Prop:=λx vs H Q=>∃l xs y,x=.ref l/\vs=[y]/\H l=ba (.lst xs)/\xs.length < sizeLine/\Q .non (bZ H l (.lst (xs++[y])))
theorem wl:Ic X "list.append" Bx:=by
 intro pins s σ H x vs v us Q I rx rv h;obtain⟨l,xs,y,rfl,rfl,hH,hz,q⟩:=h;cases rx;obtain⟨u,rfl,ru⟩:=rv.one;obtain⟨z,its,n,r,hl,e⟩:=I.lstM hH;refine Ow F.slot_list_append ⟨_,e,rfl⟩ F.entry_list_append (F.args_list_append_2 _ _) (Ri l its.toArray n u (by rw[Kv]; omega)) ⟨e,?_⟩
 refine⟨.non,_,I.lset (its':=its++[u]) hH e (by simp) (r.append (.cons ru .nil)) ?_,rfl,q⟩
 rw[Ks,LW];omega
noncomputable def By:V->J9 V->Hp->VK->Prop:=λx vs H Q=>∃l b xs zs,x=.ref l/\vs=[.ref b]/\H l=ba (.lst xs)/\H b=ba (.lst zs)/\xs.length+zs.length<=sizeLine/\Q .non (bZ H l (.lst (xs++zs)))
theorem wn:Ic X "list.extend" By:=by
 intro pins s σ H x vs v us Q I rx rv h;obtain⟨l,b,xs,zs,rfl,rfl,hH,hB,hz,q⟩:=h;cases rx;obtain⟨u,rfl,ru⟩:=rv.one;cases ru;obtain⟨z,its,n,r,hl,e⟩:=I.lstM hH;obtain⟨z2,its2,n2,r2,hl2,e2⟩:=I.lstM hB;have hsz:its.toArray.size+its2.toArray.size<=sizeLine:=by rw[Kv,Kv]; omega
 have hlong:¬ (!its.toArray.isEmpty&&M6 (its.toArray.size+its2.toArray.size))=true:=by
  rw[qY hsz,OT];exact KI
 refine Ow F.slot_list_extend ⟨_,e,rfl⟩ F.entry_list_extend (F.args_list_extend_2 _ _)
  (Rj l its.toArray n b its2.toArray n2 hlong (by rw[Kv]; omega) (by omega)) ⟨e,e2,?_⟩
 refine⟨.non,_,I.lset (its':=its++its2) hH e (by simp) (r.append r2) ?_,rfl,q⟩
 rw[Ks];omega
noncomputable def Ex:V->J9 V->Hp->VK->Prop:=λx vs H Q=>∃l xs i k y,x=.ref l/\vs=[.int i]/\H l=ba (.lst xs)/\-(2 ^ 63)<=i/\i < 2 ^ 63/\seqIndex? i xs.length=ba k/\xs[k]?=ba y/\Q y (bZ H l (.lst (xs.eraseIdx k)))
theorem yc:Ic X "list.pop" Ex:=by
 intro pins s σ H x vs v us Q I rx rv h;obtain⟨l,xs,i,k,y,rfl,rfl,hH,h1,h2,hk,hy,q⟩:=h;cases rx;obtain⟨u,rfl,ru⟩:=rv.one;obtain⟨t,rfl⟩:=ru;obtain⟨z,its,n,r,hl,e⟩:=I.lstM hH;obtain⟨w,hw,rw'⟩:=r.get hy;refine Ow F.slot_list_pop ⟨_,e,rfl⟩ F.entry_list_pop (F.args_list_pop_2 _ _)
  (Tw l its.toArray n i t k w (Sj h1 h2) (by rw[Kv,<- hl]; exact hk) (by rw[<- LI]; exact hw) (by rw[Kv]; omega)) ⟨e,?_⟩
 refine⟨y,_,I.lset (its':=its.eraseIdx k) hH e ?_ (r.eraseIdx k) ?_,rw',q⟩
 ·show its.toArray.eraseIdxIfInBounds k=(its.eraseIdx k).toArray;rw[List.eraseIdxIfInBounds_toArray]
 ·have:=nX xs k;omega
noncomputable def Ey:V->J9 V->Hp->VK->Prop:=λx vs H Q=>∃l xs,x=.ref l/\vs=[]/\H l=ba (.lst xs)/\Q .non (bZ H l (.lst []))
theorem yd:Ic X "list.clear" Ey:=by
 intro pins s σ H x vs v us Q I rx rv h;obtain⟨l,xs,rfl,rfl,hH,q⟩:=h;cases rx;have hus:=rv.zero;subst hus;obtain⟨z,its,n,r,hl,e⟩:=I.lstM hH;refine Ow F.slot_list_clear ⟨_,e,rfl⟩ F.entry_list_clear (F.args_list_clear_1 _) (Sk l its.toArray n (by rw[Kv]; omega)) ⟨e,?_⟩
 exact⟨.non,_,I.lset (its':=[]) (ys:=[]) hH e rfl .nil (L1 _),rfl,q⟩
noncomputable def IY:R2:=λx y H Q=>∃l b xs zs,x=.ref l/\y=.ref b/\H l=ba (.lst xs)/\H b=ba (.lst zs)/\xs.length+zs.length<=sizeLine/\∀p,H p=gV->Q (.ref p) (bZ H p (.lst (xs++zs)))
theorem Ez:OpR X (binaryOp .Add) IY:=by
 intro pins s σ H x y v u Q I rx ry h;obtain⟨l,b,xs,zs,rfl,rfl,hH,hB,hz,q⟩:=h;cases rx;cases ry;obtain⟨z,its,n,r,hl,e⟩:=I.lstM hH;obtain⟨z2,its2,n2,r2,hl2,e2⟩:=I.lstM hB;refine PySem.P.add_list e e2 ?_ (by rw[Kv,Kv]; omega)
 have ea:its.toArray++its2.toArray=(its++its2).toArray:=by simp
 rw[ea];exact⟨.ref _,_,I.lnew (t':=s.toks) (r.append r2) (by rw[Ks]; omega),rfl,q _ I.fresh⟩
noncomputable def IZ:R2:=λx y H Q=>∃l k xs,x=.ref l/\y=.int k/\H l=ba (.lst xs)/\-(2 ^ 63)<=k/\k < 2 ^ 63/\xs.length*k.toNat<=sizeLine/\
 ∀p,H p=gV->Q (.ref p) (bZ H p (.lst (K7 k.toNat xs).flatten))
theorem Bz {α:Type}(xs:J9 α)(k:Kk):(K7 k xs).flatten.length=k*xs.length:=by
 induction k with
 | zero=>simp
 | succ k ih=>rw[L6,MX,Ks,ih,Rk,Rl]
theorem EA:OpR X (binaryOp .Mult) IZ:=by
 intro pins s σ H x y v u Q I rx ry h;obtain⟨l,k,xs,rfl,rfl,hH,h1,h2,hz,q⟩:=h;cases rx;obtain⟨t,rfl⟩:=ry;obtain⟨z,its,n,r,hl,e⟩:=I.lstM hH;have hlen:its.toArray.size*k.toNat<=sizeLine:=by rw[Kv,<- hl]; exact hz
 have hcap:¬ its.toArray.size*k.toNat > (2 ^ 63 - 1) / 8:=by
  have:(sizeLine:Kk)<=(2 ^ 63 - 1) / 8:=by decide
  omega
 have hfit:¬ (!Sl k)=true:=by
  rw[Sj h1 h2];exact KI
 have hlong:¬ M6 (its.toArray.size*k.toNat)=true:=by
  rw[qY hlen];exact KI
 have hnew:Si (λx1 x2=>x1++x2) #[] (K7 (if its.toArray.isEmpty=true then 0 else k.toNat) its.toArray)=(K7 k.toNat its).flatten.toArray:=by
  have f0:∀m:Kk,Si (λx1 x2=>x1++x2) #[] (K7 m its.toArray)=(K7 m its).flatten.toArray:=λm=>by
   have:=nY its m [];rw[R0]at this;exact this
  rw[f0];cases its with
  | nil=>simp
  | cons a r'=>rw[KW (by simp)]
 refine wpAny_binaryOp_repeat_ref (T:="list") (U:="int") (by decide) ⟨_,e,rfl⟩ (λs'=>Sh s' k t) noFill_list_mul F.fills_int_mul F.slot_int_rmul repeat_list F.slot_int_index.lookup
  (Ow F.slot_int_rmul (Sh s k t) F.entry_int_rmul (F.args_int_rmul_2 _ _) (int___rmul___int_list k t l its.toArray n)
   ⟨e,rfl,⟨_,e,rfl⟩,Ow F.slot_list_mul ⟨_,e,rfl⟩ F.entry_list_mul (F.args_list_mul_2 _ _) (Q7 l its.toArray n k t hfit hcap hlong) ⟨e,?_⟩⟩)
 rw[hnew];exact⟨.ref _,_,I.lnew (t':=s.toks) (r.rep k.toNat) (by rw[Bz,NN]; exact hz),rfl,q _ I.fresh⟩
end
section
variable{X:Cx}{pins:J9 (Kl×LZ)}{σ:St}{H:Hp}{s:Kg}{a:Kl}{y v:V}{u r:Kd}{o:Ki V}{A:K9}{E:Kd->Kg->Prop}
theorem Inv.big (I:Inv X pins σ H s):sysModules < s.heap.objs.size:=by
 have h:mainGlobals < s.heap.objs.size:=(I.mod.glob.keeps I.bk).lt;exact Nat.lt_trans (by decide) h
theorem pB {h':Lj}{t':Kk}{ob:HO}(I:Inv X pins σ H s)(mu:F5 (H a))(hs:Mq a s.heap h')(he:∃q,h'.get? a=ba q)(new:ObjOk X.prog X.w (bZ H a ob) h' a ob) :
  Inv X pins σ (bZ H a ob) { s with heap:=h',toks:=t' }:=
 I.write (x:=a) (e:=a) mu (.inl rfl) (λb q hb z=>(hs.2 b hb).trans z) he new
end
noncomputable abbrev VV:J9 (V×V)->J9 (Kd×Kd)->Prop:=PH λp q=>RelV p.1 q.1/\RelV p.2 q.2
end L2
namespace Att
open PySem PySem.W PySem.Calls PyProof.Rows
theorem kE {P:Sn}{h:Lj}:∀(ns:J9 Ky) (vs:J9 Kd),WellAll P h vs (ns.map WData.int)->Sc vs ns:=by
 intro ns
 induction ns with
 | nil=>
  intro vs w;rw[List.map_nil]at w;cases w;exact .nil
 | cons n ns ih=>
  intro vs w;rw[LF]at w;cases w with
  | cons a b=>
   cases a;exact .cons _ _ (ih _ b)
theorem wo {l:OpenLaw}{n:Kk}(hn:l.most=ba n){P:Sn}{h:Lj}{args:J9 WData}{vals:J9 Kd}
  (hpre:l.row.toRowW.claim.pre args=true) (hwl:WellAll P h vals args) :
  ∃a vs ns,vals=[K4 a]/\args=[WData.list (ns.map WData.int)]/\h.get? a=ba { cls:=.type "list",data:=.seq vs.toArray }/\Sc vs ns/\ns.length<=n:=by
 have hsh:WShape.hasAll [] args [.list .int]=true:=(pre_splitW hpre).1;have hc:l.pre.holds [] { args:=args }=true:=(pre_splitW hpre).2;obtain⟨d,r,rfl,h1,h2⟩:=hasAllW_cons hsh;obtain rfl:=hasAllW_nil h2;obtain⟨xs,rfl,h3⟩:=hasW_list h1;obtain⟨ns,rfl⟩:=items_int h3;have hlen:ns.length<=n:=by
  unfold OpenLaw.pre at hc;have h4:(WTm.not (.lt (.lit (.int (n:Ky))) (.len (.arg 0)))).holds [] { args:=[.list (ns.map .int)] }=true:=by
   have h4:=(holds_andW hc).1;rw[hn]at h4;exact h4
  have h5:=condW_of h4 (w_not (w_lt w_lit (w_len_list (w_arg rfl))));rw[Kc]at h5;refine RE λq=>?_
  have q':(n:Ky) < ((ns.length:Kk):Ky):=by omega
  first
   | (rw[L3 q']at h5; exact absurd h5 (by decide))
   | (simp at h5; omega)
 cases hwl with
 | cons w1 w2=>
  cases w2;cases w1 with
  | list ho hall=>exact⟨_,_,ns,rfl,rfl,ho,kE ns _ hall,hlen⟩
theorem wp (l:OpenLaw)(args:J9 WData):l.row.toRowW.claim.post args (.bool true) args=true:=
 postW_of (r:=l.row.toRowW) (X:=(true==true))
  (show WShape.has [] (.bool true) .bool=true by first|rfl|decide|simp[WShape.has,WShape.arms,WShape.armsAll])
  (show(WTm.eq .res (.lit (.bool true))).value [] { args:=args,res:=ba (.bool true),after:=args }=ba (.bool (true==true))from w_eq_bool (w_res rfl) w_lit) rfl
theorem attach_call {l:OpenLaw}{n:Kk}{q:K1}{loose:J9 KF}{XP:(KF->Ki Kd)->Lj->Prop}{YP:Lb->Lj->Prop}{d:DefRec}
  (hn:l.most=ba n) (hdf:d.params.defaults=[])
  (call:∀(w:Lb) (s₀ s₁:Kg) (mg mb:KF->Ki Kd) (fa:Kl) (o:LZ) (pm cd doc:Kd) (a:Kl) (vs:J9 Kd) (ns:J9 Ky),
   Ground q loose [] XP w s₀ mg mb s₁.heap->YP w s₁.heap->
   s₁.heap.get? fa=ba o->o.data=.func (docDef d.name d.params d.body d.scope pm cd doc)->s₁.heap.CodeRec cd d.name->mg d.name=ba (.ref fa)->
   s₁.heap.get? a=ba { cls:=.type "list",data:=.seq vs.toArray }->Sc vs ns->ns.length<=n->s₁.gens=#[]->
   codeAny (model l.prog w) callerA (.call (.ref fa) ⟨[.ref a],[]⟩) (λr s'=>r=.ok (.ret (.bool true))/\OldK s₁.heap s'.heap/\s'.os=s₁.os/\Pc s'.gens) s₁) :
  WalkO q loose XP YP l.row.toRowW d [] (λf vs=>So f vs):=by
 intro w s₀ s₁ mg mb G Y fa o pm cd doc dV kV ho hd hcd hD hmg hg args vals as hpre hlay hrd hwl hlo;obtain rfl:dV=.none:=Dflts.none hD hdf;obtain rfl:kV=.none:=Dflts.noKw hD;obtain⟨a,vs,ns,rfl,rfl,hobj,hints,hlen⟩:=wo hn hpre hwl;refine enter_call (Oe (call w s₀ s₁ mg mb fa o pm cd doc a vs ns G Y ho (fd_plain hd) hcd hmg hobj hints hlen hg) λr s' hq=>?_)
 obtain⟨rfl,h2,h3,h4⟩:=hq;exact⟨.inl ⟨.bool true,.bool true,[],rfl,λ_=>rfl,.bool true,wp l _,λ_=>⟨T4,λ_ hm=>(nomatch hm)⟩⟩,h2,h3,h4⟩
end Att
namespace L2
open PySem PySem.Spec PyProof.Rows
theorem nZ:∀ {vs:J9 Kd} {ns:J9 Ky},Sc vs ns->Vals (ns.map V.int) vs
 | _,_,.nil=>.nil
 | _,_,.cons n t h=>.cons ⟨t,rfl⟩ (nZ h)
noncomputable def ye (H:Hp):Prop:=∀b,H b=gV\/∃o xs,H b=ba (.frz o (.lst xs))
theorem yf {P:K1}{w:Lb}{K:Kr}{mg mb:KF->Ki Kd}{CX:xU}{k:Kk}{fa a:Kl}{fd:MQ}{x:KF}{sp:Sp}{s₁:Kg}{vs:J9 Kd}{ns:J9 Ky}
  (KX:K.In s₁.heap) (hns:s₁.heap.Ns mainGlobals mg) (hb:s₁.heap.Ns builtinsNs mb) (hbb:∀x:KF,x≠"__name__"->mb x=bootBuiltins x) (hlim:s₁.heap.NoLimit) (hg:s₁.gens=#[])
  (ha:s₁.heap.get? a=ba { cls:=.type "list",data:=.seq vs.toArray }) (hi:Sc vs ns) (hl:ns.length<=sizeLine) (hr:Room k callerA)
  (F:∀base:Lj,K.In base->base.Ns mainGlobals mg->FnOk P w K mg base CX k fa fd [x] sp) (hbind:∀(s:Kg) (u:Kd),Re s fd ⟨[u],[]⟩ [(x,u)])
  (hsp:∀H:Hp,ye H->SqL K H a (ns.map V.int)->sp [.ref a] H (λv _=>v=.bl true) λ_ _ _=>LL)
  (hCX:∀H e s',CX [] H s₁ (λ_ _ _=>LL) e s'->LL) :
  codeAny (model P w) callerA (.call (.ref fa) ⟨[.ref a],[]⟩) (λr s'=>r=.ok (.ret (.bool true))/\OldK s₁.heap s'.heap/\s'.os=s₁.os/\Pc s'.gens) s₁:=by
 have rv:=nZ hi;have lenV:=hi.length;have core:∀H:Hp,ye H->SqL K H a (ns.map V.int)->HOk P w H s₁.heap->(∀b,H b≠gV->b=a)->(H a≠gV->K.lookup a=gV)->
   codeAny (model P w) callerA (.call (.ref fa) ⟨[.ref a],[]⟩) (λr s'=>r=.ok (.ret (.bool true))/\OldK s₁.heap s'.heap/\s'.os=s₁.os/\Pc s'.gens) s₁:=by
  intro H hO hS hok hA hK;have base_of:∀ {b:Kl} {o:LZ},s₁.heap.get? b=ba o->H b=gV->(pc s₁.heap H).get? b=ba o:=λe n=>xH e n
  have noA:∀ {b:Kl} {o:LZ} {es:KQ MF} {ep:Kk},s₁.heap.get? b=ba o->o.data=.dict es ep->H b=gV:=λ{b o es ep} e d=>by
   cases q:H b with
   | none=>rfl
   | some u=>
    have e':b=a:=hA b (by rw[q]; simp)
    subst e';rw[ha]at e; cases e
    have d':Data.seq vs.toArray _=Data.dict es ep:=d;cases d'
  have nsK:∀ {b:Kl} {m:KF->Ki Kd},s₁.heap.Ns b m->(pc s₁.heap H).Ns b m:=λ{b m} ⟨o,es,ep,e,d,r⟩=>⟨o,es,ep,base_of e (noA e d),d,r⟩
  have hKb:K.In (pc s₁.heap H):=λb o e=>base_of (KX b o e) (by
   cases q:H b with
   | none=>rfl
   | some u=>
    have e':b=a:=hA b (by rw[q]; simp)
    subst e';rw[hK (by rw[q]; simp)]at e; cases e)
  have hM:Mod K mg (pc s₁.heap H):=⟨hKb,nsK hns,⟨mb,nsK hb,hbb⟩,let ⟨mc,h1,h2⟩:=hlim; ⟨mc,nsK h1,h2⟩⟩
  have e0:Env0 P w K mg (pc s₁.heap H) callerA [] s₁ H:=⟨rfl,hM,λb o e=>A7 e,Nat.le_of_eq (v6 _ _),trivial,λb hb=>absurd (show b∈([]:J9 Kl)from hb) (by simp),hok,.of_eq hg⟩
  refine Oe ((F _ hKb (nsK hns)).run callerA [] s₁ H ⟨[.ref a],[]⟩ [.ref a] [.ref a] _ _ hr e0 (hbind s₁ (.ref a)) (.cons rfl .nil) (hsp H hO hS)) λr s' h=>?_
  cases r with
  | error e=>exact(hCX H e s' h).elim
  | ok fl=>
   cases fl with
   | next=>exact LL.elim h
   | brk=>exact LL.elim h
   | cont=>exact LL.elim h
   | ret u=>
    obtain⟨v,H',os,bare,un,hok',r',q⟩:=h;have q':v=.bl true:=q;subst q';obtain rfl:u=NE true:=r';refine⟨rfl,OldK.of_keep λb o e=>?_,os,bare⟩
    cases q:H b with
    | none=>exact un.keep b o e q (by intro z; exact absurd (show b∈([]:J9 Kl)from z) (by simp)) (by simp)
    | some u=>
     rcases hO b with z|⟨ob,xs,z⟩
     ·rw[q]at z; cases z
     ·have z2:=un.frzs b ob _ z;obtain⟨e1,_⟩:=hok b _ z;obtain⟨e2,_⟩:=hok' b _ z2;rw[e]at e1; cases e1
      exact e2
 cases hk:K.lookup a with
 | some o=>
  have e:=KX a o hk;rw[ha]at e;cases e;refine core (λ_=>gV) (λ_=>.inl rfl) (.inr ⟨_,vs.toArray,_,hk,rfl,rfl,rfl,by rw[Kv,lenV]; exact hl,by simpa using rv⟩) (λb u z=>by have z':(gV:Ki HO)=ba u:=z; cases z') (λb z=>absurd rfl z) λz=>absurd rfl z
 | none=>
  refine core (λb=>if b=a then ba (.frz { cls:=.type "list",data:=.seq vs.toArray } (.lst (ns.map V.int)))else gV) (λb=>?_) (.inl (.inr ⟨{ cls:=.type "list",data:=.seq vs.toArray },KJ rfl⟩)) (λb u z=>?_) (λb z=>?_) λ_=>hk
  ·by_cases hb:b=a
   ·exact .inr ⟨_,_,KJ hb⟩
   ·exact .inl (KW hb)
  ·by_cases hb:b=a
   ·have z':=(KJ hb).symm.trans z;cases z';subst hb;exact⟨ha,by rw[Kc]; exact hl,vs,_,rv,ha⟩
   ·have z':=(KW hb).symm.trans z;cases z'
  ·by_cases hb:b=a
   ·exact hb
   ·exact absurd (KW hb) z
theorem BA {l:P0}{n k:Kk}{q:K1}{loose:J9 KF}{XP:(KF->Ki Kd)->Lj->Prop}{YP:Lb->Lj->Prop}{d:DefRec}{K:Sn->Kr}{CX:Lb->xU}{sp:Lb->Sp}{x:KF}
  (hn:l.most=ba n) (hn2:n<=sizeLine) (hdf:d.params.defaults=[]) (hr:Room k callerA)
  (hY:∀(w:Lb) (h:Lj),YP w h->(K w.params).In h)
  (F:∀(w:Lb) (mg:KF->Ki Kd) (fa:Kl) (h:Lj),(K w.params).In h->h.Ns mainGlobals mg->mg d.name=ba (.ref fa)->
   ∃fd:MQ,(∀(s:Kg) (u:Kd),Re s fd ⟨[u],[]⟩ [(x,u)])/\
    ∀base:Lj,(K w.params).In base->base.Ns mainGlobals mg->FnOk l.prog w (K w.params) mg base (CX w) k fa fd [x] (sp w))
  (hsp:∀(w:Lb) (H:Hp) (a:Kl) (ns:J9 Ky),ns.length<=n->ye H->SqL (K w.params) H a (ns.map V.int)->sp w [.ref a] H (λv _=>v=.bl true) λ_ _ _=>LL)
  (hCX:∀(w:Lb) (H:Hp) (s:Kg) (e:Kd) (s':Kg),CX w [] H s (λ_ _ _=>LL) e s'->LL) :
  SJ q loose XP YP l.row.toRowW d [] (λf vs=>So f vs):=by
 refine Att.attach_call hn hdf λw s₀ s₁ mg mb fa o pm cd doc a vs ns G Y ho hd hcd hmg hobj hints hlen hg=>?_
 have KX:=hY w _ Y;obtain⟨fd,hb,hF⟩:=F w mg fa _ KX G.T.g hmg;exact yf KX G.T.g G.T.b G.T.builtins G.T.nolimit hg hobj hints (KT hlen hn2) hr hF hb (λH hO hS=>hsp w H a ns hlen hO hS) λH e s'=>hCX w H s₁ e s'
noncomputable def d8 (s:M5):Arguments:=match s with
 | .FunctionDef _ a _ _ _ _ _ _ _ _=>a
 | _=>{ posonlyargs:=[],args:=[],vararg:=gV,kwonlyargs:=[],kw_defaults:=[],kwarg:=gV,defaults:=[] }
noncomputable def c8 (s:M5):J9 M5:=match s with
 | .FunctionDef _ _ b _ _ _ _ _ _ _=>b
 | _=>[]
noncomputable def ag (s:M5):Nz:=match s with
 | .FunctionDef _ _ _ _ _ _ sc _ _ _=>sc
 | _=>{ kind:=.function,names:=[],isGenerator:=false,isCoroutine:=false }
noncomputable abbrev xG:xU:=λ_ _ _ _ _ _=>LL
noncomputable abbrev E0:XK:=λ_ _ _=>LL
theorem Di {X:Cx}:pe xG X E0:=λ_ _ _ _ _ _ _ h=>h.elim
structure Fun (K:Kr)(x qual:KF)(st:M5)(f:Kl)(fd:MQ):Prop where
 ex:∃(oc:Kd) (od:Ki Kl) (kV doc pm:Kd) (an:Ki Kl) (cdv ct:Kd) (osl:KQ (Ki Kd)),
  fd=Mz x qual (d8 st) (c8 st) (ag st) .none kV doc pm an cdv ct/\K.lookup f=ba ⟨oc,od,.func fd,osl⟩/\NF K cdv qual=true
 kp:L0 K (.ref f)=true
section
variable{P:K1}{w:Lb}{K:Kr}{mg:KF->Ki Kd}{base:Lj}
theorem Fun.ok {x qual:KF}{st:M5}{f:Kl}{fd:MQ}{N ps:J9 KF}{k:Kk}{sp:Sp}(F:Fun K x qual st f fd)(S:FnScope N ps (ag st))(len:∀vs H Q E,sp vs H Q E->vs.length=ps.length)
  (hbody:∀(cdv:Kd) (A:K9) (outer:J9 Q9) (s:Kg) (H:Hp) (vs:J9 V) (Q:VK) (E:XK),Room k (A.deeper (envOfC qual (ag st) s.heap.objs.size f cdv))->sp vs H Q E->
   ∃t,PSs (tf xG P w K mg base N qual (ag st) f cdv A outer s H E).nox (c8 st) t/\t { nx:=λ_ H'=>Q .non H',rt:=Q } (ga N vs) H):FnOk P w K mg base xG (k+1) f fd ps sp:=by
 obtain⟨oc,od,kV,doc,pm,an,cdv,ct,osl,rfl,lk,hcd⟩:=F.ex;refine Gx lk hcd S len λA outer s H vs Q E hr hsp=>?_
 obtain⟨t,h,q⟩:=hbody cdv A outer s H vs Q E hr hsp;exact⟨t,h.nox,q⟩
theorem Fun.binds {x qual:KF}{st:M5}{f:Kl}{fd:MQ}{ps:J9 KF}(F:Fun K x qual st f fd)
  (h:∀(kV doc pm:Kd) (an:Ki Kl) (cdv ct:Kd) (us:J9 Kd),us.length=ps.length->bindArgs (Mz x qual (d8 st) (c8 st) (ag st) .none kV doc pm an cdv ct) ⟨us,[]⟩=pure (ps.zip us)):Binds K fd ps []:=by
 obtain⟨oc,od,kV,doc,pm,an,cdv,ct,osl,rfl,lk,hcd⟩:=F.ex;exact .all (h kV doc pm an cdv ct)
theorem yg {x qual:KF}{st:M5}{f:Kl}{oc:Kd}{od an:Ki Kl}{osl:KQ (Ki Kd)}{kV doc pm cdv ct:Kd}(l:K.lookup f=ba ⟨oc,od,.func (Mz x qual (d8 st) (c8 st) (ag st) .none kV doc pm an cdv ct),osl⟩)
  (c:NF K cdv qual=true) (k:L0 K (.ref f)=true):Fun K x qual st f (Mz x qual (d8 st) (c8 st) (ag st) .none kV doc pm an cdv ct):=⟨⟨oc,od,kV,doc,pm,an,cdv,ct,osl,rfl,l,c⟩,k⟩
end
section
variable{X:Cx}
theorem pv (i:Kk){x:KF}{pos:MP}(hN:X.N[i]?=ba x:=by rfl)(hv:HW X.env.scope x)(hd:(x==("__debug__" : KF))=false:=by decide)
  (hcd:(x==("__classdict__" : KF))=false:=by decide):PE X (.Name x pos) (DN i):=xI hN hv hd hcd
end
end L2
namespace Mi
open PySem PySem.Spec PyProof.Rows L2
noncomputable def fL (t:LG)(n:Kk):KP:=decide (Ng t.place 0=0)&&(KS n).all λi=>decide (Ng t.place (t.place.getD i 0+1)=i+1)
noncomputable def fB (w:Lb):KP:=w.params.followText "set-order"
inductive W where
 | non|bl (b:KP)|int (i:Ky)|str (x:KF)|tup (xs:J9 W)|ref (i:Kk)
inductive T where
 | int (i:Ky)|str (x:KF)|tup (xs:J9 T)
mutual
noncomputable def T.beq:T->T->KP
 | .int i,.int j=>i==j
 | .str x,.str y=>x==y
 | .tup xs,.tup ys=>T.beqs xs ys
 | _,_=>false
noncomputable def T.beqs:J9 T->J9 T->KP
 | [],[]=>true
 | x::xs,y::ys=>T.beq x y&&T.beqs xs ys
 | _,_=>false
end
mutual
theorem T.beq_iff:∀x y:T,T.beq x y=true↔x=y
 | .int i,.int j=>by simp[T.beq]
 | .str x,.str y=>by simp[T.beq]
 | .tup xs,.tup ys=>by simp[T.beq,T.beqs_iff xs ys]
 | .int _,.str _|.int _,.tup _|.str _,.int _|.str _,.tup _|.tup _,.int _|.tup _,.str _=>by simp[T.beq]
theorem T.beqs_iff:∀xs ys:J9 T,T.beqs xs ys=true↔xs=ys
 | [],[]=>by simp[T.beqs]
 | x::xs,y::ys=>by simp[T.beqs,T.beq_iff x y,T.beqs_iff xs ys]
 | [],_::_|_::_,[]=>by simp[T.beqs]
end
noncomputable instance:ND T:=λx y=>decidable_of_iff (T.beq x y=true) (T.beq_iff x y)
mutual
noncomputable def T.w:T->W
 | .int i=>.int i
 | .str x=>.str x
 | .tup xs=>.tup (T.ws xs)
noncomputable def T.ws:J9 T->J9 W
 | []=>[]
 | x::xs=>T.w x::T.ws xs
end
mutual
noncomputable def W.t:W->Ki T
 | .int i=>ba (.int i)
 | .str x=>ba (.str x)
 | .tup xs=>(W.ts xs).map .tup
 | _=>gV
noncomputable def W.ts:J9 W->Ki (J9 T)
 | []=>ba []
 | x::xs=>match W.t x,W.ts xs with
  | some y,ba ys=>ba (y::ys)
  | _,_=>gV
end
mutual
theorem W.t_w:∀ {w:W} {k:T},W.t w=ba k->k.w=w
 | .int i,_,h=>by cases h; rfl
 | .str x,_,h=>by cases h; rfl
 | .tup xs,_,h=>by
  simp only[W.t,Kf]at h;obtain⟨ks,h1,h2⟩:=h;subst h2;simp only[T.w,W.ts_w h1]
 | .non,_,h|.bl _,_,h|.ref _,_,h=>by cases h
theorem W.ts_w:∀ {ws:J9 W} {ks:J9 T},W.ts ws=ba ks->T.ws ks=ws
 | [],_,h=>by cases h; rfl
 | w::ws,_,h=>by
  simp only[W.ts]at h;split at h
  ·rename_i y ys h1 h2;cases h;simp only[T.ws,W.t_w h1,W.ts_w h2]
  ·cases h
end
mutual
theorem T.w_t:∀k:T,W.t k.w=ba k
 | .int _=>rfl
 | .str _=>rfl
 | .tup xs=>by simp only[T.w,W.t,T.ws_ts xs,Ld]
theorem T.ws_ts:∀ks:J9 T,W.ts (T.ws ks)=ba ks
 | []=>rfl
 | x::xs=>by simp only[T.ws,W.ts,T.w_t x,T.ws_ts xs]
end
mutual
noncomputable def T.depth:T->Kk
 | .tup xs=>T.depths xs+1
 | _=>0
noncomputable def T.depths:J9 T->Kk
 | []=>0
 | x::xs=>max (T.depth x) (T.depths xs)
end
mutual
noncomputable def T.draws:T->Kk
 | .tup xs=>T.drawss xs+1
 | _=>1
noncomputable def T.drawss:J9 T->Kk
 | []=>0
 | x::xs=>T.draws x+T.drawss xs
end
mutual
noncomputable def eW (wd:Lb):T->Ky
 | .int i=>hashInt i
 | .str x=>hashStr wd x
 | .tup xs=>reduceHash (NR (iA wd xs))
noncomputable def iA (wd:Lb):J9 T->J9 Ky
 | []=>[]
 | x::xs=>eW wd x::iA wd xs
end
noncomputable def T.isTup:T->KP
 | .tup _=>true
 | _=>false
noncomputable def az:Kk:=6
inductive O where
 | lst (xs:J9 W)
 | fro (xs:J9 W)
 | stt (ks:J9 T)
 | rng (lo hi:Ky)
 | dic (kvs:J9 (T×W))
 | frd (kvs:J9 (T×W))
noncomputable abbrev aa:=J9 O
noncomputable abbrev Fm:=J9 (Ki W)
section
variable (K:Kr) (A:J9 Kl) (H:Hp)
mutual
inductive Rel:W->V->Prop
 | non:Rel .non .non
 | bl {b:KP}:Rel (.bl b) (.bl b)
 | int {i:Ky}:Rel (.int i) (.int i)
 | str {x:KF}:Rel (.str x) (.str x)
 | tup {ws:J9 W} {a:Kl} {vs:J9 V}:SqT K H a vs->RelL ws vs->Rel (.tup ws) (.ref a)
 | ref {i:Kk} {a:Kl}:A[i]?=ba a->Rel (.ref i) (.ref a)
inductive RelL:J9 W->J9 V->Prop
 | nil:RelL [] []
 | cons {w:W} {v:V} {ws:J9 W} {vs:J9 V}:Rel w v->RelL ws vs->RelL (w::ws) (v::vs)
end
end
section
variable{K:Kr}{A A' A'':J9 Kl}{H H' H'':Hp}
structure Ext (K:Kr)(A:J9 Kl)(H:Hp)(A':J9 Kl)(H':Hp):Prop where
 ad:∀(i:Kk) (a:Kl),A[i]?=ba a->A'[i]?=ba a
 tp:∀(a:Kl) (vs:J9 V),SqT K H a vs->SqT K H' a vs
 fz:∀(a:Kl) (o:LZ) (u:HO),H a=ba (.frz o u)->H' a=ba (.frz o u)
theorem Ext.refl:Ext K A H A H:=⟨λ_ _ h=>h,λ_ _ h=>h,λ_ _ _ h=>h⟩
theorem Ext.trans (e:Ext K A H A' H')(f:Ext K A' H' A'' H''):Ext K A H A'' H'':=⟨λi a h=>f.ad i a (e.ad i a h),λa vs h=>f.tp a vs (e.tp a vs h),λa o u h=>f.fz a o u (e.fz a o u h)⟩
mutual
theorem Rel.mono (e:Ext K A H A' H'):∀ {w:W} {v:V},Rel K A H w v->Rel K A' H' w v
 | _,_,.non=>.non
 | _,_,.bl=>.bl
 | _,_,.int=>.int
 | _,_,.str=>.str
 | _,_,.tup h r=>.tup (e.tp _ _ h) (RelL.mono e r)
 | _,_,.ref h=>.ref (e.ad _ _ h)
theorem RelL.mono (e:Ext K A H A' H'):∀ {ws:J9 W} {vs:J9 V},RelL K A H ws vs->RelL K A' H' ws vs
 | _,_,.nil=>.nil
 | _,_,.cons r t=>.cons (Rel.mono e r) (RelL.mono e t)
end
theorem RelL.length:∀ {ws:J9 W} {vs:J9 V},RelL K A H ws vs->ws.length=vs.length
 | _,_,.nil=>rfl
 | _,_,.cons _ t=>by simp[RelL.length t]
theorem RelL.get:∀ {ws:J9 W} {vs:J9 V} {i:Kk} {w:W},RelL K A H ws vs->ws[i]?=ba w->∃v,vs[i]?=ba v/\Rel K A H w v
 | _,_,_,_,.nil,e=>by simp at e
 | _,_,0,_,.cons r _,e=>by simp at e; subst e; exact⟨_,rfl,r⟩
 | _,_,i+1,w,.cons _ t,e=>by
  obtain⟨u,h1,h2⟩:=RelL.get (i:=i) (w:=w) t (by simpa using e)
  exact⟨u,by simpa using h1,h2⟩
theorem RelL.append:∀ {xs ys:J9 W} {us ws:J9 V},RelL K A H xs us->RelL K A H ys ws->RelL K A H (xs++ys) (us++ws)
 | _,_,_,_,.nil,s=>s
 | _,_,_,_,.cons r t,s=>.cons r (RelL.append t s)
theorem RelL.take:∀ {xs:J9 W} {us:J9 V} (n:Kk),RelL K A H xs us->RelL K A H (xs.take n) (us.take n)
 | _,_,0,_=>.nil
 | _,_,_+1,.nil=>.nil
 | _,_,n+1,.cons r t=>.cons r (RelL.take n t)
theorem RelL.drop:∀ {xs:J9 W} {us:J9 V} (n:Kk),RelL K A H xs us->RelL K A H (xs.drop n) (us.drop n)
 | _,_,0,r=>r
 | _,_,_+1,.nil=>.nil
 | _,_,n+1,.cons _ t=>RelL.drop n t
theorem RelL.set {x:W}{u:V}(r:Rel K A H x u):∀ {xs:J9 W} {us:J9 V} (i:Kk),RelL K A H xs us->RelL K A H (xs.set i x) (us.set i u)
 | _,_,_,.nil=>.nil
 | _,_,0,.cons _ t=>.cons r t
 | _,_,i+1,.cons q t=>.cons q (RelL.set r i t)
theorem RelL.rep {xs:J9 W}{us:J9 V}(h:RelL K A H xs us):∀k:Kk,RelL K A H (K7 k xs).flatten (K7 k us).flatten
 | 0=>.nil
 | k+1=>by
  rw[L6,L6,MX,MX];exact RelL.append h (RelL.rep h k)
theorem RelL.eraseIdx:∀ {xs:J9 W} {us:J9 V} (i:Kk),RelL K A H xs us->RelL K A H (xs.eraseIdx i) (us.eraseIdx i)
 | _,_,_,.nil=>.nil
 | _,_,0,.cons _ t=>t
 | _,_,i+1,.cons r t=>.cons r (RelL.eraseIdx i t)
noncomputable def FroL (K:Kr)(H:Hp)(a:Kl)(vs:J9 V):Prop:=
 (∃o,H a=ba (.frz o (.lst vs)))\/
  ∃(o:LZ) (its:KQ Kd) (n:Kk),K.lookup a=ba o/\o.cls=.type "list"/\o.dict=gV/\o.data=.seq its n/\its.size<=sizeLine/\Vals vs its.toList
theorem FroL.sq {a:Kl}{vs:J9 V}(h:FroL K H a vs):SqL K H a vs:=by
 rcases h with⟨o,h⟩|h
 ·exact .inl (.inr ⟨o,h⟩)
 ·exact .inr h
noncomputable def yh (wd:Lb)(x:T×Kl×Kd):MF:=⟨eW wd x.1,.ref x.2.1,x.2.2⟩
noncomputable def DicAt (wd:Lb)(a:Kl)(xs:J9 (T×Kl×Kd))(h:Lj):Prop:=
 xs.length<=sizeLine/\(a==sysModules)=false/\(xs.map (·.1)).Nodup/\∃o es ep,h.get? a=ba o/\o.ExactDict/\o.data=.dict es ep/\es.toList=xs.map (yh wd)
noncomputable def eE (wd:Lb)(a:Kl)(xs:J9 (T×Kl×Kd)):HO:=.ext (DicAt wd a xs)
noncomputable def KRel (K:Kr)(A:J9 Kl)(H:Hp):J9 (T×W)->J9 (T×Kl×Kd)->Prop:=
 PH λ(p:T×W) (q:T×Kl×Kd)=>p.1=q.1/\p.1.isTup=true/\p.1.depth<=az/\Rel K A H p.1.w (.ref q.2.1)/\∃v,Rel K A H p.2 v/\RelV v q.2.2
theorem KRel.mono (e:Ext K A H A' H'){kvs:J9 (T×W)}{xs:J9 (T×Kl×Kd)}(h:KRel K A H kvs xs):KRel K A' H' kvs xs:=
 Paired.mapP h λ_ _ ⟨h1,h2,h3,h4,v,h5,h6⟩=>⟨h1,h2,h3,h4.mono e,v,h5.mono e,h6⟩
variable{wd:Lb}
noncomputable def BB (wd:Lb)(as:J9 Kl)(o:LZ):Prop:=o.ExactSet/\∃es ep t,o.data=.set es ep t/\es.size<=sizeLine/\t.fits es.size=true/\t.led=(!fB wd)/\(t.plain=true->es.size=0\/fL t es.size=true)/\es.toList.map (·.2)=as.map K4
noncomputable def ObjRel (wd:Lb)(K:Kr)(A:J9 Kl)(H:Hp)(a:Kl):O->Prop
 | .lst ws=>∃vs,H a=ba (.lst vs)/\RelL K A H ws vs
 | .fro ws=>∃vs,FroL K H a vs/\RelL K A H ws vs
 | .stt ks=>∃o φ as,H a=ba (.frz o (.ext φ))/\BB wd as o/\RelL K A H (T.ws ks) (as.map V.ref)
 | .rng lo hi=>H a=ba (.rng lo hi)
 | .dic kvs=>∃xs,H a=ba (eE wd a xs)/\KRel K A H kvs xs
 | .frd kvs=>∃o xs,H a=ba (.frz o (eE wd a xs))/\KRel K A H kvs xs
noncomputable def O.mut:O->KP
 | .fro _=>false
 | .stt _=>false
 | .rng _ _=>false
 | .frd _=>false
 | _=>true
structure StoreOk (wd:Lb)(K:Kr)(A:J9 Kl)(H:Hp)(S:aa):Prop where
 len:A.length=S.length
 nd:∀(i j:Kk) (a:Kl) (o u:O),S[i]?=ba o->o.mut=true->S[j]?=ba u->u.mut=true->A[i]?=ba a->A[j]?=ba a->i=j
 obj:∀(i:Kk) (o:O) (a:Kl),S[i]?=ba o->A[i]?=ba a->ObjRel wd K A H a o
noncomputable def EnvRel (K:Kr)(A:J9 Kl)(H:Hp)(ρ:Fm)(σ:L2.St):Prop:=
 ρ.length=σ.length/\∀(i:Kk) (w:W),ρ[i]?=ba (ba w)->∃v,σ[i]?=ba (ba v)/\Rel K A H w v
theorem EnvRel.mono {ρ:Fm}{σ:L2.St}(e:Ext K A H A' H')(h:EnvRel K A H ρ σ):EnvRel K A' H' ρ σ:=
 ⟨h.1,λi w q=>let ⟨v,a,b⟩:=h.2 i w q; ⟨v,a,b.mono e⟩⟩
theorem EnvRel.set {ρ:Fm}{σ:L2.St}{w:W}{v:V}(h:EnvRel K A H ρ σ)(r:Rel K A H w v)(i:Kk):EnvRel K A H (ρ.set i (ba w)) (σ.set i (ba v)):=by
 refine⟨by simp[h.1],λj w' q=>?_⟩
 rw[Mt]at q ⊢
 by_cases e:i=j
 ·subst e;rw[KJ rfl]at q ⊢
  by_cases hl:i < ρ.length
  ·rw[KJ hl]at q;rw[KJ (h.1 ▸ hl)];cases q;exact⟨v,rfl,r⟩
  ·rw[KW hl]at q; cases q
 ·rw[KW e]at q ⊢;exact h.2 j w' q
noncomputable def Wr (H:Hp)(p:Kl):Prop:=H p=gV\/(∃xs,H p=ba (.lst xs))\/(∃φ,H p=ba (.ext φ))\/∃ks,H p=ba (.dK ks)
theorem Wr.lst {p:Kl}{xs:J9 V}(h:H p=ba (.lst xs)):Wr H p:=.inr (.inl ⟨xs,h⟩)
theorem Wr.ext {p:Kl}{φ:Lj->Prop}(h:H p=ba (.ext φ)):Wr H p:=.inr (.inr (.inl ⟨φ,h⟩))
theorem Wr.ne_tup {p a:Kl}{xs:J9 V}(hp:Wr H p)(h:H a=ba (.tup xs)):a≠p:=by
 intro e; subst e
 rcases hp with q|⟨xs,q⟩|⟨φ,q⟩|⟨ks,q⟩ <;> (rw[h]at q; cases q)
theorem Wr.ne_frz {p a:Kl}{o:LZ}{u:HO}(hp:Wr H p)(h:H a=ba (.frz o u)):a≠p:=by
 intro e; subst e
 rcases hp with q|⟨xs,q⟩|⟨φ,q⟩|⟨ks,q⟩ <;> (rw[h]at q; cases q)
theorem Wr.ne_rng {p a:Kl}{lo hi:Ky}(hp:Wr H p)(h:H a=ba (.rng lo hi)):a≠p:=by
 intro e; subst e
 rcases hp with q|⟨xs,q⟩|⟨φ,q⟩|⟨ks,q⟩ <;> (rw[h]at q; cases q)
theorem uM {p:Kl}{o:HO}(hp:Wr H p){a:Kl}{vs:J9 V}(h:SqT K H a vs):SqT K (bZ H p o) a vs:=by
 rcases h with(h|⟨o',h⟩)|h
 ·exact .inl (.inl (by rw[aK (hp.ne_tup h)]; exact h))
 ·exact .inl (.inr ⟨o',by rw[aK (hp.ne_frz h)]; exact h⟩)
 ·exact .inr h
theorem yi {p:Kl}{o:HO}(hp:Wr H p){a:Kl}{vs:J9 V}(h:FroL K H a vs):FroL K (bZ H p o) a vs:=by
 rcases h with⟨o',h⟩|h
 ·exact .inl ⟨o',by rw[aK (hp.ne_frz h)]; exact h⟩
 ·exact .inr h
theorem c9 {p:Kl}{o:HO}(hp:Wr H p):Ext K A H A (bZ H p o):=⟨λ_ _ h=>h,λ_ _ h=>uM hp h,λ_ _ _ h=>by rw[aK (hp.ne_frz h)]; exact h⟩
theorem da {p:Kl}{o:HO}(hp:H p=gV):Ext K A H (A++[p]) (bZ H p o):=
 ⟨λi a h=>by rw[Lk (Kq.mp h).1]; exact h,λ_ _ h=>uM (.inl hp) h,λ_ _ _ h=>by rw[aK (Wr.ne_frz (.inl hp) h)]; exact h⟩
theorem ObjRel.keep {p a:Kl}{o:HO}{b:O}(hp:Wr H p)(hne:b.mut=true->a≠p)(e:Ext K A H A' (bZ H p o))(h:ObjRel wd K A H a b):ObjRel wd K A' (bZ H p o) a b:=by
 cases b with
 | lst ws=>
  obtain⟨vs,q,r⟩:=h;exact⟨vs,by rw[aK (hne rfl)]; exact q,r.mono e⟩
 | fro ws=>
  obtain⟨vs,q,r⟩:=h;exact⟨vs,yi hp q,r.mono e⟩
 | stt ks=>
  obtain⟨ob,φ,as,q,r1,r2⟩:=h;exact⟨ob,φ,as,by rw[aK (hp.ne_frz q)]; exact q,r1,r2.mono e⟩
 | rng lo hi=>
  have h:H a=ba (.rng lo hi):=h;show bZ H p o a=ba (.rng lo hi);rw[aK (hp.ne_rng h)];exact h
 | dic kvs=>
  obtain⟨xs,q,r⟩:=h;exact⟨xs,by rw[aK (hne rfl)]; exact q,r.mono e⟩
 | frd kvs=>
  obtain⟨ob,xs,q,r⟩:=h;exact⟨ob,xs,by rw[aK (hp.ne_frz q)]; exact q,r.mono e⟩
theorem ObjRel.there {a:Kl}{b:O}(h:ObjRel wd K A H a b)(hm:b.mut=true):H a≠gV:=by
 cases b with
 | lst ws=>obtain⟨vs,q,r⟩:=h; rw[q]; intro z; cases z
 | fro ws=>cases hm
 | stt ws=>cases hm
 | rng lo hi=>cases hm
 | dic kvs=>obtain⟨vs,q,r⟩:=h; rw[q]; intro z; cases z
 | frd ws=>cases hm
theorem ObjRel.wr {a:Kl}{b:O}(h:ObjRel wd K A H a b)(hm:b.mut=true):Wr H a:=by
 cases b with
 | lst ws=>obtain⟨vs,q,r⟩:=h; exact .lst q
 | fro ws=>cases hm
 | stt ws=>cases hm
 | rng lo hi=>cases hm
 | dic kvs=>obtain⟨vs,q,r⟩:=h; exact .ext q
 | frd ws=>cases hm
theorem StoreOk.lay {S:aa}{p:Kl}{o:HO}(h:StoreOk wd K A H S)(hp:H p=gV):StoreOk wd K A (bZ H p o) S:=
 ⟨h.len,h.nd,λi b a e ea=>(h.obj i b a e ea).keep (.inl hp) (λhm z=>(h.obj i b a e ea).there hm (z ▸ hp)) (c9 (.inl hp))⟩
theorem StoreOk.pushO {S:aa}{p:Kl}{n:O}{u:HO}(h:StoreOk wd K A H S)(hp:H p=gV)(r:ObjRel wd K (A++[p]) (bZ H p u) p n):StoreOk wd K (A++[p]) (bZ H p u) (S++[n]):=by
 have ex:Ext K A H (A++[p]) (bZ H p u):=da hp;have old:∀ {i:Kk} {o:O} {a:Kl},(S++[n])[i]?=ba o->(A++[p])[i]?=ba a->i < S.length->S[i]?=ba o/\A[i]?=ba a:=λ{i o a} e ea hl=>by
  rw[Lk hl]at e;rw[Lk (h.len ▸ hl)]at ea;exact⟨e,ea⟩
 have new:∀ {i:Kk} {o:O} {a:Kl},(S++[n])[i]?=ba o->(A++[p])[i]?=ba a->¬ i < S.length->i=S.length/\o=n/\a=p:=λ{i o a} e ea hl=>by
  have hi:i=S.length:=by
   have:=(Kq.mp e).1;simp at this;omega
  subst hi;simp at e;rw[<- h.len]at ea;simp at ea;exact⟨rfl,e.symm,ea.symm⟩
 refine⟨by simp[h.len],λi j a o u e1 m1 e2 m2 a1 a2=>?_,λi o a e ea=>?_⟩
 ·by_cases hi:i < S.length <;> by_cases hj:j < S.length
  ·obtain⟨x1,y1⟩:=old e1 a1 hi;obtain⟨x2,y2⟩:=old e2 a2 hj;exact h.nd i j a o u x1 m1 x2 m2 y1 y2
  ·obtain⟨x1,y1⟩:=old e1 a1 hi;obtain⟨_,_,z⟩:=new e2 a2 hj;subst z;exact absurd hp ((h.obj i o a x1 y1).there m1)
  ·obtain⟨x2,y2⟩:=old e2 a2 hj;obtain⟨_,_,z⟩:=new e1 a1 hi;subst z;exact absurd hp ((h.obj j u a x2 y2).there m2)
  ·rw[(new e1 a1 hi).1,(new e2 a2 hj).1]
 ·by_cases hi:i < S.length
  ·obtain⟨x1,y1⟩:=old e ea hi;exact(h.obj i o a x1 y1).keep (.inl hp) (λhm z=>(h.obj i o a x1 y1).there hm (z ▸ hp)) ex
  ·obtain⟨_,rfl,rfl⟩:=new e ea hi;exact r
theorem StoreOk.push {S:aa}{p:Kl}{ws:J9 W}{vs:J9 V}(h:StoreOk wd K A H S)(hp:H p=gV)(r:RelL K A H ws vs):StoreOk wd K (A++[p]) (bZ H p (.lst vs)) (S++[.lst ws]):=
 h.pushO hp ⟨vs,bh,r.mono (da hp)⟩
theorem StoreOk.writeO {S:aa}{i:Kk}{p:Kl}{o0 n:O}{u:HO}(h:StoreOk wd K A H S)(e:S[i]?=ba o0)(m0:o0.mut=true)(ea:A[i]?=ba p)(r:ObjRel wd K A (bZ H p u) p n) :
  StoreOk wd K A (bZ H p u) (S.set i n)/\Ext K A H A (bZ H p u):=by
 have hw:Wr H p:=(h.obj i _ p e ea).wr m0;have ex:Ext K A H A (bZ H p u):=c9 hw;have hl:i < S.length:=(Kq.mp e).1;refine⟨⟨by simp[h.len],λj k a o u e1 m1 e2 m2 a1 a2=>?_,λj o a e1 a1=>?_⟩,ex⟩
 ·have get:∀ {j:Kk} {o:O},(S.set i n)[j]?=ba o->o.mut=true->∃o',S[j]?=ba o'/\o'.mut=true:=λ{j o} q m=>by
   rw[Mt]at q
   by_cases z:i=j
   ·subst z; exact⟨_,e,m0⟩
   ·rw[KW z]at q; exact⟨o,q,m⟩
  obtain⟨o',x1,m1'⟩:=get e1 m1;obtain⟨u',x2,m2'⟩:=get e2 m2;exact h.nd j k a o' u' x1 m1' x2 m2' a1 a2
 ·rw[Mt]at e1
  by_cases z:i=j
  ·subst z;rw[KJ rfl,KJ hl]at e1;cases e1;rw[ea]at a1; cases a1
   exact r
  ·rw[KW z]at e1;exact(h.obj j o a e1 a1).keep hw (λhm q=>z (h.nd i j p _ o e m0 e1 hm ea (q ▸ a1))) ex
theorem StoreOk.write {S:aa}{i:Kk}{p:Kl}{ws:J9 W}{us:J9 V}{ws0:J9 W}(h:StoreOk wd K A H S)(e:S[i]?=ba (.lst ws0))(ea:A[i]?=ba p)(r:RelL K A H ws us) :
  StoreOk wd K A (bZ H p (.lst us)) (S.set i (.lst ws))/\Ext K A H A (bZ H p (.lst us)):=
 h.writeO e rfl ea ⟨us,bh,r.mono (c9 ((h.obj i _ p e ea).wr rfl))⟩
end
noncomputable def gc (S:aa)(i:Kk):Ki (J9 W):=match S[i]? with
 | some (.lst xs)=>ba xs
 | some (.fro xs)=>ba xs
 | _=>gV
noncomputable def pE (S:aa)(i:Kk):Ki (J9 W):=match S[i]? with
 | some (.lst xs)=>ba xs
 | _=>gV
noncomputable def mT (S:aa)(xs:J9 W):Ki (W×aa):=if xs.length<=sizeLine then ba (.ref S.length,S++[.lst xs])else gV
noncomputable def tw (S:aa)(xs:J9 W):Ki (W×aa):=if xs.length<=sizeLine then ba (.tup xs,S)else gV
noncomputable def BC (j:Ky):KP:=decide (0 < j)&&decide (j < 1073741824)
noncomputable def wq (i j:Ky):KP:=(decide (-(2 ^ 64) < i)&&decide (i < 2 ^ 64))||(decide (-(2 ^ 64) < j)&&decide (j < 2 ^ 64))
noncomputable def GD (i j:Ky):KP:=decide (0<=j)&&decide (j<=1000000)&&decide (i.natAbs < 2 ^ 64)
inductive BOp where|add|sub|mul|fdiv|mod|pow
 deriving ND
noncomputable def AY (c:Ky->Ky->KP)(f:Ky->Ky->Ky)(x y:W)(S:aa):Ki (W×aa):=match x,y with
 | .int i,.int j=>if c i j then ba (.int (f i j),S)else gV
 | _,_=>gV
noncomputable def wt (x y:W)(S:aa):Ki (W×aa):=match x with
 | .int i=>match y with
  | .int j=>ba (.int (i+j),S)
  | _=>gV
 | .str x=>match y with
  | .str y=>if x.length+y.length<=sizeLine then ba (.str (x++y),S)else gV
  | _=>gV
 | .tup xs=>match y with
  | .tup ys=>tw S (xs++ys)
  | _=>gV
 | .ref i=>match y with
  | .ref j=>match pE S i,pE S j with
   | some xs,ba ys=>mT S (xs++ys)
   | _,_=>gV
  | _=>gV
 | _=>gV
noncomputable def yj (x y:W)(S:aa):Ki (W×aa):=match x with
 | .str x=>match y with
  | .int k=>if k < 2 ^ 24/\-(2 ^ 24)<=k/\x.length*k.toNat<=sizeLine then ba (.str (Uv x k),S)else gV
  | _=>gV
 | .ref i=>match y with
  | .int k=>match pE S i with
   | some xs=>if k < 2 ^ 24/\-(2 ^ 24)<=k/\xs.length*k.toNat<=sizeLine then mT S (K7 k.toNat xs).flatten else gV
   | none=>gV
  | _=>gV
 | x=>AY wq (· * ·) x y S
noncomputable def gf:BOp->W->W->aa->Ki (W×aa)
 | .add,x,y,S=>wt x y S
 | .sub,x,y,S=>AY (λ_ _=>true) (· - ·) x y S
 | .mul,x,y,S=>yj x y S
 | .fdiv,x,y,S=>AY (λ_ j=>BC j) (· / ·) x y S
 | .mod,x,y,S=>AY (λ_ j=>decide (0 < j)) (· % ·) x y S
 | .pow,x,y,S=>AY GD (λi j=>i ^ j.toNat) x y S
noncomputable def BOp.py:BOp->Rc
 | .add=>.Add|.sub=>.Sub|.mul=>.Mult|.fdiv=>.FloorDiv|.mod=>.Mod|.pow=>.Pow
section
variable (X:Cx)
noncomputable def d4 (pins:J9 (Kl×LZ))(σ:L2.St)(A:J9 Kl)(H:Hp)(S':aa)(w:W)(u:Kd)(s':Kg):Prop:=
 ∃v H' A',Inv X pins σ H' s'/\RelV v u/\Ext X.K A H A' H'/\StoreOk X.w X.K A' H' S'/\Rel X.K A' H' w v
noncomputable abbrev FE:=Fm->aa->Ki (W×aa)
noncomputable def LOp (f:Kd->Kd->Tp Kd)(g:W->W->aa->Ki (W×aa)):Prop:=
 ∀(pins:J9 (Kl×LZ)) (s:Kg) (σ:L2.St) (H:Hp) (A:J9 Kl) (S:aa) (x y:W) (a b:V) (u v:Kd) (w:W) (S':aa),Inv X pins σ H s->StoreOk X.w X.K A H S->
  Rel X.K A H x a->RelV a u->Rel X.K A H y b->RelV b v->g x y S=ba (w,S')->wpAny (model X.prog X.w) X.A (f u v) (d4 X pins σ A H S' w) X.xe s
end
section
variable{X:Cx}
theorem lr {S:aa}{i:Kk}{xs:J9 W}(h:pE S i=ba xs):S[i]?=ba (.lst xs):=by
 unfold pE at h;split at h
 ·cases h; assumption
 ·cases h
theorem eF {A:J9 Kl}{H:Hp}{S:aa}{i:Kk}{xs:J9 W}{a:Kl}(so:StoreOk X.w X.K A H S)(h:pE S i=ba xs)(ea:A[i]?=ba a):∃vs,H a=ba (.lst vs)/\RelL X.K A H xs vs:=
 so.obj i _ a (lr h) ea
theorem bO {A:J9 Kl}{H:Hp}{S:aa}{i:Kk}{xs:J9 W}{a:Kl}(so:StoreOk X.w X.K A H S)(h:gc S i=ba xs)(ea:A[i]?=ba a):∃vs,SqL X.K H a vs/\RelL X.K A H xs vs:=by
 unfold gc at h;split at h
 ·cases h;obtain⟨vs,q,r⟩:=so.obj i _ a (by assumption) ea
  exact⟨vs,.of q,r⟩
 ·cases h;obtain⟨vs,q,r⟩:=so.obj i _ a (by assumption) ea
  exact⟨vs,q.sq,r⟩
 ·cases h
theorem kT {S S':aa}{xs:J9 W}{w:W}(h:mT S xs=ba (w,S')):xs.length<=sizeLine/\w=.ref S.length/\S'=S++[.lst xs]:=by
 unfold mT at h;split at h
 ·cases h; exact⟨by assumption,rfl,rfl⟩
 ·cases h
theorem uN {S S':aa}{xs:J9 W}{w:W}(h:tw S xs=ba (w,S')):xs.length<=sizeLine/\w=.tup xs/\S'=S:=by
 unfold tw at h;split at h
 ·cases h; exact⟨by assumption,rfl,rfl⟩
 ·cases h
theorem BE {A:J9 Kl}{H:Hp}{S:aa}{ws:J9 W}{vs:J9 V}{Q:VK}{p:Kl}(so:StoreOk X.w X.K A H S)(r:RelL X.K A H ws vs)(hp:H p=gV)
  (q:∀v H' A',Ext X.K A H A' H'->StoreOk X.w X.K A' H' (S++[.lst ws])->Rel X.K A' H' (.ref S.length) v->Q v H'):Q (.ref p) (bZ H p (.lst vs)):=
 q _ _ (A++[p]) (da hp) (so.push hp r) (.ref (by rw[<- so.len]; simp))
theorem BF {A:J9 Kl}{H:Hp}{S:aa}{ws:J9 W}{vs:J9 V}{Q:VK}{p:Kl}(so:StoreOk X.w X.K A H S)(r:RelL X.K A H ws vs)(hp:H p=gV)
  (q:∀v H' A',Ext X.K A H A' H'->StoreOk X.w X.K A' H' S->Rel X.K A' H' (.tup ws) v->Q v H'):Q (.ref p) (bZ H p (.tup vs)):=
 q _ _ A (c9 (.inl hp)) (so.lay hp) (.tup (.of bh) (r.mono (c9 (.inl hp))))
noncomputable def GF (K:Kr):R2:=λx y H Q=>∃a b xs ys,x=.ref a/\y=.ref b/\SqT K H a xs/\SqT K H b ys/\xs.length+ys.length<=sizeLine/\
 (xs=[]->Q (.ref b) H)/\(ys=[]->Q (.ref a) H)/\(∀p,H p=gV->Q (.ref p) (bZ H p (.tup (xs++ys))))
theorem BG:OpR X (binaryOp .Add) (GF X.K):=by
 intro pins s σ H x y v u Q I rx ry h;obtain⟨a,b,xs,ys,rfl,rfl,ha,hb,hz,q0,q1,q2⟩:=h;cases rx;cases ry;obtain⟨its,r1,p1,_⟩:=I.tuple ha;obtain⟨its2,r2,p2,_⟩:=I.tuple hb
 by_cases hx:xs=[]
 ·obtain⟨⟨cls,dd,data,sl⟩,ho,hc,n,hd⟩:=id p1;obtain⟨⟨cls2,dd2,data2,sl2⟩,ho2,hc2,n2,hd2⟩:=id p2;simp only at hc hd hc2 hd2;subst hc hd hc2 hd2;exact Rf ⟨_,ho,rfl⟩ ⟨_,ho2,rfl⟩ Pv QH Of Ob (NZ _ _)
   (tuple_addW0 a b its.toArray its2.toArray n n2 dd dd2 sl sl2 (by simp[r1.nil_iff.mpr hx])) ⟨ho,ho2,⟨.ref b,H,I,rfl,q0 hx⟩⟩
 ·refine HT.Bq p1 p2 (λz=>hx (r1.nil_iff.mp z)) (λz=>⟨.ref a,H,I,rfl,q1 (r2.nil_iff.mp z)⟩) (λz=>?_) (by rw[<- r1.length,<- r2.length]; exact hz)
  refine⟨.ref s.heap.objs.size,_,I.laid (t':=s.toks) (o:=.tup (xs++ys)) (λb ob q=>Ke _ q) (Kn _) ?_,rfl,q2 _ (I.hok.fresh (Kn _))⟩
  exact⟨by rw[Ks]; exact hz,_,r1.append r2,Ry _ _⟩
theorem RelL.nil_iff {K:Kr}{A:J9 Kl}{H:Hp}{ws:J9 W}{vs:J9 V}(r:RelL K A H ws vs):vs=[]↔ws=[]:=by
 cases r <;> simp
theorem tz:OpR X (binaryOp .Mult) (λx y H Q=>∃z k,x=.str z/\y=.int k/\MulOk z k/\Q (.str (Uv z k)) H):=by
 intro pins s σ H x y v u Q I rx ry h;obtain⟨z,k,rfl,rfl,ok,q⟩:=h;obtain⟨t,rfl⟩:=rx;obtain⟨t',rfl⟩:=ry;exact SB.mul ok λt2 k2=>⟨.str _,H,I.tok _,⟨_,rfl⟩,q⟩
theorem yk {x:KF}{k:Ky}(h1:k < 16777216)(h2 : -16777216<=k)(h3:x.length*k.toNat<=sizeLine):MulOk x k:=by
 have hs:sizeLine=16777216:=Lo;rw[hs]at h3;refine⟨?_,λa b=>?_,λ_ _=>?_⟩
 ·rw[Bool.or_eq_false_iff];exact⟨K5 (by omega),K5 (by omega)⟩
 ·have hk:0 < k:=by omega
  have e:(x.length:Ky)*k=((x.length*k.toNat:Kk):Ky):=by
   rw[P1,NW (by omega)]
  intro hgt;have h4:(2 ^ 63 - 1:Ky) < (x.length:Ky)*k:=(Int.ediv_lt_iff_lt_mul hk).mp hgt;rw[e]at h4;generalize x.length*k.toNat=z at h3 h4;omega
 ·unfold SA;rw[hs];exact K5 (by omega)
noncomputable def EndV (wd:Lb)(K:Kr)(A:J9 Kl)(H:Hp)(S':aa)(w:W):VK:=λv H'=>∃A',Ext K A H A' H'/\StoreOk wd K A' H' S'/\Rel K A' H' w v
theorem EndV.here {A:J9 Kl}{H:Hp}{S:aa}{w:W}{v:V}(so:StoreOk X.w X.K A H S)(r:Rel X.K A H w v):EndV X.w X.K A H S w v H:=⟨A,.refl,so,r⟩
theorem EndV.lst {A:J9 Kl}{H:Hp}{S:aa}{ws:J9 W}{vs:J9 V}{p:Kl}(so:StoreOk X.w X.K A H S)(r:RelL X.K A H ws vs)(hp:H p=gV):EndV X.w X.K A H (S++[.lst ws]) (.ref S.length) (.ref p) (bZ H p (.lst vs)):=
 BE (Q:=EndV X.w X.K A H (S++[.lst ws]) (.ref S.length)) so r hp λv H' A' a b c=>⟨A',a,b,c⟩
theorem EndV.tup {A:J9 Kl}{H:Hp}{S:aa}{ws:J9 W}{vs:J9 V}{p:Kl}(so:StoreOk X.w X.K A H S)(r:RelL X.K A H ws vs)(hp:H p=gV):EndV X.w X.K A H S (.tup ws) (.ref p) (bZ H p (.tup vs)):=
 BF (Q:=EndV X.w X.K A H S (.tup ws)) so r hp λv H' A' a b c=>⟨A',a,b,c⟩
theorem EP.post {pins:J9 (Kl×LZ)}{σ:L2.St}{A:J9 Kl}{H:Hp}{S':aa}{w:W}{u:Kd}{s':Kg}(h:EP X pins σ (EndV X.w X.K A H S' w) u s'):d4 X pins σ A H S' w u s':=by
 obtain⟨v,H',I',r,A',x,y,z⟩:=h;exact⟨v,H',A',I',r,x,y,z⟩
theorem OpR.go {f:Kd->Kd->Tp Kd}{r:R2}(h:OpR X f r){pins:J9 (Kl×LZ)}{σ:L2.St}{A:J9 Kl}{H:Hp}{S':aa}{w:W}{s:Kg}{a b:V}{u v:Kd}(I:Inv X pins σ H s)(ru:RelV a u)(rv:RelV b v)
  (q:r a b H (EndV X.w X.K A H S' w)):wpAny (model X.prog X.w) X.A (f u v) (d4 X pins σ A H S' w) X.xe s:=bT (h pins s σ H a b u v _ I ru rv q) λ_ _=>EP.post
theorem BH:LOp X (binaryOp .Add) (gf .add):=by
 intro pins s σ H A S x y a b u v w S' I so rx ru ry rv e;cases rx with
 | int=>cases ry with
  | int=>cases e; exact OpR.go Ef I ru rv ⟨_,_,rfl,rfl,.here so .int⟩
  | _=>cases e
 | str=>cases ry with
  | str=>
   dsimp only[gf,wt]at e;split at e
   ·cases e; exact OpR.go sZ I ru rv ⟨_,_,rfl,rfl,by assumption,.here so .str⟩
   ·cases e
  | _=>cases e
 | tup h1 r1=>cases ry with
  | tup h2 r2=>
   obtain⟨hl,rfl,rfl⟩:=uN (show tw S _=_ from e)
   rw[Ks,r1.length,r2.length]at hl;refine OpR.go BG I ru rv ⟨_,_,_,_,rfl,rfl,h1,h2,hl,λz=>?_,λz=>?_,λp hp=>.tup so (r1.append r2) hp⟩
   ·have z':=r1.nil_iff.mp z;subst z';exact .here so (.tup h2 r2)
   ·have z':=r2.nil_iff.mp z;subst z';rw[MH];exact .here so (.tup h1 r1)
  | _=>cases e
 | ref h1=>cases ry with
  | ref h2=>
   dsimp only[gf,wt]at e;split at e
   ·obtain⟨hl,rfl,rfl⟩:=kT e;obtain⟨vs,q1,r1⟩:=eF so (by assumption) h1
    obtain⟨us,q2,r2⟩:=eF so (by assumption) h2
    rw[Ks,r1.length,r2.length]at hl;exact OpR.go Ez I ru rv ⟨_,_,_,_,rfl,rfl,q1,q2,hl,λp hp=>.lst so (r1.append r2) hp⟩
   ·cases e
  | _=>cases e
 | _=>cases e
theorem qZ {f:Kd->Kd->Tp Kd}{c:Ky->Ky->KP}{g:Ky->Ky->Ky}{r:R2}(h:OpR X f r)(hr:∀i j H Q,c i j=true->Q (.int (g i j)) H->r (.int i) (.int j) H Q):LOp X f (AY c g):=by
 intro pins s σ H A S x y a b u v w S' I so rx ru ry rv e;cases rx with
 | int=>cases ry with
  | int=>
   unfold AY at e;dsimp only at e;split at e
   ·cases e; exact OpR.go h I ru rv (hr _ _ _ _ (by assumption) (.here so .int))
   ·cases e
  | _=>cases e
 | _=>cases e
theorem BI:LOp X (binaryOp .Sub) (gf .sub):=qZ Eg λ_ _ _ _ _ q=>⟨_,_,rfl,rfl,q⟩
theorem BJ {i j:Ky}(h:wq i j=true):CMul i j:=by
 unfold wq at h;rw[Mc,Kj,Kj,KG,KG,KG,KG]at h;exact h
theorem BK:LOp X (binaryOp .Mult) (gf .mul):=by
 have hI:LOp X (binaryOp .Mult) (AY wq (· * ·)):=qZ Eh λ_ _ _ _ h q=>⟨_,_,rfl,rfl,BJ h,q⟩
 intro pins s σ H A S x y a b u v w S' I so rx ru ry rv e;cases x with
 | str z=>
  cases rx with
  | str=>cases ry with
   | int=>
    dsimp only[gf,yj]at e;split at e
    ·rename_i hc;cases e; exact OpR.go tz I ru rv ⟨_,_,rfl,rfl,yk (by omega) (by omega) hc.2.2,.here so .str⟩
    ·cases e
   | _=>cases e
 | ref z=>
  cases rx with
  | ref h1=>cases ry with
   | int=>
    dsimp only[gf,yj]at e;split at e
    ·split at e
     ·rename_i hc;obtain⟨hl,rfl,rfl⟩:=kT e;obtain⟨vs,q1,r1⟩:=eF so (by assumption) h1
      rw[r1.length]at hc;exact OpR.go EA I ru rv ⟨_,_,_,rfl,rfl,q1,by omega,by omega,hc.2.2,λp hp=>.lst so (r1.rep _) hp⟩
     ·cases e
    ·cases e
   | _=>cases e
 | _=>exact hI _ _ _ _ _ _ _ _ _ _ _ _ _ _ I so rx ru ry rv e
theorem ym:LOp X (binaryOp .FloorDiv) (gf .fdiv):=qZ Bl λ_ _ _ _ h q=>⟨_,_,rfl,rfl,by
 unfold BC at h;rw[Kj,KG,KG]at h;exact h,q⟩
theorem BL:LOp X (binaryOp .Mod) (gf .mod):=qZ Ei λ_ _ _ _ h q=>⟨_,_,rfl,rfl,Lm h,q⟩
theorem BM:LOp X (binaryOp .Pow) (gf .pow):=qZ Ej λ_ _ _ _ h q=>⟨_,_,rfl,rfl,by
 unfold GD at h;rw[Kj,Kj,KG,KG,KG]at h;exact⟨h.1.1,h.1.2,h.2⟩,q⟩
theorem uO (o:BOp):LOp X (binaryOp o.py) (gf o):=by
 cases o
 ·exact BH
 ·exact BI
 ·exact BK
 ·exact ym
 ·exact BL
 ·exact BM
end
noncomputable def iB (f:W->W->Ki KP):J9 W->J9 W->Ki KP
 | [],[]=>ba true
 | [],_::_=>ba false
 | _::_,[]=>ba false
 | x::xs,y::ys=>match f x y,iB f xs ys with
  | some a,ba b=>ba (a&&b)
  | _,_=>gV
noncomputable def b2 (b:KP):Ky:=if b then 1 else 0
noncomputable def kh (S:aa):Kk->W->W->Ki KP
 | _,.non,y=>match y with
  | .non=>ba true
  | _=>gV
 | _,.bl a,y=>match y with
  | .bl b=>ba (a==b)
  | _=>gV
 | _,.int a,y=>match y with
  | .int b=>ba (a==b)
  | _=>gV
 | _,.str a,y=>match y with
  | .str b=>ba (a==b)
  | _=>gV
 | 0,_,_=>gV
 | d+1,.tup xs,y=>match y with
  | .tup ys=>iB (kh S d) xs ys
  | _=>gV
 | d+1,.ref i,y=>match y with
  | .ref j=>match pE S i,pE S j with
   | some xs,ba ys=>if xs.length=ys.length then iB (kh S d) xs ys else ba false
   | _,_=>gV
  | _=>gV
section
variable{X:Cx}{pins:J9 (Kl×LZ)}{σ:L2.St}{H:Hp}{s:Kg}{A:J9 Kl}{S:aa}
noncomputable def RU (K:Kr)(A:J9 Kl)(H:Hp)(w:W)(u:Kd):Prop:=∃v,Rel K A H w v/\RelV v u
theorem uP {ws:J9 W}{vs:J9 V}{us:J9 Kd}(r:RelL X.K A H ws vs)(q:Vals vs us):∀(j:Kk) (h1:j < ws.length) (h2:j < us.length),RU X.K A H ws[j] us[j]:=by
 induction ws generalizing vs us with
 | nil=>intro j h1; simp at h1
 | cons w ws ih=>
  cases r with
  | cons r1 rr=>
   cases q with
   | cons q1 qq=>
    intro j h1 h2;cases j with
    | zero=>exact⟨_,r1,q1⟩
    | succ j=>exact ih rr qq j (by simpa using h1) (by simpa using h2)
theorem yn {ws:J9 W}{u:Kd}(I:Inv X pins σ H s)(h:RU X.K A H (.tup ws) u):∃a its,u=.ref a/\Q8 s.heap a its/\its.size=ws.length/\ws.length<=sizeLine/\∀(j:Kk) (h1:j < ws.length) (h2:j < its.size),RU X.K A H ws[j] its[j]:=by
 obtain⟨v,r,q⟩:=h;cases r with
 | tup sq rl=>
  obtain⟨its,rv,ht,hz⟩:=I.tuple sq;refine⟨_,its.toArray,q,ht,by rw[Kv,<- rv.length,rl.length],by rw[rl.length]; exact hz,λj h1 h2=>?_⟩
  have:=uP rl rv j h1 (by simpa using h2)
  simpa using this
theorem yo {i:Kk}{ws:J9 W}{u:Kd}(I:Inv X pins σ H s)(so:StoreOk X.w X.K A H S)(e:pE S i=ba ws)(h:RU X.K A H (.ref i) u):∃a its,u=.ref a/\A[i]?=ba a/\s.heap.IsList a its/\its.size=ws.length/\ws.length<=sizeLine/\∀(j:Kk) (h1:j < ws.length) (h2:j < its.size),RU X.K A H ws[j] its[j]:=by
 obtain⟨v,r,q⟩:=h;cases r with
 | ref ea=>
  obtain⟨vs,hq,rl⟩:=eF so e ea;obtain⟨its,rv,ht,hz⟩:=I.list (.of hq);refine⟨_,its.toArray,q,ea,ht.isList,by rw[Kv,<- rv.length,rl.length],by rw[rl.length]; exact hz,λj h1 h2=>?_⟩
  have:=uP rl rv j h1 (by simpa using h2)
  simpa using this
theorem lu {f:W->W->Ki KP}:∀ {xs ys:J9 W} {k:KP},iB f xs ys=ba k->∃e:Kk->KP,(∀(j:Kk) (h1:j < xs.length) (h2:j < ys.length),f xs[j] ys[j]=ba (e j))/\
  k=((KS (min xs.length ys.length)).all e&&xs.length==ys.length)
 | [],[],k,h=>⟨λ_=>true,λj h1=>by simp at h1,by cases h; rfl⟩
 | [],_::_,k,h=>⟨λ_=>true,λj h1=>by simp at h1,by cases h; simp⟩
 | _::_,[],k,h=>⟨λ_=>true,λj h1 h2=>by simp at h2,by cases h; simp⟩
 | x::xs,y::ys,k,h=>by
  dsimp only[iB]at h;split at h
  ·rename_i a b ha hb;cases h;obtain⟨e,h1,h2⟩:=lu hb;refine⟨λj=>match j with|0=>a|j+1=>e j,λj hj1 hj2=>?_,?_⟩
   ·cases j with
    | zero=>exact ha
    | succ j=>exact h1 j (by simpa using hj1) (by simpa using hj2)
   ·subst h2;simp only[Li,Nat.add_min_add_right,PN,Lu,Tc,Bool.and_assoc];congr 2;simp
  ·cases h
theorem BN (I:Inv X pins σ H s)(so:StoreOk X.w X.K A H S):∀(d:Kk) {x y:W} {v:V} {k:KP},Rel X.K A H x v->Rel X.K A H y v->kh S d x y=ba k->k=true:=by
 intro d
 induction d with
 | zero=>
  intro x y v k rx ry e;cases rx with
  | non=>cases ry; cases e; rfl
  | bl=>cases ry; cases e; exact Lp _
  | int=>cases ry; cases e; exact Lp _
  | str=>cases ry; cases e; exact Lp _
  | tup _ _=>cases e
  | ref _=>cases e
 | succ d ih=>
  have lists:∀ {xs ys:J9 W} {vs:J9 V} {k:KP},RelL X.K A H xs vs->RelL X.K A H ys vs->iB (kh S d) xs ys=ba k->k=true:=by
   intro xs
   induction xs with
   | nil=>
    intro ys vs k r1 r2 e;cases r1; cases r2; cases e; rfl
   | cons x xs ihx=>
    intro ys vs k r1 r2 e;cases r1 with
    | cons p1 q1=>
     cases r2 with
     | cons p2 q2=>
      dsimp only[iB]at e;split at e
      ·rename_i a b ha hb;cases e;rw[ih p1 p2 ha,ihx q1 q2 hb];rfl
      ·cases e
  intro x y v k rx ry e;cases rx with
  | non=>cases ry; cases e; rfl
  | bl=>cases ry; cases e; exact Lp _
  | int=>cases ry; cases e; exact Lp _
  | str=>cases ry; cases e; exact Lp _
  | tup h1 r1=>
   cases ry with
   | tup h2 r2=>
    rw[I.tuple_inj h1 h2]at r1;exact lists r1 r2 e
   | ref ea=>cases e
  | ref ea=>
   cases ry with
   | tup h2 r2=>cases e
   | ref eb=>
    dsimp only[kh]at e;split at e
    ·rename_i xs ys hx hy;have:=so.nd _ _ _ _ _ (lr hx) rfl (lr hy) rfl ea eb;subst this;rw[hx]at hy; cases hy
     rw[KJ rfl]at e;obtain⟨vs,q,r⟩:=eF so hx ea;exact lists r r e
    ·cases e
theorem aR (A:K9):A.in1.units=A.units+1:=rfl
noncomputable abbrev F0 (B:K9)(s:Kg)(u v:Kd)(k:KP):Prop:=SeqAt.RcAt B s u v k/\SeqAt.RcNeAt B s u v (!k)/\Ou B s u v k
open SeqAt in
theorem Dj (I:Inv X pins σ H s)(so:StoreOk X.w X.K A H S):∀(d:Kk) (B:K9) {x y:W} {u v:Kd} {k:KP},B.units+d < cLine->RU X.K A H x u->RU X.K A H y v->kh S d x y=ba k->F0 B s u v k:=by
 have non:∀ {B:K9} {y:W} {u v:Kd} {k:KP} {d:Kk},RU X.K A H .non u->RU X.K A H y v->kh S d .non y=ba k->F0 B s u v k:=by
  intro B y u v k d ⟨_,rx,ra⟩ ⟨_,ry,rb⟩ e;cases rx;cases(show u=Ll from ra)
  cases y with
  | non=>
   have e:ba (true)=ba k:=by cases d <;> exact e
   cases e;cases ry;cases(show v=Ll from rb)
   exact⟨.none_none,.none_none,.same _⟩
  | _=>cases d <;> cases e
 have bl:∀ {B:K9} {b:KP} {y:W} {u v:Kd} {k:KP} {d:Kk},RU X.K A H (.bl b) u->RU X.K A H y v->kh S d (.bl b) y=ba k->F0 B s u v k:=by
  intro B b y u v k d ⟨_,rx,ra⟩ ⟨_,ry,rb⟩ e;cases rx;cases(show u=NE _ from ra)
  cases y with
  | bl c=>
   have e:ba (b==c)=ba k:=by cases d <;> exact e
   cases e;cases ry;cases(show v=NE _ from rb)
   exact⟨.bool_bool _ _,.bool_bool _ _,.bool_bool _ _⟩
  | _=>cases d <;> cases e
 have int:∀ {B:K9} {b:Ky} {y:W} {u v:Kd} {k:KP} {d:Kk},RU X.K A H (.int b) u->RU X.K A H y v->kh S d (.int b) y=ba k->F0 B s u v k:=by
  intro B b y u v k d ⟨_,rx,ra⟩ ⟨_,ry,rb⟩ e;cases rx;obtain⟨t0,rfl⟩ : ∃t,u=Pu _ t:=ra;cases y with
  | int c=>
   have e:ba (b==c)=ba k:=by cases d <;> exact e
   cases e;cases ry;obtain⟨t,rfl⟩ : ∃t,v=Pu _ t:=rb;exact⟨.int_int _ _ _ _,.int_int _ _ _ _,.int_int _ _ _ _⟩
  | _=>cases d <;> cases e
 have str:∀ {B:K9} {b:KF} {y:W} {u v:Kd} {k:KP} {d:Kk},RU X.K A H (.str b) u->RU X.K A H y v->kh S d (.str b) y=ba k->F0 B s u v k:=by
  intro B b y u v k d ⟨_,rx,ra⟩ ⟨_,ry,rb⟩ e;cases rx;obtain⟨t0,rfl⟩ : ∃t,u=Ot _ t:=ra;cases y with
  | str c=>
   have e:ba (b==c)=ba k:=by cases d <;> exact e
   cases e;cases ry;obtain⟨t,rfl⟩ : ∃t,v=Ot _ t:=rb;exact⟨.str_str _ _ _ _,.str_str _ _ _ _,.str_str _ _ _ _⟩
  | _=>cases d <;> cases e
 intro d
 induction d with
 | zero=>
  intro B x y u v k hu rx ry e;cases x with
  | non=>exact non rx ry e
  | bl b=>exact bl rx ry e
  | int b=>exact int rx ry e
  | str b=>exact str rx ry e
  | _=>cases e
 | succ d ih=>
  intro B x y u v k hu rx ry e;have hu0:B.units < cLine:=by omega
  have hu1:B.in1.units+d < cLine:=by rw[aR]; omega
  have rx0:=rx;have ry0:=ry;have fin:∀ {a b:Kl},u=.ref a->v=.ref b->RcAt B s u v k->RcNeAt B s u v (!k)->F0 B s u v k:=by
   intro a b ea eb h1 h2;subst ea eb;refine⟨h1,h2,?_⟩
   by_cases hab:a=b
   ·subst hab;obtain⟨v1,q1,z1⟩:=rx0;obtain⟨v2,q2,z2⟩:=ry0;have e12:v1=v2:=z1.inj z2;subst e12;have:=BN I so (d+1) q1 q2 e;subst this;exact EqAt.same _
   ·exact EqAt.of_refs hab h1
  cases x with
  | non=>exact non rx ry e
  | bl b=>exact bl rx ry e
  | int b=>exact int rx ry e
  | str b=>exact str rx ry e
  | tup xs=>
   cases y with
   | tup ys=>
    obtain⟨a,its,rfl,ht,hs,_,hi⟩:=yn I rx;obtain⟨b,its2,rfl,ht2,hs2,_,hi2⟩:=yn I ry;obtain⟨f,h1,h2⟩:=lu (show iB (kh S d) xs ys=ba k from e)
    have he:∀j (h1:j < its.size) (h2:j < its2.size),EqAt B.in1 s its[j] its2[j] (f j):=λj j1 j2=>
     (ih B.in1 hu1 (hi j (hs ▸ j1) j1) (hi2 j (hs2 ▸ j2) j2) (h1 j (hs ▸ j1) (hs2 ▸ j2))).2.2
    rw[<- hs,<- hs2]at h2;subst h2;exact fin rfl rfl (RcAt.tuples ht ht2 hu0 he) (RcNeAt.tuples ht ht2 hu0 he)
   | _=>cases e
  | ref i=>
   cases y with
   | ref j=>
    dsimp only[kh]at e;split at e
    ·rename_i ws ws2 hw hw2;obtain⟨a,its,rfl,_,hl,hs,_,hi⟩:=yo I so hw rx;obtain⟨b,its2,rfl,_,hl2,hs2,_,hi2⟩:=yo I so hw2 ry;split at e
     ·rename_i hlen;obtain⟨f,h1,h2⟩:=lu e;have he:∀j (h1:j < its.size) (h2:j < its2.size),EqAt B.in1 s its[j] its2[j] (f j):=λj j1 j2=>
       (ih B.in1 hu1 (hi j (hs ▸ j1) j1) (hi2 j (hs2 ▸ j2) j2) (h1 j (hs ▸ j1) (hs2 ▸ j2))).2.2
      have hk:k=(KS its.size).all f:=by rw[h2,hs,hlen]; simp
      subst hk;exact fin rfl rfl (RcAt.lists hl hl2 (by rw[hs,hs2,hlen]) hu0 he) (RcNeAt.lists hl hl2 (by rw[hs,hs2,hlen]) hu0 he)
     ·rename_i hlen;cases e;have hb:(its.size != its2.size)=true:=by rw[hs,hs2]; simpa using hlen
      exact fin rfl rfl (RcAt.lists_lengths hl hl2 hb hu0) (RcNeAt.lists_lengths hl hl2 hb hu0)
    ·cases e
   | _=>cases e
end
noncomputable def Dk (fe fl:W->W->Ki KP):J9 W->J9 W->Ki KP
 | [],[]=>ba false
 | [],_::_=>ba true
 | _::_,[]=>ba false
 | x::xs,y::ys=>match fe x y with
  | some true=>Dk fe fl xs ys
  | some false=>fl x y
  | none=>gV
noncomputable def JZ (S:aa):Kk->W->W->Ki KP
 | _,.int a,.int b=>ba (decide (a < b))
 | _,.str a,.str b=>ba (decide (a.cps.toList < b.cps.toList))
 | d+1,.tup xs,.tup ys=>Dk (kh S d) (JZ S d) xs ys
 | _,_,_=>gV
noncomputable def LtAt (B:K9)(s:Kg)(u v:Kd)(k:KP):Prop:=
 ∀(prog:K1) (w:Lb) (E:Kd->Kg->Prop) (Q:Kd->Kg->Prop),Q (.bool k) s->wpAny (model prog w) B (richCompare .Lt u v) Q E s
inductive LexR (B:K9)(s:Kg):J9 Kd->J9 Kd->KP->Prop
 | nn:LexR B s [] [] false
 | nc {v:Kd} {vs:J9 Kd}:LexR B s [] (v::vs) true
 | cn {v:Kd} {vs:J9 Kd}:LexR B s (v::vs) [] false
 | eq {u v:Kd} {us vs:J9 Kd} {k:KP}:Ou B s u v true->LexR B s us vs k->LexR B s (u::us) (v::vs) k
 | ne {u v:Kd} {us vs:J9 Kd} {k:KP}:Ou B s u v false->LtAt B s u v k->LexR B s (u::us) (v::vs) k
section
open PySem.SeqAt
open PySem.AutoSeq1 (wpAny_loadPart')
open PySem.MeetsSeq PySem.MeetsSeq2 PySem.MeetsSeq3
theorem pG (l b:Kl)(items items2:KQ Kd)(n n2:Kk)(dd dd2:Ki Kl)(sl sl2:KQ (Ki Kd))(k:KP) :
  Meets (NA.«tuple.__lt__» ⟨[.ref l,.ref b],[]⟩)
   (λB R s=>s.heap.get? l=ba { cls:=.type "tuple",dict:=dd,data:=.seq items n,slots:=sl }/\s.heap.get? b=ba { cls:=.type "tuple",dict:=dd2,data:=.seq items2 n2,slots:=sl2 }/\
    LexR B.in1 s items.toList items2.toList k/\R (.ok (.ret (.bool k))) s):=
 .of_wp λprog w A R s h=>by
  obtain⟨hp,g,d,tk,os⟩:=s; obtain⟨hl,hb,hx,h⟩:=h
  have f2:=SK;have z1:items.toList.length=items.size:=by simp
  have z2:items2.toList.length=items2.size:=by simp
  wp_walk using OD hl,OD hb,NO _ (λbV b s'=>b.1=gV/\s'=⟨hp,g,d,tk,os⟩/\∃(vs ws:J9 Kd),bV=vs.zip ws/\
   LexR A.in1 ⟨hp,g,d,tk,os⟩ vs ws k/\vs.length+items2.size=ws.length+items.size) _
  case turn=>
   rintro⟨y,x⟩ bV b s' ⟨hb',rfl,vs,ws,hz,hlx,hlen⟩;cases hlx with
   | nn=>rw[Rm]at hz; cases hz
   | nc=>rw[Rm]at hz; cases hz
   | cn=>rw[List.zip_nil_right]at hz; cases hz
   | eq he hr=>
    rw[Np]at hz;injection hz with hyx hrest
    injection hyx with hy hx
    subst hy hx;simp only[Li]at hlen;refine Kb (he prog w _ _ ?_)
    wp_walk
    exact⟨rfl,rfl,_,_,hrest,hr,by omega⟩
   | ne he hr=>
    rw[Np]at hz;injection hz with hyx hrest
    injection hyx with hy hx
    subst hy hx;refine Kb (he prog w _ _ ?_);have hri:=hr prog w
    wp_walk using hri
    exact⟨_,rfl,by simpa using h⟩
  case fin=>
   rintro⟨b1,b2⟩ s' ⟨hb',rfl,vs,ws,hz,hlx,hlen⟩;simp only at hb';subst hb';have hv:k=decide (items.size < items2.size):=by
    cases hlx with
    | nn=>simp only[Mu]at hlen; exact(K5 (by omega)).symm
    | nc=>simp only[Mu,Li]at hlen; exact(L3 (by omega)).symm
    | cn=>simp only[Mu,Li]at hlen; exact(K5 (by omega)).symm
    | eq _ _=>rw[Np]at hz; cases hz
    | ne _ _=>rw[Np]at hz; cases hz
   subst hv
   wp_walk
   exact⟨_,rfl,by simpa [Rv]using h⟩
  case h=>
   exact⟨rfl,rfl,items.toList,items2.toList,rfl,hx,by omega⟩
end
theorem LtAt.tuples {B:K9}{s:Kg}{l b:Kl}{items items2:KQ Kd}{k:KP}(hl:Q8 s.heap l items)(hb:Q8 s.heap b items2)(hu:B.units < cLine)(hx:LexR B.in1 s items.toList items2.toList k) :
  LtAt B s (.ref l) (.ref b) k:=λprog w E Q h=>by
 obtain⟨⟨cls,dd,data,sl⟩,ho,hc,n,hd⟩:=id hl;obtain⟨⟨cls2,dd2,data2,sl2⟩,ho2,hc2,n2,hd2⟩:=id hb;simp only at hc hd hc2 hd2;subst hc hd hc2 hd2;exact richCompare_meets_room (op:=.Lt) ⟨_,ho,rfl⟩ ⟨_,ho2,rfl⟩ PySem.F.slot_tuple_lt PySem.F.entry_tuple_lt (PySem.F.args_tuple_lt_2 _ _) (pG l b items items2 n n2 dd dd2 sl sl2 k)
  ⟨ho,ho2,hx,show NE k≠Value.notImplemented/\Q (.bool k) s from⟨(λx=>nomatch x),h⟩⟩ hu
inductive COp where|eq|ne|lt|le|gt|ge|isin|notin|is|isnot
 deriving ND
noncomputable def COp.py:COp->SY
 | .eq=>.Eq|.ne=>.NotEq|.lt=>.Lt|.le=>.LtE|.gt=>.Gt|.ge=>.GtE|.isin=>.In|.notin=>.NotIn|.is=>.Is|.isnot=>.IsNot
noncomputable def cG:W->KP
 | .non=>true
 | .bl _=>true
 | .int _=>true
 | .str _=>true
 | _=>false
noncomputable def AZ:W->W->KP
 | .non,.non=>true
 | .bl a,.bl b=>a==b
 | .bl a,.int b=>b2 a==b
 | .int a,.bl b=>a==b2 b
 | .int a,.int b=>a==b
 | .str a,.str b=>a==b
 | _,_=>false
noncomputable def fD (S:aa):W->Ki (J9 W)
 | .tup xs=>ba xs
 | .ref i=>gc S i
 | _=>gV
noncomputable abbrev iC:Kk:=20
noncomputable def Dl (x y:W)(S:aa):Ki KP:=match fD S y with
 | some ys=>if cG x&&ys.all cG then ba (ys.any λz=>AZ z x)else gV
 | none=>gV
noncomputable def yp:W->KP
 | .non=>true
 | _=>false
noncomputable def yq (f:Ky->Ky->KP):W->W->Ki KP
 | .int i,.int j=>ba (f i j)
 | _,_=>gV
noncomputable def F1:COp->W->W->aa->Ki KP
 | .eq,x,y,S=>kh S iC x y
 | .ne,x,y,S=>(kh S iC x y).map (!·)
 | .lt,x,y,_=>yq (λi j=>decide (i < j)) x y
 | .le,x,y,_=>yq (λi j=>decide (i<=j)) x y
 | .gt,x,y,_=>yq (λi j=>decide (j < i)) x y
 | .ge,x,y,_=>yq (λi j=>decide (j<=i)) x y
 | .isin,x,y,S=>Dl x y S
 | .notin,x,y,S=>(Dl x y S).map (!·)
 | .is,x,y,_=>if yp y then ba (yp x)else gV
 | .isnot,x,y,_=>if yp y then ba (!yp x)else gV
noncomputable def iY (o:COp)(x y:W)(S:aa):Ki (W×aa):=(F1 o x y S).map λk=>(.bl k,S)
section
variable{X:Cx}
theorem uQ {pins:J9 (Kl×LZ)}{σ:L2.St}{H:Hp}{s:Kg}{A:J9 Kl}{S:aa}{k:KP}(I:Inv X pins σ H s)(so:StoreOk X.w X.K A H S):d4 X pins σ A H S (.bl k) (.bool k) s:=
 ⟨.bl k,H,A,I,rfl,.refl,so,.bl⟩
theorem BO {o:COp}{x y w:W}{S S':aa}(h:iY o x y S=ba (w,S')):∃k,F1 o x y S=ba k/\w=.bl k/\S'=S:=by
 unfold iY at h;rw[Kf]at h;obtain⟨k,h1,h2⟩:=h;cases h2;exact⟨k,h1,rfl,rfl⟩
theorem q8 {A:J9 Kl}{H:Hp}{w:W}{v:V}(r:Rel X.K A H w v)(f:cG w=true):ig v=true:=by
 cases r <;> first|rfl|cases f
theorem n0 {A:J9 Kl}{H:Hp}:∀ {ws:J9 W} {vs:J9 V},RelL X.K A H ws vs->ws.all cG=true->vs.all ig=true
 | _,_,.nil,_=>rfl
 | _,_,.cons r t,f=>by
  rw[Lu,Kj]at f ⊢;exact⟨q8 r f.1,n0 t f.2⟩
theorem BP {A:J9 Kl}{H:Hp}{x y:W}{u v:V}(r:Rel X.K A H x u)(q:Rel X.K A H y v)(fx:cG x=true)(fy:cG y=true):Bw u v=AZ x y:=by
 cases r <;> cases q <;> first|rfl|cases fx|cases fy
theorem uR {A:J9 Kl}{H:Hp}{y:W}{v:V}(q:Rel X.K A H y v)(fy:cG y=true):∀ {ws:J9 W} {vs:J9 V},RelL X.K A H ws vs->ws.all cG=true->HZ v vs=ws.any λz=>AZ z y
 | _,_,.nil,_=>rfl
 | _,_,.cons r t,f=>by
  rw[Lu,Kj]at f;have:=uR q fy t f.2;unfold HZ at this ⊢;rw[MO,MO,BP r q f.1 fy,this]
theorem pH {pins:J9 (Kl×LZ)}{σ:L2.St}{H:Hp}{s:Kg}{A:J9 Kl}{S:aa}{y:W}{b:V}{ys:J9 W}(so:StoreOk X.w X.K A H S)(r:Rel X.K A H y b)(e:fD S y=ba ys):∃p vs,b=.ref p/\(SqL X.K H p vs\/SqT X.K H p vs)/\RelL X.K A H ys vs:=by
 cases r with
 | tup h1 r1=>cases e; exact⟨_,_,rfl,.inr h1,r1⟩
 | ref ea=>
  obtain⟨vs,h1,r1⟩:=bO so e ea;exact⟨_,vs,rfl,.inl h1,r1⟩
 | _=>cases e
theorem yr {neg:KP}{o:SY}(ho:OpR X (compareOp o) (IW X.K neg)){pins:J9 (Kl×LZ)}{σ:L2.St}{H:Hp}{s:Kg}{A:J9 Kl}{S:aa}{x y:W}{a b:V}{u v:Kd}{ys:J9 W}(I:Inv X pins σ H s)(so:StoreOk X.w X.K A H S)
  (rx:Rel X.K A H x a) (ru:RelV a u) (ry:Rel X.K A H y b) (rv:RelV b v) (e:fD S y=ba ys) (f:(cG x&&ys.all cG)=true) :
  wpAny (model X.prog X.w) X.A (compareOp o u v) (d4 X pins σ A H S (.bl (if neg then !ys.any λz=>AZ z x else ys.any λz=>AZ z x))) X.xe s:=by
 obtain⟨p,vs,rfl,hq,rl⟩:=pH (pins:=pins) (σ:=σ) (s:=s) so ry e;rw[Kj]at f;refine OpR.go ho I ru rv ⟨p,vs,rfl,hq,q8 rx f.1,n0 rl f.2,?_⟩;rw[uR rx f.1 rl f.2];exact .here so .bl
theorem BQ (hu:X.A.units+iC < cLine)(o:COp):LOp X (compareOp o.py) (iY o):=by
 intro pins s σ H A S x y a b u v w S' I so rx ru ry rv e;obtain⟨k,ek,e1,e2⟩:=BO e;subst e1;subst e2;clear e
 rename aa=>S
 have twoI:∀ {f:Ky->Ky->KP},yq f x y=ba k->∃i j,x=.int i/\y=.int j/\k=f i j:=by
  intro f h;cases x with
  | int i=>cases y with
   | int j=>cases h; exact⟨i,j,rfl,rfl,rfl⟩
   | _=>cases h
  | _=>cases h
 have hu1:X.A.units+1 < cLine:=by have:iC=20:=rfl; omega
 have ofSq:∀ {c:KP},Dl x y S=ba c->(∃ys,fD S y=ba ys/\(cG x&&ys.all cG)=true/\c=ys.any λz=>AZ z x):=by
  intro c h;unfold Dl at h;split at h
  ·split at h
   ·cases h; exact⟨_,by assumption,by assumption,rfl⟩
   ·cases h
  ·cases h
 have ofN:∀ {c:KP},(if yp y then ba c else gV)=ba k->y=.non/\k=c:=by
  intro c h;cases y with
  | non=>cases h; exact⟨rfl,rfl⟩
  | _=>cases h
 cases o with
 | eq=>exact(Dj I so iC X.A hu ⟨a,rx,ru⟩ ⟨b,ry,rv⟩ ek).1 _ _ _ _ (uQ I so)
 | ne=>
  obtain⟨k',h1,rfl⟩:=Kf.mp ek;exact(Dj I so iC X.A hu ⟨a,rx,ru⟩ ⟨b,ry,rv⟩ h1).2.1 _ _ _ _ (uQ I so)
 | lt=>
  obtain⟨i,j,rfl,rfl,rfl⟩:=twoI ek;cases rx; cases ry
  exact OpR.go Gp I ru rv ⟨_,_,rfl,rfl,.here so .bl⟩
 | le=>
  obtain⟨i,j,rfl,rfl,rfl⟩:=twoI ek;cases rx; cases ry
  exact OpR.go Gq I ru rv ⟨_,_,rfl,rfl,.here so .bl⟩
 | gt=>
  obtain⟨i,j,rfl,rfl,rfl⟩:=twoI ek;cases rx; cases ry
  exact OpR.go Gr I ru rv ⟨_,_,rfl,rfl,.here so .bl⟩
 | ge=>
  obtain⟨i,j,rfl,rfl,rfl⟩:=twoI ek;cases rx; cases ry
  exact OpR.go Gs I ru rv ⟨_,_,rfl,rfl,.here so .bl⟩
 | isin=>
  obtain⟨ys,h1,h2,rfl⟩:=ofSq ek;exact yr (neg:=false) wj I so rx ru ry rv h1 h2
 | notin=>
  obtain⟨c,h,rfl⟩:=Kf.mp ek;obtain⟨ys,h1,h2,rfl⟩:=ofSq h;exact yr (neg:=true) pr I so rx ru ry rv h1 h2
 | is=>
  obtain⟨rfl,rfl⟩:=ofN ek;cases ry;refine OpR.go El I ru rv ⟨rfl,?_⟩;cases rx <;> exact .here so .bl
 | isnot=>
  obtain⟨rfl,rfl⟩:=ofN ek;cases ry;refine OpR.go Bm I ru rv ⟨rfl,?_⟩;cases rx <;> exact .here so .bl
end
end Mi
namespace HT
open PySem PyProof.Rows
section
variable{prog:K1}{w:Lb}{A:K9}{E:Kd->Kg->Prop}{s:Kg}
theorem gW {t sl:Kl}{items:KQ Kd}{vl vu:Kd}{lo hi:Ki Ky}{Q:Kd->Kg->Prop}(ht:Q8 s.heap t items)(hs:s.heap.IsSliceOf sl vl vu .none)(pl:OR vl lo)(pu:OR vu hi)
  (hw:cJ items.size 0 lo=0/\cJ items.size items.size hi=items.size) (h:Q (.ref t) s):wpAny (model prog w) A (getItem (.ref t) (.ref sl)) Q E s:=by
 obtain⟨os,hos,hcs,hds⟩:=id hs;have hTs:s.TypeIs (.ref sl) "slice":=⟨os,hos,hcs⟩;unfold getItem
 try with_reducible refine Ly ?_
 first|refine Kb (Kh ?_)|skip
 refine Kb (Rg ht.typeIs (by decide) ?_)
 refine Kb (Lz (name:=MA "__getitem__") ht.typeIs Mv
  (LA Mv ht.typeIs QC ?_ (QS _ _)))
 show wpAny _ _ (NG (.ref t) >>= _) _ _ s;refine Kb (SG ht ?_);refine Kb (No hTs ?_);rw[KJ (by decide)]
 refine Kb (fA hs pl pu ?_);have hyes:((((cJ items.size 0 lo:Kk):Ky)==0&&(1:Ky)==1&&(cJ items.size items.size hi - cJ items.size 0 lo)==items.size)=true):=by
  rw[hw.1,hw.2];simp
 show wpAny _ _ (if (((cJ items.size 0 lo:Kk):Ky)==0&&(1:Ky)==1&&(cJ items.size items.size hi - cJ items.size 0 lo)==items.size)=true then _ else _) _ _ s
 rw[KJ hyes];unfold Sq;refine Kb (Kb (No ht.typeIs (Kh ?_)));rw[KJ (by decide)]
 exact Kb (PK (Kb (Kh (Kh ⟨_,rfl,Kh h⟩))))
end
end HT
namespace Mi
open PySem PySem.Spec PyProof.Rows L2
noncomputable def wu (x y:W)(S:aa):Ki (W×aa):=match x,y with
 | .tup xs,.int i=>(qX xs i).map λw=>(w,S)
 | .ref r,.int i=>match gc S r with
  | some xs=>(qX xs i).map λw=>(w,S)
  | none=>gV
 | .str x,.int i=>if x.length<=sizeLine then(qX x.cps.toList i).map λc=>(.str ⟨[c].toArray⟩,S)else gV
 | _,_=>gV
noncomputable def jE (xs:J9 W)(lo hi:Ki Ky):J9 W:=(xs.drop (HT.cJ xs.length 0 lo)).take (HT.cJ xs.length xs.length hi - HT.cJ xs.length 0 lo)
noncomputable def ww (x:W)(lo hi:Ki Ky)(S:aa):Ki (W×aa):=match x with
 | .tup xs=>ba (.tup (jE xs lo hi),S)
 | .ref r=>match gc S r with
  | some xs=>ba (.ref S.length,S++[.lst (jE xs lo hi)])
  | none=>gV
 | _=>gV
noncomputable def wx (o i v:W)(S:aa):Ki aa:=match o,i with
 | .ref r,.int k=>match pE S r with
  | some xs=>match uK xs.length k with
   | some j=>ba (S.set r (.lst (xs.set j v)))
   | none=>gV
  | none=>gV
 | _,_=>gV
section
variable (X:Cx)
noncomputable def LIx (g:W->W->aa->Ki (W×aa)):Prop:=
 ∀(value slice:KN) (pins:J9 (Kl×LZ)) (s:Kg) (σ:L2.St) (H:Hp) (A:J9 Kl) (S:aa) (x y:W) (a b:V) (u v:Kd) (w:W) (S':aa),Inv X pins σ H s->StoreOk X.w X.K A H S->
  Rel X.K A H x a->RelV a u->Rel X.K A H y b->RelV b v->g x y S=ba (w,S')->subscripted slice false u v=operate [u,v] (getItem u v)->wpAny (model X.prog X.w) X.A (subscriptTail value slice u v) (d4 X pins σ A H S' w) X.xe s
noncomputable def LSl (g:W->Ki Ky->Ki Ky->aa->Ki (W×aa)):Prop:=
 ∀(pins:J9 (Kl×LZ)) (s:Kg) (σ:L2.St) (H:Hp) (A:J9 Kl) (S:aa) (x:W) (a:V) (v vl vu:Kd) (lo hi:Ki Ky) (sl:Kl) (w:W) (S':aa),Inv X pins σ H s->StoreOk X.w X.K A H S->
  Rel X.K A H x a->RelV a v->s.heap.IsSliceOf sl vl vu .none->OR vl lo->OR vu hi->g x lo hi S=ba (w,S')->
  ∃T id,typeLookup (.type T) "__getitem__" = pure (ba (.builtin id))/\s.TypeIs v T/\wpAny (model X.prog X.w) X.A (getItem v (.ref sl)) (d4 X pins σ A H S' w) X.xe s
noncomputable def LSet (g:W->W->W->aa->Ki aa):Prop:=
 ∀(pins:J9 (Kl×LZ)) (s:Kg) (σ:L2.St) (H:Hp) (A:J9 Kl) (S:aa) (o i x:W) (ao ai ax:V) (uo ui ux:Kd) (S':aa),Inv X pins σ H s->StoreOk X.w X.K A H S->
  Rel X.K A H o ao->RelV ao uo->Rel X.K A H i ai->RelV ai ui->Rel X.K A H x ax->RelV ax ux->g o i x S=ba S'->
  wpAny (model X.prog X.w) X.A (setItem uo ui ux) (λ_ s'=>∃H' A',Inv X pins σ H' s'/\Ext X.K A H A' H'/\StoreOk X.w X.K A' H' S') X.xe s
noncomputable def LCall (f:Kd)(g:J9 W->aa->Ki (W×aa)):Prop:=
 ∀(pins:J9 (Kl×LZ)) (s:Kg) (σ:L2.St) (H:Hp) (A:J9 Kl) (S:aa) (xs:J9 W) (vs:J9 V) (us:J9 Kd) (w:W) (S':aa),Inv X pins σ H s->StoreOk X.w X.K A H S->
  RelL X.K A H xs vs->Vals vs us->g xs S=ba (w,S')->wpAny (model X.prog X.w) X.A (call f us) (d4 X pins σ A H S' w) X.xe s
noncomputable def LMeth (id:LN)(g:W->J9 W->aa->Ki (W×aa)):Prop:=
 ∀(pins:J9 (Kl×LZ)) (s:Kg) (σ:L2.St) (H:Hp) (A:J9 Kl) (S:aa) (x:W) (a:V) (u:Kd) (xs:J9 W) (vs:J9 V) (us:J9 Kd) (w:W) (S':aa),Inv X pins σ H s->StoreOk X.w X.K A H S->
  Rel X.K A H x a->RelV a u->RelL X.K A H xs vs->Vals vs us->g x xs S=ba (w,S')->wpAny (model X.prog X.w) X.A (call (.builtin id) (u::us)) (d4 X pins σ A H S' w) X.xe s
end
section
variable{X:Cx}{pins:J9 (Kl×LZ)}{σ:L2.St}{H:Hp}{s:Kg}{A:J9 Kl}{S:aa}
theorem IxR.go {r:R2}(h:IxR X r){S':aa}{w:W}{a b:V}{u v:Kd}{value slice:KN}(I:Inv X pins σ H s)(ru:RelV a u)(rv:RelV b v)(q:r a b H (EndV X.w X.K A H S' w))(hs:subscripted slice false u v=operate [u,v] (getItem u v)) :
  wpAny (model X.prog X.w) X.A (subscriptTail value slice u v) (d4 X pins σ A H S' w) X.xe s:=bT (h value slice pins s σ H a b u v _ I ru rv q hs) λ_ _=>EP.post
theorem CallR.go {f:Kd}{r:J9 V->Hp->VK->Prop}(h:CallR X f r){S':aa}{w:W}{vs:J9 V}{us:J9 Kd}(I:Inv X pins σ H s)(rv:Vals vs us)(q:r vs H (EndV X.w X.K A H S' w)) :
  wpAny (model X.prog X.w) X.A (call f us) (d4 X pins σ A H S' w) X.xe s:=bT (h pins s σ H vs us _ I rv q) λ_ _=>EP.post
theorem MtR.go {id:LN}{r:V->J9 V->Hp->VK->Prop}(h:MtR X id r){S':aa}{w:W}{a:V}{u:Kd}{vs:J9 V}{us:J9 Kd}(I:Inv X pins σ H s)(ru:RelV a u)(rv:Vals vs us)(q:r a vs H (EndV X.w X.K A H S' w)) :
  wpAny (model X.prog X.w) X.A (call (.builtin id) (u::us)) (d4 X pins σ A H S' w) X.xe s:=bT (h pins s σ H a vs u us _ I ru rv q) λ_ _=>EP.post
theorem uS {xs:J9 W}{vs:J9 V}{i:Ky}{w:W}(r:RelL X.K A H xs vs)(e:qX xs i=ba w):∃v,qX vs i=ba v/\Rel X.K A H w v:=by
 unfold qX at e ⊢;rw[r.length]at e;cases q:uK vs.length i with
 | none=>rw[q]at e; cases e
 | some j=>
  rw[q]at e;obtain⟨v,h1,h2⟩:=r.get (show xs[j]?=ba w from e)
  exact⟨v,h1,h2⟩
theorem J0 (hu:X.A.units+10 < cLine):LIx X wu:=by
 intro value slice pins s σ H A S x y a b u v w S' I so rx ru ry rv e hs;cases rx with
 | tup h1 r1=>cases ry with
  | int=>
   (dsimp only[wu]at e; simp only[Kf]at e)
   obtain⟨w',e1,e2⟩:=e;cases e2;obtain⟨z,h2,r2⟩:=uS r1 e1;exact IxR.go Eu I ru rv ⟨_,_,_,_,rfl,rfl,h1,h2,.here so r2⟩ hs
  | _=>cases e
 | ref ea=>cases ry with
  | int=>
   dsimp only[wu]at e;split at e
   ·rename_i ws hw;rw[Kf]at e;obtain⟨w',e1,e2⟩:=e;cases e2;obtain⟨vs,h1,r1⟩:=bO so hw ea;obtain⟨z,h2,r2⟩:=uS r1 e1;exact IxR.go Bu I ru rv ⟨_,_,_,_,rfl,rfl,h1,h2,.here so r2⟩ hs
   ·cases e
  | _=>cases e
 | str=>cases ry with
  | int=>
   dsimp only[wu]at e;split at e
   ·rw[Kf]at e;obtain⟨c,e1,e2⟩:=e;cases e2;exact IxR.go Ev I ru rv ⟨_,_,_,rfl,rfl,by assumption,e1,.here so .str⟩ hs
   ·cases e
  | _=>cases e
 | _=>cases ry <;> cases e
theorem pI {xs:J9 W}{vs:J9 V}{lo hi:Ki Ky}(r:RelL X.K A H xs vs):RelL X.K A H (jE xs lo hi) (lq vs lo hi):=by
 unfold jE lq;rw[r.length];exact(r.drop _).take _
theorem BR:Gz X (λx lo hi H Q=>∃a xs,x=.ref a/\SqT X.K H a xs/\(lq xs lo hi=xs->Q (.ref a) H)/\∀p,H p=gV->Q (.ref p) (bZ H p (.tup (lq xs lo hi)))):=by
 intro pins s σ H x v vl vu lo hi sl Q I rx hs pl pu h;obtain⟨a,xs,rfl,hx,q0,q⟩:=h
 by_cases hw:(HT.cJ xs.length 0 lo=0/\HT.cJ xs.length xs.length hi=xs.length)
 ·cases rx;obtain⟨its,r,ht,hz⟩:=I.tuple hx;have hlen:its.toArray.size=xs.length:=by rw[Kv]; exact r.length.symm
  refine⟨"tuple",_,PyProof.Rows.slot_tuple_getitem.lookup,ht.typeIs,?_⟩;refine HT.gW ht hs pl pu (by rw[hlen]; exact hw) ⟨.ref a,H,I,rfl,q0 ?_⟩
  unfold lq;rw[hw.1,hw.2];simp
 ·exact Et pins s σ H (.ref a) v vl vu lo hi sl Q I rx hs pl pu ⟨a,xs,rfl,hx,hw,q⟩
theorem J1:LSl X ww:=by
 intro pins s σ H A S x a v vl vu lo hi sl w S' I so rx rv hs pl pu e;cases rx with
 | tup h1 r1=>
  cases e;obtain⟨T,id,z1,z2,z3⟩:=BR pins s σ H _ v vl vu lo hi sl (EndV X.w X.K A H S (.tup (jE _ lo hi))) I rv hs pl pu ⟨_,_,rfl,h1,λq=>.here so (.tup h1 (by have:=pI (lo:=lo) (hi:=hi) r1; rw[q]at this; exact this)),λp hp=>.tup so (pI r1) hp⟩
  exact⟨T,id,z1,z2,bT z3 λ_ _=>EP.post⟩
 | ref ea=>
  simp only[ww]at e;split at e
  ·rename_i ws hw;cases e;obtain⟨vs,h1,r1⟩:=bO so hw ea;obtain⟨T,id,z1,z2,z3⟩:=Bv pins s σ H _ v vl vu lo hi sl (EndV X.w X.K A H (S++[.lst (jE ws lo hi)]) (.ref S.length)) I rv hs pl pu ⟨_,_,rfl,h1,λp hp=>.lst so (pI r1) hp⟩
   exact⟨T,id,z1,z2,bT z3 λ_ _=>EP.post⟩
  ·cases e
 | _=>cases e
theorem lset (hu:X.A.units+10 < cLine):LSet X wx:=by
 intro pins s σ H A S o i x ao ai ax uo ui ux S' I so ro ruo ri rui rx rux e;cases ro with
 | ref ea=>cases ri with
  | int=>
   simp only[wx]at e;split at e
   ·rename_i ws hw;split at e
    ·rename_i j hj;cases e;obtain⟨vs,h1,r1⟩:=eF so hw ea;rw[r1.length]at hj;obtain⟨so',ex⟩:=so.write (lr hw) ea (r1.set rx j);exact bT (x5 pins s σ H _ _ _ uo ui ux (λH'=>H'=bZ H _ (.lst (vs.set j ax))) I ruo rui rux ⟨_,_,_,_,rfl,rfl,h1,hj,rfl⟩) λ_ s' ⟨H',I',e'⟩=>⟨_,A,e' ▸ I',ex,so'⟩
    ·cases e
   ·cases e
  | _=>cases e
 | _=>cases ri <;> cases e
noncomputable def tB (xs:J9 W)(S:aa):Ki (W×aa):=match xs with
 | [.tup ys]=>ba (.int ys.length,S)
 | [.str y]=>if y.length<=sizeLine then ba (.int y.length,S)else gV
 | [.ref i]=>(gc S i).map λys=>(.int ys.length,S)
 | _=>gV
theorem wy:LCall X (.builtin "len") tB:=by
 intro pins s σ H A S xs vs us w S' I so rl rv e;cases rl with
 | nil=>cases e
 | cons r t=>
  cases t with
  | cons _ _=>cases r <;> cases e
  | nil=>
   cases r with
   | tup h1 r1=>cases e; rw[r1.length]; exact CallR.go ll I rv ⟨_,_,rfl,.inr ⟨_,h1,rfl⟩,.here so .int⟩
   | str=>
    dsimp only[tB]at e;split at e
    ·cases e; exact CallR.go ll I rv ⟨_,_,rfl,⟨by assumption,rfl⟩,.here so .int⟩
    ·cases e
   | ref ea=>
    (dsimp only[tB]at e; simp only[Kf]at e)
    obtain⟨ws,hw,e2⟩:=e;cases e2;obtain⟨vs',h1,r1⟩:=bO so hw ea;rw[r1.length];exact CallR.go ll I rv ⟨_,_,rfl,.inl ⟨_,h1,rfl⟩,.here so .int⟩
   | _=>cases e
noncomputable def iZ (xs:J9 W)(S:aa):Ki (W×aa):=match xs with
 | [x]=>match fD S x with
  | some ys=>ba (.ref S.length,S++[.lst ys])
  | none=>gV
 | _=>gV
theorem iD:LCall X (.type "list") iZ:=by
 intro pins s σ H A S xs vs us w S' I so rl rv e;cases rl with
 | nil=>cases e
 | cons r t=>
  cases t with
  | cons _ _=>cases e
  | nil=>
   simp only[iZ]at e;split at e
   ·rename_i ys hy;cases e;obtain⟨p,vs',rfl,hq,r1⟩:=pH (pins:=pins) (σ:=σ) (s:=s) so r hy;exact CallR.go pA I rv ⟨p,vs',rfl,hq,λl hl=>.lst so r1 hl⟩
   ·cases e
noncomputable def lv (xs:J9 W)(S:aa):Ki (W×aa):=match xs with
 | [.tup ys]=>ba (.tup ys,S)
 | [.ref i]=>match gc S i with
  | some ys=>ba (.tup ys,S)
  | none=>gV
 | _=>gV
theorem ki:LCall X (.type "tuple") lv:=by
 intro pins s σ H A S xs vs us w S' I so rl rv e;cases rl with
 | nil=>cases e
 | cons r t=>
  cases t with
  | cons _ _=>cases r <;> cases e
  | nil=>
   cases r with
   | tup h1 r1=>cases e; exact CallR.go ii I rv ⟨_,_,rfl,.inr ⟨h1,.here so (.tup h1 r1)⟩⟩
   | ref ea=>
    dsimp only[lv]at e;split at e
    ·rename_i ys hy;cases e;obtain⟨vs',h1,r1⟩:=bO so hy ea;exact CallR.go ii I rv ⟨_,_,rfl,.inl ⟨h1,λl hl=>.tup so r1 hl⟩⟩
    ·cases e
   | _=>cases e
noncomputable def GH (xs:J9 W)(S:aa):Ki (W×aa):=match xs with
 | [.int i]=>ba (.int i,S)
 | [.bl b]=>ba (.int (if b then 1 else 0),S)
 | _=>gV
theorem wz:LCall X (.type "int") GH:=by
 intro pins s σ H A S xs vs us w S' I so rl rv e;cases rl with
 | nil=>cases e
 | cons r t=>
  cases t with
  | cons _ _=>cases r <;> cases e
  | nil=>
   cases r with
   | int=>cases e; exact CallR.go nS I rv (.inl ⟨_,rfl,.here so .int⟩)
   | bl=>cases e; exact CallR.go nS I rv (.inr ⟨_,rfl,.here so .int⟩)
   | _=>cases e
noncomputable def i3 (x:W)(xs:J9 W)(S:aa):Ki (W×aa):=match x,xs with
 | .ref i,[y]=>match pE S i with
  | some ys=>if ys.length < sizeLine then ba (.non,S.set i (.lst (ys++[y])))else gV
  | none=>gV
 | _,_=>gV
theorem gH {i:Kk}{p:Kl}{ws ws0:J9 W}{us:J9 V}(so:StoreOk X.w X.K A H S)(e:pE S i=ba ws0)(ea:A[i]?=ba p)(r:RelL X.K A H ws us){w:W}{v:V}(rw':Rel X.K A H w v) :
  EndV X.w X.K A H (S.set i (.lst ws)) w v (bZ H p (.lst us)):=by
 obtain⟨so',ex⟩:=so.write (lr e) ea r;exact⟨A,ex,so',rw'.mono ex⟩
theorem pJ:LMeth X "list.append" i3:=by
 intro pins s σ H A S x a u xs vs us w S' I so rx ru rl rv e;cases rx with
 | ref ea=>
  cases rl with
  | nil=>cases e
  | cons r t=>
   cases t with
   | cons _ _=>cases e
   | nil=>
    simp only[i3]at e;split at e
    ·rename_i ys hy;split at e
     ·rename_i hl;cases e;obtain⟨vs',h1,r1⟩:=eF so hy ea;rw[r1.length]at hl;exact MtR.go wl I ru rv ⟨_,_,_,rfl,rfl,h1,hl,gH so hy ea (r1.append (.cons r .nil)) .non⟩
     ·cases e
    ·cases e
 | _=>cases e
noncomputable def i4 (x:W)(xs:J9 W)(S:aa):Ki (W×aa):=match x,xs with
 | .ref i,[.ref j]=>match pE S i,pE S j with
  | some ys,ba zs=>if ys.length+zs.length<=sizeLine then ba (.non,S.set i (.lst (ys++zs)))else gV
  | _,_=>gV
 | _,_=>gV
theorem pK:LMeth X "list.extend" i4:=by
 intro pins s σ H A S x a u xs vs us w S' I so rx ru rl rv e;cases rx with
 | ref ea=>
  cases rl with
  | nil=>cases e
  | cons r t=>
   cases t with
   | cons _ _=>cases r <;> cases e
   | nil=>
    cases r with
    | ref eb=>
     dsimp only[i4]at e;split at e
     ·rename_i ys zs hy hz;split at e
      ·rename_i hl;cases e;obtain⟨vs',h1,r1⟩:=eF so hy ea;obtain⟨vs2,h2,r2⟩:=eF so hz eb;rw[r1.length,r2.length]at hl;exact MtR.go wn I ru rv ⟨_,_,_,_,rfl,rfl,h1,h2,hl,gH so hy ea (r1.append r2) .non⟩
      ·cases e
     ·cases e
    | _=>cases e
 | _=>cases e
noncomputable def EB (x:W)(xs:J9 W)(S:aa):Ki (W×aa):=match x,xs with
 | .ref i,[.int k]=>match pE S i with
  | some ys=>if -(2 ^ 63)<=k/\k < 2 ^ 63 then match seqIndex? k ys.length with
   | some j=>match ys[j]? with
    | some y=>ba (y,S.set i (.lst (ys.eraseIdx j)))
    | none=>gV
   | none=>gV
   else gV
  | none=>gV
 | _,_=>gV
theorem wD:LMeth X "list.pop" EB:=by
 intro pins s σ H A S x a u xs vs us w S' I so rx ru rl rv e;cases rx with
 | ref ea=>
  cases rl with
  | nil=>cases e
  | cons r t=>
   cases t with
   | cons _ _=>cases r <;> cases e
   | nil=>
    cases r with
    | int=>
     dsimp only[EB]at e;split at e
     ·rename_i ys hy;split at e
      ·rename_i hk;split at e
       ·rename_i j hj;split at e
        ·rename_i y hyj;cases e;obtain⟨vs',h1,r1⟩:=eF so hy ea;obtain⟨v',h2,r2⟩:=r1.get hyj;rw[r1.length]at hj;exact MtR.go yc I ru rv ⟨_,_,_,_,_,rfl,rfl,h1,hk.1,hk.2,hj,h2,gH so hy ea (r1.eraseIdx j) r2⟩
        ·cases e
       ·cases e
      ·cases e
     ·cases e
    | _=>cases e
 | _=>cases e
noncomputable def lw (x:W)(xs:J9 W)(S:aa):Ki (W×aa):=match x,xs with
 | .ref i,[]=>match pE S i with
  | some _=>ba (.non,S.set i (.lst []))
  | none=>gV
 | _,_=>gV
theorem kj:LMeth X "list.clear" lw:=by
 intro pins s σ H A S x a u xs vs us w S' I so rx ru rl rv e;cases rx with
 | ref ea=>
  cases rl with
  | cons _ _=>cases e
  | nil=>
   dsimp only[lw]at e;split at e
   ·rename_i ys hy;cases e;obtain⟨vs',h1,r1⟩:=eF so hy ea;exact MtR.go yd I ru rv ⟨_,_,rfl,rfl,h1,gH so hy ea .nil .non⟩
   ·cases e
 | _=>cases e
noncomputable def jF:J9 W->Ki (J9 KF)
 | []=>ba []
 | .str x::xs=>(jF xs).map (x :: ·)
 | _::_=>gV
noncomputable def uT (x:W)(xs:J9 W)(S:aa):Ki (W×aa):=match x,xs with
 | .str x,[y]=>match fD S y with
  | some ys=>match jF ys with
   | some zs=>if (zs.map (·.length)).sum+zs.length*x.length<=16777216 then ba (.str (Tx x zs),S)else gV
   | none=>gV
  | none=>gV
 | _,_=>gV
theorem lx:∀ {ws:J9 W} {vs:J9 V} {us:J9 Kd} {zs:J9 KF},RelL X.K A H ws vs->Vals vs us->jF ws=ba zs->StrsAre us zs
 | _,_,_,zs,.nil,.nil,e=>by cases e; exact .nil
 | _,_,_,zs,.cons r t,.cons q p,e=>by
  cases r with
  | str=>
   simp only[jF,Kf]at e;obtain⟨z,e1,e2⟩:=e;subst e2;obtain⟨tk,rfl⟩ : ∃t,_=Ot _ t:=q;exact .cons _ tk (lx t p e1)
  | _=>cases e
theorem tD:LMeth X "str.join" uT:=by
 intro pins s σ H A S x a u xs vs us w S' I so rx ru rl rv e;cases rx with
 | str=>
  cases rl with
  | nil=>cases e
  | cons r t=>
   cases t with
   | cons _ _=>cases e
   | nil=>
    simp only[uT]at e;split at e
    ·rename_i ys hy;split at e
     ·rename_i zs hz;split at e
      ·rename_i hl;cases e;obtain⟨p,vs',rfl,hq,r1⟩:=pH (pins:=pins) (σ:=σ) (s:=s) so r hy;obtain⟨t0,rfl⟩ : ∃t,u=Ot _ t:=ru;obtain⟨u1,rfl,ru1⟩:=nR rv;have ru1':u1=K4 p:=ru1;subst ru1';rcases hq with hq|hq
       ·obtain⟨its,rr,pl,hz'⟩:=I.list hq;exact join_list pl.isList (by simpa using lx r1 rr hz) hl λt' k=>⟨.str _,H,A,I.tok _,⟨_,rfl⟩,.refl,so,.str⟩
       ·obtain⟨its,rr,pl,hz'⟩:=I.tuple hq;exact join_tuple pl (by simpa using lx r1 rr hz) hl λt' k=>⟨.str _,H,A,I.tok _,⟨_,rfl⟩,.refl,so,.str⟩
      ·cases e
     ·cases e
    ·cases e
 | _=>cases e
noncomputable def iE (S:aa):W->Ki KP
 | .non=>ba false
 | .bl b=>ba b
 | .int i=>ba (i != 0)
 | .str y=>if y.length<=sizeLine then ba ((y.length:Ky) != 0)else gV
 | .tup xs=>ba (!xs.isEmpty)
 | .ref i=>(gc S i).map λxs=>!xs.isEmpty
theorem km {ws:J9 W}{vs:J9 V}(r:RelL X.K A H ws vs):(!ws.isEmpty) = !vs.isEmpty:=by cases r <;> rfl
theorem Ja {x:W}{a:V}{u:Kd}{k:KP}{Q:KP->Kg->Prop}(I:Inv X pins σ H s)(so:StoreOk X.w X.K A H S)(rx:Rel X.K A H x a)(ru:RelV a u)(e:iE S x=ba k)(hq:∀s',Inv X pins σ H s'->Q k s') :
  wpAny (model X.prog X.w) X.A (truthy u) Q X.xe s:=by
 refine bT (Em pins s σ H a u (λb H'=>b=k/\H'=H) I ru ⟨k,?_,rfl,rfl⟩) λb s' ⟨H',I',e1,e2⟩=>?_
 ·cases rx with
  | non=>cases e; rfl
  | bl=>cases e; rfl
  | int=>cases e; rfl
  | str=>
   simp only[iE]at e;split at e
   ·cases e; exact⟨by assumption,rfl⟩
   ·cases e
  | tup h1 r1=>cases e; exact .inr (.inl ⟨_,h1,km r1⟩)
  | ref ea=>
   simp only[iE,Kf]at e;obtain⟨ws,hw,e2⟩:=e;subst e2;obtain⟨vs,h1,r1⟩:=bO so hw ea;exact .inl ⟨_,h1,km r1⟩
 ·subst e1 e2;exact hq s' I'
end
noncomputable def cO (w:Lb):LZ:={ cls:=.type "set",dict:=gV,data:=.set #[] 0 (.fresh 0 0 (!fB w)) }
section
variable{prog:K1}{w:Lb}{A:K9}{E:Kd->Kg->Prop}{s:Kg}{R:Rz->Kg->Prop}{I:Kl}{fp wr:J9 Kl}{G:KQ Qi->KQ Qi->Prop}{n:Kk}{P:Kk->Kd->Prop}{St:Kk->Kg->Prop}
theorem yt (a:Kd){Q₁:Kd->Kg->Prop}(h:Q₁ (.ref s.heap.objs.size) { s with heap:=s.heap.push (cO w) }):codeAny (model prog w) A (.call (.builtin "set.__new__") ⟨[.type "set",a],[]⟩) (wants Q₁ E) s:=by
 refine P2 ?_;show wpAny _ A.in1 (checkBuiltinCall "set.__new__" ⟨[.type "set",a],[]⟩ >>= λ_=>again (.builtin "set.__new__" ⟨[.type "set",a],[]⟩)) _ _ s
 refine Kb (Oc (F.newCall_set_1 a) (Kh ⟨Mp F.plain_set_new _,LB F.entry_set_new ?_⟩));rw[Ls F.plain_set_new _];unfold NA.«set.__new__» Sr;have hsub:=QU;obtain⟨hp,g,d,tk,os⟩:=s;dsimp only
 wp_walk
 refine Nh (Kh ?_);dsimp only;simp only[newObj];exact Kb (Tz (Kh (Kh h)))
end
theorem gh:Slot "set_iterator" "__next__" "set_iterator.__next__":=.of (owner:="set_iterator") (n:="__next__") (by rw[R1,P8]; kernel_rfl) (by decide +kernel) (by decide +kernel) (by decide +kernel) (by first|exact .inl (by decide +kernel)|exact .inr (by decide +kernel)) (by rw[Su]; kernel_rfl)
theorem q9:Slot "set_iterator" "__iter__" "set_iterator.__iter__":=.of (owner:="set_iterator") (n:="__iter__") (by rw[R1,P8]; kernel_rfl) (by decide +kernel) (by decide +kernel) (by decide +kernel) (by first|exact .inl (by decide +kernel)|exact .inr (by decide +kernel)) (by rw[Su]; kernel_rfl)
theorem wF:entryFor table "set_iterator.__next__" = ba NA.«set_iterator.__next__»:=entryFor_of_tree (by kernel_rfl)
theorem tF:entryFor table "set.__iter__" = ba NA.«frozenset.__iter__»:=Sv (id':="frozenset.__iter__") (by kernel_rfl) rfl (by decide +kernel) (by kernel_rfl)
theorem yu (a:Kd):argsOk "set_iterator.__next__" ⟨[a],[]⟩:=by unfold argsOk; kernel_rfl
section
variable{α:Type}{prog:K1}{w:Lb}{A:K9}{E:Kd->Kg->Prop}{s:Kg}
theorem wH {src:Source}{n:Kk}{Q:Kk->Kg->Prop}(hn:n≠0)(h:∀i dr,i < n->Q i { s with drawn:=dr }):wpAny (model prog w) A (choose src n) Q E s:=λ_ _ _=>⟨hn,h _ _ (PP _ (Nat.pos_of_ne_zero hn))⟩
theorem ly:∀ {l:J9 α} {i:Kk} (h:i < l.length),(l[i]::l.eraseIdx i).Perm l
 | x::l,0,_=>.refl _
 | x::l,i+1,h=>(Um _ _ _).trans ((ly (l:=l) (i:=i) (by simpa using h)).cons x)
theorem lz:∀(n:Kk) (xs:J9 α) {s:Kg} {Q:J9 α->Kg->Prop},xs.length=n->(∀ys dr,ys.Perm xs->Q ys { s with drawn:=dr })->wpAny (model prog w) A (drawOrder n xs) Q E s
 | 0,xs,s,Q,hl,h=>by
  obtain rfl:=LY.mp hl;exact Kh (h [] s.drawn .nil)
 | n+1,[],s,Q,hl,h=>by cases hl
 | n+1,x::xs,s,Q,hl,h=>by
  unfold drawOrder;refine Kb (wH (by simp) λi dr hi=>?_)
  rw[Ko hi];dsimp only;refine Kb (lz n _ (by rw[OU hi,hl]; rfl) λys dr' hp=>Kh (h _ dr' ?_))
  exact(hp.cons _).trans (ly hi)
theorem uU {next:Kk->Kk}:∀(f k:Kk) (left:J9 α) (out:KQ α),f=left.length->(pickOrder.go next f k left out).toList.Perm (out.toList++left)
 | 0,k,left,out,h=>by
  obtain rfl:=LY.mp h.symm;simp[pickOrder.go]
 | f+1,k,left,out,h=>by
  unfold pickOrder.go;have hp:0 < left.length:=by omega
  have hi:next k % left.length < left.length:=PP _ hp;rw[Ko hi];dsimp only;refine(uU f (k+1) _ _ (by rw[OU hi]; omega)).trans ?_
  rw[Pd,MZ];exact(ly hi).append_left _
theorem gI {next:Kk->Kk}{xs:KQ α}:(pickOrder next xs).toList.Perm xs.toList:=by
 have:=uU (next:=next) xs.size 0 xs.toList #[] (by simp)
 simpa [pickOrder]using this
noncomputable def SIt (I:Kl)(f r:Kd)(i n ep:Kk)(h:Lj):Prop:=h.get? I=ba { cls:=.type "set_iterator",data:=.fields [f,.int i 0,r,.int n 0,.int ep 0].toArray }
theorem SIt.type {I:Kl}{f r:Kd}{i n ep:Kk}(x:SIt I f r i n ep s.heap):s.TypeIs (.ref I) "set_iterator":=⟨_,x,rfl⟩
theorem rc {I:Kl}{Q:Ki Kd->Kg->Prop}{f r:Kd}{i n ep:Kk}(x:SIt I f r i n ep s.heap)(h:wpAny (model prog w) A.in1 (NA.«set_iterator.__next__» ⟨[.ref I],[]⟩) (λfin s'=>∃v,fin=.done (.ret v)/\Q (ba v) s') (λe s'=>wpAny (model prog w) A (do if <- isInstance e (.type "StopIteration")then pure gV else throw e) Q E s') s):wpAny (model prog w) A (pyNext (.ref I)) Q E s:=by
 unfold pyNext;refine Kb (OA (Lz (name:=MA "__next__") x.type gh (LA gh x.type wF ?_ (yu _))));exact Mj h (λ_ _ ⟨v,e,q⟩=>⟨v,e,Kh q⟩) λ_ _ q=>q
noncomputable def GJ (prog:K1)(w:Lb)(A:K9)(Q:Ki Kd->Kg->Prop)(E:Kd->Kg->Prop)(e:Kd)(s':Kg):Prop:=wpAny (model prog w) A (do if <- isInstance e (.type "StopIteration")then pure gV else throw e) Q E s'
theorem re {Q:Ki Kd->Kg->Prop}{Q2:Ua->Kg->Prop}(hh:A.handled=gV)(h:∀h',(∀b o,s.heap.get? b=ba o->h'.get? b=ba o)->Q gV { s with heap:=h' }):wpAny (model prog w) A.in1 (newExc (.type "StopIteration") [] >>= λx=>raiseNew x) Q2 (GJ prog w A Q E) s:=by
 refine Kb ?_;simp only[newExc,newTuple];refine Kb (Lc ?_ (by size_fits))
 refine Kb (m:=firstArgMember _ _) (Oc (a:=Ll) (by first|rfl|(simp only[firstArgMember]; rfl)) ?_)
 refine Lc ?_ (by size_fits)
 simp only[raiseNew];refine Kb (QJ ?_);rw[show A.in1.handled=gV from hh]
 refine Kb (Kh (RS ?_));refine Kb (NP (T:="StopIteration") (b:=true) ⟨_,Ku _ rfl,rfl⟩ Qk ?_);exact Kh (h _ λb o e=>Ke _ (Ke _ e))
section
variable{I a:Kl}{f r:Kd}{i n ep sl:Kk}{o:LZ}{es:KQ (Ky×Kd)}{t:LG}{Q:Ki Kd->Kg->Prop}
theorem gJ {Q:Unit->Kg->Prop}{vs:KQ Kd}{k:Kk}{v:Kd}(x:s.heap.get? I=ba { cls:=.type "set_iterator",data:=.fields vs })(hk:k < vs.size)(h:∀h',h'.get? I=ba { cls:=.type "set_iterator",data:=.fields (vs.setIfInBounds k v) }->Mq I s.heap h'->Q () { s with heap:=h' }):wpAny (model prog w) A (setField (.ref I) k v) Q E s:=Nq x hk h
theorem gK (x:SIt I (.int sl 0) (.ref a) i n ep s.heap)(ho:s.heap.get? a=ba o)(hd:o.data=.set es ep t)(hf:t.fits es.size=true)(hn:es.size=n)(hh:A.handled=gV){rs:Ki (Kd×Kk)}
  (hx:∀Q':Ki (Kd×Kk)->Kg->Prop,Q' rs s->wpAny (model prog w) A.in1 (setNext a sl i ep) Q' (GJ prog w A Q E) s)
  (h1:∀v sl',rs=ba (v,sl')->∀h',SIt I (.int sl' 0) (.ref a) (i+1) n ep h'->(∀b o,b≠I->s.heap.get? b=ba o->h'.get? b=ba o)->Q (ba v) { s with heap:=h' })
  (h2:rs=gV->∀h',(∀b o,b≠I->s.heap.get? b=ba o->h'.get? b=ba o)->Q gV { s with heap:=h' }):wpAny (model prog w) A (pyNext (.ref I)) Q E s:=by
 refine rc x ?_;refine Kb (Kh ?_);show wpAny _ _ (fieldsOf (.ref I) >>= _) _ _ s;refine Kb (OV x rfl ?_);refine Kb (OI ho hd hf ?_);rw[KW (by simp[hn])]
 refine Kb (hx _ ?_);cases rs with
 | some p=>
  obtain⟨v,sl'⟩:=p;dsimp only;refine Kb (gJ x (by simp) λh' x' sb'=>?_)
  refine Kb (gJ x' (by simp) λh2 x2 sb2=>?_)
  refine Kh ⟨v,rfl,h1 v sl' rfl h2 ?_ λb o hb e=>?_⟩
  ·simpa [SIt,rawInt]using x2
  ·rw[sb2.2 b hb,sb'.2 b hb]; exact e
 | none=>
  dsimp only;refine Kb (gJ x (by simp) λh' x' sb'=>?_)
  refine re hh λh'' k=>h2 rfl h'' λb o hb e=>k b o (by rw[sb'.2 b hb]; exact e)
theorem n6 {tp:Kl}{ps:J9 Kk}(x:SIt I (.ref tp) (.ref a) i n ep s.heap)(ho:s.heap.get? a=ba o)(hd:o.data=.set es ep t)(hf:t.fits es.size=true)(hn:es.size=n)(hh:A.handled=gV)
  (ht:s.heap.get? tp=ba { cls:=.type "tuple",data:=.seq (ps.map λk=>rawInt (k:Kk)).toArray 0 })
  (h1:∀p e,ps[i]?=ba p->es[p]?=ba e->∀h',SIt I (.ref tp) (.ref a) (i+1) n ep h'->(∀b o,b≠I->s.heap.get? b=ba o->h'.get? b=ba o)->Q (ba e.2) { s with heap:=h' })
  (hp:∀p,ps[i]?=ba p->∃e,es[p]?=ba e)
  (h2:ps[i]?=gV->∀h',(∀b o,b≠I->s.heap.get? b=ba o->h'.get? b=ba o)->Q gV { s with heap:=h' }):wpAny (model prog w) A (pyNext (.ref I)) Q E s:=by
 refine rc x ?_;refine Kb (Kh ?_);show wpAny _ _ (fieldsOf (.ref I) >>= _) _ _ s;refine Kb (OV x rfl ?_);refine Kb (OI ho hd hf ?_);rw[KW (by simp[hn])]
 refine Kb (LU ht rfl ?_);dsimp only;have hg:(ps.map λk=>rawInt (k:Kk)).toArray[(i:Ky).toNat]?=(ps[i]?).map λk=>rawInt (k:Kk):=by simp
 rw[hg];cases q:ps[i]? with
 | some p=>
  obtain⟨e,he⟩:=hp p q;show wpAny _ _ (setNextDrawn a (p:Ky).toNat (ep:Ky).toNat >>= _) _ _ s;unfold setNextDrawn;refine Kb (Kb (LK ho hd hf ?_));dsimp only;rw[KW (by simp)]
  simp only[KC,he];refine Kh ?_;refine Kb (gJ x (by simp) λh' x' sb'=>?_)
  refine Kh ⟨e.2,rfl,h1 p e q he h' ?_ λb o hb z=>?_⟩
  ·simpa [SIt,rawInt]using x'
  ·rw[sb'.2 b hb]; exact z
 | none=>
  dsimp only[Option.map_none];refine Kb (gJ x (by simp) λh' x' sb'=>?_)
  refine Kb (gJ x' (by simp) λh3 x3 sb3=>?_)
  refine re hh λh'' k=>h2 q h'' λb o hb e=>k b o (by rw[sb3.2 b hb,sb'.2 b hb]; exact e)
theorem og {E:Kd->Kg->Prop}{Q:Ki (Kd×Kk)->Kg->Prop}(ho:s.heap.get? a=ba o)(hd:o.data=.set es ep t)(hf:t.fits es.size=true)(hb:fB w=true)(h:Q ((((pickOrder (w.params.setOrder a ep) es).toList.map (·.2))[i]?).map λv=>(v,sl)) s):wpAny (model prog w) A (setNext a sl i ep) Q E s:=by
 unfold setNext;refine Kb (LK ho hd hf ?_);dsimp only;have ask1:∀ {Q:KP->Kg->Prop},Q true s->wpAny (model prog w) A setsByText Q E s:=λ{Q} hq=>by
  unfold setsByText;refine Kb (Nh (Kh ?_));show Q (fB w) s;rw[hb]; exact hq
 refine Kb (ask1 ?_);rw[KJ rfl,KW (by simp)]
 refine Kb ?_;unfold setWalk;refine Kb (LK ho hd hf ?_);dsimp only;refine Kb (ask1 ?_);rw[KJ rfl];refine Kb (Nh (Kh (Kh ?_)));have e:(((pickOrder (w.params.setOrder a ep) es)[i]?).map λe=>(e.2,sl))=((((pickOrder (w.params.setOrder a ep) es).toList.map (·.2))[i]?).map λv=>(v,sl)):=by
  rw[Km,LI,Option.map_map]; rfl
 show Q (((pickOrder (w.params.setOrder a ep) es)[i]?).map λe=>(e.2,sl)) s
 rw[e]; exact h
theorem rf {E:Kd->Kg->Prop}{Q:Ki (Kd×Kk)->Kg->Prop}(ho:s.heap.get? a=ba o)(hd:o.data=.set es ep t)(hf:t.fits es.size=true)(hb:fB w=false)(hl:t.led=true)(h1:es.size<=1)(hi:i=0/\sl=0\/i=es.size/\sl=(t.place.getD 0 0)+1)
  (h:Q (((es.toList.map (·.2))[i]?).map λv=>(v,t.place.getD 0 0+1)) s):wpAny (model prog w) A (setNext a sl i ep) Q E s:=by
 unfold setNext;refine Kb (LK ho hd hf ?_);dsimp only;have ask1:∀ {Q:KP->Kg->Prop},Q false s->wpAny (model prog w) A setsByText Q E s:=λ{Q} hq=>by
  unfold setsByText;refine Kb (Nh (Kh ?_));show Q (fB w) s;rw[hb]; exact hq
 refine Kb (ask1 ?_);rw[KW KI];refine Nu (λhc=>absurd hc (by show ¬ ((!t.plain&&decide (es.size > 1))=true); simp; omega)) (λ_=>?_)
 refine Kb ?_;show wpAny _ _ (if (!t.led && !es.isEmpty)=true then unsupported "set:maker-not-led" else pure ()) _ _ s
 rw[KW (by simp[hl])]
 refine Kh (Kh ?_);obtain⟨es⟩:=es;obtain⟨mk,pl,dm,fg,ld,mv,pn⟩:=t;obtain⟨pl⟩:=pl;simp only[SL,Kj,beq_iff_eq]at hf
 match es,pl,hf.1,h1 with
 | [],[],_,_=>
  have:i=0:=by rcases hi with z|z <;> simpa using z.1
  subst this;exact h
 | [e],[j],_,_=>
  rcases hi with⟨rfl,rfl⟩|⟨rfl,rfl⟩
  ·exact h
  ·have e1:Ng [j].toArray (j+1)=1:=by
    show Rn [j].toArray (j+1) 1 0 1=1;simp[Rn]
   have e2:(({ mask:=mk,place:=[j].toArray,dummies:=dm,finger:=fg,led:=ld,moves:=mv,plain:=pn }:LG).place.getD 0 0)=j:=rfl;show Q (match ([e].toArray:KQ (Ky×Kd))[Ng [j].toArray (j+1)]?,([j].toArray:KQ Kk)[Ng [j].toArray (j+1)]? with|some (_,x),ba j=>ba (x,j+1)|_,_=>gV) s
   rw[e1];exact h
 | e::e'::es,_,_,z=>simp at z
 | [],_::_,z,_=>simp at z
 | [_],[],z,_=>simp at z
 | [_],_::_::_,z,_=>simp at z
theorem lA {E:Kd->Kg->Prop}{Q:Ki (Kd×Kk)->Kg->Prop}(ho:s.heap.get? a=ba o)(hd:o.data=.set es ep t)(hf:t.fits es.size=true)(hb:fB w=false)(hl:t.led=true)(hp:t.plain=true)(hw:Ng t.place sl=i)
  (h:Q (((es.toList.map (·.2))[i]?).map λv=>(v,t.place.getD i 0+1)) s):wpAny (model prog w) A (setNext a sl i ep) Q E s:=by
 unfold setNext;refine Kb (LK ho hd hf ?_);dsimp only;have ask1:∀ {Q:KP->Kg->Prop},Q false s->wpAny (model prog w) A setsByText Q E s:=λ{Q} hq=>by
  unfold setsByText;refine Kb (Nh (Kh ?_));show Q (fB w) s;rw[hb]; exact hq
 refine Kb (ask1 ?_);rw[KW KI];refine Nu (λhc=>absurd hc (by show ¬ ((!t.plain&&decide (es.size > 1))=true); simp[hp])) (λ_=>?_)
 refine Kb ?_;show wpAny _ _ (if (!t.led && !es.isEmpty)=true then unsupported "set:maker-not-led" else pure ()) _ _ s
 rw[KW (by simp[hl])]
 refine Kh (Kh ?_);rw[hw];have hz:t.place.size=es.size:=by
  simp only[SL,Kj,beq_iff_eq]at hf;exact hf.1
 rw[Km,LI]at h
 by_cases hi:i < es.size
 ·have e1:es[i]?=ba es[i]:=by simp[hi]
  have e2:t.place[i]?=ba (t.place.getD i 0):=by simp[N7,hz,hi]
  rw[e1]at h ⊢;rw[e2];exact h
 ·have e1:es[i]?=gV:=by simp; omega
  rw[e1]at h ⊢;exact h
end
end
theorem wI:entryFor table "set_iterator.__iter__" = ba NA.«dict_keyiterator.__iter__»:=Sv (id':="dict_keyiterator.__iter__") (by kernel_rfl) rfl (by decide +kernel) (by kernel_rfl)
theorem yv (a:Kd):argsOk "set_iterator.__iter__" ⟨[a],[]⟩:=by unfold argsOk; kernel_rfl
section
variable{prog:K1}{w:Lb}{A:K9}{E:Kd->Kg->Prop}{s:Kg}{I a tp:Kl}{f r:Kd}{i n ep sl:Kk}{o:LZ}{es:KQ (Ky×Kd)}{t:LG}
theorem i5 {Q:Kd->Kg->Prop}(x:SIt I f r i n ep s.heap)(h:Q (.ref I) s):wpAny (model prog w) A (pyIter (.ref I)) Q E s:=by
 refine Pe x.type q9 (LA q9 x.type wI ?_ (yv _));show wpAny _ _ (ret (.ref I)) _ _ s;exact Kh ⟨_,rfl,"set_iterator",_,x.type,gh.lookup,h⟩
theorem rg {b x y:Kl}(h:b∉[x]):b≠x:=λz=>h (by simp[z])
theorem tH (hh:A.handled=gV)(hne:a≠I)(hd:o.data=.set es ep t)(hf:t.fits es.size=true)(hb:fB w=true) :
  RT prog w A I [I,a] [I] es.size (λi v=>((pickOrder (w.params.setOrder a ep) es).toList.map (·.2))[i]?=ba v) (λi h=>SIt I (.int 0 0) (.ref a) i es.size ep h/\h.get? a=ba o) where
 sub:=λb hb=>by simp at hb; simp[hb]
 frame:=λ_ _ _ st hk=>⟨hk I (by simp) _ st.1,hk a (by simp) _ st.2⟩
 item:=λi s Q E hi st hQ=>by
  have hl:((pickOrder (w.params.setOrder a ep) es).toList.map (·.2)).length=es.size:=by rw[Kc,gI.length_eq,Kz]
  refine gK (sl:=0) st.1 st.2 hd hf rfl hh (λQ' hq=>og st.2 hd hf hb hq) (λv sl' e h' x' k=>?_) λe h' k=>?_
  ·obtain⟨v',q,e⟩:=Kf.mp e;cases e;exact hQ v h' s.toks q ⟨x',k a _ hne st.2⟩ λb o hb e=>k b o (rg (y:=b) hb) e
  ·rw[Oh,Lv]at e;omega
 done:=λs Q E st hQ=>by
  have hl:((pickOrder (w.params.setOrder a ep) es).toList.map (·.2)).length=es.size:=by rw[Kc,gI.length_eq,Kz]
  refine gK (sl:=0) st.1 st.2 hd hf rfl hh (λQ' hq=>og st.2 hd hf hb hq) (λv sl' e h' x' k=>?_) λe h' k=>hQ h' s.toks λb o hb e=>k b o (rg (y:=b) hb) e
  obtain⟨v',q,e⟩:=Kf.mp e;have:=(Kq.mp q).1;omega
 self:=λ_ _ _ _ st hQ=>i5 st.1 hQ
theorem wJ (hh:A.handled=gV)(hne:a≠I)(hd:o.data=.set es ep t)(hf:t.fits es.size=true)(hb:fB w=false)(hl:t.led=true)(h1:es.size<=1) :
  RT prog w A I [I,a] [I] es.size (λi v=>(es.toList.map (·.2))[i]?=ba v) (λi h=>SIt I (.int ((if i=0 then 0 else t.place.getD 0 0+1:Kk):Ky) 0) (.ref a) i es.size ep h/\h.get? a=ba o) where
 sub:=λb hb=>by simp at hb; simp[hb]
 frame:=λ_ _ _ st hk=>⟨hk I (by simp) _ st.1,hk a (by simp) _ st.2⟩
 item:=λi s Q E hi st hQ=>by
  have i0:i=0:=by omega
  subst i0;refine gK st.1 st.2 hd hf rfl hh (λQ' hq=>rf st.2 hd hf hb hl h1 (.inl ⟨rfl,rfl⟩) hq) (λv sl' e h' x' k=>?_) λe h' k=>?_
  ·obtain⟨v',q,e⟩:=Kf.mp e;cases e;exact hQ v h' s.toks q ⟨x',k a _ hne st.2⟩ λb o hb e=>k b o (rg (y:=b) hb) e
  ·rw[Oh,Lv,Kc,Kz]at e;omega
 done:=λs Q E st hQ=>by
  refine gK st.1 st.2 hd hf rfl hh (λQ' hq=>rf st.2 hd hf hb hl h1 ?_ hq) (λv sl' e h' x' k=>?_) λe h' k=>hQ h' s.toks λb o hb e=>k b o (rg (y:=b) hb) e
  ·by_cases h0:es.size=0
   ·exact .inl ⟨h0,by rw[KJ h0]⟩
   ·exact .inr ⟨rfl,by rw[KW h0]⟩
  ·obtain⟨v',q,e⟩:=Kf.mp e;have:=(Kq.mp q).1;rw[Kc,Kz]at this;omega
 self:=λ_ _ _ _ st hQ=>i5 st.1 hQ
theorem rh (hh:A.handled=gV)(hne:a≠I)(hd:o.data=.set es ep t)(hf:t.fits es.size=true)(hb:fB w=false)(hl:t.led=true)(hp:t.plain=true)(hw:fL t es.size=true) :
  RT prog w A I [I,a] [I] es.size (λi v=>(es.toList.map (·.2))[i]?=ba v) (λi h=>SIt I (.int ((if i=0 then 0 else t.place.getD (i - 1) 0+1:Kk):Ky) 0) (.ref a) i es.size ep h/\h.get? a=ba o):=by
 have go:∀i,i<=es.size->Ng t.place (if i=0 then 0 else t.place.getD (i - 1) 0+1)=i:=λi hi=>by
  simp only[fL,Kj,KG,KH,K6]at hw
  by_cases h0:i=0
  ·rw[KJ h0,h0]; exact hw.1
  ·rw[KW h0,hw.2 (i - 1) (by omega)]; omega
 exact {
  sub:=λb hb=>by simp at hb; simp[hb]
  frame:=λ_ _ _ st hk=>⟨hk I (by simp) _ st.1,hk a (by simp) _ st.2⟩
  item:=λi s Q E hi st hQ=>by
   refine gK st.1 st.2 hd hf rfl hh (λQ' hq=>lA st.2 hd hf hb hl hp (go i (by omega)) hq) (λv sl' e h' x' k=>?_) λe h' k=>?_
   ·obtain⟨v',q,e⟩:=Kf.mp e;cases e;exact hQ v h' s.toks q ⟨by rw[KW (RF i)]; exact x',k a _ hne st.2⟩ λb o hb e=>k b o (rg (y:=b) hb) e
   ·rw[Oh,Lv,Kc,Kz]at e;omega
  done:=λs Q E st hQ=>by
   refine gK st.1 st.2 hd hf rfl hh (λQ' hq=>lA st.2 hd hf hb hl hp (go _ (Kn _)) hq) (λv sl' e h' x' k=>?_) λe h' k=>hQ h' s.toks λb o hb e=>k b o (rg (y:=b) hb) e
   obtain⟨v',q,e⟩:=Kf.mp e;have:=(Kq.mp q).1;rw[Kc,Kz]at this;omega
  self:=λ_ _ _ _ st hQ=>i5 st.1 hQ }
theorem rj {ps:J9 Kk}(hh:A.handled=gV)(hne:a≠I)(hnt:tp≠I)(hd:o.data=.set es ep t)(hf:t.fits es.size=true)(hp:ps.Perm (KS es.size)) :
  RT prog w A I [I,a,tp] [I] es.size (λi v=>(ps.map λp=>(es.getD p (0,.none)).2)[i]?=ba v) (λi h=>SIt I (.ref tp) (.ref a) i es.size ep h/\h.get? a=ba o/\h.get? tp=ba { cls:=.type "tuple",data:=.seq (ps.map λk=>rawInt (k:Kk)).toArray 0 }) where
 sub:=λb hb=>by simp at hb; simp[hb]
 frame:=λ_ _ _ st hk=>⟨hk I (by simp) _ st.1,hk a (by simp) _ st.2.1,hk tp (by simp) _ st.2.2⟩
 item:=λi s Q E hi st hQ=>by
  have lt:∀ {p},ps[i]?=ba p->p < es.size:=λq=>K6.mp (hp.mem_iff.mp (Kt q))
  refine n6 st.1 st.2.1 hd hf rfl hh st.2.2 (λp e q qe h' x' k=>?_) (λp q=>⟨es[p]'(lt q),by simp[lt q]⟩) λe h' k=>?_
  ·refine hQ e.2 h' s.toks ?_ ⟨x',k a _ hne st.2.1,k tp _ hnt st.2.2⟩ λb o hb e=>k b o (rg (y:=b) hb) e
   rw[Km,q];simp[N7,lt q];rw[Mw (lt q)]at qe;cases qe; rfl
  ·rw[Lv,hp.length_eq,KU]at e;omega
 done:=λs Q E st hQ=>by
  refine n6 st.1 st.2.1 hd hf rfl hh st.2.2 (λp e q qe h' x' k=>?_) (λp q=>?_) λe h' k=>hQ h' s.toks λb o hb e=>k b o (rg (y:=b) hb) e
  ·have:=(Kq.mp q).1;rw[hp.length_eq,KU]at this;omega
  ·have:=(Kq.mp q).1;rw[hp.length_eq,KU]at this;omega
 self:=λ_ _ _ _ st hQ=>i5 st.1 hQ
end
section
variable{prog:K1}{w:Lb}{A:K9}{E:Kd->Kg->Prop}{s:Kg}{a:Kl}{o:LZ}{xs:J9 KF}{es:KQ (Ky×Kd)}{ep:Kk}{t:LG}
structure SetWalk (prog:K1)(w:Lb)(A:K9)(s:Kg)(a:Kl)(es:KQ (Ky×Kd))(I:Kl)(h':Lj):Prop where
 ex:∃(fp:J9 Kl) (St:Kk->Lj->Prop) (us:J9 Kd) (n:Kk),us.Perm (es.toList.map (·.2))/\us.length=n/\RT prog w A I fp [I] n (λi v=>us[i]?=ba v) St/\St 0 h'/\∀b∈fp,b=a\/s.heap.objs.size<=b/\b < h'.objs.size
 new:s.heap.objs.size<=I
 keep:∀b u,s.heap.get? b=ba u->h'.get? b=ba u
theorem yw {Q:Kd->Kg->Prop}(hh:A.handled=gV)(ho:s.heap.get? a=ba o)(hex:o.ExactSet)(hd:o.data=.set es ep t)(hz:es.size<=sizeLine)(fit:t.fits es.size=true)(led:t.led = !fB w)(pl:t.plain=true->es.size=0\/fL t es.size=true)(h:∀I h' dr,SetWalk prog w A s a es I h'->Q (.ref I) { s with heap:=h',drawn:=dr }):wpAny (model prog w) A (pyIter (.ref a)) Q E s:=by
 have hT:s.TypeIs (.ref a) "set":=⟨o,ho,hex.1⟩;have ha:a < s.heap.objs.size:=KA ho;refine Pe hT F.slot_set_iter (LA F.slot_set_iter hT tF ?_ (F.args_set_iter_1 _));unfold NA.«frozenset.__iter__»;refine Kb (Kb (Kh ?_));show wpAny _ _ (pure a) _ _ s;refine Kh ?_;unfold SM setDrawn;refine Kb (Kb (OI ho hd fit (Kh ?_)));refine Kb (Kb (LK ho hd fit ?_));dsimp only;unfold setsByText;refine Kb (Kb (Nh (Kh (Kh ?_))));have oI:∀(f:Kd) (h0:Lj),(h0.push { cls:=.type "set_iterator",data:=.fields [f,rawInt 0,.ref a,rawInt es.size,rawInt ep].toArray }).get? h0.objs.size=ba { cls:=.type "set_iterator",data:=.fields [f,rawInt 0,.ref a,rawInt es.size,rawInt ep].toArray }:=λf h0=>Ku _ rfl
 refine Nu (λhc=>?_) (λhc=>?_)
 ·refine Kb (lz es.size _ KU λps dr hp=>?_)
  refine Kb (Ql ?_ (by rw[Kc,hp.length_eq,KU]; exact hz))
  have o1:=Ke (seqObj "tuple" (ps.map λk=>rawInt (k:Kk)).toArray 0) ho
  refine Kb (Ro o1 hd fit ?_);refine Kb (Lc (Kh ⟨_,rfl,"set_iterator",_,⟨_,oI _ _,rfl⟩,gh.lookup,?_⟩));have z1:(s.heap.push (seqObj "tuple" (ps.map λk=>rawInt (k:Kk)).toArray 0)).objs.size=s.heap.objs.size+1:=L9 ..
  have W:=rj (prog:=prog) (w:=w) (A:=A) (a:=a) (I:=(s.heap.push (seqObj "tuple" (ps.map λk=>rawInt (k:Kk)).toArray 0)).objs.size) (tp:=s.heap.objs.size) (ps:=ps) hh (by rw[z1]; exact KM (M0 ha)) (by rw[z1]; exact KM (Mn _)) hd fit hp
  have eL:(ps.map λp=>(es.getD p (0,Ll)).2).length=es.size:=by rw[Kc,hp.length_eq,KU]
  refine h _ _ dr ⟨⟨_,_,ps.map λp=>(es.getD p (0,Ll)).2,_,?_,eL,W,⟨oI _ _,Ke _ o1,Ke _ (Ku _ rfl)⟩,λb hb=>?_⟩,by rw[z1]; exact MY _,λb u e=>Ke _ (Ke _ e)⟩
  ·refine(hp.map _).trans ?_;have e:((KS es.size).map λp=>(es.getD p (0,Ll)).2)=es.toList.map λe=>e.2:=by
    apply Ni
    ·simp
    ·intro k h1 h2;simp only[Kc,KU]at h1;simp[N7,h1]
   rw[e]
  ·rw[L9,z1];simp only[KL,Lr,MJ]at hb;rcases hb with rfl|rfl|rfl
   ·exact .inr ⟨by rw[z1]; exact MY _,by rw[z1]; exact Mn _⟩
   ·exact .inl rfl
   ·exact .inr ⟨Kn _,M0 (Mn _)⟩
 ·refine Kb (Kh (Kb (Ro ho hd fit ?_)));refine Kb (Lc (Kh ⟨_,rfl,"set_iterator",_,⟨_,oI _ _,rfl⟩,gh.lookup,?_⟩));have near:∀b∈[s.heap.objs.size,a],b=a\/s.heap.objs.size<=b/\b < (s.heap.push { cls:=.type "set_iterator",data:=.fields [rawInt 0,rawInt 0,.ref a,rawInt es.size,rawInt ep].toArray }).objs.size:=λb hb=>by
   rw[L9];simp only[KL,Lr,MJ]at hb;rcases hb with rfl|rfl
   ·exact .inr ⟨Kn _,Mn _⟩
   ·exact .inl rfl
  cases hb:fB w with
  | true=>
   have W:=tH (prog:=prog) (A:=A) (I:=s.heap.objs.size) hh (KM ha) hd fit hb;have eL:((pickOrder (w.params.setOrder a ep) es).toList.map (·.2)).length=es.size:=by rw[Kc,gI.length_eq,Kz]
   refine h _ _ s.drawn ⟨⟨[s.heap.objs.size,a],_,(pickOrder (w.params.setOrder a ep) es).toList.map (·.2),_,gI.map _,eL,W,⟨oI _ _,Ke _ ho⟩,near⟩,Kn _,λb u e=>Ke _ e⟩
  | false=>
   have hl:t.led=true:=by rw[led,hb]; rfl
   have eL:(es.toList.map (·.2)).length=es.size:=by rw[Kc,Kz]
   by_cases hpw:t.plain=true/\fL t es.size=true
   ·have W:=rh (prog:=prog) (A:=A) (I:=s.heap.objs.size) hh (KM ha) hd fit hb hl hpw.1 hpw.2;refine h _ _ s.drawn ⟨⟨[s.heap.objs.size,a],_,es.toList.map (·.2),_,.refl _,eL,W,⟨oI _ _,Ke _ ho⟩,near⟩,Kn _,λb u e=>Ke _ e⟩
   have h1:es.size<=1:=by
    cases hp:t.plain with
    | true=>
     rcases pl hp with z|z
     ·rw[z]; exact L1 _
     ·exact absurd ⟨hp,z⟩ hpw
    | false=>
     refine RE λz=>hc ?_
     show((!fB w)&&((!t.plain)&&decide (es.size > 1)))=true;rw[hb,hp]
     simpa using z
   have W:=wJ (prog:=prog) (A:=A) (I:=s.heap.objs.size) hh (KM ha) hd fit hb hl h1;refine h _ _ s.drawn ⟨⟨[s.heap.objs.size,a],_,es.toList.map (·.2),_,.refl _,eL,W,⟨oI _ _,Ke _ ho⟩,near⟩,Kn _,λb u e=>Ke _ e⟩
theorem yy {Q:KP->Kg->Prop}(hT:s.TypeIs (.ref a) "set")(h:Q false s):wpAny (model prog w) A (OM (.ref a)) Q E s:=by
 unfold OM;refine Kb (P3 hT F.slot_set_len.lookup ?_);generalize hid:("set.__len__" : LN)=k0
 wp_delta
 rw[show splitId k0=ba ("set","__len__")from by subst hid; decide +kernel]
 subst hid;refine Kb (NP (T:="set") (b:=true) hT QU ?_);refine Nu (λz=>absurd z (by decide)) (λ_=>Nu (λ_=>?_) (λz=>absurd (by decide +kernel) z))
 exact Kb (No hT (Kh h))
theorem rm {Q:J9 Kd->Kg->Prop}(hh:A.handled=gV)(ho:s.heap.get? a=ba o)(hex:o.ExactSet)(hd:o.data=.set es ep t)(hz:es.size<=sizeLine)(fit:t.fits es.size=true)(led:t.led = !fB w)(pl:t.plain=true->es.size=0\/fL t es.size=true)
  (hQ:∀h' tk dr us,(∀b u,s.heap.get? b=ba u->h'.get? b=ba u)->s.heap.objs.size<=h'.objs.size->us.Perm (es.toList.map (·.2))->Q us { s with heap:=h',toks:=tk,drawn:=dr }):wpAny (model prog w) A (collect (.ref a)) Q E s:=by
 have ha:a < s.heap.objs.size:=KA ho;unfold collect;refine Kb (Oi (LB F.entry_proto_collect ?_));rw[Ls F.plain_proto_collect _];show wpAny _ A.in1 (newList [] >>= λl=>again (.builtin "list.__iadd__" ⟨[l,.ref a],[]⟩)) _ _ s
 refine Kb (Lc ?_);have oL:(s.heap.push { cls:=.type "list",data:=.seq ([]:J9 Kd).toArray }).get? s.heap.objs.size=ba { cls:=.type "list",data:=.seq #[] 0 }:=Ku _ rfl;have o1:=Ke { cls:=.type "list",data:=.seq ([]:J9 Kd).toArray } ho;have z1:(s.heap.push { cls:=.type "list",data:=.seq ([]:J9 Kd).toArray }).objs.size=s.heap.objs.size+1:=L9 ..;refine Kh ⟨Mp F.plain_list_iadd _,LB F.entry_list_iadd ?_⟩;rw[Ls F.plain_list_iadd _];show wpAny _ A.in1 (LX (.ref s.heap.objs.size) (.ref a) (.ref s.heap.objs.size)) _ _ _;unfold LX;refine Kb (No (T:="set") ⟨o,o1,hex.1⟩ ?_);have n1:Pn (.ref s.heap.objs.size) (.ref a)=false:=by
  have:s.heap.objs.size≠a:=Mr ha;simp[Pn,this]
 have n2:(Mh "set" == Mh "list")=false:=by decide
 have n3:(Mh "set" == Mh "tuple")=false:=by decide
 simp only[n1,n2,n3,QI,KO,LH];refine Kb (yw (A:=A.in1) (by simp[hh]) o1 hex hd hz fit led pl λI h' dr W=>?_)
 obtain⟨⟨fp,St,us,n,hP,hn,W,st,hfp⟩,hI,kp⟩:=W;rw[z1]at hI;have oa:=kp a o o1;refine Kb (Ly (yy ⟨o,oa,hex.1⟩ ?_));have oL1:=kp _ _ oL;have hD:s.heap.objs.size∉fp:=λz=>by
  rcases hfp _ z with e|⟨e,_⟩
  ·exact Mr ha e
  ·rw[z1]at e; exact Nat.not_succ_le_self _ e
 refine Nu (λ_=>?_) (λz=>absurd (by decide +kernel) z)
 refine Kb (PK (Kb ?_));show wpAny _ _ (updateSeq s.heap.objs.size (·.push .none) >>= λ_=>updateSeq s.heap.objs.size (·.pop)) _ _ _
 refine Kb (N4 oL1 rfl ?_);have oL2:=LV (LR (·.push Ll)) oL1 rfl
 refine N4 (hz:=by seq_fits) oL2 rfl ?_
 have oL3:=LV (LR (·.pop)) oL2 rfl
 have hnl:n<=sizeLine:=by rw[<- hn,hP.length_eq,Kc,Kz]; exact hz
 refine Kh ⟨Mp PySem.F.plain_extend_loop _,codeAny_extend_loopS W.toS hnl s.heap.objs.size hD (.ref s.heap.objs.size) n 0 _ #[] _ rfl (L1 _) (W.frame 0 _ _ st λb hb u e=>?_) oL3 (ItemsOf.nil _) λs' acc c' mv oS hacc=>?_⟩
 ·have hb':b≠s.heap.objs.size:=λz=>hD (z ▸ hb)
  exact(Lh _ _ (Ne.symm hb')).trans ((Lh _ _ (Ne.symm hb')).trans e)
 ·rw[SN mv];show wpAny (model prog w) A (do
    let o <- load s.heap.objs.size
    match o.data with
    | .seq xs _=>pure xs.toList
    | _=>unsupported "internal:collect") Q E _
  refine Kb (PL oS (Kh ?_));have eU:acc.toList=us:=by
   apply Pf;intro i
   by_cases hi:i < n
   ·have h1:i < acc.size:=by rw[hacc.1]; exact hi
    have:=hacc.2 i acc[i] (by simp[h1])
    rw[this,LI]; simp[h1]
   ·rw[Nx (by rw[Kz,hacc.1]; omega),Nx (by omega)]
  rw[eU];refine hQ _ _ dr us (λb u e=>?_) (NL (KA oS)) hP
  have hb:=KA e;have hb':b≠s.heap.objs.size:=KM hb;refine mv.heap b u (λz=>?_) ((Lh _ _ (Ne.symm hb')).trans ((Lh _ _ (Ne.symm hb')).trans (kp b u (Ke _ e))))
  simp only[KL,Lr,MJ]at z;rcases z with z|z
  ·exact hb' z
  ·rw[z]at hb; exact LQ _ (KR (M0 hb) hI)
end
noncomputable def BS (S:aa)(i:Kk):Ki (Ky×Ky):=match S[i]? with
 | some (.rng lo hi)=>ba (lo,hi)
 | _=>gV
noncomputable def tJ (xs:J9 W)(S:aa):Ki (W×aa):=match xs with
 | [.int j]=>if -(2 ^ 62)<=j/\j < 2 ^ 62 then ba (.ref S.length,S++[.rng 0 j])else gV
 | _=>gV
noncomputable def GK (lo:Ky)(n:Kk):J9 W:=(KS n).map λ(k:Kk)=>.int (lo+(k:Ky))
noncomputable def oh (xs:J9 W)(S:aa):Ki (W×aa):=match xs with
 | [.ref i]=>match BS S i with
  | some (lo,hi)=>if -(2 ^ 62)<=lo/\lo < 2 ^ 62/\-(2 ^ 62)<=hi/\hi < 2 ^ 62/\(hi - lo).toNat<=sizeLine then ba (.ref S.length,S++[.lst (GK lo (hi - lo).toNat)])else gV
  | none=>iZ [.ref i] S
 | xs=>iZ xs S
section
variable{X:Cx}{pins:J9 (Kl×LZ)}{σ:L2.St}{H:Hp}{s:Kg}{A:J9 Kl}{S:aa}
theorem Inv.drawn (I:Inv X pins σ H s)(d:Ui):Inv X pins σ H { s with drawn:=d }:=⟨I.ok,I.os,I.bare,I.base,I.loc,I.cell,I.free,I.freeC,I.pin,I.hok,I.len⟩
theorem i6 {h':Lj}{tk:Kk}{dr:Ui}{D:Kl}{n:O}{u:HO}(I:Inv X pins σ H s)(so:StoreOk X.w X.K A H S)(hk:∀b o,s.heap.get? b=ba o->h'.get? b=ba o)(hD:s.heap.objs.size<=D)(new:ObjOk X.prog X.w (bZ H D u) h' D u)
  (r:H D=gV->ObjRel X.w X.K (A++[D]) (bZ H D u) D n):d4 X pins σ A H (S++[n]) (.ref S.length) (.ref D) { s with heap:=h',toks:=tk,drawn:=dr }:=by
 have hn:H D=gV:=I.hok.fresh hD;refine⟨.ref D,_,A++[D],Mi.Inv.drawn (I.laid (a:=D) (o:=u) (t':=tk) hk hD new) dr,rfl,da hn,so.pushO hn (r hn),.ref ?_⟩;rw[<- so.len]; simp
theorem pL:∀ {vs:J9 V} {us:J9 Kd},vs.length=us.length->(∀(i:Kk) v u,vs[i]?=ba v->us[i]?=ba u->L2.RelV v u)->Vals vs us
 | [],[],_,_=>.nil
 | v::vs,u::us,hl,h=>.cons (h 0 v u rfl rfl) (pL (by simpa using hl) λi v u a b=>h (i+1) v u (by simpa using a) (by simpa using b))
 | [],_::_,hl,_=>by cases hl
 | _::_,[],hl,_=>by cases hl
theorem pM {K:Kr}{lo:Ky}:∀(l:J9 Kk),RelL K A H (l.map λ(k:Kk)=>W.int (lo+(k:Ky))) (l.map λ(k:Kk)=>V.int (lo+(k:Ky)))
 | []=>.nil
 | _::l=>.cons .int (pM l)
theorem kU {xs:J9 W}{vs:J9 V}{us:J9 Kd}{i:Kk}(rl:RelL X.K A H [.ref i] vs)(rv:Vals vs us):∃a,A[i]?=ba a/\us=[.ref a]:=by
 cases rl with
 | cons r t=>
  cases t;cases r with
  | @ref _ a ea=>
   cases rv with
   | cons ru rv=>
    cases rv;obtain rfl:_=K4 a:=ru;exact⟨a,ea,rfl⟩
theorem rn:LCall X (.type "range") tJ:=by
 intro pins s σ H A S xs vs us w S' I so rl rv e;unfold tJ at e;split at e
 ·rename_i j;split at e
  ·rename_i hb;cases e;cases rl with
   | cons r t=>
    cases t;cases r;cases rv with
    | cons ru rv=>
     cases rv;obtain⟨tk,rfl⟩:=ru;exact Tb (i6 (dr:=s.drawn) (u:=.rng 0 j) I so (λb o e=>Ke _ e) (Kn _) ⟨_,_,_,Ku _ rfl⟩ λ_=>bh)
  ·cases e
 ·cases e
theorem rq (hh:X.A.handled=gV):LCall X (.type "list") oh:=by
 intro pins s σ H A S xs vs us w S' I so rl rv e;unfold oh at e;split at e
 ·rename_i i;split at e
  ·rename_i lo hi hr;split at e
   ·rename_i hb;cases e;obtain⟨a,ea,rfl⟩:=kU (xs:=[]) rl rv;obtain⟨b1,b2,b3,b4,b5⟩:=hb;have hH:H a=ba (.rng lo hi):=by
     unfold BS at hr;split at hr
     ·rename_i hx; cases hr; exact so.obj i _ a hx ea
     ·cases hr
    obtain⟨t,u,v,ho⟩:=I.hok a _ hH;have hn:Ml lo hi 1=((hi - lo).toNat:Kk):=by rw[QG]; split <;> omega
    refine call_list_range hh ho (SX b1 b2 b3 b4) hn b5 λh' tk acc c hk hD hacc=>?_
    have hv:Vals ((KS (hi - lo).toNat).map λ(k:Kk)=>V.int (lo+(k:Ky))) acc.toList:=by
     refine pL (by rw[Kc,KU,Kz,hacc.1]) λi v u e1 e2=>?_
     rw[Km,Kf]at e1;obtain⟨k,e1,rfl⟩:=e1;obtain⟨hk,rfl⟩:=Kq.mp e1;obtain⟨t,rfl⟩:=hacc.2 i u (by rw[<- LI]; exact e2)
     exact⟨t,by simp⟩
    refine i6 (dr:=s.drawn) (u:=.lst ((KS (hi - lo).toNat).map λ(k:Kk)=>V.int (lo+(k:Ky)))) I so hk (Kn _) ⟨by simpa using b5,acc.toList,c,hv,by simpa using hD⟩ λhn=>⟨_,bh,?_⟩
    exact pM _
   ·cases e
  ·exact iD pins s σ H A S _ vs us w S' I so rl rv e
 ·exact iD pins s σ H A S _ vs us w S' I so rl rv e
end
mutual
inductive IsT (h:Lj):T->Kd->Prop
 | int {i:Ky} {t:Uu}:IsT h (.int i) (.int i t)
 | str {x:KF} {t:Uu}:IsT h (.str x) (.str x t)
 | tup {ks:J9 T} {a:Kl} {o:LZ} {items:KQ Kd} {n:Kk}:h.get? a=ba o->o.cls=.type "tuple"->o.data=.seq items n->IsTs h ks items.toList->IsT h (.tup ks) (.ref a)
inductive IsTs (h:Lj):J9 T->J9 Kd->Prop
 | nil:IsTs h [] []
 | cons {k:T} {v:Kd} {ks:J9 T} {vs:J9 Kd}:IsT h k v->IsTs h ks vs->IsTs h (k::ks) (v::vs)
end
mutual
theorem IsT.inj {h:Lj}:∀ {x y:T} {v:Kd},IsT h x v->IsT h y v->x=y
 | _,_,_,.int,h2=>by cases h2; rfl
 | _,_,_,.str,h2=>by cases h2; rfl
 | _,_,_,.tup a1 _ d1 t1,h2=>by
  cases h2 with
  | tup a2 _ d2 t2=>
   rw[a1]at a2; cases a2
   rw[d1]at d2; cases d2
   rw[IsTs.inj t1 t2]
theorem IsTs.inj {h:Lj}:∀ {x y:J9 T} {v:J9 Kd},IsTs h x v->IsTs h y v->x=y
 | _,_,_,.nil,h2=>by cases h2; rfl
 | _,_,_,.cons a b,h2=>by
  cases h2 with
  | cons c d=>rw[IsT.inj a c,IsTs.inj b d]
end
mutual
theorem IsT.keeps {h h':Lj}{d:Kl}{o:LZ}{es:KQ MF}{ep:Kk}(ho:h.get? d=ba o)(hd:o.data=.dict es ep)(hs:Mq d h h'):∀ {x:T} {v:Kd},IsT h x v->IsT h' x v
 | _,_,.int=>.int
 | _,_,.str=>.str
 | _,_,.tup (a:=a) a1 c1 d1 t1=>by
  have hne:a≠d:=by
   rintro rfl;rw[a1]at ho; cases ho
   rw[d1]at hd; cases hd
  exact .tup ((hs.2 a hne).trans a1) c1 d1 (IsTs.keeps ho hd hs t1)
theorem IsTs.keeps {h h':Lj}{d:Kl}{o:LZ}{es:KQ MF}{ep:Kk}(ho:h.get? d=ba o)(hd:o.data=.dict es ep)(hs:Mq d h h'):∀ {x:J9 T} {v:J9 Kd},IsTs h x v->IsTs h' x v
 | _,_,.nil=>.nil
 | _,_,.cons a b=>.cons (IsT.keeps ho hd hs a) (IsTs.keeps ho hd hs b)
end
theorem IsTs.length {h:Lj}:∀ {x:J9 T} {v:J9 Kd},IsTs h x v->x.length=v.length
 | _,_,.nil=>rfl
 | _,_,.cons _ b=>by simp[IsTs.length b]
theorem IsTs.get {h:Lj}:∀ {x:J9 T} {v:J9 Kd},IsTs h x v->∀(j:Kk) (h1:j < x.length) (h2:j < v.length),IsT h x[j] v[j]
 | _,_,.cons a _,0,_,_=>a
 | _,_,.cons _ b,j+1,h1,h2=>IsTs.get b j (by simpa using h1) (by simpa using h2)
theorem cK:∀ {ks:J9 T} (j:Kk) (h:j < ks.length),(ks[j]).depth<=T.depths ks
 | k::ks,0,_=>by simp only[T.depths,List.getElem_cons_zero]; omega
 | k::ks,j+1,h=>by
  have:=cK (ks:=ks) j (by simpa using h)
  simp only[T.depths,List.getElem_cons_succ]; omega
section
variable{prog:K1}{w:Lb}{E:Kd->Kg->Prop}
mutual
theorem rz:∀(k:T) (v:Kd) (A:K9) (s:Kg) (Q:Ky->Kg->Prop),IsT s.heap k v->A.units+k.depth < cLine->Q (eW w k) { s with toks:=s.toks+k.draws }->wpAny (model prog w) A (pyHash v) Q E s
 | .int i,_,A,s,Q,x,_,h=>by cases x; exact Rw h
 | .str y,_,A,s,Q,x,_,h=>by cases x; exact Rx h
 | .tup ks,_,A,s,Q,x,hu,h=>by
  cases x with
  | @tup _ a o items n hg hc hd hw=>
   simp only[T.depth]at hu;refine PySem.W.pyHash_slot (T:="tuple") ⟨_,hg,hc⟩ F.slot_tuple_hash F.entry_tuple_hash (F.args_tuple_hash_1 _) (beq_builtin_none _) (.inr (by omega)) ?_
   show wpAny _ _ (NG (.ref a) >>= _) _ _ s;refine Kb (wpAny_tupleItemsOf hg hd ?_);refine Kb ?_;rw[<- N8];refine lB ks items.toList A.in1 s #[] _ hw (by rw[aR]; omega) λb hb=>?_
   show wpAny _ _ (retInt (NR b.toList)) _ _ _;rw[hb];refine Kb (TB (Kh ⟨_,_,rfl,?_⟩))
   simpa [T.draws,SO,eW]using h
theorem lB:∀(ks:J9 T) (vs:J9 Kd) (A:K9) (s:Kg) (b:KQ Ky) (Q:KQ Ky->Kg->Prop),IsTs s.heap ks vs->A.units+T.depths ks < cLine->
  (∀b',b'.toList=b.toList++iA w ks->Q b' { s with toks:=s.toks+T.drawss ks })->
  wpAny (model prog w) A (forIn vs b λx r=>do let h <- pyHash x; pure QV; pure (Mf (r.push h))) Q E s
 | [],_,A,s,b,Q,x,_,h=>by cases x; exact Kh (h b (by simp[iA]))
 | k::ks,_,A,s,b,Q,x,hu,h=>by
  cases x with
  | cons x1 x2=>
   simp only[T.depths]at hu;rw[OE];refine Kb (Kb (rz k _ A s _ x1 (by omega) ?_))
   refine Kb (Kh (Kh ?_));refine lB ks _ A _ _ Q x2 (by omega) λb' hb=>?_
   have:=h b' (by simp[hb,iA])
   simpa [T.drawss,SO]using this
end
open SeqAt in
theorem wK:∀(d:Kk) (x y:T) (u v:Kd) (B:K9) (s:Kg),x.depth<=d->IsT s.heap x u->IsT s.heap y v->B.units+d < cLine->B.units+y.depth < cLine->EqAt B s u v (decide (x=y))
 | d,.int i,y,_,_,B,s,_,h1,h2,hu,hv=>by
  cases h1;cases h2 with
  | int=>
   rename_i j t2;have:decide (T.int i=T.int j)=(i==j):=by by_cases e:i=j <;> simp[e]
   rw[this]; exact .int_int _ _ _ _
  | str=>rw[K5 (by simp)]; exact .int_str _ _ _ _
  | tup a c dd t=>rw[K5 (by simp)]; exact .int_tuple _ _ ⟨_,a,c,_,dd⟩ (by simp only[T.depth]at hv; omega)
 | d,.str z,y,_,_,B,s,_,h1,h2,hu,hv=>by
  cases h1;cases h2 with
  | int=>rw[K5 (by simp)]; exact .str_int _ _ _ _
  | str=>
   rename_i z2 t2;have:decide (T.str z=T.str z2)=(z==z2):=by by_cases e:z=z2 <;> simp[e]
   rw[this]; exact .str_str _ _ _ _
  | tup a c dd t=>rw[K5 (by simp)]; exact .str_tuple _ _ ⟨_,a,c,_,dd⟩ (by simp only[T.depth]at hv; omega)
 | 0,.tup ks,y,_,_,B,s,hd,h1,h2,hu,hv=>by simp[T.depth]at hd
 | d+1,.tup ks,y,_,_,B,s,hd,h1,h2,hu,hv=>by
  have h1':=h1;cases h1 with
  | @tup _ a o items n a1 c1 d1 t1=>
   have hT:s.heap.IsTuple a items:=⟨_,a1,c1,_,d1⟩;simp only[T.depth]at hd;cases h2 with
   | int=>rw[K5 (by simp)]; exact .tuple_int _ _ hT (by omega)
   | str=>rw[K5 (by simp)]; exact .tuple_str _ _ hT (by omega)
   | @tup ks2 b o2 items2 n2 a2 c2 d2 t2=>
    have hT2:s.heap.IsTuple b items2:=⟨_,a2,c2,_,d2⟩
    by_cases hab:a=b
    ·subst hab;have:T.tup ks=T.tup ks2:=h1'.inj (.tup a2 c2 d2 t2);rw[L3 this];exact EqAt.same _
    ·refine EqAt.of_refs hab ?_;simp only[T.depth]at hv;have l1:items.size=ks.length:=by rw[<- Kz,t1.length]
     have l2:items2.size=ks2.length:=by rw[<- Kz,t2.length]
     let e:Kk->KP:=λj=>if h:j < ks.length/\j < ks2.length then decide (ks[j]'h.1=ks2[j]'h.2)else true
     have he:∀j (h1:j < items.size) (h2:j < items2.size),EqAt B.in1 s items[j] items2[j] (e j):=λj j1 j2=>by
      have g1:=t1.get j (l1 ▸ j1) (by simpa using j1)
      have g2:=t2.get j (l2 ▸ j2) (by simpa using j2)
      have q1:=cK (ks:=ks) j (l1 ▸ j1);have q2:=cK (ks:=ks2) j (l2 ▸ j2);have:=wK d _ _ _ _ B.in1 s (by omega) g1 g2 (by rw[aR]; omega) (by rw[aR]; omega)
      show EqAt B.in1 s items[j] items2[j] (if h:j < ks.length/\j < ks2.length then decide (ks[j]'h.1=ks2[j]'h.2)else true)
      rw[T5 ⟨l1 ▸ j1,l2 ▸ j2⟩]
      simpa using this
     have:=RcAt.tuples hT hT2 (by omega) he
     have hk:((KS (min items.size items2.size)).all e&&items.size==items2.size)=decide (T.tup ks=T.tup ks2):=by
      rw[l1,l2]
      by_cases hl:ks.length=ks2.length
      ·by_cases hq:ks=ks2
       ·subst hq;simp only[Rp,Lp,N1,RV,KH,K6];intro j hj;show(if h:j < ks.length/\j < ks.length then decide (ks[j]'h.1=ks[j]'h.2)else true)=true
        rw[T5 ⟨hj,hj⟩]; simp
       ·rw[K5 (by simpa using hq)]
        have:∃j,∃h:j < ks.length,ks[j]≠ks2[j]'(hl ▸ h):=by
         apply O7;intro hn;exact hq (Ni hl λj h1 h2=>O7 λz=>hn ⟨j,h1,z⟩)
        obtain⟨j,hj,hne⟩:=this;rw[P9];left;rw[List.all_eq_false];refine⟨j,by rw[K6,<- hl,Rp]; exact hj,?_⟩
        show ¬ (if h:j < ks.length/\j < ks2.length then decide (ks[j]'h.1=ks2[j]'h.2)else true)=true
        rw[T5 ⟨hj,hl ▸ hj⟩]
        simpa using hne
      ·rw[K5 (by simp; intro z; exact hl (by rw[z])),P9]
       right
       simpa using hl
     rw[hk]at this;exact this
theorem ol {n:Kk}{v:Kd}(h:∀a,v≠.ref a):eqIsQuiet n v=pure true:=by
 cases v with
 | ref a=>exact absurd rfl (h a)
 | _=>first|rfl|simp[eqIsQuiet]|(unfold eqIsQuiet; rfl)
theorem kW:∀(d:Kk) (k:T) (v:Kd) (A:K9) (s:Kg) (Q:KP->Kg->Prop),k.depth<=d->IsT s.heap k v->Q true s->wpAny (model prog w) A (eqIsQuiet d v) Q E s
 | d,.int i,_,A,s,Q,_,x,h=>by cases x; rw[ol (λa=>by simp)]; exact Kh h
 | d,.str i,_,A,s,Q,_,x,h=>by cases x; rw[ol (λa=>by simp)]; exact Kh h
 | 0,.tup ks,_,A,s,Q,hd,x,h=>by simp[T.depth]at hd
 | d+1,.tup ks,_,A,s,Q,hd,x,h=>by
  cases x with
  | @tup _ a o items n ho hc hdt hi=>
   simp only[T.depth]at hd;have hT:s.TypeIs (.ref a) "tuple":=⟨_,ho,hc⟩;unfold eqIsQuiet;refine Kb (P3 hT F.slot_tuple_eq.lookup ?_);show wpAny _ _ (isInstance (.ref a) (.type "tuple") >>= _) _ _ s;refine Kb (NP hT isSubtype_tuple_tuple ?_);simp only[M7,KO,LH];refine Kb (LU ho hdt ?_);refine Kb ?_;show wpAny _ _ (forIn items _ _) _ _ s;rw[<- N8];refine NO _ (λbV r s'=>r.1=gV/\s'=s/\∃kk,IsTs s.heap kk bV/\T.depths kk<=d) _ ?_ ?_ _ _ ⟨rfl,rfl,ks,hi,by omega⟩
   ·rintro v bV r s' ⟨hr,rfl,kk,hall,hdk⟩;cases hall with
    | cons q1 q2=>
     simp only[T.depths]at hdk;refine Kb (kW d _ v _ _ _ (by omega) q1 ?_)
     simp only[M7,KO,LH];exact Kh ⟨rfl,rfl,_,q2,by omega⟩
   ·rintro⟨r1,r2⟩ s' ⟨hr,rfl,_⟩;simp only at hr;subst hr;exact Kh h
end
noncomputable def bF (prog:K1)(w:Lb):HeapKind prog w T where
 is:=λh k a=>IsT h k (.ref a)/\k.depth<=az
 hash:=eW w
 draws:=T.draws
 room:=λA=>A.units+az < cLine
 inj:=λhx hy=>hx.1.inj hy.1
 keeps:=λx ho hd hs=>⟨x.1.keeps ho hd hs,x.2⟩
 pyHash:=λhu hk h=>rz _ _ _ _ _ hk.1 (by have:=hk.2; omega) h
 eqBool:=λhu hx hy h=>wK az _ _ _ _ _ _ hx.2 hx.1 hy.1 hu (by have:=hy.2; omega) _ _ _ _ h
 quiet:=λhk h=>kW 8 _ _ _ _ _ (by have:=hk.2; unfold az at this; omega) hk.1 h
section
variable{prog:K1}{w:Lb}{E:Kd->Kg->Prop}
theorem om {n:Kk}{v:Kd}(h:∀a,v≠.ref a):ofAClassStatement n v=pure false:=by
 cases v with
 | ref a=>exact absurd rfl (h a)
 | _=>first|rfl|simp[ofAClassStatement]|(unfold ofAClassStatement; rfl)
theorem pN:∀(d:Kk) (k:T) (v:Kd) (A:K9) (s:Kg) (Q:KP->Kg->Prop),k.depth<=d->IsT s.heap k v->Q false s->wpAny (model prog w) A (ofAClassStatement d v) Q E s
 | d,.int i,_,A,s,Q,_,x,h=>by cases x; rw[om (λa=>by simp)]; exact Kh h
 | d,.str i,_,A,s,Q,_,x,h=>by cases x; rw[om (λa=>by simp)]; exact Kh h
 | 0,.tup ks,_,A,s,Q,hd,x,h=>by simp[T.depth]at hd
 | d+1,.tup ks,_,A,s,Q,hd,x,h=>by
  cases x with
  | @tup _ a o items n ho hc hdt hi=>
   simp only[T.depth]at hd;have hT:s.TypeIs (.ref a) "tuple":=⟨_,ho,hc⟩;unfold ofAClassStatement;refine Kb (No hT ?_);dsimp only;rw[KJ (show("tuple" == "tuple")=true by decide)]
   refine Kb (Kh ?_);simp only[M7,KO,LH];refine Kb (LU ho hdt ?_);refine Kb ?_;show wpAny _ _ (forIn items _ _) _ _ s;rw[<- N8];refine NO _ (λbV r s'=>r.1=gV/\s'=s/\∃kk,IsTs s.heap kk bV/\T.depths kk<=d) _ ?_ ?_ _ _ ⟨rfl,rfl,ks,hi,by omega⟩
   ·rintro v bV r s' ⟨hr,rfl,kk,hall,hdk⟩;cases hall with
    | cons q1 q2=>
     simp only[T.depths]at hdk;refine Kb (pN d _ v _ _ _ (by omega) q1 ?_)
     simp only[KO,LH];exact Kh ⟨rfl,rfl,_,q2,by omega⟩
   ·rintro⟨r1,r2⟩ s' ⟨hr,rfl,_⟩;simp only at hr;subst hr;exact Kh h
theorem yz {A:K9}{s:Kg}{Q:KP->Kg->Prop}{x:T}{b:Kl}{ys:J9 Kd}(hx:IsT s.heap x (.ref b))(hdx:x.depth<=az)(hy:∀v∈ys,∃y c,v=.ref c/\IsT s.heap y (.ref c)/\y.depth<=az)(h:Q false s):wpAny (model prog w) A (searchCouldBeSeen (.ref b) ys) Q E s:=by
 unfold searchCouldBeSeen;refine Kb ?_;refine NO _ (λbV r s'=>r.1=gV/\s'=s/\∀v∈bV,∃y c,v=.ref c/\IsT s.heap y (.ref c)/\y.depth<=az) _ ?_ ?_ _ _ ⟨rfl,rfl,hy⟩
 ·rintro v bV r s' ⟨hr,rfl,hall⟩;obtain⟨y,c,rfl,q,hdy⟩:=hall v (.head _);have hrest:∀v∈bV,∃y c,v=.ref c/\IsT s'.heap y (.ref c)/\y.depth<=az:=λv hv=>hall v (.tail _ hv)
  have k6:az<=8:=by unfold az; decide
  dsimp only;split
  ·exact Kh ⟨rfl,rfl,hrest⟩
  ·refine Kb (kW 8 _ _ _ _ _ (by omega) hx ?_)
   simp only[M7,KO,LH];refine Kb (kW 8 _ _ _ _ _ (by omega) q ?_)
   simp only[M7,KO,LH];refine Kb (pN 8 _ _ _ _ _ (by omega) hx ?_)
   simp only[KO,LH];refine Kb (pN 8 _ _ _ _ _ (by omega) q ?_)
   simp only[KO,LH];exact Kh ⟨rfl,rfl,hrest⟩
 ·rintro⟨r1,r2⟩ s' ⟨hr,rfl,_⟩;simp only at hr;subst hr;exact Kh h
end
inductive Sf where|there|free (slot:Kk)
noncomputable def ee (es:KQ (Ky×T))(t:LG)(x:T)(h:Ky):Kk->Ki OW->Ki Sf
 | 0,_=>gV
 | f+1,stand=>match t.probe (λi=>(es[i]?.map (·.1)).getD 0) h (stand.getD (t.probeStart h))with
  | none=>gV
  | some (.empty j gV)=>ba (.free j)
  | some (.empty _ (ba _))=>gV
  | some (.candidate j i next)=>match es[i]? with
   | none=>gV
   | some (_,y)=>if y=x then ba .there else if t.slot j=.live i then ee es t x h f (ba next)else gV
structure SE (h:Lj)(es0:KQ (Ky×T))(es:KQ (Ky×Kd)):Prop where
 size:es0.size=es.size
 ent:∀(i:Kk) (hh:Ky) (y:T),es0[i]?=ba (hh,y)->∃b:Kl,es[i]?=ba (hh,K4 b)/\IsT h y (.ref b)/\y.depth<=az
theorem SE.hash {h:Lj}{es0:KQ (Ky×T)}{es:KQ (Ky×Kd)}(R:SE h es0 es):(λ(i:Kk)=>(es0[i]?.map (λp=>p.1)).getD 0)=λ(i:Kk)=>(es[i]?.map (λp=>p.1)).getD 0:=by
 funext i
 cases e:es0[i]? with
 | none=>
  have:es[i]?=gV:=by rw[Array.getElem?_eq_none_iff]at e ⊢; rw[<- R.size]; exact e
  rw[this]; rfl
 | some p=>
  obtain⟨b,e2,_⟩:=R.ent i p.1 p.2 e;rw[e2]; rfl
theorem SE.vals {h:Lj}{es0:KQ (Ky×T)}{es:KQ (Ky×Kd)}(R:SE h es0 es):∀e∈es.toList,∃y c,e.2=.ref c/\IsT h y (.ref c)/\y.depth<=az:=λe he=>by
 obtain⟨i,hi,rfl⟩:=MB.mp he;rw[Kz]at hi;have hi0:i < es0.size:=by rw[R.size]; exact hi
 obtain⟨b,e2,q⟩:=R.ent i es0[i].1 es0[i].2 (Mw hi0);rw[Mw hi]at e2;refine⟨_,b,?_,q⟩;rw[OC,Lx e2]
section
variable{prog:K1}{w:Lb}{E:Kd->Kg->Prop}{A:K9}{s:Kg}
theorem yA {a b:Kl}{o:LZ}{es0:KQ (Ky×T)}{es:KQ (Ky×Kd)}{ep:Kk}{t:LG}{x:T}{h:Ky}{Q:SetFound->Kg->Prop}(ho:s.heap.get? a=ba o)(hd:o.data=.set es ep t)(hf:t.fits es.size=true)(hg:t.gaveWay=false)(R:SE s.heap es0 es)
    (hx:IsT s.heap x (.ref b)) (hdx:x.depth<=az) (hu:(bF prog w).room A):∀(f F:Kk) (stand:Ki OW) (r:Sf),ee es0 t x h f stand=ba r->f<=F->(r=.there->Q (.there gV) s)->(∀j,r=.free j->Q (.free j false) s)->
    wpAny (model prog w) A (setSearchFrom a (.ref b) h true F stand) Q E s:=by
  intro f
  induction f with
  | zero=>intro F stand r e; cases e
  | succ f ih=>
    intro F stand r e hF h1 h2;obtain⟨F,rfl⟩ : ∃F',F=F'+1:=⟨F - 1,by omega⟩
    unfold setSearchFrom;refine Kb (LK ho hd hf ?_);dsimp only;rw[hg];simp only[KO,LH];unfold ee at e;rw[R.hash]at e;split
    · rename_i met hm
      have hm:t.probe (λi=>(es[i]?.map (·.1)).getD 0) h (stand.getD (t.probeStart h))=ba met:=hm
      rw[hm]at e;cases met with
      | empty j dm=>
        cases dm with
        | none=>cases e; exact Kh (h2 j rfl)
        | some d=>cases e
      | candidate j i next=>
        dsimp only at e ⊢;cases ei:es0[i]? with
        | none=>rw[ei]at e; cases e
        | some p=>
          obtain⟨hh,y⟩:=p;rw[ei]at e;dsimp only at e;obtain⟨c,ec,qy,hdy⟩:=R.ent i hh y ei;rw[ec];dsimp only;have sm:t.sameMemory t.moves t.mask=ba true:=by unfold TV; rw[KJ (Lp _)]
          have hv:∀v∈TC (λx=>x.snd) (Array.filter (λx=>x.fst==h) es).toList,∃y c,v=K4 c/\IsT s.heap y (.ref c)/\y.depth<=az:=λv hv=>by
            obtain⟨p,hp,rfl⟩:=Kw.mp hv;rw[Array.toList_filter]at hp;exact R.vals p (Ma.mp hp).1
          cases hl:t.led
          · simp only[Qm,L7]
            refine Kb (yz hx hdx hv ?_);simp only[KO,LH];refine Kb (Ly ((bF prog w).eqBool hu ⟨qy,hdy⟩ ⟨hx,hdx⟩ ?_));refine Kb (LK ho hd hf ?_)
            by_cases hyx:y=x
            · rw[KJ hyx]at e
              cases e;simp only[hyx,RV,N1,L7];exact Kh (h1 rfl)
            · rw[KW hyx]at e
              split at e
              · rename_i hsl
                simp only[hyx,Td,OT,KO,LH,sm,L7,hsl,ec];refine Kb (Qa ?_);refine Kb (Kh ?_);simp only[L7];exact ih F (ba next) r e (by omega) h1 h2
              · cases e
          · simp only[M7,KO,LH]
            refine Kb (Ly ((bF prog w).eqBool hu ⟨qy,hdy⟩ ⟨hx,hdx⟩ ?_));refine Kb (LK ho hd hf ?_)
            by_cases hyx:y=x
            · rw[KJ hyx]at e
              cases e;simp only[hyx,RV,N1,L7];exact Kh (h1 rfl)
            · rw[KW hyx]at e
              split at e
              · rename_i hsl
                simp only[hyx,Td,OT,KO,LH,sm,L7,hsl,ec];refine Kb (Qa ?_);refine Kb (Kh ?_);simp only[L7];exact ih F (ba next) r e (by omega) h1 h2
              · cases e
    · rename_i hm
      have hm:t.probe (λi=>(es[i]?.map (·.1)).getD 0) h (stand.getD (t.probeStart h))=gV:=by
        first|exact hm|(cases hp:t.probe (λi=>(es[i]?.map (·.1)).getD 0) h (stand.getD (t.probeStart h))with
          | none=>rfl
          | some m=>exact absurd hp (hm m))
      rw[hm]at e;cases e
end
mutual
noncomputable def eG:T->KP
 | .int _=>true
 | .str _=>false
 | .tup xs=>db xs
noncomputable def db:J9 T->KP
 | []=>true
 | x::xs=>eG x&&db xs
end
section
variable{prog:K1}{w:Lb}{E:Kd->Kg->Prop}
theorem uV:∀(d:Kk) (k:T) (v:Kd) (A:K9) (s:Kg) (Q:KP->Kg->Prop),eG k=true->k.depth<=d->IsT s.heap k v->Q true s->wpAny (model prog w) A (hashByValue d v) Q E s
 | d,.int i,_,A,s,Q,_,_,x,h=>by
  cases x;have:∀t,hashByValue d (.int i t)=pure true:=λt=>by cases d <;> rfl
  rw[this]; exact Kh h
 | d,.str i,_,A,s,Q,hn,_,x,h=>by cases hn
 | 0,.tup ks,_,A,s,Q,_,hd,x,h=>by simp[T.depth]at hd
 | d+1,.tup ks,_,A,s,Q,hn,hd,x,h=>by
  cases x with
  | @tup _ a o items n ho hc hdt hi=>
   simp only[T.depth]at hd;have hn:db ks=true:=hn;have hT:s.TypeIs (.ref a) "tuple":=⟨_,ho,hc⟩;unfold hashByValue;refine Kb (P3 hT F.slot_tuple_hash.lookup ?_);refine Kb (LU ho hdt ?_);refine Kb ?_;show wpAny _ _ (forIn items _ _) _ _ s;rw[<- N8];refine NO _ (λbV r s'=>r.1=gV/\s'=s/\∃kk,IsTs s.heap kk bV/\T.depths kk<=d/\db kk=true) _ ?_ ?_ _ _ ⟨rfl,rfl,ks,hi,by omega,hn⟩
   ·rintro v bV r s' ⟨hr,rfl,kk,hall,hdk,hnk⟩;cases hall with
    | cons q1 q2=>
     simp only[T.depths]at hdk;simp only[db,Kj]at hnk;refine Kb (uV d _ v _ _ _ hnk.1 (by omega) q1 ?_)
     simp only[M7,KO,LH];exact Kh ⟨rfl,rfl,_,q2,by omega,hnk.2⟩
   ·rintro⟨r1,r2⟩ s' ⟨hr,rfl,_⟩;simp only at hr;subst hr;exact Kh h
end
noncomputable abbrev Ze:=Ky×T×Kl
noncomputable def zT (z:Ze):Ky×T:=(z.1,z.2.1)
noncomputable def zV (z:Ze):Ky×Kd:=(z.1,.ref z.2.2)
noncomputable def ZOk (h:Lj)(zs:KQ Ze):Prop:=∀z∈zs.toList,IsT h z.2.1 (.ref z.2.2)/\z.2.1.depth<=az
theorem ZOk.se {h:Lj}{zs:KQ Ze}(k:ZOk h zs):SE h (zs.map zT) (zs.map zV):=⟨by simp,λi hh y e=>by
 rw[OX,Kf]at e;obtain⟨z,hz,e⟩:=e;cases e;exact⟨z.2.2,by rw[OX,hz]; rfl,k z (by rw[NH]; exact Oq hz)⟩⟩
theorem i7 {α β:Type}{f:α->β}{xs:KQ α}{p:Kk}{x:α}:La (xs.map f) p (f x)=(La xs p x).map f:=by
 unfold La;simp[Array.map_extract]
noncomputable def dN (t:LG)(n:Kk):KP:=t.fits n && !t.gaveWay&&decide (n<=1000)
noncomputable def bP (hf:T->Ky)(st:KQ (Ky×T)×LG)(x:T):Ki (KQ (Ky×T)×LG):=
 match ee st.1 st.2 x (hf x) 100 gV with
 | none=>gV
 | some .there=>ba st
 | some (.free slot)=>
  if dN (st.2.put slot).1 (La st.1 (st.2.put slot).2 (hf x,x)).size then
   if (st.2.put slot).1.tooFull then
    if OY (Oj (st.1.size+1))<=sizeLine then
     match (st.2.put slot).1.relaid ((La st.1 (st.2.put slot).2 (hf x,x)).map (·.1)) (Oj (st.1.size+1))with
     | none=>gV
     | some (t2,order)=>
      if (order.filterMap ((La st.1 (st.2.put slot).2 (hf x,x))[·]?)).size=(La st.1 (st.2.put slot).2 (hf x,x)).size/\dN t2 (order.filterMap ((La st.1 (st.2.put slot).2 (hf x,x))[·]?)).size=true then ba (order.filterMap ((La st.1 (st.2.put slot).2 (hf x,x))[·]?),t2)else gV
    else gV
   else ba (La st.1 (st.2.put slot).2 (hf x,x),(st.2.put slot).1)
  else gV
theorem filterMap_map {α β:Type}{f:α->β}{xs:KQ α}{order:KQ Kk}:order.filterMap ((xs.map f)[·]?)=(order.filterMap (xs[·]?)).map f:=by
 rw[Array.map_filterMap];congr 1
 funext i
 exact OX ..
theorem tK {b:Kl}{es:KQ (Ky×Kd)}:byScan (.ref b) es=false:=rfl
theorem lC {t:LG}{n:Kk}(h:dN t n=true):t.fits n=true/\t.gaveWay=false/\n<=1000:=by
 unfold dN at h;simp only[Kj,Pg,KG]at h;exact⟨h.1.1,h.1.2,h.2⟩
section
variable{prog:K1}{w:Lb}{E:Kd->Kg->Prop}{A:K9}{s:Kg}
theorem tL {a:Kl}{o:LZ}{es es1:KQ (Ky×Kd)}{ep:Kk}{t t1:LG}{Q:Unit->Kg->Prop}(ho:s.heap.get? a=ba o)(hd:o.data=.set es ep t)(hz:es1.size<=1000)
  (h:∀h',Mq a s.heap h'->h'.get? a=ba { o with data:=.set es1 (ep+1) t1 }->Q () { s with heap:=h' }):wpAny (model prog w) A (storeSet a es1 t1) Q E s:=by
 refine wpAny_storeSet_of ho hd (h _ (Na ..) ?_) (KT hz (by rw[Lo]; decide))
 have:=LV (Obj.putSet es1 t1) ho (by rw[putSet_of es1 t1 hd]; rfl)
 rw[putSet_of es1 t1 hd]at this;exact this
theorem GL {a b:Kl}{o:LZ}{zs:KQ Ze}{ep:Kk}{t:LG}{x:T}{hf:T->Ky}{es1:KQ (Ky×T)}{t1:LG}{Q:KP->Kg->Prop}(ho:s.heap.get? a=ba o)(hd:o.data=.set (zs.map zV) ep t)(hft:dN t zs.size=true)(hz:ZOk s.heap zs)
  (hx:IsT s.heap x (.ref b)) (hdx:x.depth<=az) (hnx:eG x=true) (hu:(bF prog w).room A) (e:bP hf (zs.map zT,t) x=ba (es1,t1))
  (k:∀(bb:KP) (h':Lj) (zs':KQ Ze) (ep':Kk),zs'.map zT=es1->dN t1 zs'.size=true->Mq a s.heap h'->h'.get? a=ba { o with data:=.set (zs'.map zV) ep' t1 }->(∀z∈zs'.toList,z∈zs.toList\/z=(hf x,x,b))->Q bb { s with heap:=h' }) :
  wpAny (model prog w) A (setAddHashed a (.ref b) (hf x)) Q E s:=by
 obtain⟨f1,f2,f3⟩:=lC hft;have f1':t.fits (zs.map zV).size=true:=by rw[LP]; exact f1
 unfold setAddHashed setAddHashedIn;refine Ly (Kb (LK ho hd f1' ?_));dsimp only;rw[tK];simp only[KO,LH];unfold bP at e;cases hs:ee (zs.map zT) t x (hf x) 100 gV with
 | none=>rw[hs]at e; cases e
 | some r=>
  rw[hs]at e;dsimp only at e;refine Kb ?_;unfold setSearch;refine yA ho hd f1' f2 hz.se hx hdx hu 100 100000 gV r hs (by decide) (λhr=>?_) λslot hr=>?_
  ·subst hr;cases e;exact Kh (k false s.heap zs ep rfl hft (Rq ..) (by rw[<- hd]; exact ho) λz h=>.inl h)
  ·subst hr;dsimp only at e ⊢;refine Kb (LK ho hd f1' ?_);dsimp only;split at e
   ·rename_i hok1;have eI:La (zs.map zT) (t.put slot).2 (hf x,x)=(La zs (t.put slot).2 (hf x,x,b)).map zT:=i7 (f:=zT) (x:=(hf x,x,b));have eV:La (zs.map zV) (t.put slot).2 (hf x,.ref b)=(La zs (t.put slot).2 (hf x,x,b)).map zV:=i7 (f:=zV) (x:=(hf x,x,b));have hmem:∀z∈(La zs (t.put slot).2 (hf x,x,b)).toList,z∈zs.toList\/z=(hf x,x,b):=λz h=>by
     unfold La at h;simp only[OJ,Pd,Ln,Kx]at h;rcases h with(h|h)|h
     ·rw[NI]at h;exact .inl (by rw[O8]at h; exact NJ (M1 h))
     ·exact .inr h
     ·rw[NI]at h;exact .inl (by rw[O8]at h; exact NJ (M1 h))
    rw[eI]at e hok1;rw[LP]at hok1;obtain⟨g1,g2,g3⟩:=lC hok1;rw[eV];have hfst:∀z1:KQ Ze,Nj (λx=>x.fst) (Nj zV z1)=Nj (λx=>x.fst) (Nj zT z1):=λz1=>by
     rw[SQ,SQ]; rfl
    simp only[LP]at e ⊢;generalize(t.put slot).1=tt at e hok1 g1 g2 ⊢;generalize La zs (t.put slot).2 (hf x,x,b)=z1 at e hok1 g1 g3 hmem ⊢;clear eI eV;have k8:x.depth<=8:=KT hdx (by unfold az; decide)
    have g1v:tt.fits (Nj zV z1).size=true:=by rw[LP]; exact g1
    have tail:∀h1:Lj,Mq a s.heap h1->h1.get? a=ba { o with data:=.set (Nj zV z1) (ep+1) tt }->wpAny (model prog w) A (if (!false&&tt.tooFull)=true then do setRelay a (Oj (zs.size+1)); pure true else pure true) Q E { s with heap:=h1 }:=by
     intro h1 sb1 q1;cases htf:tt.tooFull with
     | false=>
      rw[htf]at e;simp only[KO,LH]at e;cases e;simp only[Qm,OT,KO,LH];exact Kh (k true h1 z1 (ep+1) rfl hok1 sb1 q1 hmem)
     | true=>
      rw[htf]at e;simp only[L7]at e;simp only[Qm,N1,L7];split at e
      ·rename_i hle;cases hrel:tt.relaid (Nj (λx=>x.fst) (Nj zT z1)) (Oj (zs.size+1))with
       | none=>rw[hrel]at e; cases e
       | some p=>
        obtain⟨t2,order⟩:=p;rw[hrel]at e;dsimp only at e;rw[filterMap_map,LP]at e;split at e
        ·rename_i hc;cases e;obtain⟨c1,c2⟩:=hc;obtain⟨d1,d2,d3⟩:=lC c2;unfold setRelay;refine Kb (Kb (LK q1 rfl g1v ?_));dsimp only;rw[KW (QX.mpr hle)];rw[hfst,hrel];refine Kb (Oc (a:=(Nj zV (R3 (λx=>z1[x]?) order),t1)) ?_ ?_)
         ·show(if ((R3 (λx=>(Nj zV z1)[x]?) order).size != (Nj zV z1).size)=true then _ else _)=_
          rw[filterMap_map,LP,LP,c1];rw[KW (by simp)]
         ·dsimp only;refine tL (s:={ s with heap:=h1 }) q1 rfl (by rw[LP]; exact d3) λh2 sb2 q2=>Kh (k true h2 _ (ep+1+1) rfl c2 (sb1.trans sb2) q2 λz hz=>hmem z ?_)
          obtain⟨i,hi,e⟩:=Array.mem_filterMap.mp (NH.mp hz);exact NH.mpr (Oq e)
        ·cases e
      ·cases e
    cases hp:tt.plain with
    | false=>
     simp only[KO,LH];refine Kb (Kh ?_);simp only[L7];exact Kb (tL ho hd (by rw[LP]; exact g3) λh1 sb1 q1=>tail h1 sb1 q1)
    | true=>
     simp only[L7];refine Kb (uV 8 _ _ _ _ _ hnx k8 hx ?_);simp only[L7];exact Kb (tL ho hd (by rw[LP]; exact g3) λh1 sb1 q1=>tail h1 sb1 q1)
   ·cases e
end
noncomputable def gL (h h':Lj):Prop:=∀c o,h.get? c=ba o->o.cls=.type "tuple"->h'.get? c=ba o
mutual
theorem IsT.stay {h h':Lj}(k:gL h h'):∀ {x:T} {v:Kd},IsT h x v->IsT h' x v
 | _,_,.int=>.int
 | _,_,.str=>.str
 | _,_,.tup a b c d=>.tup (k _ _ a b) b c (IsTs.stay k d)
theorem IsTs.stay {h h':Lj}(k:gL h h'):∀ {x:J9 T} {v:J9 Kd},IsTs h x v->IsTs h' x v
 | _,_,.nil=>.nil
 | _,_,.cons a b=>.cons (IsT.stay k a) (IsTs.stay k b)
end
theorem ZOk.stay {h h':Lj}{zs:KQ Ze}(k:gL h h')(z:ZOk h zs):ZOk h' zs:=λy hy=>⟨(z y hy).1.stay k,(z y hy).2⟩
section
variable{prog:K1}{w:Lb}{A:K9}{E:Kd->Kg->Prop}{s:Kg}{R:Rz->Kg->Prop}{I:Kl}{fp wr:J9 Kl}{G:KQ Qi->KQ Qi->Prop}{n:Kk}{P:Kk->Kd->Prop}{St:Kk->Kg->Prop}
noncomputable def lD (w:Lb)(zs:KQ Ze)(ep:Kk)(t:LG):LZ:={ cO w with data:=.set (zs.map zV) ep t }
theorem wL (W:WalksS prog w A.in1 I fp wr G n P St){D:Kl}(hD:D∉fp)(hwr:∀i s b o,St i s->b∈wr->s.heap.get? b=ba o->o.cls≠.type "tuple"){ks:J9 T}{res:KQ (Ky×T)×LG}{Y:T->Kl->Prop}(hl:ks.length=n)(hk:∀x∈ks,eG x=true/\x.depth<=az)(hP:∀i v,P i v->∃x b,ks[i]?=ba x/\v=.ref b/\Y x b)(hu:(bF prog w).room A.in1) :
  ∀(k i:Kk) (s:Kg) (zs:KQ Ze) (ep:Kk) (t:LG),n - i=k->i<=n->St i s->s.heap.get? D=ba (lD w zs ep t)->dN t zs.size=true->ZOk s.heap zs->(∀z∈zs.toList,Y z.2.1 z.2.2)->(∀j v x,P j v->ks[j]?=ba x->IsT s.heap x v)->(ks.drop i).foldlM (bP (eW w)) (zs.map zT,t)=ba res->
   (∀s' zs' ep',Moved (D::wr) G s s'->s'.heap.get? D=ba (lD w zs' ep' res.2)->zs'.map zT=res.1->dN res.2 zs'.size=true->ZOk s'.heap zs'->(∀z∈zs'.toList,Y z.2.1 z.2.2)->R (.ok (.ret .none)) s')->codeAny (model prog w) A (.builtin "set.update.loop" ⟨[.ref D,.ref I],[]⟩) R s:=by
 have hw:D∉wr:=λz=>hD (W.sub _ z)
 have up:∀b∈wr,b∈D::wr:=λb z=>LD _ z
 intro k
 induction k with
 | zero=>
  intro i s zs ep t hk' hi st ho hok hz hy hT hsim hR;obtain rfl:i=n:=by omega
  refine LB F.entry_set_update_loop ?_;rw[Ls F.plain_set_update_loop _];show wpAny _ A.in1 (pyNext (.ref I) >>= _) _ _ s;refine Kb (W.done s _ _ st λs' mv=>?_)
  rw[Ol (by omega)]at hsim
  cases hsim;have ts:gL s.heap s'.heap:=λc o q hc=>mv.heap c o (λz=>hwr _ _ _ _ st z q hc) q
  exact Kh (hR s' zs ep (mv.mono up) (mv.heap D _ hw ho) rfl hok (hz.stay ts) hy)
 | succ k ih=>
  intro i s zs ep t hk' hi st ho hok hz hy hT hsim hR;have hlt:i < n:=by omega
  refine LB F.entry_set_update_loop ?_;rw[Ls F.plain_set_update_loop _];show wpAny _ A.in1 (pyNext (.ref I) >>= _) _ _ s;refine Kb (W.item i s _ _ hlt st λv s1 pv st1 mv=>?_)
  obtain⟨x,b,hx,rfl,yx⟩:=hP i v pv;have ts1:gL s.heap s1.heap:=λc o q hc=>mv.heap c o (λz=>hwr _ _ _ _ st z q hc) q
  obtain⟨hn,hdp⟩:=hk x (Kt hx);have isx:IsT s1.heap x (.ref b):=(hT i _ x pv hx).stay ts1;have o1:s1.heap.get? D=ba (lD w zs ep t):=mv.heap D _ hw ho;have hd1:ks.drop i=x::ks.drop (i+1):=by
   obtain⟨h1,h2⟩:=Kq.mp hx;rw[List.drop_eq_getElem_cons h1,h2]
  rw[hd1,Nk]at hsim;cases hs:bP (eW w) (zs.map zT,t) x with
  | none=>rw[hs]at hsim; cases hsim
  | some bm=>
   obtain⟨es1,t1⟩:=bm;rw[hs]at hsim;have hsim:(ks.drop (i+1)).foldlM (bP (eW w)) (es1,t1)=ba res:=hsim;show wpAny _ A.in1 (holding [K4 b] (setAdd D (.ref b)) >>= _) _ _ s1;refine Kb (Ly ?_);unfold setAdd;refine Ly (Kb ((bF prog w).pyHash hu ⟨isx,hdp⟩ ?_));refine GL (s:={ s1 with toks:=s1.toks+x.draws }) (hf:=eW w) o1 rfl hok (hz.stay ts1) isx hdp hn hu hs λbb h' zs' ep' e1 hok' sb ho' hmem=>?_
   have ts2:gL s1.heap h':=λc o q hc=>by
    refine sb.extBut c o (λz=>?_) q
    subst z;rw[o1]at q;cases q;exact absurd hc (by show ¬ (Mh "set" = Mh "tuple"); simp)
   have hz':ZOk h' zs':=λz hzm=>by
    rcases hmem z hzm with h|rfl
    ·exact((hz.stay ts1).stay ts2) z h
    ·exact⟨isx.stay ts2,hdp⟩
   refine Kh ⟨Mp F.plain_set_update_loop _,ih (i+1) { s1 with heap:=h',toks:=s1.toks+x.draws } zs' ep' t1 (by omega) hlt (W.frame _ s1 _ _ st1 (Nl _ _) λc hc u q=>?_) ho' hok' hz' (λz hzm=>by
    rcases hmem z hzm with h|rfl
    ·exact hy z h
    ·exact yx) (λj v y pj hy=>((hT j v y pj hy).stay ts1).stay ts2) (by rw[e1]; exact hsim) λs2 zs2 ep2 mv2 ho2 e2 hok2 hz2 hy2=>?_⟩
   ·rw[sb.2 c λz=>hD (z ▸ hc)]; exact q
   ·refine hR s2 zs2 ep2 (Moved.trans W.gtrans ((mv.mono up).then_heap (Nl _ _) λc u hc q=>?_) mv2) ho2 e2 hok2 hz2 hy2
    rw[sb.2 c λz=>hc (z ▸ LM)]
    exact q
end
section
variable{prog:K1}{w:Lb}{A:K9}{E:Kd->Kg->Prop}{s:Kg}
theorem yB (l:KP):dN (.fresh 0 0 l) (#[]:KQ Ze).size=true:=by cases l <;> decide
set_option maxHeartbeats 4000000 in
theorem wM {l:Kl}{its:KQ Kd}{ks:J9 T}{res:KQ (Ky×T)×LG}{Q:Kd->Kg->Prop}(hh:A.handled=gV)(hl:s.heap.IsList l its)(hi:IsTs s.heap ks its.toList)(hk:∀x∈ks,eG x=true/\x.depth<=az)(hrf:∀(i:Kk) (v:Kd),its[i]?=ba v->∃b,v=.ref b)(hu:(bF prog w).room A.in1.in1.in1)(hsim:ks.foldlM (bP (eW w)) (#[],.fresh 0 0 (!fB w))=ba res)
  (h:∀(h':Lj) (tk:Kk) (zs:KQ Ze) (ep:Kk),h'.get? s.heap.objs.size=ba (lD w zs ep res.2)->zs.map zT=res.1->dN res.2 zs.size=true->ZOk h' zs->(∀z∈zs.toList,∃i:Kk,ks[i]?=ba z.2.1/\its[i]?=ba (K4 z.2.2))->(∀b u,s.heap.get? b=ba u->h'.get? b=ba u)->Q (.ref s.heap.objs.size) { s with heap:=h',toks:=tk }):wpAny (model prog w) A (call (.type "set") [.ref l]) Q E s:=by
 obtain⟨c,tl,hmro⟩:=F.called_set.mro;have hmade:=F.called_set.made;have hsub:=F.called_set.sub;have hn1:=F.called_set.notType;have hn2:=F.called_set.canCreate;have hct:=F.typeCall_set_1 (.ref l);refine wpAny_call (P2 ?_);show wpAny _ _ (callAny (.type "set") _) _ _ _;refine Kh ⟨QY _ (by decide +kernel),LB F.entry_type_call ?_⟩
 rw[Around.under_plain (weight_type_call_type "set" [.ref l] []) rfl]
 repeat (any_goals (first|assumption|wp_step))
 refine Oe (yt (w:=w) (.ref l) (E:=E) (Q₁:=λobj s1=>obj=.ref s.heap.objs.size/\s1={ s with heap:=s.heap.push (cO w) }) ⟨rfl,rfl⟩) λr s1 hr=>?_
 match r,hr with
 | .ok (.ret obj),hr=>
  obtain⟨rfl,rfl⟩:=hr;have oS:(s.heap.push (cO w)).get? s.heap.objs.size=ba (cO w):=Ku _ rfl;have tS:Shared.TypeIs { s with heap:=s.heap.push (cO w) } (.ref s.heap.objs.size) "set":=⟨_,oS,rfl⟩
  have hli:=F.called_set.init.lookup;have hbi:=F.called_set.init.bind (.ref s.heap.objs.size)
  repeat (any_goals (first|assumption|wp_step))
  refine Oe (codeAny_call_builtin (R:=wants (λr s2=>r=.none/\∃h' tk zs ep,s2={ s with heap:=h',toks:=tk }/\h'.get? s.heap.objs.size=ba (lD w zs ep res.2)/\zs.map zT=res.1/\dN res.2 zs.size=true/\ZOk h' zs/\(∀z∈zs.toList,∃i:Kk,ks[i]?=ba z.2.1/\its[i]?=ba (K4 z.2.2))/\∀b u,s.heap.get? b=ba u->h'.get? b=ba u) E) F.called_set.init.plain F.entry_set_init (check_set_init_1 tS ?_)) λr2 s2 hr2=>?_
  ·obtain⟨⟨oc,od,ot,osl⟩,hol,hcl,nl,hdl⟩:=id hl;simp only at hcl hdl;subst hcl hdl;have hol1:=Ke (cO w) hol;have l1:(s.heap.push (cO w)).IsList l its:=⟨_,hol1,rfl,nl,rfl⟩;have e1:=F.sub_list_set;have e2:=F.sub_list_frozenset;have e3:(Mh "list" == Mh "dict")=false:=by decide
   unfold NA.«set.__init__» noKeywords R4;generalize hPI:pyIter=PI
   wp_walk
   subst hPI;refine NB l1 (Kb (Oi ?_));have ls:l < s.heap.objs.size:=KA hol;have sz:(s.heap.push (cO w)).objs.size=s.heap.objs.size+1:=L9 ..;have ne:l≠(s.heap.push (cO w)).objs.size:=by rw[sz]; exact KM (M0 ls)
   have oS':(s.heap.push (cO w)).get? s.heap.objs.size=ba (lD w #[] 0 (.fresh 0 0 (!fB w))):=by
    rw[oS]; unfold lD cO; simp
   have len:ks.length=its.size:=by rw[hi.length,Kz]
   refine wL ((Sw (A:=A.in1.in1.in1) (by simp[hh]) _ l ne its).toS) (D:=s.heap.objs.size) (ks:=ks) (res:=res) (Y:=λx b=>∃i:Kk,ks[i]?=ba x/\its[i]?=ba (K4 b)) (by rw[sz]; simp only[KL,Lr,MJ,Te]; exact⟨KM (Mn _),Mr ls⟩) (λi s b o st hb q=>?_) len hk (λi v q=>?_) hu _ 0 _ #[] 0 (.fresh 0 0 (!fB w)) rfl (L1 _)
    ⟨⟨_,Ku _ rfl,rfl,rfl⟩,l1.push _⟩ (Ke _ oS') (yB _) (λz hz=>by simp at hz) (λz hz=>by simp at hz) (λj v x q hx=>?_) (by rw[Qn,show Nj zT #[]=#[] by simp]; exact hsim) λs3 zs3 ep3 mv ho3 e3 hok3 hz3 hy3=>?_
   ·obtain⟨⟨o',e,hc,_⟩,_⟩:=st;rw[Kx.mp hb]at q;rw[q]at e;cases e;rw[hc];simp
   ·obtain⟨b,rfl⟩:=hrf i v q;have hi':i < ks.length:=by rw[len]; exact(L4.mp q).1
    exact⟨ks[i],b,Ko hi',rfl,i,Ko hi',q⟩
   ·have hj:=(Kq.mp hx);have q':=(L4.mp q);obtain⟨h1,rfl⟩:=hj;obtain⟨h2,rfl⟩:=q';have:=hi.get j h1 (by rw[Kz]; exact h2)
    rw[OC]at this;exact this.stay λc o q hc=>Ke _ (Ke _ q)
   ·rw[SN mv];refine Kh (Kh ⟨rfl,s3.heap,s3.toks,zs3,ep3,rfl,ho3,e3,hok3,hz3,hy3,λb u q=>?_⟩)
    have hb:=KA q;exact mv.heap b u (by rw[sz]; simp only[KL,Lr,MJ,Te]; exact⟨KM hb,KM (M0 hb)⟩) (Ke _ (Ke _ q))
  ·match r2,hr2 with
   | .ok (.ret r),hr2=>
    obtain⟨rfl,h',tk,zs,ep,rfl,g1,g2,g3,g4,g5,g6⟩:=hr2
    repeat (any_goals (first|assumption|wp_step))
    exact h h' tk zs ep g1 g2 g3 g4 g5 g6
   | .ok .next,hr2=>exact hr2.elim
   | .ok .brk,hr2=>exact hr2.elim
   | .ok .cont,hr2=>exact hr2.elim
   | .error e,hr2=>exact hr2
 | .ok .next,hr=>exact hr.elim
 | .ok .brk,hr=>exact hr.elim
 | .ok .cont,hr=>exact hr.elim
 | .error e,hr=>exact hr
end
noncomputable def kn (S:aa)(i:Kk):Ki (J9 (T×W)):=match S[i]? with
 | some (.dic kvs)=>ba kvs
 | some (.frd kvs)=>ba kvs
 | _=>gV
noncomputable def pO (S:aa)(i:Kk):Ki (J9 (T×W)):=match S[i]? with
 | some (.dic kvs)=>ba kvs
 | _=>gV
noncomputable def cV (kvs:J9 (T×W))(k:T):Ki W:=(kvs.find? λp=>decide (p.1=k)).map (·.2)
noncomputable def ft (kvs:J9 (T×W))(k:T)(v:W):J9 (T×W):=
 if (kvs.any λp=>decide (p.1=k))=true then kvs.map (λp=>if p.1=k then(p.1,v)else p)else kvs++[(k,v)]
noncomputable def gX (w:W):Ki T:=match W.t w with
 | some k=>if k.isTup=true/\k.depth<=az then ba k else gV
 | none=>gV
theorem ey {w:W}{k:T}(h:gX w=ba k):k.w=w/\k.isTup=true/\k.depth<=az:=by
 unfold gX at h;split at h
 ·rename_i k' hk;split at h
  ·rename_i hc;cases h;exact⟨W.t_w hk,hc.1,hc.2⟩
  ·cases h
 ·cases h
theorem dO (kvs:J9 (T×W))(k:T)(v:W):(ft kvs k v).length<=kvs.length+1:=by
 unfold ft;split
 ·rw[Kc]; omega
 ·rw[Ks,Li,Mu]; omega
section
variable{X:Cx}{pins:J9 (Kl×LZ)}{σ:L2.St}{H:Hp}{s:Kg}{A:J9 Kl}{S:aa}
mutual
theorem lE (I:Inv X pins σ H s):∀(k:T) {v:V} {u:Kd},Rel X.K A H k.w v->RelV v u->IsT s.heap k u
 | .int i,_,_,r,q=>by
  cases r;obtain⟨t,rfl⟩ : ∃t,_=Pu _ t:=q;exact .int
 | .str x,_,_,r,q=>by
  cases r;obtain⟨t,rfl⟩ : ∃t,_=Ot _ t:=q;exact .str
 | .tup ks,_,_,r,q=>by
  simp only[T.w]at r;cases r with
  | tup sq rl=>
   obtain⟨its,rv,⟨o,h1,h2,n,h3⟩,hz⟩:=I.tuple sq;obtain rfl:_=K4 _:=q;exact .tup h1 h2 h3 (eX I ks rl (by simpa using rv))
theorem eX (I:Inv X pins σ H s):∀(ks:J9 T) {vs:J9 V} {us:J9 Kd},RelL X.K A H (T.ws ks) vs->Vals vs us->IsTs s.heap ks us
 | [],_,_,r,q=>by
  simp only[T.ws]at r;cases r; cases q; exact .nil
 | k::ks,_,_,r,q=>by
  simp only[T.ws]at r;cases r with
  | cons r1 r2=>
   cases q with
   | cons q1 q2=>exact .cons (lE I k r1 q1) (eX I ks r2 q2)
end
theorem jG (I:Inv X pins σ H s){k:T}{b:Kl}(r:Rel X.K A H k.w (.ref b))(hd:k.depth<=az):(bF X.prog X.w).is s.heap k b:=⟨lE I k r rfl,hd⟩
theorem i8 {w:W}{k:T}{v:V}{u:Kd}(hk:gX w=ba k)(r:Rel X.K A H w v)(q:RelV v u):∃b,v=.ref b/\u=.ref b/\Rel X.K A H k.w (.ref b):=by
 obtain⟨h1,h2,h3⟩:=ey hk;subst h1;cases k with
 | tup ks=>
  simp only[T.w]at r;cases r with
  | tup a b=>exact⟨_,rfl,q,by simp only[T.w]; exact .tup a b⟩
 | _=>cases h2
theorem KRel.is {kvs:J9 (T×W)}{xs:J9 (T×Kl×Kd)}(I:Inv X pins σ H s)(r:KRel X.K A H kvs xs):∀x∈xs,(bF X.prog X.w).is s.heap x.1 x.2.1:=by
 unfold KRel at r
 induction r with
 | nil=>intro x hx; exact nomatch hx
 | @cons p q ps qs h t ih=>
  intro x hx;rcases KL.mp hx with e|hx
  ·subst e;obtain⟨h1,h2,h3,h4,_⟩:=h;rw[h1]at h3 h4;exact jG I h4 h3
  ·exact ih x hx
theorem KRel.length {kvs:J9 (T×W)}{xs:J9 (T×Kl×Kd)}(r:KRel X.K A H kvs xs):kvs.length=xs.length:=Pk r
theorem KRel.val {kvs:J9 (T×W)}{xs:J9 (T×Kl×Kd)}(r:KRel X.K A H kvs xs)(k:T) :
  (∀w,cV kvs k=ba w->∃p v,atKey xs k=ba p/\Rel X.K A H w v/\RelV v p.2)/\(cV kvs k=gV->atKey xs k=gV):=by
 unfold KRel at r
 induction r with
 | nil=>exact⟨λw h=>(nomatch h),λ_=>rfl⟩
 | @cons p q ps qs h t ih=>
  obtain⟨h1,_,_,_,v,h5,h6⟩:=h
  by_cases e:p.1=k
  ·have e':q.1=k:=h1.symm.trans e;have a1:cV (p::ps) k=ba p.2:=by simp[cV,Nv,e]
   have a2:atKey (q::qs) k=ba q.2:=by simp[atKey,Nv,e']
   rw[a1,a2];exact⟨λw hw=>(by cases hw; exact⟨_,v,rfl,h5,h6⟩),λh=>nomatch h⟩
  ·have e':¬ q.1=k:=λz=>e (h1.trans z)
   have a1:cV (p::ps) k=cV ps k:=by simp[cV,Nv,e]
   have a2:atKey (q::qs) k=atKey qs k:=by simp[atKey,Nv,e']
   rw[a1,a2];exact ih
theorem KRel.repl {kvs:J9 (T×W)}{xs:J9 (T×Kl×Kd)}(r:KRel X.K A H kvs xs)(k:T){w:W}{v:V}{u:Kd}(rw':Rel X.K A H w v)(rv:RelV v u) :
  KRel X.K A H (kvs.map λp=>if p.1=k then(p.1,w)else p) (xs.map (putAt k u)):=by
 unfold KRel at r ⊢
 induction r with
 | nil=>exact .nil
 | @cons p q ps qs h t ih=>
  rw[LF,LF];refine .cons ?_ ih;obtain⟨h1,h2,h3,h4,h5⟩:=h;unfold putAt
  by_cases e:p.1=k
  ·rw[KJ e,KJ (h1.symm.trans e)]; exact⟨h1,h2,h3,h4,v,rw',rv⟩
  ·rw[KW e,KW (λz=>e (h1.trans z))]; exact⟨h1,h2,h3,h4,h5⟩
theorem rA (k:T):∀kvs:J9 (T×W),(kvs.any λp=>decide (p.1=k))=(cV kvs k).isSome
 | []=>rfl
 | p::r=>by
  rw[MO]
  by_cases e:p.1=k
  ·have a1:cV (p::r) k=ba p.2:=by simp[cV,Nv,e]
   rw[a1,L3 e]; rfl
  ·have a1:cV (p::r) k=cV r k:=by simp[cV,Nv,e]
   rw[a1,K5 e,Po]; exact rA k r
theorem KRel.put {kvs:J9 (T×W)}{xs:J9 (T×Kl×Kd)}(r:KRel X.K A H kvs xs){k:T}{b:Kl}{w:W}{v:V}{u:Kd}(h1:k.isTup=true)(h2:k.depth<=az)(h3:Rel X.K A H k.w (.ref b))(rw':Rel X.K A H w v)(rv:RelV v u) :
  KRel X.K A H (ft kvs k w) (storedH xs k b u):=by
 have e:(kvs.any λp=>decide (p.1=k))=(atKey xs k).isSome:=by
  rw[rA];cases q:cV kvs k with
  | none=>rw[(r.val k).2 q]; rfl
  | some x=>obtain⟨p,_,h,_⟩:=(r.val k).1 x q; rw[h]; rfl
 unfold ft storedH;rw[e]
 by_cases q:(atKey xs k).isSome=true
 ·rw[KJ q,KJ q]; exact r.repl k rw' rv
 ·rw[KW q,KW q]; exact Paired.snoc r ⟨rfl,h1,h2,h3,v,rw',rv⟩
theorem DicAt.of {h:Lj}{a:Kl}{xs:J9 (T×Kl×Kd)}(hz:xs.length<=sizeLine)(hs:(a==sysModules)=false)(d:h.DictOfH (bF X.prog X.w) a xs):DicAt X.w a xs h:=
 let ⟨o,es,ep,h1,h2,h3,h4,_,h6⟩:=d; ⟨hz,hs,h6,o,es,ep,h1,h2,h3,h4⟩
theorem DicAt.stay {wd:Lb}{h h':Lj}{a:Kl}{xs:J9 (T×Kl×Kd)}(d:DicAt wd a xs h)(k:∀o,h.get? a=ba o->h'.get? a=ba o):DicAt wd a xs h':=
 let ⟨h0,hs,hn,o,es,ep,h1,h2⟩:=d; ⟨h0,hs,hn,o,es,ep,k _ h1,h2⟩
theorem DicAt.ok {P:K1}{h:Lj}{wd:Lb}{a:Kl}{xs:J9 (T×Kl×Kd)}(d:DicAt wd a xs h):ObjOk P wd H h a (eE wd a xs):=
 ⟨d,let ⟨_,_,_,o,_,_,h1,_⟩:=d; ⟨o,h1⟩,λ_ _ p k=>p.stay k⟩
theorem cQ {a:Kl}{xs:J9 (T×Kl×Kd)}(I:Inv X pins σ H s)(e:Rd H a (eE X.w a xs)):DicAt X.w a xs s.heap:=(show ObjOk X.prog X.w H s.heap a (eE X.w a xs)from e.ok I.hok).1
theorem DicAt.dict {kvs:J9 (T×W)}{a:Kl}{xs:J9 (T×Kl×Kd)}(d:DicAt X.w a xs s.heap)(I:Inv X pins σ H s)(r:KRel X.K A H kvs xs):s.heap.DictOfH (bF X.prog X.w) a xs:=
 let ⟨_,_,hn,o,es,ep,h1,h2,h3,h4⟩:=d; ⟨o,es,ep,h1,h2,h3,h4,r.is I,hn⟩
theorem gk {i:Kk}{kvs:J9 (T×W)}{a:Kl}(so:StoreOk X.w X.K A H S)(e:kn S i=ba kvs)(ea:A[i]?=ba a):∃xs,Rd H a (eE X.w a xs)/\KRel X.K A H kvs xs:=by
 unfold kn at e;split at e
 ·rename_i k h;cases e;obtain⟨xs,q,r⟩:=so.obj i _ a h ea;exact⟨xs,.inl q,r⟩
 ·rename_i k h;cases e;obtain⟨o,xs,q,r⟩:=so.obj i _ a h ea;exact⟨xs,.inr ⟨o,q⟩,r⟩
 ·cases e
theorem i9 {i:Kk}{kvs:J9 (T×W)}(e:pO S i=ba kvs):S[i]?=ba (.dic kvs):=by
 unfold pO at e;split at e
 ·rename_i h; cases e; exact h
 ·cases e
theorem uW {i:Kk}{kvs:J9 (T×W)}{a:Kl}(so:StoreOk X.w X.K A H S)(e:pO S i=ba kvs)(ea:A[i]?=ba a):∃xs,H a=ba (eE X.w a xs)/\KRel X.K A H kvs xs:=
 so.obj i _ a (i9 e) ea
theorem rB {B:K9}(hu:B.units+10 < cLine):(bF X.prog X.w).room B.in1:=by
 show B.in1.units+az < cLine;rw[aR]; unfold az; omega
noncomputable def qQ (x y:W)(S:aa):Ki (W×aa):=match x,y with
 | .ref r,.tup ks=>match kn S r,gX (.tup ks)with
  | some kvs,ba k=>(cV kvs k).map λw=>(w,S)
  | _,_=>gV
 | x,y=>wu x y S
theorem Jb (hu:X.A.units+10 < cLine):LIx X qQ:=by
 intro value slice pins s σ H A S x y a b u v w S' I so rx ru ry rv e hs
 by_cases hxy:∃r ks,x=.ref r/\y=.tup ks
 ·obtain⟨r,ks,rfl,rfl⟩:=hxy;simp only[qQ]at e;split at e
  ·rename_i kvs k hk1 hk2;rw[Kf]at e;obtain⟨w',e1,e2⟩:=e;cases e2;cases rx with
   | ref ea=>
    obtain⟨xs,rd,kr⟩:=gk so hk1 ea;have d:=cQ I rd;have dd:=d.dict I kr;obtain⟨bk,rfl,rfl,rk⟩:=i8 hk2 ry rv;obtain⟨p,vv,h1,h2,h3⟩:=(kr.val k).1 _ e1;obtain rfl:u=K4 _:=ru;refine Og (x:=p.2) dd.typeIs slot_dict_getitem.lookup
     (wpAny_getItem_heap (Q:=λr s'=>r=p.2/\d4 X pins σ A H S w r s') (rB hu) (jG I rk (ey hk2).2.2) dd h1 ⟨rfl,vv,H,A,I.tok _,h3,.refl,so,h2⟩) hs
  ·cases e
 ·have:qQ x y S=wu x y S:=by
   cases x <;> cases y <;> first|rfl|exact absurd ⟨_,_,rfl,rfl⟩ hxy
  rw[this]at e;exact J0 hu value slice pins s σ H A S x y a b u v w S' I so rx ru ry rv e hs
noncomputable def ja (o i v:W)(S:aa):Ki aa:=match o,i with
 | .ref r,.tup ks=>match pO S r,gX (.tup ks)with
  | some kvs,ba k=>if kvs.length < sizeLine then ba (S.set r (.dic (ft kvs k v)))else gV
  | _,_=>gV
 | o,i=>wx o i v S
theorem GM (hu:X.A.units+10 < cLine):LSet X ja:=by
 intro pins s σ H A S o i x ao ai ax uo ui ux S' I so ro ruo ri rui rx rux e
 by_cases hxy:∃r ks,o=.ref r/\i=.tup ks
 ·obtain⟨r,ks,rfl,rfl⟩:=hxy;simp only[ja]at e;split at e
  ·rename_i kvs k hk1 hk2;split at e
   ·rename_i hl;cases e;cases ro with
    | ref ea=>
     obtain⟨xs,hH,kr⟩:=uW so hk1 ea;have d:=cQ I (.inl hH);have dd:=d.dict I kr;obtain⟨bk,rfl,rfl,rk⟩:=i8 hk2 ri rui;obtain⟨q1,q2,q3⟩:=ey hk2;obtain rfl:uo=K4 _:=ruo;have hz:xs.length<=sizeLine:=by rw[<- kr.length]; omega
     refine wpAny_setItem_heap (hsz:=hz) (rB hu) (jG I rk q3) dd λh' dd' hs=>?_
     have kr':=kr.put q2 q3 rk rx rux;have hz':(storedH xs k bk ux).length<=sizeLine:=by
      rw[<- kr'.length];have:=dO kvs k x;omega
     have dn:DicAt X.w _ (storedH xs k bk ux) h':=.of hz' d.2.1 dd';obtain⟨so',ex⟩:=so.writeO (i9 hk1) rfl ea (u:=eE X.w _ (storedH xs k bk ux)) (n:=.dic (ft kvs k x)) ⟨_,bh,kr'.mono (c9 (.ext hH))⟩;exact⟨_,A,pB I (by rw[hH]; exact Ox) hs (let ⟨q,_,_,hq,_⟩:=dd'; ⟨q,hq⟩) dn.ok,ex,so'⟩
   ·cases e
  ·cases e
 ·have:ja o i x S=wx o i x S:=by
   cases o <;> cases i <;> first|rfl|exact absurd ⟨_,_,rfl,rfl⟩ hxy
  rw[this]at e;exact lset hu pins s σ H A S o i x ao ai ax uo ui ux S' I so ro ruo ri rui rx rux e
noncomputable def uX (x:W)(xs:J9 W)(S:aa):Ki (W×aa):=match x,xs with
 | .ref r,[y,z]=>match kn S r,gX y with
  | some kvs,ba k=>ba ((cV kvs k).getD z,S)
  | _,_=>gV
 | _,_=>gV
theorem tM (hu:X.A.units+10 < cLine):LMeth X "dict.get" uX:=by
 intro pins s σ H A S x a u xs vs us w S' I so rx ru rl rv e;cases rx with
 | ref ea=>
  cases rl with
  | nil=>cases e
  | cons r1 t1=>
   cases t1 with
   | nil=>cases e
   | cons r2 t2=>
    cases t2 with
    | cons _ _=>cases e
    | nil=>
     dsimp only[uX]at e;split at e
     ·rename_i kvs k hk1 hk2;cases e;obtain⟨xs,rd,kr⟩:=gk so hk1 ea;have d:=cQ I rd;have dd:=d.dict I kr;cases rv with
      | cons v1 rv2=>
       cases rv2 with
       | cons v2 rv3=>
        cases rv3;obtain⟨bk,rfl,rfl,rk⟩:=i8 hk2 r1 v1;obtain rfl:u=K4 _:=ru;refine call_meetsIn Qb dd.typeIs PySem.F.entry_dict_get (PySem.F.args_dict_get_3 _ _ _) (meetsH_dict_get_default (bF X.prog X.w) _ bk d.2.1 _) ⟨rB hu,k,xs,jG I rk (ey hk2).2.2,dd,?_⟩;cases q:cV kvs k with
        | none=>
         rw[(kr.val k).2 q];exact⟨_,H,A,I.tok _,v2,.refl,so,r2⟩
        | some w'=>
         obtain⟨p,vv,h1,h2,h3⟩:=(kr.val k).1 _ q;rw[h1];exact⟨vv,H,A,I.tok _,h3,.refl,so,h2⟩
     ·cases e
 | _=>cases e
noncomputable def Ig (x:W)(i:Kk)(S:aa):Ki KP:=match W.t x,gc S i with
 | some k,ba ys=>match W.ts ys with
  | some ks=>if k.depth<=az/\T.depths ks<=az then ba (decide (k∈ks))else gV
  | none=>gV
 | _,_=>gV
noncomputable def EC (x:W)(ys:J9 W):Ki KP:=match W.t x,W.ts ys with
 | some k,ba ks=>if k.depth<=az/\T.depths ks<=az then ba (decide (k∈ks))else gV
 | _,_=>gV
theorem pP {h:Lj}:∀ {ks:J9 T} {vs:J9 Kd},IsTs h ks vs->∀v∈vs,∃k∈ks,IsT h k v
 | _,_,.cons a b,v,hv=>by
  rcases KL.mp hv with rfl|hv
  ·exact⟨_,.head _,a⟩
  ·obtain⟨k,hk,q⟩:=pP b v hv;exact⟨k,.tail _ hk,q⟩
noncomputable def A6 (h:Lj)(k:T)(v:Kd):KP:=@decide (IsT h k v) (SZ _)
theorem tN {h:Lj}{k k':T}{v:Kd}(x:IsT h k' v):A6 h k v=decide (k'=k):=by
 unfold A6
 by_cases e:k'=k
 ·subst e; simp[x]
 ·have:¬ IsT h k v:=λy=>e (x.inj y)
  simp[e,this]
theorem pQ {h:Lj}{k:T}:∀ {ks:J9 T} {vs:J9 Kd},IsTs h ks vs->vs.any (A6 h k)=decide (k∈ks)
 | _,_,.nil=>by simp
 | _,_,.cons (k:=k') a b=>by
  rw[MO,tN a,pQ b]
  by_cases e:k'=k
  ·simp[e]
  ·have:¬ k=k':=λz=>e z.symm
   simp[e,this]
theorem lF:∀ {ks:J9 T} {k:T},k∈ks->k.depth<=T.depths ks
 | x::ks,k,h=>by
  simp only[T.depths];rcases KL.mp h with rfl|h
  ·omega
  ·have:=lF h; omega
theorem yC {x:W}{i:Kk}{a b:V}{u v:Kd}{c:KP}(hu:X.A.units+10 < cLine)(I:Inv X pins σ H s)(so:StoreOk X.w X.K A H S)(rx:Rel X.K A H x a)(ru:RelV a u)(ry:Rel X.K A H (.ref i) b)(rv:RelV b v)(e:Ig x i S=ba c) :
  ∃l its k ks,v=.ref l/\s.heap.IsList l its/\(∀y,y∈its->Ou X.A.in1 s y u (A6 s.heap k y))/\its.any (A6 s.heap k)=c/\c=decide (k∈(ks:J9 T)):=by
 unfold Ig at e;split at e
 ·rename_i k ys h1 h2;split at e
  ·rename_i ks h3;split at e
   ·rename_i h4;cases e;cases ry with
    | ref ea=>
     obtain⟨vs,g1,g2⟩:=bO so h2 ea;obtain⟨its,rv',p,_⟩:=I.list g1;obtain rfl:v=K4 _:=rv;have hT:IsTs s.heap ks its:=eX I ks ((W.ts_w h3).symm ▸ g2) rv';have hk:IsT s.heap k u:=lE I k ((W.t_w h1).symm ▸ rx) ru;refine⟨_,its.toArray,k,ks,rfl,p.isList,λy hy=>?_,by rw[RG]; exact pQ hT,rfl⟩
     obtain⟨k',hk',q⟩:=pP hT y (by simpa using hy)
     rw[tN q];have:=lF hk';have kl:az=6:=rfl;exact wK az k' k _ _ _ _ (by omega) q hk (by rw[aR]; omega) (by rw[aR]; omega)
   ·cases e
  ·cases e
 ·cases e
theorem BU {x:W}{ys:J9 W}{a b:V}{u v:Kd}{c:KP}(hu:X.A.units+10 < cLine)(I:Inv X pins σ H s)(rx:Rel X.K A H x a)(ru:RelV a u)(ry:Rel X.K A H (.tup ys) b)(rv:RelV b v)(e:EC x ys=ba c) :
  ∃l its k,v=.ref l/\s.heap.IsTuple l its/\(∀y,y∈its->Ou X.A.in1 s y u (A6 s.heap k y))/\its.any (A6 s.heap k)=c:=by
 unfold EC at e;split at e
 ·rename_i k ks h1 h3;split at e
  ·rename_i h4;cases e;cases ry with
   | @tup _ l vs g1 g2=>
    obtain⟨its,rv',p,_⟩:=I.tuple g1;obtain rfl:v=K4 _:=rv;have hT:IsTs s.heap ks its:=eX I ks ((W.ts_w h3).symm ▸ g2) rv';have hk:IsT s.heap k u:=lE I k ((W.t_w h1).symm ▸ rx) ru;refine⟨_,its.toArray,k,rfl,p,λy hy=>?_,by rw[RG]; exact pQ hT⟩
    obtain⟨k',hk',q⟩:=pP hT y (by simpa using hy)
    rw[tN q];have:=lF hk';have kl:az=6:=rfl;exact wK az k' k _ _ _ _ (by omega) q hk (by rw[aR]; omega) (by rw[aR]; omega)
  ·cases e
 ·cases e
noncomputable def dz (o:COp)(x y:W)(S:aa):Ki (W×aa):=match o,y with
 | .isin,.ref i=>match kn S i with
  | some kvs=>(gX x).map λk=>(.bl (cV kvs k).isSome,S)
  | none=>match x with
   | .tup xs=>(Ig (.tup xs) i S).map λb=>(.bl (b),S)
   | x=>iY .isin x (.ref i) S
 | .notin,.ref i=>match kn S i with
  | some kvs=>(gX x).map λk=>(.bl (!(cV kvs k).isSome),S)
  | none=>match x with
   | .tup xs=>(Ig (.tup xs) i S).map λb=>(.bl (!b),S)
   | x=>iY .notin x (.ref i) S
 | .isin,.tup ys=>match x with
  | .tup xs=>(EC (.tup xs) ys).map λb=>(.bl b,S)
  | x=>iY .isin x (.tup ys) S
 | o,y=>iY o x y S
theorem rC (hu:X.A.units+iC < cLine)(o:COp):LOp X (compareOp o.py) (dz o):=by
 intro pins s σ H A S x y a b u v w S' I so rx ru ry rv e;have get:∀ {i:Kk} {kvs:J9 (T×W)} {k:T},y=.ref i->kn S i=ba kvs->gX x=ba k->∃d c xs,v=.ref d/\u=.ref c/\(d==sysModules)=false/\(bF X.prog X.w).is s.heap k c/\s.heap.DictOfH (bF X.prog X.w) d xs/\(cV kvs k).isSome=(atKey xs k).isSome:=by
  intro i kvs k hy hk1 hk2;subst hy;cases ry with
  | ref ea=>
   obtain⟨xs,rd,kr⟩:=gk so hk1 ea;have d:=cQ I rd;obtain⟨bk,rfl,rfl,rk⟩:=i8 hk2 rx ru;obtain rfl:v=K4 _:=rv;refine⟨_,bk,xs,rfl,rfl,d.2.1,jG I rk (ey hk2).2.2,d.dict I kr,?_⟩;cases q:cV kvs k with
   | none=>rw[(kr.val k).2 q]; rfl
   | some w'=>obtain⟨p,_,h1,_⟩:=(kr.val k).1 _ q; rw[h1]; rfl
 have old:iY o x y S=ba (w,S')->wpAny (model X.prog X.w) X.A (compareOp o.py u v) (d4 X pins σ A H S' w) X.xe s:=λh=>BQ hu o pins s σ H A S x y a b u v w S' I so rx ru ry rv h
 have hu':X.A.units+10 < cLine:=by have:iC=20:=rfl; omega
 unfold dz at e;split at e
 ·split at e
  ·rename_i kvs hk1;rw[Kf]at e;obtain⟨k,hk2,e2⟩:=e;cases e2;obtain⟨d,c,xs,rfl,rfl,q1,q2,q3,q4⟩:=get rfl hk1 hk2;rw[q4];exact wpAny_in_heap (rB hu') q2 q1 q3 ⟨.bl _,H,A,I.tok _,rfl,.refl,so,.bl⟩
  ·split at e
   ·rw[Kf]at e;obtain⟨c,hc,e⟩:=e;cases e;obtain⟨l,its,k,ks,rfl,p1,p2,p3,_⟩:=yC hu' I so rx ru ry rv hc;refine RZ (A6 s.heap k) p1 p2 ?_;rw[p3];exact⟨.bl _,H,A,I,rfl,.refl,so,.bl⟩
   ·exact old e
 ·split at e
  ·rename_i kvs hk1;rw[Kf]at e;obtain⟨k,hk2,e2⟩:=e;cases e2;obtain⟨d,c,xs,rfl,rfl,q1,q2,q3,q4⟩:=get rfl hk1 hk2;rw[q4];exact wpAny_notIn_heap (rB hu') q2 q1 q3 ⟨.bl _,H,A,I.tok _,rfl,.refl,so,.bl⟩
  ·split at e
   ·rw[Kf]at e;obtain⟨c,hc,e⟩:=e;cases e;obtain⟨l,its,k,ks,rfl,p1,p2,p3,_⟩:=yC hu' I so rx ru ry rv hc;refine QT (A6 s.heap k) p1 p2 ?_;rw[p3];exact⟨.bl _,H,A,I,rfl,.refl,so,.bl⟩
   ·exact old e
 ·split at e
  ·rw[Kf]at e;obtain⟨c,hc,e⟩:=e;cases e;obtain⟨l,its,k,rfl,p1,p2,p3⟩:=BU hu' I rx ru ry rv hc;refine RC (A6 s.heap k) p1 p2 ?_;rw[p3];exact⟨.bl _,H,A,I,rfl,.refl,so,.bl⟩
  ·exact old e
 ·exact old e
end
noncomputable def RawD (d:Kl)(es:KQ MF)(ep:Kk)(h:Lj):Prop:=∃o,h.get? d=ba o/\o.ExactDict/\o.data=.dict es ep
theorem RawD.at {d:Kl}{es:KQ MF}{ep:Kk}{h h':Lj}(x:RawD d es ep h)(e:∀o,h.get? d=ba o->h'.get? d=ba o):RawD d es ep h':=let ⟨o,ho,r⟩:=x; ⟨o,e _ ho,r⟩
theorem RawD.lt {d:Kl}{es:KQ MF}{ep:Kk}{h:Lj}(x:RawD d es ep h):d < h.objs.size:=let ⟨_,ho,_⟩:=x; KA ho
theorem RawD.type {d:Kl}{es:KQ MF}{ep:Kk}{s:Kg}(x:RawD d es ep s.heap):s.TypeIs (.ref d) "dict":=let ⟨o,ho,hc,_⟩:=x; ⟨o,ho,hc.1⟩
section
variable{prog:K1}{w:Lb}{A:K9}{E:Kd->Kg->Prop}{s:Kg}{it d:Kl}{i ep:Kk}{es:KQ MF}
theorem rD {Q:Kd->Kg->Prop}(hd:(d==sysModules)=false)(hm:RawD d es ep s.heap)
  (hQ:Q (.ref s.heap.objs.size) { s with heap:=s.heap.push { cls:=.type "dict_keyiterator",data:=.fields [.ref d,.int 0 0,.int es.size 0,.int ep 0].toArray } }):wpAny (model prog w) A (pyIter (.ref d)) Q E s:=by
 have hT:=hm.type;obtain⟨o,ho,hc,hdat⟩:=id hm;refine Pe hT F.slot_dict_iter (LA F.slot_dict_iter hT F.entry_dict_iter ?_ (F.args_dict_iter_1 _));unfold NA.«dict.__iter__» SC;refine Kb (Kb (wpAny_notOrdered_dict hT ?_));show wpAny _ _ (pure (K4 d)) _ _ s;refine Kh ?_;show wpAny _ _ (Qc d >>= _) _ _ s;unfold Qc;rw[KW (by rw[hd]; exact KI)]
 refine Kb (Kh (Kb (Om ho hdat (Kb (P4 ho hdat ?_)))));refine Kb (Lc (Kh ⟨_,rfl,"dict_keyiterator",_,⟨_,Ku _ rfl,rfl⟩,F.slot_dict_keyiterator_next.lookup,?_⟩))
 simpa [rawInt]using hQ
theorem rE {Q:Ki Kd->Kg->Prop}(hit:s.heap.IsKeyIter it d i es.size ep)(hm:RawD d es ep s.heap)(hi:i < es.size)
  (hQ:∀h',h'.IsKeyIter it d (i+1) es.size ep->Mq it s.heap h'->Q (ba es[i].key) { s with heap:=h' }):wpAny (model prog w) A (pyNext (.ref it)) Q E s:=by
 obtain⟨o,ho,hc,hd⟩:=id hit;obtain⟨od,hod,hcd,hdd⟩:=id hm;unfold pyNext;refine Kb (OA (Lz (name:=MA "__next__") hit.typeIs F.slot_dict_keyiterator_next
  (LA F.slot_dict_keyiterator_next hit.typeIs F.entry_dict_keyiterator_next ?_ (F.args_dict_keyiterator_next_1 _))))
 refine Kb (Kh (Kb (Kb ?_)))
 first|refine Kb (MC hit.typeIs (Kh ?_))|refine Kb (M8 hit.typeIs (Kh ?_))
 refine Kb (OV ho hd ?_);have hown:OF "dict_keyiterator" = false:=by decide
 simp only[hown,KO,LH];show wpAny _ _ (if (K4 d==Ll)=true then _ else _) _ _ s
 rw[KW (show ¬ ((K4 d==Ll)=true)from KI)]
 refine Kb (Kh (Kb (Om hod hdd ?_)));rw[KW (by simp)]
 refine Kb (Kh (Kb (P4 hod hdd ?_)));rw[KW (by simp)]
 refine Kh ?_;simp only[show ¬ ((i:Ky) < 0)from by omega,LH,KC,Mw hi]
 refine Kb ?_
 first|refine Kb (MC hit.typeIs (Kh ?_))|refine Kb (M8 hit.typeIs (Kh ?_))
 refine Kb (Qd hit.typeIs ?_);show wpAny _ _ (setField (.ref it) 1 (rawInt ((i:Ky)+1)) >>= _) _ _ s;refine Kb (OZ ho hd (by simp) ?_)
 have hit':(s.heap.update it (SR (·.setIfInBounds 1 (rawInt ((i:Ky)+1))))).IsKeyIter it d (i+1) es.size ep:=
  ⟨_,LV _ ho (Qe (N9 hd _)),(Rr ..).trans hc,by rw[N9 hd]; simp[rawInt]⟩
 refine Kb (Ly ?_);refine Kb (Qd (s:={ s with heap:=s.heap.update it (SR (·.setIfInBounds 1 (rawInt ((i:Ky)+1)))) }) hit'.typeIs ?_)
 show wpAny _ _ (pure es[i].key) _ _ _;exact Kh (Kh ⟨_,rfl,Kh (hQ _ hit' (Na ..))⟩)
theorem uY {Q:Ki Kd->Kg->Prop}(hh:A.handled=gV)(hit:s.heap.IsKeyIter it d i es.size ep)(hm:RawD d es ep s.heap)(hge:es.size<=i)
  (hQ:∀h',RW it s.heap h'->Q gV { s with heap:=h' }):wpAny (model prog w) A (pyNext (.ref it)) Q E s:=by
 obtain⟨o,ho,hc,hd⟩:=id hit;obtain⟨od,hod,hcd,hdd⟩:=id hm;unfold pyNext;refine Kb (OA (Lz (name:=MA "__next__") hit.typeIs F.slot_dict_keyiterator_next
  (LA F.slot_dict_keyiterator_next hit.typeIs F.entry_dict_keyiterator_next ?_ (F.args_dict_keyiterator_next_1 _))))
 refine Kb (Kh (Kb (Kb ?_)))
 first|refine Kb (MC hit.typeIs (Kh ?_))|refine Kb (M8 hit.typeIs (Kh ?_))
 refine Kb (OV ho hd ?_);have hown:OF "dict_keyiterator" = false:=by decide
 simp only[hown,KO,LH];show wpAny _ _ (if (K4 d==Ll)=true then _ else _) _ _ s
 rw[KW (show ¬ ((K4 d==Ll)=true)from KI)]
 refine Kb (Kh (Kb (Om hod hdd ?_)));rw[KW (by simp)]
 refine Kb (Kh (Kb (P4 hod hdd ?_)));rw[KW (by simp)]
 refine Kh ?_;simp only[show ¬ ((i:Ky) < 0)from by omega,LH,KC,Array.getElem?_eq_none hge]
 refine Kb ?_
 first|refine Kb (MC hit.typeIs (Kh ?_))|refine Kb (M8 hit.typeIs (Kh ?_))
 show wpAny _ _ (setField (.ref it) 0 .none >>= _) _ _ s;refine Kb (OZ ho hd (by simp) ?_)
 show wpAny _ _ (newExc (.type "StopIteration") [] >>= _) _ _ _;refine Kb ?_;simp only[newExc,newTuple];refine Kb (Lc ?_ (by size_fits))
 refine Kb (m:=firstArgMember _ _) (Oc (a:=Ll) (by first|rfl|(simp only[firstArgMember]; rfl)) ?_)
 refine Lc ?_ (by size_fits)
 simp only[raiseNew];refine Kb (QJ ?_);rw[show A.in1.handled=gV from hh]
 refine Kb (Kh (RS ?_));refine Kb (NP (T:="StopIteration") (b:=true) ⟨_,Ku _ rfl,rfl⟩ Qk ?_);exact Kh (hQ _ (((Na ..).extBut.push _).push _))
theorem wQ (hh:A.handled=gV)(I d:Kl)(hne:d≠I)(es:KQ MF)(ep:Kk) :
  RT prog w A I [I,d] [I] es.size (λi v=>∃e,es[i]?=ba e/\e.key=v) (λi h=>h.IsKeyIter I d i es.size ep/\RawD d es ep h) where
 sub:=λb hb=>by simp at hb; simp[hb]
 frame:=λ_ _ _ st hk=>⟨st.1.at λo e=>hk I (by simp) o e,st.2.at λo e=>hk d (by simp) o e⟩
 item:=λi s Q E hi st hQ=>
  rE st.1 st.2 hi λh' hit' hs'=>hQ _ h' s.toks ⟨es[i],by simp[hi],rfl⟩ ⟨hit',st.2.at λo e=>(hs'.2 d hne).trans e⟩ λb o hb e=>hs'.extBut b o (λh=>hb (by simp[h])) e
 done:=λs Q E st hQ=>uY hh st.1 st.2 (Kn _) λh' he'=>hQ h' s.toks λb o hb e=>he' b o (λh=>hb (by simp[h])) e
 self:=λ_ _ _ _ st hQ=>Qo st.1 hQ
theorem uZ (lo:(d==sysModules)=false):Qp prog w "dict" d d es.size (λi v=>∃e,es[i]?=ba e/\e.key=v) (RawD d es ep) where
 type:=λ_ hm=>hm.type
 there:=λ_ hm=>⟨hm.lt,hm.lt⟩
 keep:=λ_ _ hm hk=>hm.at λo e=>hk d (.inl rfl) o e
 notList:=by decide
 notTuple:=by decide
 hint:=λ_ _ _ _ hm hq=>PySem.W.kdl_hint_dict hm.type hq
 iter:=λ_ _ hh hm=>⟨_,_,(λ_ _ hq=>rD lo hm hq),wQ hh _ d (KM hm.lt) es ep,⟨⟨_,Ku _ rfl,rfl,rfl⟩,hm.at λo e=>Ke _ e⟩⟩
theorem yD {T:LN}{r d S:Kl}{n:Kk}{P:Kk->Kd->Prop}{OK:Lj->Prop}{R:Rz->Kg->Prop}(K:Qp prog w T r d n P OK)(hh:A.handled=gV)(hok:OK s.heap)(hn:n<=sizeLine)(hSr:S≠r)(hSd:S≠d)
  (hS:s.heap.get? S=ba { cls:=.type "list",data:=.seq #[] 0 })
  (hR:∀h' tk acc' c',(∀b o,b≠S->s.heap.get? b=ba o->h'.get? b=ba o)->h'.get? S=ba { cls:=.type "list",dict:=gV,data:=.seq acc' c',slots:=#[] }->PQ P acc' n->R (.ok (.ret (.ref S))) { s with heap:=h',toks:=tk }) :
  codeAny (model prog w) A (.builtin "list.__iadd__" ⟨[.ref S,.ref r],[]⟩) R s:=by
 refine LB F.entry_list_iadd ?_;rw[Ls F.plain_list_iadd _];show wpAny _ A.in1 (LX (.ref S) (.ref r) (.ref S)) _ _ _;exact PySem.W.kdl_extend K hh hok S hSr hSd _ 0 hS hR hn
theorem rF {T:LN}{r d:Kl}{n:Kk}{P:Kk->Kd->Prop}{OK:Lj->Prop}{Q:J9 Kd->Kg->Prop}(K:Qp prog w T r d n P OK)(hh:A.handled=gV)(hok:OK s.heap)(hn:n<=sizeLine)
  (hQ:∀h' tk acc,(∀b o,s.heap.get? b=ba o->h'.get? b=ba o)->s.heap.objs.size<=h'.objs.size->PQ P acc n->Q acc.toList { s with heap:=h',toks:=tk }):wpAny (model prog w) A (collect (.ref r)) Q E s:=by
 unfold collect;refine Kb (Oi (LB F.entry_proto_collect ?_));rw[Ls F.plain_proto_collect _];show wpAny _ A.in1 (newList [] >>= λl=>again (.builtin "list.__iadd__" ⟨[l,.ref r],[]⟩)) _ _ s
 refine Kb (Lc ?_);have hlt:=K.there _ hok;refine Kh ⟨Mp F.plain_list_iadd _,yD (s:={ s with heap:=s.heap.push { cls:=.type "list",data:=.seq ([]:J9 Kd).toArray } }) K hh (K.keep _ _ hok λb _ o e=>Ke _ e) hn (Mr hlt.1) (Mr hlt.2) (Ku _ rfl) λh' tk acc' c' hk hS' hacc=>?_⟩
 show wpAny (model prog w) A (do
   let o <- load s.heap.objs.size
   match o.data with
   | .seq xs _=>pure xs.toList
   | _=>unsupported "internal:collect") Q E { s with heap:=h',toks:=tk }
 refine Kb (PL hS' ?_);exact Kh (hQ h' tk acc' (λb o e=>hk b o (KM (KA e)) (Ke _ e)) (NL (KA hS')) hacc)
end
mutual
noncomputable def gM:T->T->Ki KP
 | .int a,.int b=>ba (decide (a < b))
 | .str a,.str b=>ba (decide (a.cps.toList < b.cps.toList))
 | .tup xs,.tup ys=>dq xs ys
 | _,_=>gV
noncomputable def dq:J9 T->J9 T->Ki KP
 | [],[]=>ba false
 | [],_::_=>ba true
 | _::_,[]=>ba false
 | x::xs,y::ys=>if x=y then dq xs ys else gM x y
end
mutual
theorem IsT.kept {h h':Lj}(hk:∀b o,o.cls=.type "tuple"->h.get? b=ba o->h'.get? b=ba o):∀ {x:T} {v:Kd},IsT h x v->IsT h' x v
 | _,_,.int=>.int
 | _,_,.str=>.str
 | _,_,.tup a1 c1 d1 t1=>.tup (hk _ _ c1 a1) c1 d1 (IsTs.kept hk t1)
theorem IsTs.kept {h h':Lj}(hk:∀b o,o.cls=.type "tuple"->h.get? b=ba o->h'.get? b=ba o):∀ {x:J9 T} {v:J9 Kd},IsTs h x v->IsTs h' x v
 | _,_,.nil=>.nil
 | _,_,.cons a b=>.cons (IsT.kept hk a) (IsTs.kept hk b)
end
theorem GN {B:K9}{s:Kg}{d:Kk}(hu:B.units+d < cLine)(hl:∀(x y:T) (u v:Kd) (k:KP),x.depth<=d->y.depth<=d->IsT s.heap x u->IsT s.heap y v->gM x y=ba k->LtAt B s u v k) :
  ∀(xs ys:J9 T) (us vs:J9 Kd) (k:KP),T.depths xs<=d->T.depths ys<=d->IsTs s.heap xs us->IsTs s.heap ys vs->dq xs ys=ba k->LexR B s us vs k
 | [],[],_,_,k,_,_,h1,h2,e=>by cases h1; cases h2; cases e; exact .nn
 | [],y::ys,_,_,k,_,_,h1,h2,e=>by cases h1; cases h2; cases e; exact .nc
 | x::xs,[],_,_,k,_,_,h1,h2,e=>by cases h1; cases h2; cases e; exact .cn
 | x::xs,y::ys,_,_,k,d1,d2,h1,h2,e=>by
  simp only[T.depths]at d1 d2;cases h1 with
  | cons p1 q1=>
   cases h2 with
   | cons p2 q2=>
    have he:=wK d x y _ _ B s (by omega) p1 p2 hu (by omega)
    simp only[dq]at e
    by_cases hxy:x=y
    ·rw[KJ hxy]at e;rw[L3 hxy]at he;exact .eq he (GN hu hl xs ys _ _ k (by omega) (by omega) q1 q2 e)
    ·rw[KW hxy]at e;rw[K5 hxy]at he;exact .ne he (hl x y _ _ k (by omega) (by omega) p1 p2 e)
theorem GP:∀(d:Kk) (x y:T) (u v:Kd) (B:K9) (s:Kg) (k:KP),x.depth<=d->y.depth<=d->IsT s.heap x u->IsT s.heap y v->B.units+d < cLine->gM x y=ba k->LtAt B s u v k:=by
 intro d
 induction d with
 | zero=>
  intro x y u v B s k d1 d2 h1 h2 hu e;cases h1 with
  | int=>cases h2 with
   | int=>cases e; exact λprog w E Q h=>(QD h:wpAny (model prog w) B (compareOp .Lt _ _) Q E s)
   | _=>cases e
  | str=>cases h2 with
   | str=>cases e; exact λprog w E Q h=>(lt_str h:wpAny (model prog w) B (compareOp .Lt _ _) Q E s)
   | _=>cases e
  | tup _ _ _ _=>simp[T.depth]at d1
 | succ d ih=>
  intro x y u v B s k d1 d2 h1 h2 hu e;cases h1 with
  | int=>cases h2 with
   | int=>cases e; exact λprog w E Q h=>(QD h:wpAny (model prog w) B (compareOp .Lt _ _) Q E s)
   | _=>cases e
  | str=>cases h2 with
   | str=>cases e; exact λprog w E Q h=>(lt_str h:wpAny (model prog w) B (compareOp .Lt _ _) Q E s)
   | _=>cases e
  | tup a1 c1 e1 t1=>cases h2 with
   | tup a2 c2 e2 t2=>
    simp only[T.depth]at d1 d2;have hu1:B.in1.units+d < cLine:=by rw[aR]; omega
    exact LtAt.tuples ⟨_,a1,c1,_,e1⟩ ⟨_,a2,c2,_,e2⟩ (by omega) (GN hu1 (λx y u v k q1 q2 q3 q4 q5=>ih x y u v B.in1 s k q1 q2 q3 q4 hu1 q5) _ _ _ _ k (by omega) (by omega) t1 t2 e)
   | _=>cases e
section
variable{prog:K1}{w:Lb}{A:K9}{R:Rz->Kg->Prop}{I S:Kl}{fp wr:J9 Kl}{n:Kk}{P:Kk->Kd->Prop}{St:Kk->Lj->Prop}{Ok:Lj->Prop}{bt:Kk->Kk->KP}
noncomputable def yE (prog:K1)(w:Lb)(A:K9)(P:Kk->Kd->Prop)(Ok:Lj->Prop)(bt:Kk->Kk->KP):Prop:=
 ∀i j vi vj (s:Kg) (Q:Kd->Kg->Prop) (E:Kd->Kg->Prop),Ok s.heap->P i vi->P j vj->Q (.bool (bt i j)) s->wpAny (model prog w) A (richCompare .Lt vi vj) Q E s
theorem yF (W:RT prog w A.in1 I fp wr n P St)(hcmp:yE prog w A.in1 P Ok bt)(hSf:S∉fp)(hok:∀h h',Ok h->(∀b o,b∉wr->b≠S->h.get? b=ba o->h'.get? b=ba o)->Ok h') :
  ∀(k j:Kk) (s:Kg) (vb:Kd) (c:Kk),n - (j+1)=k->j < n->St (j+1) s.heap->P (argBest bt j) vb->Ok s.heap->s.heap.get? S=ba { cls:=.type "list",dict:=gV,data:=.seq [vb,vb].toArray c,slots:=#[] }->
  (∀v h' tk,P (argBest bt (n - 1)) v->(∀b o,b∉wr->b≠S->s.heap.get? b=ba o->h'.get? b=ba o)->R (.ok (.ret v)) { s with heap:=h',toks:=tk })->
  codeAny (model prog w) A (.builtin "min.loop" ⟨[.ref I,.none,.ref S],[]⟩) R s:=by
 have hSw:S∉wr:=λh=>hSf (W.sub _ h)
 have hname:(toString "min" ++ toString ".loop" : LN) = "min.loop":=by decide
 intro k
 induction k with
 | zero=>
  intro j s vb c hk hj hst hPb hO hS hR;have hin:j+1=n:=by omega
  refine LB F.entry_min_loop ?_;rw[Ls F.plain_min_loop _];show wpAny _ A.in1 (seqItems? (.ref S) >>= _) _ _ s;refine Kb (LU hS rfl ?_);show wpAny _ A.in1 (tryCatch (pyNext (.ref I)) _ >>= _) _ _ s;refine Kb (O0 (W.done s _ _ (hin ▸ hst) λh' tk hk'=>?_))
  have hS':=hk' S _ hSw hS;show wpAny _ A.in1 (updateSeq S (λ_=>#[]) >>= _) _ _ _
  refine Kb (N4 hS' rfl (Kb (Od (Kh ?_))));have e:j=n - 1:=by omega
  exact hR vb _ tk (e ▸ hPb) λb o hbw hbS e=>(Lh _ _ (Ne.symm hbS)).trans (hk' b o hbw e)
 | succ k ih=>
  intro j s vb c hk hj hst hPb hO hS hR;have hlt:j+1 < n:=by omega
  refine LB F.entry_min_loop ?_;rw[Ls F.plain_min_loop _];show wpAny _ A.in1 (seqItems? (.ref S) >>= _) _ _ s;refine Kb (LU hS rfl ?_);show wpAny _ A.in1 (tryCatch (pyNext (.ref I)) _ >>= _) _ _ s;refine Kb (O0 (W.item (j+1) s _ _ hlt hst λv h' tk hP hst' hk'=>?_))
  have hS':=hk' S _ hSw hS;have hO':Ok h':=hok _ _ hO λb o hb _ e=>hk' b o hb e
  show wpAny _ A.in1 (tryCatch (holding [v,v] (richCompare .Lt v vb >>= _)) _ >>= _) _ _ _;refine Kb (O0 (Ly (Kb (hcmp (j+1) (argBest bt j) v vb _ _ _ hO' hP hPb ?_))));refine Kb (Ly (ME ?_));refine Kb (Od (Kh ?_));cases hb:bt (j+1) (argBest bt j)with
  | true=>
   simp only[L7];refine Kb (N4 hS' rfl (Kb (Od ?_)));rw[hname];refine Kh ⟨Mp F.plain_min_loop _,ih (j+1) _ v _ (by omega) hlt (W.frame _ _ _ hst' λb hbf o e=>?_) (by simp only[argBest,hb,L7]; exact hP) (hok _ _ hO' λb o _ hbS e=>(Lh _ _ (Ne.symm hbS)).trans e) (LV _ hS' rfl)
    λv' h'' tk'' hP' hk''=>?_⟩
   ·exact(Lh _ _ (λh:S=b=>hSf (by rw[h]; exact hbf))).trans e
   ·exact hR v' h'' tk'' hP' λb o hbw hbS e=>hk'' b o hbw hbS ((Lh _ _ (Ne.symm hbS)).trans (hk' b o hbw e))
  | false=>
   simp only[KO,LH];refine Kb (Od ?_);rw[hname];refine Kh ⟨Mp F.plain_min_loop _,ih (j+1) _ vb c (by omega) hlt hst' (by simp only[argBest,hb,KO,LH]; exact hPb) hO' hS' λv' h'' tk'' hP' hk''=>?_⟩
   exact hR v' h'' tk'' hP' λb o hbw hbS e=>hk'' b o hbw hbS (hk' b o hbw e)
theorem wR (W:RT prog w A.in1 I fp wr n P St)(hcmp:yE prog w A.in1 P Ok bt)(hSf:S∉fp)(hok:∀h h',Ok h->(∀b o,b∉wr->b≠S->h.get? b=ba o->h'.get? b=ba o)->Ok h')(hn:0 < n){s:Kg}{c:Kk}(hst:St 0 s.heap)(hO:Ok s.heap)
  (hS:s.heap.get? S=ba { cls:=.type "list",dict:=gV,data:=.seq #[] c,slots:=#[] })
  (hR:∀v h' tk,P (argBest bt (n - 1)) v->(∀b o,b∉wr->b≠S->s.heap.get? b=ba o->h'.get? b=ba o)->R (.ok (.ret v)) { s with heap:=h',toks:=tk }) :
  codeAny (model prog w) A (.builtin "min.loop" ⟨[.ref I,.none,.ref S],[]⟩) R s:=by
 have hSw:S∉wr:=λh=>hSf (W.sub _ h)
 have hname:(toString "min" ++ toString ".loop" : LN) = "min.loop":=by decide
 refine LB F.entry_min_loop ?_;rw[Ls F.plain_min_loop _];show wpAny _ A.in1 (seqItems? (.ref S) >>= _) _ _ s;refine Kb (LU hS rfl ?_);show wpAny _ A.in1 (tryCatch (pyNext (.ref I)) _ >>= _) _ _ s;refine Kb (O0 (W.item 0 s _ _ hn hst λv h' tk hP hst' hk'=>?_))
 have hS':=hk' S _ hSw hS;show wpAny _ A.in1 (updateSeq S (λ_=>[v,v].toArray) >>= _) _ _ _
 refine Kb (N4 hS' rfl ?_);rw[hname];have hO':Ok h':=hok _ _ hO λb o hb _ e=>hk' b o hb e
 refine Kh ⟨Mp F.plain_min_loop _,yF W hcmp hSf hok _ 0 _ v _ rfl hn (W.frame _ _ _ hst' λb hbf o e=>?_) hP (hok _ _ hO' λb o _ hbS e=>(Lh _ _ (Ne.symm hbS)).trans e) (LV _ hS' rfl) λv' h'' tk'' hP' hk''=>?_⟩
 ·exact(Lh _ _ (λh:S=b=>hSf (by rw[h]; exact hbf))).trans e
 ·exact hR v' h'' tk'' hP' λb o hbw hbS e=>hk'' b o hbw hbS ((Lh _ _ (Ne.symm hbS)).trans (hk' b o hbw e))
end
section
variable{prog:K1}{w:Lb}{A:K9}{E:Kd->Kg->Prop}{s:Kg}
theorem yG {l:Kl}{items:KQ Kd}{bt:Kk->Kk->KP}{Q:Kd->Kg->Prop}(hh:A.handled=gV)(hl:s.heap.IsList l items)(hn:0 < items.size)
  (hcmp:yE prog w A.in1 (λi v=>items[i]?=ba v) (λh=>∀b o,s.heap.get? b=ba o->h.get? b=ba o) bt)
  (hQ:∀v h' tk,items[argBest bt (items.size - 1)]?=ba v->(∀b o,s.heap.get? b=ba o->h'.get? b=ba o)->Q v { s with heap:=h',toks:=tk }) :
  wpAny (model prog w) A (call (.builtin "min") [.ref l]) Q E s:=by
 have hname:(toString "min" ++ toString ".loop" : LN) = "min.loop":=by decide
 refine call_function_tree F.kind_min F.plain_min F.entry_min (F.args_min1 _) ?_;show wpAny _ A.in1 (ON "min" ["key","default"] 0 ⟨[],[]⟩ >>= _) _ _ s;refine Kb (Oc (show ON "min" ["key","default"] 0 ⟨[],[]⟩=pure [gV,gV]from rfl) ?_)
 refine Kb (Kh ?_);refine Kb (NB hl ?_);refine Kb (Lc ?_);rw[hname];have hlt:l < s.heap.objs.size:=let ⟨_,ho,_⟩:=hl; KA ho
 have hne:l≠s.heap.objs.size:=KM hlt;have W:=Sw (prog:=prog) (w:=w) (A:=A.in1) hh s.heap.objs.size l hne items;have hsz:∀o:LZ,(s.heap.push o).objs.size=s.heap.objs.size+1:=λo=>by simp[Heap.push]
 refine Kh ⟨Mp F.plain_min_loop _,wR (A:=A) (Ok:=λh=>∀b o,s.heap.get? b=ba o->h.get? b=ba o) W hcmp (λhm=>?_) (λh h' ho hk b o e=>?_) hn ⟨?_,?_⟩ (λb o e=>Ke _ (Ke _ e)) (Ku _ rfl) λv h' tk hv hk=>?_⟩
 ·rcases KL.mp hm with e|hm
  ·exact absurd (show(s.heap.push _).objs.size=s.heap.objs.size from e) (by rw[hsz]; exact Nat.succ_ne_self _)
  ·have e:(s.heap.push _).objs.size=l:=Kx.mp hm;rw[hsz]at e;exact absurd hlt (by rw[<- e]; exact QX.mpr (MY _))
 ·have hb:=KA e;refine hk b o (λz=>?_) (λz=>?_) (ho b o e)
  ·rw[Kx.mp z]at hb; exact LQ _ hb
  ·have z':b=(s.heap.push _).objs.size:=z;rw[hsz]at z';rw[z']at hb;exact absurd hb (QX.mpr (MY _))
 ·exact⟨_,Ke _ (Ku _ rfl),rfl,rfl⟩
 ·obtain⟨o,ho,hc⟩:=hl;exact⟨o,Ke _ (Ke _ ho),hc⟩
 ·refine hQ v h' tk hv λb o e=>hk b o (λz=>?_) (λz=>?_) (Ke _ (Ke _ e))
  ·have hb:=KA e;rw[Kx.mp z]at hb; exact LQ _ hb
  ·have hb:=KA e;have z':b=(s.heap.push _).objs.size:=z;rw[hsz]at z';rw[z']at hb;exact absurd hb (QX.mpr (MY _))
end
open PySem.W (KasT kas_sort kas_ask kas_cmp kas_item kas_asc kas_desc kas_tail3 kas_descPart kas_count kas_place kas_bin kas_rev)
noncomputable def ce {α:Type}(lt:Kk->Kk->KP):KasT α->α
 | .ret a=>a
 | .ask i j k=>ce lt (k (lt i j))
noncomputable def OkK {α:Type}(n:Kk)(P:α->Prop):KasT α->Prop
 | .ret a=>P a
 | .ask i j k=>i < n/\j < n/\∀b,OkK n P (k b)
theorem rG {α:Type}{n:Kk}{P:α->Prop}{lt:Kk->Kk->KP}:∀(t:KasT α),OkK n P t->P (ce lt t)
 | .ret _,h=>h
 | .ask i j k,h=>rG (k (lt i j)) (h.2.2 _)
theorem pR {α:Type}{n:Kk}{P:α->Prop}{lt:Kk->Kk->KP}{t:KasT α}(h:OkK n P t):P (ce lt t):=rG t h
theorem OkK.bind {α β:Type}{n:Kk}{P:α->Prop}{P':β->Prop}{f:α->KasT β}:∀ {t:KasT α},OkK n P t->(∀a,P a->OkK n P' (f a))->OkK n P' (t.bind f)
 | .ret a,h,hf=>hf a h
 | .ask _ _ _,h,hf=>⟨h.1,h.2.1,λb=>OkK.bind (h.2.2 b) hf⟩
theorem on {α:Type}{n:Kk}{P:α->Prop}{lt:Kk->Kk->KP}{cmp:Kk->Kk->(KP->Kg->Prop)->Kg->Prop}{Q:α->Kg->Prop}{s:Kg}(hc:∀i j,i < n->j < n->∀C:KP->Kg->Prop,C (lt i j) s->cmp i j C s) :
  ∀ {t:KasT α},OkK n P t->Q (ce lt t) s->t.kasWp cmp Q s
 | .ret _,_,h=>h
 | .ask i j k,h,hq=>hc i j h.1 h.2.1 _ (on hc (h.2.2 _) hq)
noncomputable def Pm (n:Kk)(p:KQ Kk):Prop:=p.toList.Perm (KS n)
theorem Pm.size {n:Kk}{p:KQ Kk}(h:Pm n p):p.size=n:=by rw[<- Kz,h.length_eq,KU]
theorem Pm.lt {n:Kk}{p:KQ Kk}(h:Pm n p)(hn:0 < n)(i:Kk):p.getD i 0 < n:=by
 by_cases hi:i < p.size
 ·have e:p.getD i 0=p[i]:=by simp[N7,hi]
  rw[e];have:p[i]∈p.toList:=by simp
  exact K6.mp (h.mem_iff.mp this)
 ·have e:p.getD i 0=0:=by simp[N7,hi]
  rw[e]; exact hn
theorem Pm.rev {n:Kk}{p:KQ Kk}(h:Pm n p)(i j:Kk):Pm n (kas_rev p i j):=(O1.mp (mirror_perm p i j _)).trans h
theorem Pm.bub {n:Kk}{p:KQ Kk}(h:Pm n p)(i j:Kk):Pm n (bubble p i j):=(O1.mp (bubble_perm p i j)).trans h
section
variable{n:Kk}(hn:0 < n)
include hn
theorem tP {p:KQ Kk}(h:Pm n p):∀(f m:Kk),OkK n (λ_=>QP) (kas_asc p f m)
 | 0,_=>trivial
 | f+1,m=>⟨h.lt hn _,h.lt hn _,λb=>by
  show OkK n _ (if b=true then _ else _)
  split
  ·trivial
  ·exact tP h f (m+1)⟩
theorem kX:∀(f:Kk) (p:KQ Kk) (m q:Kk),Pm n p->OkK n (λr=>Pm n r.1) (kas_desc f p m q)
 | 0,p,m,q,h=>h
 | f+1,p,m,q,h=>⟨h.lt hn _,h.lt hn _,λb=>by
  show OkK n _ (if b=true then _ else _)
  split
  ·split
   ·exact kX f _ _ _ (h.rev _ _)
   ·exact kX f _ _ _ h
  ·refine⟨h.lt hn _,h.lt hn _,λc=>?_⟩
   show OkK n _ (if c=true then _ else _)
   split
   ·exact h
   ·exact kX f _ _ _ h⟩
theorem u4 {p:KQ Kk}(h:Pm n p)(m k:Kk):OkK n (λr=>Pm n r.2) (kas_tail3 m k p):=by
 unfold kas_tail3;exact OkK.bind (tP hn (h.rev 0 m) _ _) λa _=>h.rev 0 m
theorem ko {p:KQ Kk}(h:Pm n p)(m k:Kk):OkK n (λr=>Pm n r.2) (kas_descPart m k p):=by
 unfold kas_descPart;refine OkK.bind (kX hn _ _ _ _ h) λr hr=>?_
 split
 ·exact u4 hn (hr.rev _ _) _ _
 ·exact u4 hn hr _ _
theorem yH {p:KQ Kk}(h:Pm n p)(k:Kk):OkK n (λr=>Pm n r.2) (kas_count k p):=by
 unfold kas_count;refine OkK.bind (tP hn h _ _) λm _=>?_
 split
 ·exact h
 ·split
  ·refine⟨h.lt hn _,h.lt hn _,λc=>?_⟩
   show OkK n _ (if c=true then _ else _)
   split
   ·exact h
   ·exact ko hn (h.rev _ _) _ _
  ·exact ko hn h _ _
theorem lG {p:KQ Kk}(h:Pm n p)(k:Kk):∀(f l r:Kk),OkK n (λ_=>QP) (kas_place p k f l r)
 | 0,_,_=>trivial
 | f+1,l,r=>by
  unfold kas_place;split
  ·trivial
  ·refine⟨h.lt hn _,h.lt hn _,λc=>?_⟩
   show OkK n _ (if c=true then _ else _)
   split
   ·exact lG h k f _ _
   ·exact lG h k f _ _
theorem yI:∀(f:Kk) (p:KQ Kk) (k:Kk),Pm n p->OkK n (Pm n) (kas_bin f p k)
 | 0,p,k,h=>h
 | f+1,p,k,h=>by
  unfold kas_bin;exact OkK.bind (lG hn h k _ _ _) λl _=>yI f _ _ (h.bub _ _)
theorem kY:OkK n (Pm n) (kas_sort n):=by
 unfold kas_sort;refine OkK.bind (yH hn (by unfold Pm; simp) _) λr hr=>?_
 split
 ·exact yI hn _ _ _ hr
 ·exact hr
end
section
variable{prog:K1}{w:Lb}{A:K9}{E:Kd->Kg->Prop}{s:Kg}{vs:J9 Kd}
noncomputable def dP (lt:Kk->Kk->KP){β:Type}(d:β)(vs:J9 β):J9 β:=if vs.length < 2 then vs else(ce lt (kas_sort vs.length)).toList.map λi=>vs.getD i d
theorem rH {lt:Kk->Kk->KP}{β:Type}{d:β}{vs:J9 β}:(dP lt d vs).length=vs.length:=by
 unfold dP;split
 ·rfl
 ·rw[Kc,Kz,(pR (lt:=lt) (kY (n:=vs.length) (by omega))).size]
theorem oo {a:Kl}{n:Kk}{lt:Kk->Kk->KP}{κ:Pw}{P:Ua->Kg->Prop}(ho:s.heap.get? a=ba (seqObj "list" vs.toArray n))(h64:vs.length < 64)
  (hkind:2<=vs.length->∀h',(∀b o,b≠a->s.heap.get? b=ba o->h'.get? b=ba o)->∀Q:Pw->Kg->Prop,Q κ { s with heap:=h' }->wpAny (model prog w) A (keyKind' vs.toArray) Q (λ_ _=>LL) { s with heap:=h' })
  (hlt:2<=vs.length->∀h',(∀b o,b≠a->s.heap.get? b=ba o->h'.get? b=ba o)->∀i j,i < vs.length->j < vs.length->∀Q:KP->Kg->Prop,Q (lt i j) { s with heap:=h' }->
   wpAny (model prog w) A (keyLt' κ (vs.getD i Ll) (vs.getD j Ll)) Q (λ_ _=>LL) { s with heap:=h' })
  (h:∀h' c,(∀b o,b≠a->s.heap.get? b=ba o->h'.get? b=ba o)->h'.get? a=ba (seqObj "list" (dP lt Ll vs).toArray c)->P (.done (.ret .none)) { s with heap:=h' }) :
  wpAny (model prog w) A (NA.«list.sort» ⟨[.ref a],[]⟩) P E s:=by
 have ha:a < s.heap.objs.size:=KA ho;obtain⟨e1,ho1⟩ : ∃e1,(s.heap.update a (LR λ_=>(#[]:KQ Kd))).get? a=ba (seqObj "list" #[] e1):=⟨_,P5 ho λ_=>#[]⟩
 have keep:∀b o,b≠a->s.heap.get? b=ba o->(((s.heap.update a (LR λ_=>(#[]:KQ Kd))).push (seqObj "tuple" vs.toArray 0)).push (seqObj "list" #[] 0)).get? b=ba o:=λb o hb e=>
  Ke _ (Ke _ ((NX _ _ _ _ hb).trans e))
 have ho3:(((s.heap.update a (LR λ_=>(#[]:KQ Kd))).push (seqObj "tuple" vs.toArray 0)).push (seqObj "list" #[] 0)).get? a=ba (seqObj "list" #[] e1):=Ke _ (Ke _ ho1)
 have fin:∀(out:J9 Kd),out.length=vs.length->out=dP lt Ll vs->P (.done (.ret .none)) { s with heap:=(((s.heap.update a (LR λ_=>(#[]:KQ Kd))).push (seqObj "tuple" vs.toArray 0)).push (seqObj "list" #[] 0)).update a (LR λ_=>out.toArray) }:=λout hl e=>by
  obtain⟨c2,hc2⟩ : ∃c2,((((s.heap.update a (LR λ_=>(#[]:KQ Kd))).push (seqObj "tuple" vs.toArray 0)).push (seqObj "list" #[] 0)).update a (LR λ_=>out.toArray)).get? a=ba (seqObj "list" out.toArray c2):=⟨_,P5 ho3 λ_=>out.toArray⟩
  exact h _ c2 (λb o hb q=>(NX _ _ _ _ hb).trans (keep b o hb q)) (e ▸ hc2)
 rw[list_sort_plain];refine Kb (Rs ho rfl ?_);refine Kb (Pp ho rfl ?_ (by rw[Kv,Lo]; omega) (L1 _))
 refine Kb (RX ho1 rfl ?_);refine Kb (Ql ?_ (by show vs.length<=_; rw[Lo]; omega))
 refine Kb (Pq ?_ (L1 _));refine Ly ?_;show wpAny (model prog w) A _ P E { s with heap:=((s.heap.update a (LR λ_=>(#[]:KQ Kd))).push (seqObj "tuple" vs.toArray 0)).push (seqObj "list" #[] 0) }
 dsimp only
 by_cases h2:vs.length < 2
 ·rw[KJ (by rw[Kv]; exact h2),KJ (by rw[Kv]; exact h2)]
  refine Kb (Kh (Kb ?_));rw[StateT.run_pure];refine Kh ?_;dsimp only;refine Kb (RX ho3 rfl ?_);have hs:((arrOf (SortSt.mk' general' (vs.toArray.zip vs.toArray) #[] 7 gV)).map (·.2))=vs.toArray:=by
   show(vs.toArray.zip vs.toArray).map (·.2)=vs.toArray
   apply Array.toList_inj.mp;rw[Px,Array.toList_zip];exact List.map_snd_zip (Kn _)
  rw[hs];refine Kb (Pp ho3 rfl ?_ (L1 _) (by rw[Kv,Lo]; omega))
  simp only[Rt,KO,LH];exact Kh (fin vs rfl (by unfold dP; rw[KJ h2]))
 ·have hn2:¬ vs.toArray.size < 2:=by rw[Kv]; exact h2
  have h2':2<=vs.length:=by omega
  rw[KW hn2,KW hn2];refine Kb (Mj (hkind h2' _ keep (λ(k:Pw) (s':Kg)=>k=κ/\s'={ s with heap:=((s.heap.update a (LR λ_=>(#[]:KQ Kd))).push (seqObj "tuple" vs.toArray 0)).push (seqObj "list" #[] 0) }) ⟨rfl,rfl⟩) ?_ λ_ _ x=>x.elim)
  rintro _ _ ⟨rfl,rfl⟩;refine Kb (Mj (PySem.W.kat_run (Q:=λst' s'=>∃p:KQ Kk,p.size=vs.length/\arrOf st'=p.map (kas_item (vs.toArray.zip vs.toArray))/\failedOf st'=gV/\p=ce lt (kas_sort vs.length)/\s'={ s with heap:=((s.heap.update a (LR λ_=>(#[]:KQ Kd))).push (seqObj "tuple" vs.toArray 0)).push (seqObj "list" #[] 0) })
   (G:=λp s'=>p=ce lt (kas_sort vs.length)/\s'={ s with heap:=((s.heap.update a (LR λ_=>(#[]:KQ Kd))).push (seqObj "tuple" vs.toArray 0)).push (seqObj "list" #[] 0) }) rfl h2' h64 (λp' st' s' a1 a2 a3 a4=>⟨p',a1,a2,a3,a4⟩)
   (on (lt:=lt) (λi j hi hj C hC=>hlt h2' _ keep i j hi hj C hC) (kY (n:=vs.length) (by omega)) ⟨rfl,rfl⟩)) ?_ λ_ _ e=>e)
  rintro⟨⟨⟩,st'⟩ s' ⟨p,hp,har,hf,ep,rfl⟩;dsimp only;have hout:=PySem.W.kat_snds rfl har;have hsz:(p.toList.map λi=>vs.getD i Ll).length=vs.length:=by rw[Kc,Kz,hp]
  rw[hout];refine Kb (RX ho3 rfl ?_);refine Kb (Pp ho3 rfl ?_ (L1 _) (by rw[Kv,hsz,Lo]; omega))
  rw[hf];simp only[Rt,KO,LH];exact Kh (fin _ hsz (by unfold dP; rw[KW h2,ep]))
theorem wW {x:Kd}{lt:Kk->Kk->KP}{κ:Pw}{Q:Kd->Kg->Prop}(h64:vs.length < 64)
  (hcol:∀Q':J9 Kd->Kg->Prop,(∀h' tk,(∀b o,s.heap.get? b=ba o->h'.get? b=ba o)->s.heap.objs.size<=h'.objs.size->Q' vs { s with heap:=h',toks:=tk })->wpAny (model prog w) A.in1 (collect x) Q' E s)
  (hkind:2<=vs.length->∀h' tk,(∀b o,s.heap.get? b=ba o->h'.get? b=ba o)->∀Q:Pw->Kg->Prop,Q κ { s with heap:=h',toks:=tk }->wpAny (model prog w) A.in1.in1 (keyKind' vs.toArray) Q (λ_ _=>LL) { s with heap:=h',toks:=tk })
  (hlt:2<=vs.length->∀h' tk,(∀b o,s.heap.get? b=ba o->h'.get? b=ba o)->∀i j,i < vs.length->j < vs.length->∀Q:KP->Kg->Prop,Q (lt i j) { s with heap:=h',toks:=tk }->
   wpAny (model prog w) A.in1.in1 (keyLt' κ (vs.getD i Ll) (vs.getD j Ll)) Q (λ_ _=>LL) { s with heap:=h',toks:=tk })
  (h:∀D h' tk c,(∀b o,s.heap.get? b=ba o->h'.get? b=ba o)->s.heap.objs.size<=D->h'.get? D=ba (seqObj "list" (dP lt Ll vs).toArray c)->Q (.ref D) { s with heap:=h',toks:=tk }) :
  wpAny (model prog w) A (call (.builtin "sorted") [x]) Q E s:=by
 refine NS TD Tf Th (Ti _) ?_;unfold NA.«sorted»;refine Kb (m:=checkCount "sorted" 1 1 _) (Kh ?_);refine Kb (hcol _ λh1 tk1 hk1 hle=>?_)
 refine Kb (Pq ?_ (by rw[Lo]; omega))
 have hoL:(h1.push (seqObj "list" vs.toArray 0)).get? h1.objs.size=ba (seqObj "list" vs.toArray 0):=Ku _ rfl;have kp:∀b o,s.heap.get? b=ba o->(h1.push (seqObj "list" vs.toArray 0)).get? b=ba o:=λb o e=>Ke _ (hk1 b o e)
 have hne:∀b o,s.heap.get? b=ba o->b≠h1.objs.size:=λb o e=>KM (KR (KA e) hle)
 show wpAny _ _ _ _ _ { s with heap:=h1.push (seqObj "list" vs.toArray 0),toks:=tk1 }
 refine Kb (Ly (LA Sx ⟨_,hoL,rfl⟩ R5 ?_ (Sy _)));refine oo (s:={ s with heap:=h1.push (seqObj "list" vs.toArray 0),toks:=tk1 }) (lt:=lt) (κ:=κ) hoL h64 (λh2 h' hk Q hq=>hkind h2 h' tk1 (λb o e=>hk b o (hne b o e) (kp b o e)) Q hq)
  (λh2 h' hk i j hi hj Q hq=>hlt h2 h' tk1 (λb o e=>hk b o (hne b o e) (kp b o e)) i j hi hj Q hq) λh' c hk hD=>?_
 exact⟨_,rfl,Kh ⟨_,rfl,h _ h' tk1 c (λb o e=>hk b o (hne b o e) (kp b o e)) hle hD⟩⟩
end
end Mi
namespace Mi
open PySem PySem.Spec PyProof.Rows L2
noncomputable def fT:T->LN
 | .int _=>"int"|.str _=>"str"|.tup _=>"tuple"
noncomputable def bQ:T->Ki T
 | .tup (x::_)=>ba x
 | _=>gV
noncomputable def tQ (ks:J9 T):Ki Kk:=
 if ks.all (λk=>fT k == "int")then ba 0
 else if ks.all (λk=>fT k == "str")then ba 1
 else if ks.all (λk=>(bQ k).any λf=>fT f == "int")then ba 2
 else if ks.all (λk=>(bQ k).any λf=>fT f == "str")then ba 3
 else if ks.all (λk=>(bQ k).any λf=>fT f == "tuple")then ba 4
 else gV
noncomputable def u5:Kk->Pw
 | 0=>oneType'|1=>oneType'|2=>tuples' true|3=>tuples' true|_=>tuples' false
noncomputable def eY (ks:J9 T):KP:=ks.all λx=>ks.all λy=>(gM x y).isSome
noncomputable def mQ (ks:J9 T)(i j:Kk):KP:=(gM (ks.getD i (.int 0)) (ks.getD j (.int 0))).getD false
theorem dX {ks:J9 T}(h:eY ks=true){i j:Kk}(hi:i < ks.length)(hj:j < ks.length):gM (ks[i]) (ks[j])=ba (mQ ks i j):=by
 unfold eY at h;rw[KH]at h;have h1:=h ks[i] (Lf hi);rw[KH]at h1;have h2:=h1 ks[j] (Lf hj);unfold mQ;rw[show ks.getD i (.int 0)=ks[i] by simp[hi],show ks.getD j (.int 0)=ks[j] by simp[hj]]
 obtain⟨b,hb⟩:=Lq.mp h2;rw[hb]; rfl
noncomputable def JQ (c:Kk)(x y:T):Prop:=match c with|0=>fT x = "int"/\fT y = "int"|1=>fT x = "str"/\fT y = "str"|2=>∃f g,bQ x=ba f/\bQ y=ba g/\fT f = "int"/\fT g = "int"|3=>∃f g,bQ x=ba f/\bQ y=ba g/\fT f = "str"/\fT g = "str"|_=>∃f g,bQ x=ba f/\bQ y=ba g
section
variable{prog:K1}{w:Lb}{A:K9}{E:Kd->Kg->Prop}{s:Kg}
theorem u6 {h:Lj}{k:T}{v:Kd}(x:IsT h k v):SS (model prog w) h (typeOf v) (.type (fT k)):=by
 cases x with
 | int=>exact .now
 | str=>exact .now
 | tup a c d t=>exact c ▸ ((Ub a).andThen .now:SS (model prog w) h (typeOf (.ref _)) _)
theorem IsTs.mem {h:Lj}:∀ {ks:J9 T} {vs:J9 Kd},IsTs h ks vs->∀v∈vs,∃k∈ks,IsT h k v
 | _,_,.cons a b,v,hv=>by
  rcases KL.mp hv with rfl|hv
  ·exact⟨_,.head _,a⟩
  ·obtain⟨k,hk,q⟩:=IsTs.mem b v hv;exact⟨k,.tail _ hk,q⟩
theorem oq {h:Lj}{p:T->KP}:∀ {ks:J9 T} {vs:J9 Kd},IsTs h ks vs->ks.all (λk=>(bQ k).any p)=true->∃fs,PySem.W.KatTups h vs fs/\fs.length=vs.length/\∀v∈fs,∃k,p k=true/\IsT h k v
 | _,_,.nil,_=>⟨[],.nil,rfl,λv hv=>nomatch hv⟩
 | k::ks,_,.cons a b,hp=>by
  rw[Lu,Kj]at hp;obtain⟨fs,h1,h2,h3⟩:=oq b hp.2;cases a with
  | int=>simp[bQ]at hp
  | str=>simp[bQ]at hp
  | @tup kk ad o items n a1 c1 d1 t1=>
   cases kk with
   | nil=>simp[bQ]at hp
   | cons x xs=>
    have hx:p x=true:=by simpa [bQ]using hp.1
    generalize hit:items.toList=its at t1;cases t1 with
    | @cons _ u _ us q1 q2=>
     refine⟨u::fs,.cons a1 c1 d1 (by rw[<- LI,hit]; rfl) h1,by simp[h2],λv hv=>?_⟩
     rcases KL.mp hv with rfl|hv
     ·exact⟨x,hx,q1⟩
     ·exact h3 v hv
theorem yJ {ks:J9 T}{vs:J9 Kd}{c:Kk}{Q:Pw->Kg->Prop}(h:IsTs s.heap ks vs)(h2:2<=vs.length)(hc:tQ ks=ba c)(hq:Q (u5 c) s):wpAny (model prog w) A (keyKind' vs.toArray) Q E s:=by
 have one:∀ty:LN,(Mh ty != Mh "tuple")=true->ks.all (λk=>fT k==ty)=true->Q oneType' s->wpAny (model prog w) A (keyKind' vs.toArray) Q E s:=λty hty hall hq=>
  PySem.W.kas_kind (T:=.type ty) h2 (λv hv=>by
   obtain⟨k,hk,x⟩:=h.mem v hv;have:=eq_of_beq (KH.mp hall k hk);exact this ▸ u6 x) hty (by simp) hq
 have tup:∀ty:LN,ks.all (λk=>(bQ k).any λf=>fT f==ty)=true->Q (tuples' (Mh ty != Mh "tuple")) s->wpAny (model prog w) A (keyKind' vs.toArray) Q E s:=λty hall hq=>by
  obtain⟨fs,h1,h3,h4⟩:=oq h hall;exact PySem.W.kat_kind (T:=.type ty) h1 (by omega) (λv hv=>by
   obtain⟨k,hk,x⟩:=h4 v hv;have:=eq_of_beq hk;exact this ▸ u6 x) (by simp) hq
 unfold tQ at hc;split at hc
 ·cases hc; exact one "int" (by decide) (by assumption) hq
 ·split at hc
  ·cases hc; exact one "str" (by decide) (by assumption) hq
  ·split at hc
   ·cases hc; exact tup "int" (by assumption) hq
   ·split at hc
    ·cases hc; exact tup "str" (by assumption) hq
    ·split at hc
     ·cases hc; exact tup "tuple" (by assumption) hq
     ·cases hc
theorem rJ {b:KP}{Q:KP->Kg->Prop}{d:Kk}(hu:A.units+d < cLine):∀(xs ys:J9 T) (us vs:J9 Kd) (i:Kk) (k:KP),T.depths xs<=d->T.depths ys<=d->IsTs s.heap xs us->IsTs s.heap ys vs->dq xs ys=ba k->
  (b=true->i=0->∀x y,xs.head?=ba x->ys.head?=ba y->(fT x = "int"/\fT y = "int")\/(fT x = "str"/\fT y = "str"))->Q k s->PySem.W.KatLex prog w A b (decide (us.length < vs.length)) Q (us.zip vs) i s
 | [],[],_,_,i,k,_,_,h1,h2,e,hb,hq=>by cases h1; cases h2; cases e; exact P6 (by simpa using hq)
 | [],y::ys,_,_,i,k,_,_,h1,h2,e,hb,hq=>by cases h1; cases h2; cases e; exact P6 (by simpa using hq)
 | x::xs,[],_,_,i,k,_,_,h1,h2,e,hb,hq=>by cases h1; cases h2; cases e; exact P6 (by simpa using hq)
 | x::xs,y::ys,_,_,i,k,d1,d2,h1,h2,e,hb,hq=>by
  simp only[T.depths]at d1 d2;cases h1 with
  | @cons _ u _ us p1 q1=>
   cases h2 with
   | @cons _ v _ vs p2 q2=>
    have he:=wK d x y _ _ A s (by omega) p1 p2 hu (by omega)
    rw[Np];refine PySem.W.kat_cons (he prog w _ _ ?_);simp only[dq]at e;have hlen:decide ((u::us).length < (v::vs).length)=decide (us.length < vs.length):=by simp
    rw[hlen]
    by_cases hxy:x=y
    ·rw[KJ hxy]at e;rw[L3 hxy];exact PySem.W.kat_yes (rJ hu xs ys us vs (i+1) k (by omega) (by omega) q1 q2 e (λ_ z=>absurd z (RF _)) hq)
    ·rw[KW hxy]at e;rw[K5 hxy];refine PySem.W.kat_no ?_
     by_cases hb0:b=true/\i=0
     ·obtain⟨rfl,rfl⟩:=hb0;rcases hb rfl rfl x y rfl rfl with⟨hx,hy⟩|⟨hx,hy⟩
      ·cases p1 with
       | int=>cases p2 with
        | int=>cases e; exact oneLt_int hq
        | _=>exact absurd hy (by simp[fT])
       | _=>exact absurd hx (by simp[fT])
      ·cases p1 with
       | str=>cases p2 with
        | str=>cases e; exact oneLt_str hq
        | _=>exact absurd hy (by simp[fT])
       | _=>exact absurd hx (by simp[fT])
     ·have hf:(b&&i==0)=false:=by
       cases b with
       | false=>rfl
       | true=>
        have:i≠0:=λz=>hb0 ⟨rfl,z⟩
        simpa using this
      rw[hf];exact PySem.W.kat_one _ _ ((GP d x y _ _ A s k (by omega) (by omega) p1 p2 hu e) prog w _ _ hq)
theorem u7 {c d:Kk}{x y:T}{u v:Kd}{k:KP}{Q:KP->Kg->Prop}(hu:A.units+d < cLine)(d1:x.depth<=d)(d2:y.depth<=d)(h1:IsT s.heap x u)(h2:IsT s.heap y v)(e:gM x y=ba k)
  (hc:JQ c x y)
  (hq:Q k s):wpAny (model prog w) A (keyLt' (u5 c) u v) Q E s:=by
 have tup:∀b:KP,(∃f g,bQ x=ba f/\bQ y=ba g/\(b=true->(fT f = "int"/\fT g = "int")\/(fT f = "str"/\fT g = "str")))->wpAny (model prog w) A (keyLt' (tuples' b) u v) Q E s:=by
  rintro b ⟨f,g,hf,hg,hb⟩;cases h1 with
  | int=>cases hf
  | str=>cases hf
  | @tup xs a o items n a1 c1 e1 t1=>
   cases h2 with
   | int=>cases hg
   | str=>cases hg
   | @tup ys a' o' items' n' a2 c2 e2 t2=>
    simp only[T.depth]at d1 d2;refine PySem.W.kat_lt a1 e1 a2 e2 ?_;have:=rJ (prog:=prog) (w:=w) (b:=b) (Q:=Q) hu xs ys items.toList items'.toList 0 k (by omega) (by omega) t1 t2 e (λhb' _ p q hp hq'=>by
     cases xs with
     | nil=>cases hp
     | cons x0 xs=>cases ys with
      | nil=>cases hq'
      | cons y0 ys=>cases hp; cases hq'; cases hf; cases hg; exact hb hb') hq
    simpa using this
 match c,hc with
 | 0,⟨hx,hy⟩=>
  cases h1 with
  | int=>cases h2 with
   | int=>cases e; exact PySem.W.kat_lt_int hq
   | _=>exact absurd hy (by simp[fT])
  | _=>exact absurd hx (by simp[fT])
 | 1,⟨hx,hy⟩=>
  cases h1 with
  | str=>cases h2 with
   | str=>cases e; exact PySem.W.kas_lt_str hq
   | _=>exact absurd hy (by simp[fT])
  | _=>exact absurd hx (by simp[fT])
 | 2,⟨f,g,h1',h2',h3,h4⟩=>exact tup true ⟨f,g,h1',h2',λ_=>.inl ⟨h3,h4⟩⟩
 | 3,⟨f,g,h1',h2',h3,h4⟩=>exact tup true ⟨f,g,h1',h2',λ_=>.inr ⟨h3,h4⟩⟩
 | n+4,⟨f,g,h1',h2'⟩=>exact tup false ⟨f,g,h1',h2',λz=>nomatch z⟩
end
theorem u8 {ks:J9 T}{c:Kk}(h:tQ ks=ba c){x y:T}(hx:x∈ks)(hy:y∈ks) :
  JQ c x y:=by
 have one:∀ {ty:LN},ks.all (λk=>fT k==ty)=true->fT x=ty/\fT y=ty:=λha=>⟨eq_of_beq (KH.mp ha x hx),eq_of_beq (KH.mp ha y hy)⟩
 have fst:∀ {ty:LN},ks.all (λk=>(bQ k).any λf=>fT f==ty)=true->∃f g,bQ x=ba f/\bQ y=ba g/\fT f=ty/\fT g=ty:=λ{ty} ha=>by
  have h1:=KH.mp ha x hx;have h2:=KH.mp ha y hy;cases e1:bQ x with
  | none=>rw[e1]at h1; cases h1
  | some f=>
   cases e2:bQ y with
   | none=>rw[e2]at h2; cases h2
   | some g=>
    rw[e1]at h1; rw[e2]at h2
    exact⟨f,g,rfl,rfl,eq_of_beq (by simpa using h1),eq_of_beq (by simpa using h2)⟩
 unfold tQ at h;split at h
 ·cases h; exact one (by assumption)
 ·split at h
  ·cases h; exact one (by assumption)
  ·split at h
   ·cases h; exact fst (by assumption)
   ·split at h
    ·cases h; exact fst (by assumption)
    ·split at h
     ·cases h;obtain⟨f,g,h1,h2,_⟩:=fst (by assumption)
      exact⟨f,g,h1,h2⟩
     ·cases h
noncomputable def eH (S:aa):W->Ki (J9 W)
 | .tup xs=>ba xs
 | .ref i=>match gc S i with
  | some xs=>ba xs
  | none=>(kn S i).map λkvs=>kvs.map λp=>p.1.w
 | _=>gV
noncomputable def cy:Kk:=8
noncomputable def iF (ks:J9 T):KP:=decide (ks.length < 64)&&decide (T.depths ks<=cy)&&(decide (ks.length < 2)||((tQ ks).isSome&&eY ks))
noncomputable def fM (xs:J9 W)(S:aa):Ki (W×aa):=match xs with
 | [x]=>match eH S x with
  | some ws=>match W.ts ws with
   | some ks=>if iF ks then ba (.ref S.length,S++[.lst (dP (mQ ks) .non ws)])else gV
   | none=>gV
  | none=>gV
 | _=>gV
noncomputable def ou (xs:J9 W)(S:aa):Ki (W×aa):=match xs with
 | [.ref i]=>match kn S i with
  | some kvs=>ba (.ref S.length,S++[.lst (kvs.map λp=>p.1.w)])
  | none=>iZ [.ref i] S
 | xs=>iZ xs S
noncomputable def tR (xs:J9 W)(S:aa):Ki (W×aa):=match xs with
 | [.ref i]=>match kn S i with
  | some kvs=>ba (.int kvs.length,S)
  | none=>tB [.ref i] S
 | xs=>tB xs S
noncomputable def iG (ks:J9 T):Kk:=argBest (mQ ks) (ks.length - 1)
noncomputable def yK (xs:J9 W)(S:aa):Ki (W×aa):=match xs with
 | [.ref i]=>match gc S i with
  | some ws=>match W.ts ws with
   | some ks=>if T.depths ks<=cy/\eY ks=true then(ws[iG ks]?).map λw=>(w,S)else gV
   | none=>gV
  | none=>gV
 | _=>gV
noncomputable def iH:J9 W->Ki (J9 KP)
 | []=>ba []
 | .bl b::ws=>(iH ws).map (b :: ·)
 | _::_=>gV
noncomputable def BV (xs:J9 W)(S:aa):Ki (W×aa):=match xs with
 | [.ref i]=>match gc S i with
  | some ws=>(iH ws).map λbs=>(.bl (bs.all id),S)
  | none=>gV
 | _=>gV
section
variable{X:Cx}{pins:J9 (Kl×LZ)}{σ:L2.St}{H:Hp}{s:Kg}{A:J9 Kl}{S:aa}
theorem RelL.pick {K:Kr}{ws:J9 W}{vs:J9 V}(r:RelL K A H ws vs)(d:W)(d':V):∀(is:J9 Kk),(∀i∈is,i < ws.length)->RelL K A H (is.map λi=>ws.getD i d) (is.map λi=>vs.getD i d')
 | [],_=>.nil
 | i::is,h=>by
  have hi:=h i (.head _);obtain⟨v,h1,h2⟩:=r.get (Ko hi);refine .cons ?_ (RelL.pick r d d' is λj hj=>h j (.tail _ hj))
  have e1:ws.getD i d=ws[i]:=by simp[hi]
  have e2:vs.getD i d'=v:=by simp[h1]
  show Rel K A H (ws.getD i d) (vs.getD i d');rw[e1,e2]; exact h2
theorem Vals.pick {vs:J9 V}{us:J9 Kd}(r:Vals vs us)(d:V)(d':Kd):∀(is:J9 Kk),(∀i∈is,i < vs.length)->Vals (is.map λi=>vs.getD i d) (is.map λi=>us.getD i d')
 | [],_=>.nil
 | i::is,h=>by
  have hi:=h i (.head _);obtain⟨v,h1,h2⟩:=L2.Vals.get r (Ko hi);refine .cons ?_ (Vals.pick r d d' is λj hj=>h j (.tail _ hj))
  have e1:vs.getD i d=vs[i]:=by simp[hi]
  have e2:us.getD i d'=v:=by simp[h1]
  show L2.RelV (vs.getD i d) (us.getD i d');rw[e1,e2]; exact h2
theorem kZ {n:Kk}{lt:Kk->Kk->KP}(hn:0 < n):∀i∈(ce lt (Nm n)).toList,i < n:=λi hi=>K6.mp ((pR (lt:=lt) (kY hn)).mem_iff.mp hi)
theorem yL {K:Kr}{lt:Kk->Kk->KP}{ws:J9 W}{vs:J9 V}(r:RelL K A H ws vs):RelL K A H (dP lt .non ws) (dP lt .non vs):=by
 unfold dP;rw[r.length];split
 ·exact r
 ·exact r.pick _ _ _ λi hi=>by rw[r.length]; exact kZ (by omega) i hi
theorem wX {lt:Kk->Kk->KP}{vs:J9 V}{us:J9 Kd}(r:Vals vs us):Vals (dP lt .non vs) (dP lt .none us):=by
 unfold dP;rw[L2.Vals.length r];split
 ·exact r
 ·exact Vals.pick r _ _ _ λi hi=>by rw[L2.Vals.length r]; exact kZ (by omega) i hi
theorem rK {prog:K1}{w:Lb}{B:K9}{E:Kd->Kg->Prop}{l:Kl}{vs:J9 Kd}{Q:J9 Kd->Kg->Prop}(hl:Q8 s.heap l vs.toArray)(hsz:vs.length<=sizeLine)
  (h:∀h' tk,(∀b o,s.heap.get? b=ba o->h'.get? b=ba o)->s.heap.objs.size<=h'.objs.size->Q vs { s with heap:=h',toks:=tk }):wpAny (model prog w) B (collect (.ref l)) Q E s:=by
 obtain⟨o,ho,hc,n,hd⟩:=id hl;unfold collect;refine Kb (Oi (LB entry_proto_collect' ?_));show wpAny _ _ (do again (.builtin "list.__iadd__" ⟨[<- newList [],.ref l],[]⟩)) _ _ s
 refine Kb (Pq (Kh ⟨QY _ (by decide +kernel),LB entry_list_iadd' ?_⟩))
 show wpAny _ _ (LX (.ref s.heap.objs.size) (.ref l) (.ref s.heap.objs.size)) _ _ { s with heap:=s.heap.push (seqObj "list" #[] 0) }
 unfold LX;have ho':(s.heap.push (seqObj "list" #[] 0)).get? l=ba o:=Ke _ ho;refine Kb (No (T:="tuple") ⟨o,ho',hc⟩ ?_);have ht:(Mh "tuple" == Mh "tuple")=true:=by rfl
 rw[KJ (by rw[ht]; simp)]
 refine Kb (Rs ho' hd ?_);refine Kb (Rs (xs:=#[]) (n:=0) (Ku _ rfl) rfl ?_);rw[KW (by simp)]
 refine Kb (Pp (xs:=#[]) (n:=0) (Ku _ rfl) rfl ?_ (L1 _) (by show(#[]++vs.toArray).size<=sizeLine+1; simp only[Array.size_append,Kv,Mu]; omega))
 refine Kh ?_;show wpAny (model prog w) B (do
   let o <- load s.heap.objs.size
   match o.data with
   | .seq xs _=>pure xs.toList
   | _=>unsupported "internal:collect") Q E { s with heap:=(s.heap.push (seqObj "list" #[] 0)).update s.heap.objs.size (LR (· ++ vs.toArray)) }
 refine Kb (PL (P5 (Ku _ rfl) _) ?_);show wpAny _ _ (pure ((#[]:KQ Kd)++vs.toArray).toList) Q E _;rw[show((#[]:KQ Kd)++vs.toArray).toList=vs by simp]
 refine Kh (h _ s.toks (λb o' e=>(NX _ _ _ _ (KM (KA e))).trans (Ke _ e)) ?_)
 rw[RH,size_push'];exact MY _
theorem DicAt.raw {wd:Lb}{a:Kl}{xs:J9 (T×Kl×Kd)}{h:Lj}(d:DicAt wd a xs h):∃es ep,RawD a es ep h/\es.toList=xs.map (yh wd):=
 let ⟨_,_,_,o,es,ep,h1,h2,h3,h4⟩:=d; ⟨es,ep,⟨o,h1,h2,h3⟩,h4⟩
theorem KRel.keysL {kvs:J9 (T×W)}{xs:J9 (T×Kl×Kd)}(r:KRel X.K A H kvs xs):RelL X.K A H (kvs.map λp=>p.1.w) (xs.map λq=>V.ref q.2.1):=by
 unfold KRel at r
 induction r with
 | nil=>exact .nil
 | cons h t ih=>exact .cons h.2.2.2.1 ih
theorem ow (xs:J9 (T×Kl×Kd)):Vals (xs.map λq=>V.ref q.2.1) (xs.map λq=>K4 q.2.1):=by
 induction xs with
 | nil=>exact .nil
 | cons x xs ih=>exact .cons rfl ih
theorem lH {wd:Lb}{es:KQ MF}{xs:J9 (T×Kl×Kd)}(he:es.toList=xs.map (yh wd)){acc:KQ Kd}(ha:PQ (λi v=>∃e,es[i]?=ba e/\e.key=v) acc es.size):acc.toList=xs.map λq=>K4 q.2.1:=by
 have hl:es.size=xs.length:=by rw[<- Kz,he,Kc]
 apply Ni
 ·rw[Kz,ha.1,Kc,hl]
 ·intro i h1 h2;rw[Kz]at h1;obtain⟨e,q1,q2⟩:=ha.2 i acc[i] (by simp[h1])
  rw[<- LI,he,Km]at q1;rw[Kc]at h2;rw[Ko h2]at q1;simp only[Ld,K2]at q1;subst q1;rw[RI,OC];exact q2.symm
theorem wY {x:W}{a:V}{u:Kd}{ws:J9 W}(hh:X.A.handled=gV)(I:Inv X pins σ H s)(so:StoreOk X.w X.K A H S)(rx:Rel X.K A H x a)(ru:RelV a u)(e:eH S x=ba ws):∃vs us,RelL X.K A H ws vs/\Vals vs us/\us.length<=sizeLine/\
  ∀(B:K9) (hB:B.handled=gV) (E:Kd->Kg->Prop) (Q':J9 Kd->Kg->Prop),(∀h' tk,(∀b o,s.heap.get? b=ba o->h'.get? b=ba o)->s.heap.objs.size<=h'.objs.size->Q' us { s with heap:=h',toks:=tk })->wpAny (model X.prog X.w) B (collect u) Q' E s:=by
 cases rx with
 | tup h1 r1=>
  cases e;obtain⟨its,rv,ht,hz⟩:=I.tuple h1;obtain rfl:u=K4 _:=ru;exact⟨_,its,r1,rv,by rw[<- L2.Vals.length rv]; exact hz,λB hB E Q' h=>rK ht (by rw[<- L2.Vals.length rv]; exact hz) h⟩
 | ref ea=>
  simp only[eH]at e;split at e
  ·rename_i xs hx;cases e;obtain⟨vs,h1,r1⟩:=bO so hx ea;obtain⟨its,rv,p,hz⟩:=I.list h1;obtain rfl:u=K4 _:=ru;refine⟨_,its,r1,rv,by rw[<- L2.Vals.length rv]; exact hz,λB hB E Q' h=>collect_list p.isList (h _ s.toks (λb o' e=>(NX _ _ _ _ (KM (KA e))).trans (Ke _ e)) ?_) (by rw[<- L2.Vals.length rv]; exact hz)⟩
   rw[RH,size_push'];exact MY _
  ·rw[Kf]at e;obtain⟨kvs,hk,rfl⟩:=e;obtain⟨xs,rd,kr⟩:=gk so hk ea;have d:=cQ I rd;obtain⟨es,ep,raw,he⟩:=d.raw;obtain rfl:u=K4 _:=ru;have hl:es.size=xs.length:=by rw[<- Kz,he,Kc]
   refine⟨_,_,kr.keysL,ow xs,by rw[Kc]; exact d.1,λB hB E Q' h=>rF (uZ d.2.1) hB raw (by rw[hl]; exact d.1) λh' tk acc hk' hle ha=>?_⟩
   rw[lH he ha];exact h h' tk hk' hle
 | _=>cases e
theorem ox {h':Lj}{tk c:Kk}{D:Kl}{ws:J9 W}{vs:J9 V}{us:J9 Kd}(I:Inv X pins σ H s)(so:StoreOk X.w X.K A H S)(r:RelL X.K A H ws vs)(rv:Vals vs us)(hz:us.length<=sizeLine)(hk:∀b o,s.heap.get? b=ba o->h'.get? b=ba o)(hD:s.heap.objs.size<=D)
  (ho:h'.get? D=ba { cls:=.type "list",data:=.seq us.toArray c }):d4 X pins σ A H (S++[.lst ws]) (.ref S.length) (.ref D) { s with heap:=h',toks:=tk }:=by
 have hn:H D=gV:=I.hok.fresh hD;refine⟨.ref D,_,A++[D],I.laid (a:=D) (o:=.lst vs) (t':=tk) hk hD ⟨by rw[L2.Vals.length rv]; exact hz,us,c,rv,ho⟩,rfl,da hn,so.push hn r,.ref ?_⟩
 rw[<- so.len]; simp
theorem pS (hh:X.A.handled=gV)(hu:X.A.units+12 < cLine):LCall X (.builtin "sorted") fM:=by
 intro pins s σ H A S xs vs us w S' I so rl rv e;cases rl with
 | nil=>cases e
 | cons r t=>
  cases t with
  | cons _ _=>cases e
  | nil=>
   cases rv with
   | cons ru rv2=>
    cases rv2;simp only[fM]at e;split at e
    ·rename_i ws hw;split at e
     ·rename_i ks hk;split at e
      ·rename_i hok;cases e;obtain⟨vs',us',r1,rv1,hz,hcol⟩:=wY hh I so r ru hw;simp only[iF,Kj,KG]at hok;obtain⟨⟨h64,hd⟩,hok⟩:=hok;have hws:T.ws ks=ws:=W.ts_w hk;have hT:IsTs s.heap ks us':=eX I ks (hws ▸ r1) rv1;have hl:us'.length=ks.length:=hT.length.symm;have sk:2<=us'.length->(tQ ks).isSome=true/\eY ks=true:=λh2=>by
        rcases Mc _ _ ▸ hok with h|h
        ·simp only[KG]at h; omega
        ·simpa using h
       refine wW (vs:=us') (lt:=mQ ks) (κ:=u5 ((tQ ks).getD 0)) (by omega) (λQ' hQ'=>hcol X.A.in1 hh _ Q' hQ') (λh2 h' tk hk' Q hq=>?_) (λh2 h' tk hk' i j hi hj Q hq=>?_) λD h' tk c hk' hD ho=>?_
       ·obtain⟨q1,q2⟩:=sk h2;obtain⟨c,hc⟩:=Lq.mp q1;rw[hc]at hq;exact yJ (s:={ s with heap:=h',toks:=tk }) (hT.kept λb o _ e=>hk' b o e) h2 hc hq
       ·obtain⟨q1,q2⟩:=sk h2;obtain⟨c,hc⟩:=Lq.mp q1;rw[hc];have hi':i < ks.length:=by omega
        have hj':j < ks.length:=by omega
        have g:=(hT.kept (h':=h') λb o _ e=>hk' b o e)
        have e1:us'.getD i Ll=us'[i]:=by simp[hi]
        have e2:us'.getD j Ll=us'[j]:=by simp[hj]
        rw[e1,e2];have b1:=cK (ks:=ks) i hi';have b2:=cK (ks:=ks) j hj';exact u7 (s:={ s with heap:=h',toks:=tk }) (d:=cy) (c:=c) (by rw[aR,aR]; unfold cy; omega) (by omega) (by omega) (g.get i hi' hi) (g.get j hj' hj) (dX q2 hi' hj') (u8 hc (Lf hi') (Lf hj')) hq
       ·exact ox I so (yL r1) (wX rv1) (by rw[rH]; exact hz) hk' hD ho
      ·cases e
     ·cases e
    ·cases e
theorem rL (hh:X.A.handled=gV):LCall X (.type "list") ou:=by
 intro pins s σ H A S xs vs us w S' I so rl rv e
 by_cases hd:∃i kvs,xs=[.ref i]/\kn S i=ba kvs
 ·obtain⟨i,kvs,rfl,hk⟩:=hd;simp only[ou,hk]at e;cases e;cases rl with
  | cons r t=>
   cases t;cases rv with
   | cons ru rv2=>
    cases rv2;cases r with
    | ref ea=>
     obtain⟨xs,rd,kr⟩:=gk so hk ea;have d:=cQ I rd;obtain⟨es,ep,raw,he⟩:=d.raw;obtain rfl:_=K4 _:=ru;have hl:es.size=xs.length:=by rw[<- Kz,he,Kc]
     refine PySem.W.kdl_call (uZ d.2.1) hh raw (by rw[hl]; exact d.1) λh' tk acc' c' hk' hD ha=>?_
     have ea':=lH he ha;refine ox (us:=acc'.toList) I so kr.keysL (ea' ▸ ow xs) (by rw[ea',Kc]; exact d.1) hk' (Kn _) (c:=c') ?_
     simpa using hD
 ·have:ou xs S=iZ xs S:=by
   unfold ou;split
   ·rename_i i;split
    ·rename_i kvs hk;exact absurd ⟨i,kvs,rfl,hk⟩ hd
    ·rfl
   ·rfl
  rw[this]at e;exact iD pins s σ H A S xs vs us w S' I so rl rv e
end
open PySem.W (KasT kas_sort kas_asc kas_desc kas_tail3 kas_descPart kas_count kas_place kas_bin kas_rev)
theorem eA {α β:Type}{lt:Kk->Kk->KP}{f:α->KasT β}:∀t:KasT α,ce lt (t.bind f)=ce lt (f (ce lt t))
 | .ret _=>rfl
 | .ask i j k=>eA (k (lt i j))
structure Lin (n:Kk)(lt:Kk->Kk->KP):Prop where
 tr:∀i j k,i < n->j < n->k < n->lt i j=true->lt j k=true->lt i k=true
 as:∀i j,i < n->j < n->lt i j=true->lt j i=false
 to:∀i j,i < n->j < n->i≠j->lt j i=false->lt i j=true
noncomputable def gt (p:KQ Kk)(i:Kk):Kk:=p.getD i 0
theorem jH {p:KQ Kk}{i:Kk}:gt p i=(p[i]?).getD 0:=by unfold gt; simp[Array.getD_eq_getD_getElem?]
theorem Pm.inj {n:Kk}{p:KQ Kk}(h:Pm n p){i j:Kk}(hi:i < n)(hj:j < n)(hne:i≠j):gt p i≠gt p j:=by
 have nd:p.toList.Nodup:=h.nodup_iff.mpr RJ;have hi':i < p.toList.length:=by rw[Kz,h.size]; exact hi
 have hj':j < p.toList.length:=by rw[Kz,h.size]; exact hj
 intro e;have e1:gt p i=p.toList[i]:=by unfold gt; simp[N7,h.size,hi]
 have e2:gt p j=p.toList[j]:=by unfold gt; simp[N7,h.size,hj]
 rw[e1,e2]at e;have pw:=NT.mp nd;rcases QZ hne with h|h
 ·exact pw i j hi' hj' h e
 ·exact pw j i hj' hi' h e.symm
noncomputable def Up (lt:Kk->Kk->KP)(p:KQ Kk)(m:Kk):Prop:=∀i j,i < j->j < m->lt (gt p i) (gt p j)=true
section
variable{n:Kk}{lt:Kk->Kk->KP}(L:Lin n lt)
include L
theorem Up.more {p:KQ Kk}{a:Kk}(hp:Pm n p)(ha:1<=a)(han:a < n)(h:Up lt p a)(hl:lt (gt p (a - 1)) (gt p a)=true):Up lt p (a+1):=by
 have hn:0 < n:=by omega
 intro i j hij hj
 by_cases e:j=a
 ·subst e
  by_cases e2:i=j - 1
  ·subst e2; exact hl
  ·exact L.tr _ _ _ (hp.lt hn _) (hp.lt hn _) (hp.lt hn _) (h i (j - 1) (by omega) (by omega)) hl
 ·exact h i j hij (by omega)
theorem tU {p:KQ Kk}(hp:Pm n p):∀(f a:Kk),1<=a->a+f=n->Up lt p a->Up lt p (ce lt (kas_asc p f a))/\a<=ce lt (kas_asc p f a)/\ce lt (kas_asc p f a)<=n/\(ce lt (kas_asc p f a) < n->lt (gt p (ce lt (kas_asc p f a))) (gt p (ce lt (kas_asc p f a) - 1))=true)
 | 0,a,h1,h2,h=>⟨h,Kn _,by show a<=n; omega,λz=>by have:a < n:=z; omega⟩
 | f+1,a,h1,h2,h=>by
  have hn:0 < n:=by omega
  have e:ce lt (kas_asc p (f+1) a)=ce lt (if lt (gt p a) (gt p (a - 1))=true then .ret a else kas_asc p f (a+1)):=rfl
  rw[e];cases c:lt (gt p a) (gt p (a - 1))with
  | true=>exact⟨h,Kn _,by show a<=n; omega,λ_=>c⟩
  | false=>
   have l:lt (gt p (a - 1)) (gt p a)=true:=L.to _ _ (hp.lt hn (a - 1)) (hp.lt hn a) (hp.inj (by omega) (by omega) (by omega)) c
   obtain⟨q1,q2,q3,q4⟩:=tU hp f (a+1) (by omega) (by omega) (Up.more L hp h1 (by omega) h l)
   exact⟨q1,by show a<=ce lt (kas_asc p f (a+1)); omega,q3,q4⟩
noncomputable def Dn (lt:Kk->Kk->KP)(p:KQ Kk)(m:Kk):Prop:=∀i j,i < j->j < m->lt (gt p j) (gt p i)=true
theorem u9 {p:KQ Kk}(hp:Pm n p):∀(f a:Kk),1<=a->a+f=n->Dn lt p a->∃m,ce lt (kas_desc f p a 0)=(p,m,0)/\a<=m/\m<=n/\Dn lt p m
 | 0,a,h1,h2,h=>⟨a,rfl,Kn _,by omega,h⟩
 | f+1,a,h1,h2,h=>by
  have hn:0 < n:=by omega
  have e:ce lt (kas_desc (f+1) p a 0)=ce lt (if lt (gt p a) (gt p (a - 1))=true then(if 0 > 0 then kas_desc f (kas_rev p (a - (0+1)) a) (a+1) 0 else kas_desc f p (a+1) 0)else .ask (gt p (a - 1)) (gt p a) λd=>if d=true then .ret (p,a,0)else kas_desc f p (a+1) (0+1)):=rfl
  rw[e];cases c:lt (gt p a) (gt p (a - 1))with
  | true=>
   obtain⟨m,q1,q2,q3,q4⟩:=u9 hp f (a+1) (by omega) (by omega) λi j hij hj=>by
    by_cases e:j=a
    ·subst e
     by_cases e2:i=j - 1
     ·subst e2; exact c
     ·exact L.tr _ _ _ (hp.lt hn _) (hp.lt hn _) (hp.lt hn _) c (h i (j - 1) (by omega) (by omega))
    ·exact h i j hij (by omega)
   exact⟨m,q1,by omega,q3,q4⟩
  | false=>
   have l:lt (gt p (a - 1)) (gt p a)=true:=L.to _ _ (hp.lt hn (a - 1)) (hp.lt hn a) (hp.inj (by omega) (by omega) (by omega)) c
   refine⟨a,?_,Kn _,by omega,h⟩
   show ce lt (if lt (gt p (a - 1)) (gt p a)=true then .ret (p,a,0)else kas_desc f p (a+1) (0+1))=_
   rw[l]; rfl
omit L in
theorem ED {p:KQ Kk}{m:Kk}(hp:Pm n p)(hm:m<=n)(h:Dn lt p m):Up lt (kas_rev p 0 m) m:=by
 intro i j hij hj;have g:∀k,k < m->gt (kas_rev p 0 m) k=gt p (m - 1 - k):=λk hk=>by
  rw[jH,jH];show((mirror p 0 m ((m - 0) / 2))[k]?).getD 0=_;rw[getElem?_mirror_all (by rw[hp.size]; exact hm),KJ ⟨L1 _,hk⟩,Nat.zero_add]
 rw[g i (by omega),g j hj]
 exact h _ _ (by omega) (by omega)
theorem yM {p:KQ Kk}(hp:Pm n p)(hn:1<=n):∃m p',ce lt (kas_count n p)=(m,p')/\Pm n p'/\1<=m/\m<=n/\Up lt p' m:=by
 unfold kas_count;rw[eA];obtain⟨q1,q2,q3,q4⟩:=tU L hp (n - 1) 1 (Kn _) (by omega) λi j hij hj=>by omega
 generalize ce lt (kas_asc p (n - 1) 1)=m at q1 q2 q3 q4
 by_cases hm:m=n
 ·subst hm;rw[KJ (Lp _)];exact⟨m,p,rfl,hp,q2,Kn _,q1⟩
 ·rw[KW (by simp[hm])]
  by_cases h1:m > 1
  ·rw[KJ h1];have l:=q1 0 (m - 1) (by omega) (by omega)
   refine⟨m,p,?_,hp,q2,q3,q1⟩;show ce lt (if lt (gt p 0) (gt p (m - 1))=true then .ret (m,p)else kas_descPart m n (kas_rev p 0 m))=_
   rw[l]; rfl
  ·rw[KW h1];obtain rfl:m=1:=by omega
   unfold kas_descPart;rw[eA];have l:=q4 (by omega)
   obtain⟨m,e,r1,r2,r3⟩:=u9 L hp (n - (1+1)) (1+1) (by omega) (by omega) λi j hij hj=>by
    obtain rfl:j=1:=by omega
    obtain rfl:i=0:=by omega
    exact l
   rw[e];dsimp only;rw[KW (by omega)]
   unfold kas_tail3;rw[eA];have hp':Pm n (kas_rev p 0 m):=hp.rev 0 m;obtain⟨z1,z2,z3,z4⟩:=tU L hp' (n - m) m (by omega) (by omega) (ED hp r2 r3)
   exact⟨_,_,rfl,hp',by omega,z3,z1⟩
theorem lI {p:KQ Kk}{k:Kk}(hp:Pm n p)(hk:k < n)(hu:Up lt p k):∀(f l r:Kk),l<=r->r<=k->r - l<=f->(∀i,i < l->lt (gt p i) (gt p k)=true)->(∀i,r<=i->i < k->lt (gt p k) (gt p i)=true)->
  ∃m,ce lt (kas_place p k f l r)=m/\m<=k/\(∀i,i < m->lt (gt p i) (gt p k)=true)/\(∀i,m<=i->i < k->lt (gt p k) (gt p i)=true)
 | 0,l,r,h1,h2,h3,ha,hb=>⟨l,rfl,by omega,ha,λi hi=>hb i (by omega)⟩
 | f+1,l,r,h1,h2,h3,ha,hb=>by
  have hn:0 < n:=by omega
  unfold kas_place
  by_cases hge:l>=r
  ·rw[KJ hge];exact⟨l,rfl,by omega,ha,λi hi=>hb i (by omega)⟩
  ·rw[KW hge];show ∃m,ce lt (if lt (gt p k) (gt p ((l+r) / 2))=true then kas_place p k f l ((l+r) / 2)else kas_place p k f ((l+r) / 2+1) r)=m/\_
   cases c:lt (gt p k) (gt p ((l+r) / 2))with
   | true=>
    rw[KJ rfl];refine lI hp hk hu f l ((l+r) / 2) (by omega) (by omega) (by omega) ha λi hi hik=>?_
    by_cases e:i=(l+r) / 2
    ·rw[e]; exact c
    ·exact L.tr _ _ _ (hp.lt hn _) (hp.lt hn _) (hp.lt hn _) c (hu _ _ (by omega) hik)
   | false=>
    rw[KW KI];have l':=L.to _ _ (hp.lt hn ((l+r) / 2)) (hp.lt hn k) (hp.inj (by omega) (by omega) (by omega)) c
    refine lI hp hk hu f ((l+r) / 2+1) r (by omega) h2 (by omega) (λi hi=>?_) hb
    by_cases e:i=(l+r) / 2
    ·rw[e]; exact l'
    ·exact L.tr _ _ _ (hp.lt hn _) (hp.lt hn _) (hp.lt hn _) (hu i ((l+r) / 2) (by omega) (by omega)) l'
theorem yN:∀(f:Kk) (p:KQ Kk) (k:Kk),Pm n p->k+f=n->Up lt p k->Pm n (ce lt (kas_bin f p k))/\Up lt (ce lt (kas_bin f p k)) n
 | 0,p,k,hp,h,hu=>by
  have:k=n:=by omega
  exact⟨hp,this ▸ hu⟩
 | f+1,p,k,hp,h,hu=>by
  unfold kas_bin;rw[eA];obtain⟨m,e,h1,ha,hb⟩:=lI L hp (by omega) hu k 0 k (L1 _) (Kn _) (by omega) (λi hi=>by omega) λi h1 h2=>by omega
  rw[e];refine yN f _ (k+1) (hp.bub _ _) (by omega) λi j hij hj=>?_
  have g:∀i,gt (bubble p k (k - m)) i=if i=m then gt p k else if m < i/\i<=k then gt p (i - 1)else gt p i:=λi=>by
   rw[jH,jH,jH,jH,getElem?_bubble (by rw[hp.size]; omega) _ (by omega),show k - (k - m)=m by omega]
   split
   ·rfl
   ·split <;> rfl
  rw[g,g]
  repeat' split
  all_goals first
   | (exfalso; omega)
   | exact ha _ (by omega)
   | exact hb _ (by omega) (by omega)
   | exact hu _ _ (by omega) (by omega)
theorem BW (hn:1<=n):Pm n (ce lt (kas_sort n))/\Up lt (ce lt (kas_sort n)) n:=by
 unfold kas_sort;rw[eA];obtain⟨m,p',e,h1,h2,h3,h4⟩:=yM L (p:=(KS n).toArray) (by unfold Pm; simp) hn
 rw[e];dsimp only
 by_cases hm:m < n
 ·rw[KJ hm];have:max m 1=m:=by omega
  rw[this];exact yN L _ _ _ h1 (by omega) h4
 ·rw[KW hm];have:m=n:=by omega
  exact⟨h1,this ▸ h4⟩
end
end Mi
namespace Mi
open PySem PySem.Spec PyProof.Rows L2
mutual
theorem jI:∀x y:T,eG x=true->gM x y=ba true->gM y x=ba false
 | .int a,.int b,_,h=>by
  dsimp only[gM]at h; simp only[K2,KG]at h
  dsimp only[gM]; simp only[K2,Py]
  omega
 | .str _,_,h,_=>by cases h
 | .tup xs,.tup ys,hn,h=>pT xs ys hn h
 | .int _,.str _,_,h|.int _,.tup _,_,h|.tup _,.int _,_,h|.tup _,.str _,_,h=>by cases h
theorem pT:∀xs ys:J9 T,db xs=true->dq xs ys=ba true->dq ys xs=ba false
 | [],[],_,h=>by cases h
 | [],_::_,_,_=>rfl
 | _::_,[],_,h=>by cases h
 | x::xs,y::ys,hn,h=>by
  simp only[db,Kj]at hn;dsimp only[dq]at h ⊢
  by_cases e:x=y
  ·rw[KJ e]at h;rw[KJ e.symm];exact pT xs ys hn.2 h
  ·rw[KW e]at h;rw[KW (Ne.symm e)];exact jI x y hn.1 h
end
mutual
theorem pU:∀x y:T,eG x=true->x≠y->gM y x=ba false->gM x y=ba true
 | .int a,.int b,_,hne,h=>by
  dsimp only[gM]at h; simp only[K2,Py]at h
  dsimp only[gM]; simp only[K2,KG]
  have:a≠b:=λe=>hne (e ▸ rfl)
  omega
 | .str _,_,h,_,_=>by cases h
 | .tup xs,.tup ys,hn,hne,h=>vc xs ys hn (λe=>hne (e ▸ rfl)) h
 | .int _,.str _,_,_,h|.int _,.tup _,_,_,h|.tup _,.int _,_,_,h|.tup _,.str _,_,_,h=>by cases h
theorem vc:∀xs ys:J9 T,db xs=true->xs≠ys->dq ys xs=ba false->dq xs ys=ba true
 | [],[],_,h,_=>absurd rfl h
 | [],_::_,_,_,_=>rfl
 | _::_,[],_,_,h=>by cases h
 | x::xs,y::ys,hn,hne,h=>by
  simp only[db,Kj]at hn;dsimp only[dq]at h ⊢
  by_cases e:x=y
  ·rw[KJ e.symm]at h;rw[KJ e];exact vc xs ys hn.2 (λz=>hne (by rw[e,z])) h
  ·rw[KW (Ne.symm e)]at h;rw[KW e];exact pU x y hn.1 e h
end
mutual
theorem tV:∀x y z:T,eG x=true->eG y=true->gM x y=ba true->gM y z=ba true->gM x z=ba true
 | .int a,.int b,.int c,_,_,h,h'=>by
  dsimp only[gM]at h h' ⊢; simp only[K2,KG]at h h' ⊢
  omega
 | .tup xs,.tup ys,.tup zs,hn,hn',h,h'=>vd xs ys zs hn hn' h h'
 | .str _,_,_,h,_,_,_=>by cases h
 | .int _,.str _,_,_,_,h,_|.int _,.tup _,_,_,_,h,_|.tup _,.int _,_,_,_,h,_|.tup _,.str _,_,_,_,h,_=>by cases h
 | .int _,.int _,.str _,_,_,_,h|.int _,.int _,.tup _,_,_,_,h|.tup _,.tup _,.int _,_,_,_,h|.tup _,.tup _,.str _,_,_,_,h=>by cases h
theorem vd:∀xs ys zs:J9 T,db xs=true->db ys=true->dq xs ys=ba true->dq ys zs=ba true->dq xs zs=ba true
 | [],[],_,_,_,h,_=>by cases h
 | _::_,[],_,_,_,h,_=>by cases h
 | _,_::_,[],_,_,_,h=>by cases h
 | [],_::_,_::_,_,_,_,_=>rfl
 | x::xs,y::ys,z::zs,hn,hn',h,h'=>by
  simp only[db,Kj]at hn hn';dsimp only[dq]at h h' ⊢
  by_cases e:x=y
  ·subst e;rw[KJ rfl]at h
   by_cases e':x=z
   ·rw[KJ e']at h' ⊢;exact vd xs ys zs hn.2 hn'.2 h h'
   ·rw[KW e']at h' ⊢;exact h'
  ·rw[KW e]at h
   by_cases e':y=z
   ·subst e';rw[KW e];exact h
   ·rw[KW e']at h';have t:=tV x y z hn.1 hn'.1 h h';have e2:x≠z:=λe2=>by
     subst e2;have:=jI x x hn.1 t;rw[t]at this; cases this
    rw[KW e2];exact t
end
noncomputable def pV (ks:J9 T):Prop:=ks.Pairwise λx y=>gM x y=ba true
noncomputable def eJ (ks:J9 T):J9 T:=dP (mQ ks) (.int 0) ks
structure Nice (ks:J9 T):Prop where
 num:∀x∈ks,eG x=true
 lt:eY ks=true
 nd:ks.Nodup
theorem Nice.lin {ks:J9 T}(h:Nice ks):Lin ks.length (mQ ks):=by
 have nm:∀i (hi:i < ks.length),eG ks[i]=true:=λi hi=>h.num _ (Lf hi)
 refine⟨λi j k hi hj hk a b=>?_,λi j hi hj a=>?_,λi j hi hj hne a=>?_⟩
 ·have e1:=dX h.lt hi hj;have e2:=dX h.lt hj hk;have e3:=dX h.lt hi hk;rw[a]at e1; rw[b]at e2
  rw[tV _ _ _ (nm i hi) (nm j hj) e1 e2]at e3;exact(Lx e3).symm
 ·have e1:=dX h.lt hi hj;have e2:=dX h.lt hj hi;rw[a]at e1;rw[jI _ _ (nm i hi) e1]at e2;exact(Lx e2).symm
 ·have e1:=dX h.lt hj hi;have e2:=dX h.lt hi hj;rw[a]at e1;have hne':ks[i]≠ks[j]:=λe=>by
   have pw:=NT.mp h.nd;rcases QZ hne with q|q
   ·exact pw i j hi hj q e
   ·exact pw j i hj hi q e.symm
  rw[pU _ _ (nm i hi) hne' e1]at e2;exact(Lx e2).symm
theorem eM {α:Type}{lt:Kk->Kk->KP}{d:α}{xs:J9 α}:(dP lt d xs).Perm xs:=by
 unfold dP;split
 ·exact .refl _
 ·have p:Pm xs.length (ce lt (Nm xs.length)):=pR (kY (by omega))
  refine(Uq _ p).trans ?_;have:(KS xs.length).map (λi=>xs.getD i d)=xs:=by
   apply Ni
   ·simp
   ·intro k h1 h2; simp[h2]
  rw[this]
theorem gl {ks:J9 T}(h:Nice ks):pV (eJ ks):=by
 unfold eJ dP pV;split
 ·rename_i hl
  match ks,hl with
  | [],_=>exact .nil
  | [x],_=>simp
  | _::_::_,hl=>simp only[Li]at hl; omega
 ·rename_i hl;obtain⟨p,u⟩:=BW h.lin (by omega)
  rw[NT];intro i j hi hj hij;rw[Kc,Kz,p.size]at hi hj;have hn:0 < ks.length:=by omega
  have l:=u i j hij hj;have e1:=dX h.lt (p.lt hn i) (p.lt hn j);have g:∀k (hk:k < ks.length),(ce (mQ ks) (Nm ks.length)).getD k 0=(ce (mQ ks) (Nm ks.length)).toList[k]'(by rw[Kz,p.size]; exact hk):=λk hk=>by simp[N7,p.size,hk]
  have l':mQ ks ((ce (mQ ks) (Nm ks.length)).getD i 0) ((ce (mQ ks) (Nm ks.length)).getD j 0)=true:=l;rw[l']at e1;have gd:∀k (hk:k < ks.length),ks.getD k (.int 0)=ks[k]:=λk hk=>by simp[hk]
  simp only[RI];rw[<- g i hi,<- g j hj,gd _ (p.lt hn i),gd _ (p.lt hn j)];exact e1
theorem jb:∀ {a b:J9 T},(∀x∈a,eG x=true)->a.Perm b->pV a->pV b->a=b
 | [],b,_,p,_,_=>(Uc p)
 | x::a,[],_,p,_,_=>absurd p.length_eq (by simp)
 | x::a,y::b,hn,p,h,h'=>by
  have e:x=y:=by
   rcases KL.mp (p.mem_iff.mp (LM))with e|e
   ·exact e
   ·rcases KL.mp (p.mem_iff.mpr (LM))with e'|e'
    ·exact e'.symm
    ·have l1:=O9 h e';have l2:=O9 h' e;have:=jI _ _ (hn x (.head _)) l1;rw[l2]at this; cases this
  subst e;rw[jb (λz hz=>hn z (.tail _ hz)) ((List.perm_cons x).mp p) (Q1.mp h).2 (Q1.mp h').2]
theorem Nice.of_sub {ks us:J9 T}(h:Nice ks)(hs:∀x∈us,x∈ks)(hd:us.Nodup):Nice us:=by
 refine⟨λx hx=>h.num x (hs x hx),?_,hd⟩
 have:=h.lt;unfold eY at this ⊢;rw[KH]at this ⊢;intro x hx;have h2:=this x (hs x hx);rw[KH]at h2 ⊢;exact λy hy=>h2 y (hs y hy)
theorem w6 {us ks:J9 T}(h:Nice ks)(p:us.Perm ks):eJ us=eJ ks:=by
 have hu:Nice us:=h.of_sub (λx hx=>p.mem_iff.mp hx) (p.nodup_iff.mpr h.nd)
 have pu:(eJ us).Perm us:=eM;have pk:(eJ ks).Perm ks:=eM;exact jb (λx hx=>hu.num x (pu.mem_iff.mp hx)) (pu.trans (p.trans pk.symm)) (gl hu) (gl h)
theorem yO {us ks:J9 T}(h:Nice ks)(p:us.Sublist (eJ ks)):eJ us=us:=by
 have pk:(eJ ks).Perm ks:=eM;have hu:Nice us:=h.of_sub (λx hx=>pk.mem_iff.mp (p.subset hx)) (p.nodup (pk.nodup_iff.mpr h.nd))
 have pu:(eJ us).Perm us:=eM;exact jb (λx hx=>hu.num x (pu.mem_iff.mp hx)) pu (gl hu) ((gl h).sublist p)
mutual
noncomputable def oy:T->Ky
 | .int i=>hashInt i
 | .str _=>0
 | .tup xs=>reduceHash (NR (pW xs))
noncomputable def pW:J9 T->J9 Ky
 | []=>[]
 | x::xs=>oy x::pW xs
end
mutual
theorem rM {w:Lb}:∀x:T,eG x=true->eW w x=oy x
 | .int _,_=>rfl
 | .str _,h=>by cases h
 | .tup xs,h=>by simp only[eW,oy]; rw[oz xs h]
theorem oz {w:Lb}:∀xs:J9 T,db xs=true->iA w xs=pW xs
 | [],_=>rfl
 | x::xs,h=>by
  simp only[db,Kj]at h;simp only[iA,pW];rw[rM x h.1,oz xs h.2]
end
theorem rN {w:Lb}:∀(ks:J9 T) (st:KQ (Ky×T)×LG),(∀x∈ks,eG x=true)->ks.foldlM (bP (eW w)) st=ks.foldlM (bP oy) st
 | [],_,_=>rfl
 | x::ks,st,h=>by
  rw[Nk,Nk];have e:bP (eW w) st x=bP oy st x:=by unfold bP; rw[rM x (h x (.head _))]
  rw[e];congr 1
  funext st'
  exact rN ks st' λy hy=>h y (.tail _ hy)
noncomputable def rO (l:KP)(ks:J9 T):Ki (KQ (Ky×T)×LG):=ks.foldlM (bP oy) (#[],.fresh 0 0 l)
noncomputable def kq (ks:J9 T):Ki (J9 T):=match rO true ks with
 | some r=>if fL r.2 r.1.size then ba (r.1.toList.map (·.2))else gV
 | none=>gV
noncomputable def fY (b:KP)(t:LG):LG:={ t with led:=b }
theorem tW {b:KP}{t:LG}{ha:Kk->Ky}{h:Ky}:∀(f:Kk) (p:OW),Ph (fY b t) ha h f p=Ph t ha h f p
 | 0,_=>rfl
 | f+1,p=>by
  unfold Ph;rw[show(fY b t).slot p.j=t.slot p.j from rfl]
  cases t.slot p.j with
  | empty=>rfl
  | dummy=>exact tW f _
  | live i=>
   dsimp only;split
   ·rfl
   ·exact tW f _
theorem kw {b:KP}{es:KQ (Ky×T)}{t:LG}{x:T}{h:Ky}:∀(f:Kk) (st:Ki OW),ee es (fY b t) x h f st=ee es t x h f st
 | 0,_=>rfl
 | f+1,st=>by
  unfold ee;have e:∀p,(fY b t).probe (λi=>(es[i]?.map (·.1)).getD 0) h p=t.probe (λi=>(es[i]?.map (·.1)).getD 0) h p:=λp=>tW _ _
  rw[show(fY b t).probeStart h=t.probeStart h from rfl,e]
  split
  ·rfl
  ·rfl
  ·rfl
  ·rename_i j i next _;cases es[i]? with
   | none=>rfl
   | some q=>
    dsimp only;split
    ·rfl
    ·rw[show(fY b t).slot j=t.slot j from rfl]
     split
     ·exact kw f _
     ·rfl
theorem tX {b:KP}{t:LG}{hs:KQ Ky}{n:Kk}:(fY b t).relaid hs n=(t.relaid hs n).map λr=>(fY b r.1,r.2):=by
 unfold Uf Ur;show(do let owner <- Ru (OY n - 1) hs; _)=_
 cases Ru (OY n - 1) hs <;> rfl
theorem tY {b:KP}{hf:T->Ky}{es:KQ (Ky×T)}{t:LG}{x:T}:bP hf (es,fY b t) x=(bP hf (es,t) x).map λr=>(r.1,fY b r.2):=by
 unfold bP;dsimp only;rw[kw];cases ee es t x (hf x) 100 gV with
 | none=>rfl
 | some f=>
  cases f with
  | there=>rfl
  | free slot=>
   dsimp only;rw[show(fY b t).put slot=(fY b (t.put slot).1,(t.put slot).2)from rfl]
   dsimp only;rw[show ∀n,dN (fY b (t.put slot).1) n=dN (t.put slot).1 n from λ_=>rfl,show(fY b (t.put slot).1).tooFull=(t.put slot).1.tooFull from rfl,tX]
   split
   ·split
    ·split
     ·cases(t.put slot).1.relaid ((La es (t.put slot).2 (hf x,x)).map (·.1)) (Oj (es.size+1))with
      | none=>rfl
      | some q=>
       obtain⟨t2,order⟩:=q;dsimp only[Ld];rw[show ∀n,dN (fY b t2) n=dN t2 n from λ_=>rfl]
       split <;> rfl
     ·rfl
    ·rfl
   ·rfl
theorem rP {b:KP}{hf:T->Ky}:∀(ks:J9 T) (es:KQ (Ky×T)) (t:LG),ks.foldlM (bP hf) (es,fY b t)=(ks.foldlM (bP hf) (es,t)).map λr=>(r.1,fY b r.2)
 | [],_,_=>rfl
 | x::ks,es,t=>by
  rw[Nk,Nk,tY];cases bP hf (es,t) x with
  | none=>rfl
  | some r=>exact rP ks r.1 r.2
theorem w8 {ks us:J9 T}(h:kq ks=ba us)(l:KP):∃r,rO l ks=ba r/\r.1.toList.map (·.2)=us/\r.2.led=l/\(r.2.plain=true->fL r.2 r.1.size=true):=by
 unfold kq at h;have e:rO l ks=(rO true ks).map λr=>(r.1,fY l r.2):=rP (b:=l) ks #[] (.fresh 0 0 true)
 cases hr:rO true ks with
 | none=>rw[hr]at h; cases h
 | some r=>
  rw[hr]at h e;dsimp only at h;split at h
  ·rename_i hok;cases h;exact⟨_,e,rfl,rfl,λ_=>hok⟩
  ·cases h
theorem pX {α:Type}{xs:KQ α}{p:Kk}{x y:α}(h:y∈(La xs p x).toList):y∈xs.toList\/y=x:=by
 unfold La at h;rw[OJ,Pd,Ln,Ln]at h;rcases h with(h|h)|h
 ·rw[NI]at h;refine .inl ?_;simp only[Tj]at h;exact NJ (M1 h)
 ·exact .inr (Kx.mp h)
 ·rw[NI]at h;refine .inl ?_;simp only[Tj]at h;exact NJ (M1 h)
theorem tZ {hf:T->Ky}{es:KQ (Ky×T)}{t:LG}{x:T}{r:KQ (Ky×T)×LG}(h:bP hf (es,t) x=ba r):∀y∈r.1.toList,y∈es.toList\/y.2=x:=by
 intro y hy;unfold bP at h;dsimp only at h;split at h
 ·cases h
 ·cases h; exact .inl hy
 ·rename_i slot _;have ins:∀y∈(La es (t.put slot).2 (hf x,x)).toList,y∈es.toList\/y.2=x:=λy hy=>(pX hy).imp id λe=>by rw[e]
  split at h
  ·split at h
   ·split at h
    ·split at h
     ·cases h
     ·rename_i t2 order _;split at h
      ·cases h;refine ins y ?_;simp only[Array.toList_filterMap,OQ]at hy;obtain⟨i,_,hi⟩:=hy;rw[NH];exact Oq hi
      ·cases h
    ·cases h
   ·cases h; exact ins y hy
  ·cases h
theorem rQ {hf:T->Ky}:∀(ks:J9 T) (es:KQ (Ky×T)) (t:LG) (r:KQ (Ky×T)×LG),ks.foldlM (bP hf) (es,t)=ba r->∀y∈r.1.toList,y∈es.toList\/y.2∈ks
 | [],_,_,_,h,y,hy=>by cases h; exact .inl hy
 | x::ks,es,t,r,h,y,hy=>by
  rw[Nk]at h;cases hs:bP hf (es,t) x with
  | none=>rw[hs]at h; cases h
  | some q=>
   rw[hs]at h;rcases rQ ks q.1 q.2 r h y hy with h1|h1
   ·rcases tZ hs y h1 with h2|h2
    ·exact .inl h2
    ·exact .inr (h2 ▸ LM)
   ·exact .inr (.tail _ h1)
theorem yP {ks us:J9 T}(h:kq ks=ba us):∀k∈us,k∈ks:=by
 unfold kq at h;split at h
 ·rename_i r hr;split at h
  ·cases h;intro k hk;obtain⟨y,hy,rfl⟩:=Kw.mp hk;rcases rQ ks _ _ r hr y hy with h1|h1
   ·simp at h1
   ·exact h1
  ·cases h
 ·cases h
noncomputable def yQ (k:T):KP:=eG k&&k.isTup&&decide (k.depth<=az)
noncomputable def lJ (xs:J9 W)(S:aa):Ki (W×aa):=match xs with
 | [.ref i]=>match gc S i with
  | some ws=>match W.ts ws with
   | some ks=>if ks.all yQ then(kq ks).map λus=>(.ref S.length,S++[.stt us])else gV
   | none=>gV
  | none=>gV
 | _=>gV
noncomputable def F2 (S:aa)(i:Kk):Ki (J9 T):=match S[i]? with
 | some (.stt us)=>ba us
 | _=>gV
noncomputable def lK (us:J9 T):KP:=us.all eG&&eY us&&decide us.Nodup&&iF us
noncomputable def dc (xs:J9 W)(S:aa):Ki (W×aa):=match xs with
 | [.ref i]=>match F2 S i with
  | some us=>if lK us then ba (.ref S.length,S++[.lst (T.ws (eJ us))])else gV
  | none=>gV
 | _=>gV
noncomputable def lL (xs:J9 W)(S:aa):Ki (W×aa):=match xs with
 | [.ref i]=>match BS S i with
  | some (lo,hi)=>if -(2 ^ 62)<=lo/\lo < 2 ^ 62/\-(2 ^ 62)<=hi/\hi < 2 ^ 62/\(hi - lo).toNat<=sizeLine then ba (.tup (GK lo (hi - lo).toNat),S)else gV
  | none=>lv [.ref i] S
 | xs=>lv xs S
theorem yR:∀ks:J9 T,T.ws ks=ks.map T.w
 | []=>rfl
 | x::xs=>by simp only[T.ws,LF,yR xs]
theorem w9 {h:Lj}{us vs:J9 Kd}(p:us.Perm vs):∀ {ks:J9 T},IsTs h ks vs->∃js,IsTs h js us/\js.Perm ks:=by
 induction p with
 | nil=>intro ks i; exact⟨ks,i,.refl _⟩
 | cons x p ih=>
  intro ks i;cases i with
  | cons a b=>obtain⟨js,h1,h2⟩:=ih b; exact⟨_,.cons a h1,h2.cons _⟩
 | swap x y l=>
  intro ks i;cases i with
  | cons a b=>cases b with
   | cons b c=>exact⟨_,.cons b (.cons a c),.swap _ _ _⟩
 | trans p q ih1 ih2=>
  intro ks i;obtain⟨js,h1,h2⟩:=ih2 i;obtain⟨is,h3,h4⟩:=ih1 h1;exact⟨is,h3,h4.trans h2⟩
theorem yS {p:T->KP}{js ks:J9 T}(h:js.Perm ks):js.all p=ks.all p:=by
 rw[Bool.eq_iff_iff,KH,KH];exact⟨λq x hx=>q x (h.mem_iff.mpr hx),λq x hx=>q x (h.mem_iff.mp hx)⟩
theorem yT {js ks:J9 T}(h:js.Perm ks):tQ js=tQ ks:=by unfold tQ; simp only[yS h]
theorem jc:∀ {ks:J9 T} {d:Kk},(∀x∈ks,x.depth<=d)->T.depths ks<=d
 | [],_,_=>L1 _
 | x::ks,d,h=>by
  have h1:=h x (.head _);have h2:=jc λy hy=>h y (.tail _ hy)
  simp only[T.depths]; omega
theorem oA {h:Lj}{js:J9 T}{us:J9 Kd}(r:IsTs h js us):∀is:J9 Kk,(∀i∈is,i < js.length)->IsTs h (is.map λi=>js.getD i (.int 0)) (is.map λi=>us.getD i .none)
 | [],_=>.nil
 | i::is,hl=>by
  have hi:=hl i (.head _);have hi':i < us.length:=by rw[<- r.length]; exact hi
  have e1:js.getD i (.int 0)=js[i]:=by simp[hi]
  have e2:us.getD i .none=us[i]:=by simp[hi']
  have:=r.get i hi hi';refine .cons ?_ (oA r is λj hj=>hl j (.tail _ hj))
  show IsT h (js.getD i (.int 0)) (us.getD i .none);rw[e1,e2]; exact this
theorem xa {h:Lj}{lt:Kk->Kk->KP}{js:J9 T}{us:J9 Kd}(r:IsTs h js us):IsTs h (dP lt (.int 0) js) (dP lt Ll us):=by
 unfold dP;rw[<- r.length];split
 ·exact r
 ·exact oA r _ λi hi=>kZ (by omega) i hi
section
variable{prog:K1}{w:Lb}{A:K9}{E:Kd->Kg->Prop}{s:Kg}
theorem mU {Q:J9 Kd->Kg->Prop}{r:Kl}{a b c:Ky}{t u v:Uu}{n:Kk}(hh:A.handled=gV)(hr:T6 s.heap r a b c t u v)(hsmall:OL a b c=true)
  (hn:Ml a b c=n) (hlen:n<=2 ^ 24)
  (hQ:∀h' tk (acc:KQ Kd),(∀b o,s.heap.get? b=ba o->h'.get? b=ba o)->s.heap.objs.size<=h'.objs.size->PQ (λi v=>∃t,v=.int (a+i*c) t) acc n->Q acc.toList { s with heap:=h',toks:=tk }):wpAny (model prog w) A (collect (.ref r)) Q E s:=by
 unfold collect;refine Kb (Oi (LB F.entry_proto_collect ?_));rw[Ls F.plain_proto_collect _];show wpAny _ A.in1 (newList [] >>= λl=>again (.builtin "list.__iadd__" ⟨[l,.ref r],[]⟩)) _ _ s
 refine Kb (Lc ?_);refine Kh ⟨Mp F.plain_list_iadd _,LB F.entry_list_iadd ?_⟩;rw[Ls F.plain_list_iadd _];show wpAny _ A.in1 (LX (.ref s.heap.objs.size) (.ref r) (.ref s.heap.objs.size)) _ _ _;have hS:(s.heap.push { cls:=.type "list",data:=.seq ([]:J9 Kd).toArray }).get? s.heap.objs.size=ba { cls:=.type "list",data:=.seq #[] 0 }:=Ku _ rfl;have fin':∀s',(∃h' tk acc c',s'={ s with heap:=h',toks:=tk }/\(∀b o,s.heap.get? b=ba o->h'.get? b=ba o)/\h'.get? s.heap.objs.size=ba { cls:=.type "list",dict:=gV,data:=.seq acc c',slots:=#[] }/\PQ (λi v=>∃t,v=.int (a+i*c) t) acc n)->wpAny (model prog w) A (do
   let o <- load s.heap.objs.size
   match o.data with
   | .seq xs _=>pure xs.toList
   | _=>unsupported "internal:collect") Q E s':=by
  rintro s' ⟨h',tk,acc,c',rfl,hk,hS',hacc⟩;exact Kb (PL hS' (Kh (hQ h' tk acc hk (NL (KA hS')) hacc)))
 refine Mj (wpAny_extend_range (A:=A) (s:={ s with heap:=s.heap.push { cls:=.type "list",data:=.seq ([]:J9 Kd).toArray } }) (R:=λr s'=>r=.ok (.ret (.ref s.heap.objs.size))/\∃h' tk acc c',s'={ s with heap:=h',toks:=tk }/\(∀b o,s.heap.get? b=ba o->h'.get? b=ba o)/\h'.get? s.heap.objs.size=ba { cls:=.type "list",dict:=gV,data:=.seq acc c',slots:=#[] }/\PQ (λi v=>∃t,v=.int (a+i*c) t) acc n) hh (Ke _ hr) hsmall hn hlen _ _ 0 hS λh' tk acc' c' hk hS' hacc=>⟨rfl,h',tk,acc',c',rfl,λb o e=>hk b o (KM (KA e)) (Ke _ e),hS',hacc⟩) (λfin s' h=>?_) (λe s' h=>?_)
 ·cases fin with
  | done f=>
   obtain⟨e,h⟩:=h;cases e;exact fin' s' h
  | again c'=>exact⟨h.1,Oe h.2 λr s'' hr=>by obtain⟨rfl,hr⟩:=hr; exact fin' s'' hr⟩
 ·exact absurd h.1 (by simp)
theorem jJ {Q₁:Kd->Kg->Prop}{r:Kl}{a b c:Ky}{t u v:Uu}{n:Kk}(hh:A.handled=gV)(hr:T6 s.heap r a b c t u v)(hsmall:OL a b c=true)
  (hn:Ml a b c=n) (hlen:n<=2 ^ 24)
  (h:∀(h':Lj) (tk:Kk) (acc:KQ Kd),(∀b o,s.heap.get? b=ba o->h'.get? b=ba o)->s.heap.objs.size<=h'.objs.size->PQ (λi v=>∃t,v=.int (a+i*c) t) acc n->Q₁ (.ref h'.objs.size) { s with heap:=h'.push { cls:=.type "tuple",data:=.seq acc },toks:=tk }) :
  codeAny (model prog w) A (.call (.builtin "tuple.__new__") ⟨[.type "tuple",.ref r],[]⟩) (wants Q₁ E) s:=by
 refine P2 ?_;show wpAny _ A.in1 (do checkBuiltinCall "tuple.__new__" ⟨[.type "tuple",.ref r],[]⟩; again (.builtin "tuple.__new__" ⟨[.type "tuple",.ref r],[]⟩)) _ _ s
 refine Kb (Oc (F.newCall_tuple_1 _) (Kh ⟨Mp F.plain_tuple_new _,LB F.entry_tuple_new ?_⟩));rw[Ls F.plain_tuple_new _];have hsub:=PySem.sub_tuple_self;have hinit:=PySem.init_tuple_lookup;have hmh:=PySem.madeHere_tuple;have hTI:s.TypeIs (.ref r) "range":=⟨_,hr,rfl⟩;have hh1:A.in1.handled=gV:=by simp[hh]
 wp_walk using No hTI,mU (A:=A.in1) hh1 hr hsmall hn hlen
 intro h' tk acc hk hle hacc;show wpAny _ _ (L8 acc.toList.toArray >>= λv=>ret v) _ _ _
 unfold L8;refine Kb (Lc ?_ (by show acc.toList.toArray.size<=sizeLine; simp only[Array.toArray_toList]; rw[hacc.1,Lo]; omega))
 refine Kh ?_;have e:acc.toList.toArray=acc:=by simp
 rw[e];exact h h' tk acc hk hle hacc
theorem jK {Q:Kd->Kg->Prop}{r:Kl}{a b c:Ky}{t u v:Uu}{n:Kk}(hh:A.handled=gV)(hr:T6 s.heap r a b c t u v)(hsmall:OL a b c=true)
  (hn:Ml a b c=n) (hlen:n<=2 ^ 24)
  (hQ:∀(h':Lj) (tk:Kk) (acc:KQ Kd),(∀b o,s.heap.get? b=ba o->h'.get? b=ba o)->s.heap.objs.size<=h'.objs.size->PQ (λi v=>∃t,v=.int (a+i*c) t) acc n->Q (.ref h'.objs.size) { s with heap:=h'.push { cls:=.type "tuple",data:=.seq acc },toks:=tk }) :
  wpAny (model prog w) A (call (.type "tuple") [.ref r]) Q E s:=by
 refine callType_codes (Q₁:=λobj s₁=>s₁.TypeIs obj "tuple"/\Q obj s₁) F.called_tuple (F.typeCall_tuple_1 _) F.entry_object_init
  (jJ (by simp[hh]) hr hsmall hn hlen λh' tk acc hk hle hacc=>⟨⟨_,Ku _ rfl,rfl⟩,hQ h' tk acc hk hle hacc⟩) λobj s₁ h₁=>?_
 exact⟨h₁.1,F.args_object_init_2 obj _,object_init_meets F.called_tuple.init.lookup F.called_tuple.made (by decide) prog w A.in1 _ s₁ ⟨h₁.1,rfl,h₁.2⟩⟩
theorem rR {a:Kl}{o:LZ}{es:KQ (Ky×Kd)}{ep:Kk}{t:LG}{ks:J9 T}{Q:Kd->Kg->Prop}(hh:A.handled=gV)(hu:A.units+12 < cLine)(ho:s.heap.get? a=ba o)(hex:o.ExactSet)(hd:o.data=.set es ep t)(hz:es.size<=sizeLine)(fit:t.fits es.size=true)(led:t.led = !fB w)(pl:t.plain=true->es.size=0\/fL t es.size=true)
  (hT:IsTs s.heap ks (es.toList.map (·.2))) (hok:lK ks=true)
  (h:∀D h' tk dr c us,(∀b u,s.heap.get? b=ba u->h'.get? b=ba u)->s.heap.objs.size<=D->h'.get? D=ba (seqObj "list" us.toArray c)->IsTs s.heap (eJ ks) us->us.Perm (es.toList.map (·.2))->Q (.ref D) { s with heap:=h',toks:=tk,drawn:=dr }) :
  wpAny (model prog w) A (call (.builtin "sorted") [.ref a]) Q E s:=by
 simp only[lK,Kj,KG]at hok;obtain⟨⟨⟨hnum,halt⟩,hnd⟩,hok⟩:=hok;have hN:Nice ks:=⟨λx hx=>KH.mp hnum x hx,halt,hnd⟩
 refine NS TD Tf Th (Ti _) ?_;unfold NA.«sorted»;refine Kb (m:=checkCount "sorted" 1 1 _) (Kh ?_);refine Kb (rm (A:=A.in1) (by simp[hh]) ho hex hd hz fit led pl λh1 tk dr us kp hle hP=>?_)
 obtain⟨js,hjs,hperm⟩:=w9 hP hT;simp only[iF,Kj,KG]at hok;obtain⟨⟨h64,hdp⟩,hok⟩:=hok;have hl:us.length=ks.length:=by rw[hjs.length.symm,hperm.length_eq]
 have hJ:Nice js:=hN.of_sub (λx hx=>hperm.mem_iff.mp hx) (hperm.nodup_iff.mpr hN.nd)
 have hsk:2<=us.length->(tQ js).isSome=true:=λh2=>by
  have h3:(tQ ks).isSome=true:=by
   rcases Mc _ _ ▸ hok with h|h
   ·simp only[KG]at h; omega
   ·simp only[Kj]at h; exact h.1
  rw[yT hperm]; exact h3
 have hdj:T.depths js<=cy:=jc λx hx=>by
  obtain⟨i,hi,rfl⟩:=MB.mp (hperm.mem_iff.mp hx);exact KT (cK i hi) hdp
 refine Kb (Pq ?_ (by rw[Lo]; omega))
 have hoL:(h1.push (seqObj "list" us.toArray 0)).get? h1.objs.size=ba (seqObj "list" us.toArray 0):=Ku _ rfl;have kp2:∀b o,s.heap.get? b=ba o->(h1.push (seqObj "list" us.toArray 0)).get? b=ba o:=λb o e=>Ke _ (kp b o e)
 have hne:∀b o,s.heap.get? b=ba o->b≠h1.objs.size:=λb o e=>KM (KR (KA e) hle)
 show wpAny _ _ _ _ _ { s with heap:=h1.push (seqObj "list" us.toArray 0),toks:=tk,drawn:=dr }
 refine Kb (Ly (LA Sx ⟨_,hoL,rfl⟩ R5 ?_ (Sy _)));refine oo (s:={ s with heap:=h1.push (seqObj "list" us.toArray 0),toks:=tk,drawn:=dr }) (lt:=mQ js) (κ:=u5 ((tQ js).getD 0)) hoL (by omega) (λh2 h' hk Q hq=>?_) (λh2 h' hk i j hi hj Q hq=>?_) λh' c hk hD=>?_
 ·obtain⟨c,hc⟩:=Lq.mp (hsk h2);rw[hc]at hq;exact yJ (s:={ s with heap:=h',toks:=tk,drawn:=dr }) (hjs.kept λb o _ e=>hk b o (hne b o e) (kp2 b o e)) h2 hc hq
 ·obtain⟨c,hc⟩:=Lq.mp (hsk h2);rw[hc];have hjl:=hjs.length;have hi':i < js.length:=by omega
  have hj':j < js.length:=by omega
  have g:=(hjs.kept (h':=h') λb o _ e=>hk b o (hne b o e) (kp2 b o e))
  have e1:us.getD i Ll=us[i]:=by simp[hi]
  have e2:us.getD j Ll=us[j]:=by simp[hj]
  rw[e1,e2];have b1:=cK (ks:=js) i hi';have b2:=cK (ks:=js) j hj';exact u7 (s:={ s with heap:=h',toks:=tk,drawn:=dr }) (d:=cy) (c:=c) (by rw[aR,aR]; unfold cy; omega) (by omega) (by omega) (g.get i hi' hi) (g.get j hj' hj) (dX hJ.lt hi' hj') (u8 hc (Lf hi') (Lf hj')) hq
 ·refine⟨_,rfl,Kh ⟨_,rfl,h _ h' tk dr c (dP (mQ js) Ll us) (λb o e=>hk b o (hne b o e) (kp2 b o e)) hle hD ?_ (eM.trans hP)⟩⟩
  rw[<- w6 hN hperm];exact xa hjs
end
section
variable{X:Cx}{pins:J9 (Kl×LZ)}{σ:L2.St}{H:Hp}{s:Kg}{A:J9 Kl}{S:aa}
theorem oB:∀as:J9 Kl,Vals (as.map V.ref) (as.map K4)
 | []=>.nil
 | _::as=>.cons rfl (oB as)
theorem yU:∀ {ks:J9 T} {as:J9 Kl},RelL X.K A H (T.ws ks) (as.map V.ref)->∀b∈as,∃k∈ks,Rel X.K A H k.w (.ref b)
 | [],[],_,_,h=>nomatch h
 | [],_::_,r,_,_=>nomatch r
 | _::_,[],r,_,_=>nomatch r
 | k::ks,a::as,r,b,h=>by
  cases r with
  | cons r1 r2=>
   rcases KL.mp h with rfl|h
   ·exact⟨k,.head _,r1⟩
   ·obtain⟨k',h1,h2⟩:=yU r2 b h;exact⟨k',.tail _ h1,h2⟩
theorem yV (I:Inv X pins σ H s):∀ {js:J9 T} {us:J9 Kd},IsTs s.heap js us->(∀u∈us,∃k b,u=K4 b/\Rel X.K A H (T.w k) (.ref b))->∃vs,RelL X.K A H (T.ws js) vs/\Vals vs us
 | _,_,.nil,_=>⟨[],.nil,.nil⟩
 | _,_,.cons a b,h=>by
  obtain⟨k,c,rfl,r⟩:=h _ (.head _);obtain⟨vs,h1,h2⟩:=yV I b λu hu=>h u (.tail _ hu)
  have:IsT s.heap k (.ref c):=lE I k r rfl;obtain rfl:=a.inj this;exact⟨.ref c::vs,.cons r h1,.cons rfl h2⟩
theorem rS (hh:X.A.handled=gV)(hu:X.A.units+12 < cLine):LCall X (.builtin "sorted") dc:=by
 intro pins s σ H A S xs vs us w S' I so rl rv e;unfold dc at e;split at e
 ·rename_i i;obtain⟨a,ea,rfl⟩:=kU (xs:=[]) rl rv;split at e
  ·rename_i ks hs;split at e
   ·rename_i hb;cases e;unfold F2 at hs;split at hs
    ·rename_i us hx;cases hs;obtain⟨o,φ,as,q,⟨hex,es,ep,t,hd,hz,fit,led,pl,he⟩,r⟩:=so.obj i _ a hx ea;have ho:s.heap.get? a=ba o:=(show ObjOk X.prog X.w H s.heap a (.frz o (.ext φ))from I.hok a _ q).1
     have hT:IsTs s.heap ks (es.toList.map (·.2)):=by rw[he]; exact eX I ks r (oB as)
     refine rR hh hu ho hex hd hz fit led pl hT hb λD h' tk dr c us hk hD oD hU hP=>?_
     obtain⟨vs,h1,h2⟩:=yV I hU λu hu=>by
      have:=hP.mem_iff.mp hu;rw[he]at this;obtain⟨b,hb,rfl⟩:=Kw.mp this;obtain⟨k,_,rk⟩:=yU r b hb;exact⟨k,b,rfl,rk⟩
     have hl:us.length<=sizeLine:=by rw[hP.length_eq,Kc,Kz]; exact hz
     exact i6 (u:=.lst vs) I so hk hD ⟨by rw[L2.Vals.length h2]; exact hl,us,c,h2,oD⟩ λhn=>⟨_,bh,h1.mono (da hn)⟩
    ·cases hs
   ·cases e
  ·cases e
 ·cases e
theorem t4 (hh:X.A.handled=gV)(hu:X.A.units+12 < cLine):LCall X (.type "set") lJ:=by
 intro pins s σ H A S xs vs us w S' I so rl rv e;unfold lJ at e;split at e
 ·rename_i i;obtain⟨a,ea,rfl⟩:=kU (xs:=[]) rl rv;split at e
  ·rename_i ws hw;split at e
   ·rename_i ks hs;split at e
    ·rename_i hb;rw[Kf]at e;obtain⟨us,hp,e⟩:=e;cases e;have hkk:∀x∈ks,eG x=true/\x.isTup=true/\x.depth<=az:=λx hx=>by
      have:=KH.mp hb x hx;simp only[yQ,Kj,KG]at this;exact⟨this.1.1,this.1.2,this.2⟩
     obtain⟨vs',h1,r1⟩:=bO so hw ea;obtain⟨its,rv',p,hzz⟩:=I.list h1;have hws:T.ws ks=ws:=W.ts_w hs;rw[<- hws]at r1;have hT:IsTs s.heap ks its:=eX I ks r1 rv';obtain⟨res,hplay,hkeys,hled,hpl⟩:=w8 hp (!fB X.w);have itm:∀(j:Kk) (u:Kd),its[j]?=ba u->∃k b,ks[j]?=ba k/\u=K4 b/\Rel X.K A H (T.w k) (.ref b):=λj u hj=>by
      have hjl:=(Kq.mp hj).1;have hjk:j < ks.length:=by rw[hT.length]; exact hjl
      have hkw:(T.ws ks)[j]?=ba (T.w ks[j]):=by rw[yR,Km,Ko hjk]; rfl
      obtain⟨v,hv,rkv⟩:=r1.get hkw;obtain⟨u',hu',ruv⟩:=L2.Vals.get rv' hv;rw[hj]at hu';cases hu';have ht:=(hkk _ (Lf hjk)).2.1;generalize hk0:ks[j]=k0 at rkv ht;cases k0 with
      | int _=>cases ht
      | str _=>cases ht
      | tup ys=>
       cases rkv with
       | tup q1 q2=>
        obtain rfl:u=K4 _:=ruv;exact⟨.tup ys,_,by rw[<- hk0]; exact Ko hjk,rfl,.tup q1 q2⟩
     refine wM (ks:=ks) (res:=res) hh p.isList (by simpa using hT) (λx hx=>⟨(hkk x hx).1,(hkk x hx).2.2⟩) (λj v hj=>?_) (by show _+az < cLine; rw[aR,aR,aR]; unfold az; omega) (by rw[rN ks _ λx hx=>(hkk x hx).1]; exact hplay) λh' tk zs ep ho ez hok hz hy hk=>?_
     ·obtain⟨k,b,_,hb,_⟩:=itm j v (by simpa using hj)
      exact⟨b,hb⟩
     ·have ezt:zs.toList.map (λz=>z.2.1)=us:=by
       rw[<- hkeys,<- ez,Px,Mg]; rfl
      have hsz:res.1.size=zs.size:=by rw[<- ez,LP]
      refine i6 (dr:=s.drawn) (u:=.frz (lD X.w zs ep res.2) (.ext λh=>h.get? s.heap.objs.size=ba (lD X.w zs ep res.2))) I so hk (Kn _) ⟨ho,ho,⟨_,ho⟩,λh1 h2 q k=>k _ q⟩ λhn=>⟨_,_,zs.toList.map λz=>z.2.2,bh,⟨⟨rfl,rfl,rfl⟩,zs.map zV,ep,res.2,rfl,?_,?_,hled,?_,?_⟩,?_⟩
      ·rw[LP,Lo];simp only[dN,Kj,KG]at hok;have:=hok.2; omega
      ·rw[LP];simp only[dN,Kj,KG]at hok;exact hok.1.1
      ·rw[LP,<- hsz]; exact λz=>.inr (hpl z)
      ·rw[Px,Mg,Mg]; rfl
      ·rw[<- ezt];have all:∀z∈zs.toList,Rel X.K (A++[s.heap.objs.size]) (bZ H s.heap.objs.size (.frz (lD X.w zs ep res.2) (.ext λh=>h.get? s.heap.objs.size=ba (lD X.w zs ep res.2)))) (T.w z.2.1) (.ref z.2.2):=λz hz'=>by
        obtain⟨j,g1,g2⟩:=hy z hz';obtain⟨k,b,g3,g4,g5⟩:=itm j _ (by simpa using g2)
        rw[g1]at g3;cases g3; cases g4
        exact g5.mono (da hn)
       clear hy ezt;generalize zs.toList=l at all
       induction l with
       | nil=>exact .nil
       | cons z l ih=>exact .cons (all z (.head _)) (ih λy hy=>all y (.tail _ hy))
    ·cases e
   ·cases e
  ·cases e
 ·cases e
theorem pY (hh:X.A.handled=gV):LCall X (.type "tuple") lL:=by
 intro pins s σ H A S xs vs us w S' I so rl rv e;unfold lL at e;split at e
 ·rename_i i;split at e
  ·rename_i lo hi hr;split at e
   ·rename_i hb;cases e;obtain⟨a,ea,rfl⟩:=kU (xs:=[]) rl rv;obtain⟨b1,b2,b3,b4,b5⟩:=hb;have hH:H a=ba (.rng lo hi):=by
     unfold BS at hr;split at hr
     ·rename_i hx; cases hr; exact so.obj i _ a hx ea
     ·cases hr
    obtain⟨t,u,v,ho⟩:=I.hok a _ hH;have hn:Ml lo hi 1=((hi - lo).toNat:Kk):=by rw[QG]; split <;> omega
    refine jK hh ho (SX b1 b2 b3 b4) hn b5 λh' tk acc hk hle hacc=>?_
    have hv:Vals ((KS (hi - lo).toNat).map λ(k:Kk)=>V.int (lo+(k:Ky))) acc.toList:=by
     refine pL (by rw[Kc,KU,Kz,hacc.1]) λi v u e1 e2=>?_
     rw[Km,Kf]at e1;obtain⟨k,e1,rfl⟩:=e1;obtain⟨hk,rfl⟩:=Kq.mp e1;obtain⟨t,rfl⟩:=hacc.2 i u (by rw[<- LI]; exact e2)
     exact⟨t,by simp⟩
    have hnn:H h'.objs.size=gV:=I.hok.fresh hle;refine⟨.ref h'.objs.size,_,A,I.laid (a:=h'.objs.size) (o:=.tup ((KS (hi - lo).toNat).map λ(k:Kk)=>V.int (lo+(k:Ky)))) (t':=tk) (λb o e=>Ke _ (hk b o e)) hle ⟨by simpa using b5,acc.toList,hv,?_⟩,rfl,c9 (.inl hnn),so.lay hnn,.tup (.inl (.inl bh)) (pM _)⟩
    exact⟨_,Ku _ rfl,rfl,0,by simp⟩
   ·cases e
  ·exact ki pins s σ H A S _ vs us w S' I so rl rv e
 ·exact ki pins s σ H A S _ vs us w S' I so rl rv e
end
section
variable{X:Cx}{pins:J9 (Kl×LZ)}{σ:L2.St}{H:Hp}{s:Kg}{A:J9 Kl}{S:aa}
theorem xb (hh:X.A.handled=gV)(hu:X.A.units+12 < cLine):LCall X (.builtin "min") yK:=by
 intro pins s σ H A S xs vs us w S' I so rl rv e;cases rl with
 | nil=>cases e
 | cons r t=>
  cases t with
  | cons _ _=>cases r <;> cases e
  | nil=>
   cases rv with
   | cons ru rv2=>
    cases rv2;cases r with
    | ref ea=>
     simp only[yK]at e;split at e
     ·rename_i ws hw;split at e
      ·rename_i ks hk;split at e
       ·rename_i hc;rw[Kf]at e;obtain⟨w',e1,e2⟩:=e;cases e2;obtain⟨vs',h1,r1⟩:=bO so hw ea;obtain⟨its,rv1,p,hz⟩:=I.list h1;obtain rfl:_=K4 _:=ru;have hws:T.ws ks=ws:=W.ts_w hk;have hT:IsTs s.heap ks its:=eX I ks (hws ▸ r1) rv1;have hl:its.length=ks.length:=hT.length.symm;have hlw:ws.length=ks.length:=by rw[r1.length,L2.Vals.length rv1,hl]
        have hn:0 < ks.length:=by
         have:=(Kq.mp e1).1;omega
        refine yG (items:=its.toArray) (bt:=mQ ks) hh p.isList (by simpa [hl]using hn) (λi j vi vj s' Q E hk' hi hj hq=>?_) λv h' tk hv hk'=>?_
        ·have hi':i < ks.length:=by
          have:=(L4.mp hi).1
          simpa [hl]using this
         have hj':j < ks.length:=by
          have:=(L4.mp hj).1
          simpa [hl]using this
         have g:=hT.kept (h':=s'.heap) λb o _ e=>hk' b o e
         have e1:vi=its[i]'(by omega):=by
          have:=(L4.mp hi).2
          simpa using this.symm
         have e2:vj=its[j]'(by omega):=by
          have:=(L4.mp hj).2
          simpa using this.symm
         subst e1 e2;have b1:=cK (ks:=ks) i hi';have b2:=cK (ks:=ks) j hj';exact GP cy _ _ _ _ X.A.in1 s' _ (by omega) (by omega) (g.get i hi' (by omega)) (g.get j hj' (by omega)) (by rw[aR]; unfold cy; omega) (dX hc.2 hi' hj') X.prog X.w _ _ hq
        ·have hv':its[iG ks]?=ba v:=by
          have:its.toArray.size=ks.length:=by simpa using hl
          rw[this]at hv
          simpa [iG]using hv
         obtain⟨v',q1,q2⟩:=r1.get e1;obtain⟨u',q3,q4⟩:=L2.Vals.get rv1 q1;rw[hv']at q3;cases q3;exact⟨v',H,A,I.kept hk',q4,.refl,so,q2⟩
       ·cases e
      ·cases e
     ·cases e
    | _=>cases e
theorem oE:∀ {ws:J9 W} {bs:J9 KP},iH ws=ba bs->ws=bs.map W.bl
 | [],bs,h=>by cases h; rfl
 | .bl b::ws,bs,h=>by
  simp only[iH,Kf]at h;obtain⟨r,h1,h2⟩:=h;subst h2;rw[oE h1]; rfl
 | .non::_,_,h|.int _::_,_,h|.str _::_,_,h|.tup _::_,_,h|.ref _::_,_,h=>by cases h
theorem t8 {bs:J9 KP}{vs:J9 V}{us:J9 Kd}(r:RelL X.K A H (bs.map W.bl) vs)(rv:Vals vs us):us=bs.map NE:=by
 induction bs generalizing vs us with
 | nil=>cases r; cases rv; rfl
 | cons b bs ih=>
  cases r with
  | cons r1 r2=>
   cases rv with
   | cons v1 v2=>
    cases r1;obtain rfl:_=NE b:=v1;rw[ih r2 v2]; rfl
theorem xc (bs:J9 KP):(KS bs.length).all (λi=>bs.getD i false)=bs.all id:=by
 induction bs with
 | nil=>rfl
 | cons b bs ih=>simp[PN,Tc,NC]at ih ⊢; rw[ih]
theorem EE {id:LN}{fb:J9 KP->KP}{g:J9 W->aa->Ki (W×aa)}(hg:∀xs S,g xs S=match xs with|[.ref i]=>(match gc S i with|some ws=>(iH ws).map λbs=>(.bl (fb bs),S)|none=>gV)|_=>gV)
  (hcall:∀ {s:Kg} {x:Kd} {Q:Kd->Kg->Prop} {E:Kd->Kg->Prop} {bs:J9 KP},wpAny (model X.prog X.w) X.A.in1 (pyIter x) (λit s₂=>∃I fp wr P St,it=.ref I/\RT X.prog X.w X.A.in1 I fp wr bs.length P St/\St 0 s₂.heap/\TruthOf X.prog X.w X.A.in1 P (λi=>bs.getD i false)/\
   ∀h' tk,(∀b o,b∉wr->s₂.heap.get? b=ba o->h'.get? b=ba o)->Q (.bool (fb bs)) { s₂ with heap:=h',toks:=tk }) E s->wpAny (model X.prog X.w) X.A (call (.builtin id) [x]) Q E s)
  (hh:X.A.handled=gV):LCall X (.builtin id) g:=by
 intro pins s σ H A S xs vs us w S' I so rl rv e;rw[hg]at e;cases rl with
 | nil=>cases e
 | cons r t=>
  cases t with
  | cons _ _=>cases r <;> cases e
  | nil=>
   cases rv with
   | cons ru rv2=>
    cases rv2;cases r with
    | @ref ri ad ea=>
     simp only at e;split at e
     ·rename_i ws hw;rw[Kf]at e;obtain⟨bs,e1,e2⟩:=e;cases e2;obtain⟨vs',h1,r1⟩:=bO so hw ea;obtain⟨its,rv1,p,hz⟩:=I.list h1;obtain rfl:_=K4 _:=ru;rw[oE e1]at r1;have hits:=t8 r1 rv1;refine hcall (bs:=bs) ?_;refine NB p.isList ?_;have hlt:ad < s.heap.objs.size:=by obtain⟨_,ho,_⟩:=p.isList; exact KA ho
      have W:=Sw (prog:=X.prog) (w:=X.w) (A:=X.A.in1) hh s.heap.objs.size ad (KM hlt) its.toArray;have hsz:its.toArray.size=bs.length:=by rw[Kv,hits,Kc]
      rw[hsz]at W;refine⟨_,_,_,_,_,rfl,W,⟨⟨_,Ku _ rfl,rfl,rfl⟩,?_⟩,λi v s' Q E hi hq=>?_,λh' tk hk=>?_⟩
      ·obtain⟨o,ho,hc⟩:=p.isList;exact⟨o,Ke _ ho,hc⟩
      ·have hb:bs[i]?.map NE=ba v:=by rw[<- Km,<- hits]; simpa using hi
       cases q:bs[i]? with
       | none=>rw[q]at hb; cases hb
       | some b=>
        rw[q]at hb;cases hb;have eb:bs.getD i false=b:=by simp[q]
        have hq:Q (bs.getD i false) s':=hq;rw[eb]at hq;exact ME hq
      ·refine⟨.bl (fb bs),H,A,I.kept (λb o e=>hk b o (λz=>?_) (Ke _ e)),rfl,.refl,so,.bl⟩
       have hb:=KA e;rw[Kx.mp z]at hb;exact LQ _ hb
     ·cases e
    | _=>cases e
theorem xf (hh:X.A.handled=gV):LCall X (.builtin "all") BV:=
 EE (fb:=λbs=>bs.all id) (λxs S=>rfl) (λ{s x Q E bs} h=>call_all_walk (Mj h (λit s₂ ⟨I,fp,wr,P,St',a,b,c,d,f⟩=>⟨I,fp,wr,_,P,St',_,a,b,c,d,λh' tk hk=>by rw[xc]; exact f h' tk hk⟩) λ_ _ e=>e)) hh
end
noncomputable abbrev FA:=Fm->aa->Ki (J9 W×aa)
noncomputable abbrev FT:=Fm->aa->Ki (KP×aa)
inductive Out where
 | nx (ρ:Fm)|rt (w:W)|bk (ρ:Fm)|ct (ρ:Fm)
noncomputable abbrev FS:=Fm->aa->Ki (Out×aa)
section
variable (X:Cx)
noncomputable def tE (f:FE):TE:=λσ H Q=>∃A ρ S w S',EnvRel X.K A H ρ σ/\StoreOk X.w X.K A H S/\f ρ S=ba (w,S')/\∀v H',EndV X.w X.K A H S' w v H'->Q v H'
noncomputable def EndB (A:J9 Kl)(H:Hp)(S':aa)(k:KP):KP->Hp->Prop:=λb H'=>b=k/\∃A',Ext X.K A H A' H'/\StoreOk X.w X.K A' H' S'
noncomputable def tT (f:FT):TT:=λσ H Q=>∃A ρ S k S',EnvRel X.K A H ρ σ/\StoreOk X.w X.K A H S/\f ρ S=ba (k,S')/\∀b H',EndB X A H S' k b H'->Q b H'
noncomputable def EF (A:J9 Kl)(H:Hp)(S':aa)(ws:J9 W):J9 V->Hp->Prop:=λvs H'=>∃A',Ext X.K A H A' H'/\StoreOk X.w X.K A' H' S'/\RelL X.K A' H' ws vs
noncomputable def tA (f:FA):TA:=λσ H Q=>∃A ρ S ws S',EnvRel X.K A H ρ σ/\StoreOk X.w X.K A H S/\f ρ S=ba (ws,S')/\∀vs H',EF X A H S' ws vs H'->Q vs H'
noncomputable def EndS (A:J9 Kl)(H:Hp)(o:Out)(S':aa):Ends where
 nx:=λσ' H'=>∃ρ' A',o=.nx ρ'/\Ext X.K A H A' H'/\StoreOk X.w X.K A' H' S'/\EnvRel X.K A' H' ρ' σ'
 rt:=λv H'=>∃w A',o=.rt w/\Ext X.K A H A' H'/\StoreOk X.w X.K A' H' S'/\Rel X.K A' H' w v
 bk:=λσ' H'=>∃ρ' A',o=.bk ρ'/\Ext X.K A H A' H'/\StoreOk X.w X.K A' H' S'/\EnvRel X.K A' H' ρ' σ'
 ct:=λσ' H'=>∃ρ' A',o=.ct ρ'/\Ext X.K A H A' H'/\StoreOk X.w X.K A' H' S'/\EnvRel X.K A' H' ρ' σ'
structure Imp (E D:Ends):Prop where
 nx:∀σ H,E.nx σ H->D.nx σ H
 rt:∀v H,E.rt v H->D.rt v H
 bk:∀σ H,E.bk σ H->D.bk σ H
 ct:∀σ H,E.ct σ H->D.ct σ H
noncomputable def tS (f:FS):TS:=λD σ H=>∃A ρ S o S',EnvRel X.K A H ρ σ/\StoreOk X.w X.K A H S/\f ρ S=ba (o,S')/\Imp (EndS X A H o S') D
noncomputable abbrev GE (e:KN)(f:FE):Prop:=PE X e (tE X f)
noncomputable abbrev GT (e:KN)(f:FT):Prop:=PT X e (tT X f)
noncomputable abbrev GW (e:KN)(f:FT):Prop:=PW X e (tT X f)
noncomputable abbrev GA (es:J9 KN)(f:FA):Prop:=PA X es (tA X f)
noncomputable abbrev GS (st:M5)(f:FS):Prop:=PS X st (tS X f)
noncomputable abbrev GSs (sts:J9 M5)(f:FS):Prop:=PSs X sts (tS X f)
end
theorem Imp.trans {E D F:Ends}(a:Imp E D)(b:Imp D F):Imp E F:=⟨λ_ _ h=>b.nx _ _ (a.nx _ _ h),λ_ _ h=>b.rt _ _ (a.rt _ _ h),λ_ _ h=>b.bk _ _ (a.bk _ _ h),λ_ _ h=>b.ct _ _ (a.ct _ _ h)⟩
section
variable{X:Cx}
theorem GE.of {e:KN}{t:TE}{f:FE}(h:PE X e t)(hf:∀(σ:L2.St) (H:Hp) (A:J9 Kl) (ρ:Fm) (S:aa) (w:W) (S':aa),EnvRel X.K A H ρ σ->StoreOk X.w X.K A H S->f ρ S=ba (w,S')->∀Q:VK,(∀v H',EndV X.w X.K A H S' w v H'->Q v H')->t σ H Q):GE X e f:=
 λpins s σ H Q I ⟨A,ρ,S,w,S',er,so,e1,hq⟩=>h pins s σ H Q I (hf σ H A ρ S w S' er so e1 Q hq)
theorem GT.of {e:KN}{t:TT}{f:FT}(h:PT X e t)(hf:∀(σ:L2.St) (H:Hp) (A:J9 Kl) (ρ:Fm) (S:aa) (k:KP) (S':aa),EnvRel X.K A H ρ σ->StoreOk X.w X.K A H S->f ρ S=ba (k,S')->∀Q:KP->Hp->Prop,(∀b H',EndB X A H S' k b H'->Q b H')->t σ H Q):GT X e f:=
 λpins s σ H Q I ⟨A,ρ,S,w,S',er,so,e1,hq⟩=>h pins s σ H Q I (hf σ H A ρ S w S' er so e1 Q hq)
theorem GW.of {e:KN}{t:TT}{f:FT}(h:PW X e t)(hf:∀(σ:L2.St) (H:Hp) (A:J9 Kl) (ρ:Fm) (S:aa) (k:KP) (S':aa),EnvRel X.K A H ρ σ->StoreOk X.w X.K A H S->f ρ S=ba (k,S')->∀Q:KP->Hp->Prop,(∀b H',EndB X A H S' k b H'->Q b H')->t σ H Q):GW X e f:=
 λwh pins s σ H Q I ⟨A,ρ,S,w,S',er,so,e1,hq⟩=>h wh pins s σ H Q I (hf σ H A ρ S w S' er so e1 Q hq)
theorem GA.of {es:J9 KN}{t:TA}{f:FA}(h:PA X es t)(hf:∀(σ:L2.St) (H:Hp) (A:J9 Kl) (ρ:Fm) (S:aa) (ws:J9 W) (S':aa),EnvRel X.K A H ρ σ->StoreOk X.w X.K A H S->f ρ S=ba (ws,S')->∀Q:J9 V->Hp->Prop,(∀vs H',EF X A H S' ws vs H'->Q vs H')->t σ H Q):GA X es f:=
 λpos pins s σ H Q I ⟨A,ρ,S,w,S',er,so,e1,hq⟩=>h pos pins s σ H Q I (hf σ H A ρ S w S' er so e1 Q hq)
theorem GS.of {st:M5}{t:TS}{f:FS}(h:PS X st t)(hf:∀(σ:L2.St) (H:Hp) (A:J9 Kl) (ρ:Fm) (S:aa) (o:Out) (S':aa),EnvRel X.K A H ρ σ->StoreOk X.w X.K A H S->f ρ S=ba (o,S')->∀D:Ends,Imp (EndS X A H o S') D->t D σ H):GS X st f:=
 λpins s σ H D I ⟨A,ρ,S,o,S',er,so,e1,hq⟩=>h pins s σ H D I (hf σ H A ρ S o S' er so e1 D hq)
theorem GSs.of {st:J9 M5}{t:TS}{f:FS}(h:PSs X st t)(hf:∀(σ:L2.St) (H:Hp) (A:J9 Kl) (ρ:Fm) (S:aa) (o:Out) (S':aa),EnvRel X.K A H ρ σ->StoreOk X.w X.K A H S->f ρ S=ba (o,S')->∀D:Ends,Imp (EndS X A H o S') D->t D σ H):GSs X st f:=
 λpins s σ H D I ⟨A,ρ,S,o,S',er,so,e1,hq⟩=>h pins s σ H D I (hf σ H A ρ S o S' er so e1 D hq)
theorem EndV.after {A A1:J9 Kl}{H H1:Hp}{S':aa}{w:W}{v:V}{H':Hp}(e:Ext X.K A H A1 H1)(h:EndV X.w X.K A1 H1 S' w v H'):EndV X.w X.K A H S' w v H':=by
 obtain⟨A',x,y,z⟩:=h;exact⟨A',e.trans x,y,z⟩
theorem EndB.after {A A1:J9 Kl}{H H1:Hp}{S':aa}{k b:KP}{H':Hp}(e:Ext X.K A H A1 H1)(h:EndB X A1 H1 S' k b H'):EndB X A H S' k b H':=by
 obtain⟨h1,A',x,y⟩:=h;exact⟨h1,A',e.trans x,y⟩
theorem EndS.after {A A1:J9 Kl}{H H1:Hp}{S':aa}{o:Out}(e:Ext X.K A H A1 H1):Imp (EndS X A1 H1 o S') (EndS X A H o S'):=
 ⟨λ_ _ ⟨ρ',A',a,b,c,d⟩=>⟨ρ',A',a,e.trans b,c,d⟩,λ_ _ ⟨ρ',A',a,b,c,d⟩=>⟨ρ',A',a,e.trans b,c,d⟩,λ_ _ ⟨ρ',A',a,b,c,d⟩=>⟨ρ',A',a,e.trans b,c,d⟩,λ_ _ ⟨ρ',A',a,b,c,d⟩=>⟨ρ',A',a,e.trans b,c,d⟩⟩
noncomputable def fC (w:W):FE:=λ_ S=>ba (w,S)
noncomputable def fV (i:Kk):FE:=λρ S=>match ρ[i]? with
 | some (ba w)=>ba (w,S)
 | _=>gV
theorem rT {e:KN}{v:V}{w:W}(h:PE X e (tC v))(r:∀A H,Rel X.K A H w v):GE X e (fC w):=
 GE.of h λσ H A ρ S w' S' er so e Q hq=>by cases e; exact hq _ _ (.here so (r A H))
theorem Jc {i:Kk}{e:KN}(h:PE X e (DN i)):GE X e (fV i):=GE.of h λσ H A ρ S w S' er so e Q hq=>by
 unfold fV at e;split at e
 ·rename_i w' hw;cases e;obtain⟨v,h1,h2⟩:=er.2 i _ hw;exact⟨v,h1,hq _ _ (.here so h2)⟩
 ·cases e
noncomputable def BX (g:W->W->aa->Ki (W×aa))(fa fb:FE):FE:=λρ S=>match fa ρ S with
 | some (x,S1)=>match fb ρ S1 with
  | some (y,S2)=>g x y S2
  | none=>gV
 | none=>gV
theorem Ih {fa fb:FE}{g:W->W->aa->Ki (W×aa)}{ρ:Fm}{S:aa}{r:W×aa}(e:BX g fa fb ρ S=ba r):∃x S1 y S2,fa ρ S=ba (x,S1)/\fb ρ S1=ba (y,S2)/\g x y S2=ba r:=by
 unfold BX at e;split at e
 ·rename_i x S1 h1;split at e
  ·rename_i y S2 h2;exact⟨x,S1,y,S2,h1,h2,e⟩
  ·cases e
 ·cases e
theorem jd {fa fb:FE}{ρ:Fm}{S S1 S2:aa}{x y:W}{σ:L2.St}{H:Hp}{A:J9 Kl}{R:V->V->Hp->Prop}(er:EnvRel X.K A H ρ σ)(so:StoreOk X.w X.K A H S)(h1:fa ρ S=ba (x,S1))(h2:fb ρ S1=ba (y,S2))
  (h:∀a b H2 A2,Ext X.K A H A2 H2->StoreOk X.w X.K A2 H2 S2->Rel X.K A2 H2 x a->Rel X.K A2 H2 y b->R a b H2):tE X fa σ H λa H1=>tE X fb σ H1 λb H2=>R a b H2:=by
 refine⟨A,ρ,S,x,S1,er,so,h1,λa H1 ⟨A1,e1,o1,r1⟩=>?_⟩
 refine⟨A1,ρ,S1,y,S2,er.mono e1,o1,h2,λb H2 ⟨A2,e2,o2,r2⟩=>?_⟩
 exact h a b H2 A2 (e1.trans e2) o2 (r1.mono e2) r2
theorem LOp.opr {f:Kd->Kd->Tp Kd}{g:W->W->aa->Ki (W×aa)}(h:LOp X f g):OpR X f (λa b H Q=>∃A S x y w S',StoreOk X.w X.K A H S/\Rel X.K A H x a/\Rel X.K A H y b/\g x y S=ba (w,S')/\∀v H',EndV X.w X.K A H S' w v H'->Q v H'):=by
 intro pins s σ H a b u v Q I ru rv ⟨A,S,x,y,w,S',so,rx,ry,e,hq⟩;exact bT (h pins s σ H A S x y a b u v w S' I so rx ru ry rv e) λu' s' ⟨v',H',A',I',r',e1,o1,z1⟩=>⟨v',H',I',r',hq v' H' ⟨A',e1,o1,z1⟩⟩
theorem Dm {a b:KN}{op:Rc}{pos:MP}{fa fb:FE}{g:W->W->aa->Ki (W×aa)}(ho:LOp X (binaryOp op) g)(ha:GE X a fa)(hb:GE X b fb):GE X (.BinOp a op b pos) (BX g fa fb):=
 GE.of (Gm ho.opr ha hb) λσ H A ρ S w S' er so e Q hq=>by
  obtain⟨x,S1,y,S2,h1,h2,h3⟩:=Ih e;exact jd er so h1 h2 λa b H2 A2 e2 o2 r1 r2=>⟨A2,S2,x,y,w,S',o2,r1,r2,h3,λv H' z=>hq v H' (z.after e2)⟩
noncomputable def yW (fa:FE):FE:=λρ S=>match fa ρ S with
 | some (.int i,S1)=>ba (.int (-i),S1)
 | _=>gV
theorem yX {a:KN}{pos:MP}{fa:FE}(ha:GE X a fa):GE X (.UnaryOp .USub a pos) (yW fa):=
 GE.of (Gn Ek ha) λσ H A ρ S w S' er so e Q hq=>by
  unfold yW at e;split at e
  ·rename_i i S1 h1;cases e;refine⟨A,ρ,S,_,_,er,so,h1,λv H1 ⟨A1,e1,o1,r1⟩=>?_⟩
   cases r1;exact⟨_,rfl,hq _ _ ⟨A1,e1,o1,.int⟩⟩
  ·cases e
noncomputable def BY (o:COp)(fa fb:FE):FE:=BX (dz o) fa fb
theorem EG {a b:KN}{o:COp}{pos:MP}{fa fb:FE}(hu:X.A.units+iC < cLine)(ha:GE X a fa)(hb:GE X b fb)(hm:behindInMarks o.py b=false):GE X (.Compare a [o.py] [b] pos) (BY o fa fb):=
 GE.of (Bn (rC hu o).opr ha hb hm) λσ H A ρ S w S' er so e Q hq=>by
  obtain⟨x,S1,y,S2,h1,h2,h3⟩:=Ih e;exact jd er so h1 h2 λa b H2 A2 e2 o2 r1 r2=>⟨A2,S2,x,y,w,S',o2,r1,r2,h3,λv H' z=>hq v H' (z.after e2)⟩
noncomputable def yY (f:FE):FT:=λρ S=>match f ρ S with
 | some (.bl k,S')=>ba (k,S')
 | _=>gV
theorem EH {a b:KN}{o:COp}{pos:MP}{fa fb:FE}(hu:X.A.units+iC < cLine)(ha:GE X a fa)(hb:GE X b fb)(hm:behindInMarks o.py b=false):GT X (.Compare a [o.py] [b] pos) (yY (BY o fa fb)):=
 GT.of (Bo (rC hu o).opr ha hb hm) λσ H A ρ S k S' er so e Q hq=>by
  unfold yY at e;split at e
  ·rename_i k' S'' h0;cases e;obtain⟨x,S1,y,S2,h1,h2,h3⟩:=Ih h0;refine jd er so h1 h2 λa b H2 A2 e2 o2 r1 r2=>⟨A2,S2,x,y,_,_,o2,r1,r2,h3,λv H' ⟨A',z1,z2,z3⟩=>?_⟩
   cases z3;exact⟨k,rfl,hq _ _ ⟨rfl,A',e2.trans z1,z2⟩⟩
  ·cases e
noncomputable def gY (f:FE):FT:=λρ S=>match f ρ S with
 | some (w,S')=>(iE S' w).map λk=>(k,S')
 | none=>gV
theorem cH {e:KN}{f:FE}(h:GE X e f)(he:∀whole,isTrue e X.env whole=(do let v <- whole; standAt e.pos; holding [v] (truthy v))):GT X e (gY f):=by
 intro pins s σ H Q I ⟨A,ρ,S,k,S',er,so,e1,hq⟩;unfold gY at e1;split at e1
 ·rename_i w S1 h1;rw[Kf]at e1;obtain⟨k',ek,e2⟩:=e1;cases e2;refine isTrue_plain (bT (h pins s σ H (EndV X.w X.K A H _ w) I ⟨A,ρ,S,w,_,er,so,h1,λ_ _ z=>z⟩) λv s1 ⟨x,H1,I1,r1,A1,e1,o1,z1⟩=>?_) (he _)
  exact Ja I1 o1 z1 r1 ek λs' I'=>⟨H1,I',hq _ _ ⟨rfl,A1,e1,o1⟩⟩
 ·cases e1
noncomputable def yZ (f g:FT):FT:=λρ S=>match f ρ S with
 | some (true,S1)=>g ρ S1
 | some (false,S1)=>ba (false,S1)
 | none=>gV
noncomputable def GQ (f g:FT):FT:=λρ S=>match f ρ S with
 | some (true,S1)=>ba (true,S1)
 | some (false,S1)=>g ρ S1
 | none=>gV
noncomputable def BZ (f:FT):FT:=λρ S=>match f ρ S with
 | some (k,S1)=>ba (!k,S1)
 | none=>gV
theorem y4 {f g:FT}{σ:L2.St}{H:Hp}{A:J9 Kl}{ρ:Fm}{S:aa}{k:KP}{S':aa}(er:EnvRel X.K A H ρ σ)(so:StoreOk X.w X.K A H S)(e:yZ f g ρ S=ba (k,S'))(Q:KP->Hp->Prop)(hq:∀b H',EndB X A H S' k b H'->Q b H') :
  F6 (tT X f) (tT X g) σ H Q:=by
 unfold yZ at e;split at e
 ·rename_i S1 h1;refine⟨A,ρ,S,true,S1,er,so,h1,λb H1 ⟨z0,A1,z1,z2⟩=>?_⟩
  subst z0;rw[KJ rfl];exact⟨A1,ρ,S1,k,S',er.mono z1,z2,e,λb H' q=>hq b H' (q.after z1)⟩
 ·rename_i S1 h1;cases e;refine⟨A,ρ,S,false,_,er,so,h1,λb H1 ⟨z0,A1,z1,z2⟩=>?_⟩
  subst z0;rw[KW KI];exact hq _ _ ⟨rfl,A1,z1,z2⟩
 ·cases e
theorem B0 {f g:FT}{σ:L2.St}{H:Hp}{A:J9 Kl}{ρ:Fm}{S:aa}{k:KP}{S':aa}(er:EnvRel X.K A H ρ σ)(so:StoreOk X.w X.K A H S)(e:GQ f g ρ S=ba (k,S'))(Q:KP->Hp->Prop)(hq:∀b H',EndB X A H S' k b H'->Q b H') :
  JO (tT X f) (tT X g) σ H Q:=by
 unfold GQ at e;split at e
 ·rename_i S1 h1;cases e;refine⟨A,ρ,S,true,_,er,so,h1,λb H1 ⟨z0,A1,z1,z2⟩=>?_⟩
  subst z0;rw[KJ rfl];exact hq _ _ ⟨rfl,A1,z1,z2⟩
 ·rename_i S1 h1;refine⟨A,ρ,S,false,S1,er,so,h1,λb H1 ⟨z0,A1,z1,z2⟩=>?_⟩
  subst z0;rw[KW KI];exact⟨A1,ρ,S1,k,S',er.mono z1,z2,e,λb H' q=>hq b H' (q.after z1)⟩
 ·cases e
theorem B1 {a:KN}{pos:MP}{f:FT}(h:GT X a f):GW X (.BoolOp .And [a] pos) f:=Bd h
theorem EI {a:KN}{pos:MP}{f:FT}(h:GT X a f):GW X (.BoolOp .Or [a] pos) f:=DO h
theorem EJ {a b:KN}{r:J9 KN}{pos:MP}{f g:FT}(h:GT X a f)(h2:GW X (.BoolOp .And (b::r) pos) g):GW X (.BoolOp .And (a::b::r) pos) (yZ f g):=
 GW.of (DP h h2) λσ H A ρ S k S' er so e Q hq=>y4 er so e Q hq
theorem GR {a b:KN}{r:J9 KN}{pos:MP}{f g:FT}(h:GT X a f)(h2:GW X (.BoolOp .Or (b::r) pos) g):GW X (.BoolOp .Or (a::b::r) pos) (GQ f g):=
 GW.of (F7 h h2) λσ H A ρ S k S' er so e Q hq=>B0 er so e Q hq
theorem EK {a:KN}{pos:MP}{f:FT}(h:GT X a f):GT X (.UnaryOp .Not a pos) (BZ f):=
 GT.of (DQ h) λσ H A ρ S k S' er so e Q hq=>by
  unfold BZ at e;split at e
  ·rename_i k1 S1 h1;cases e;refine⟨A,ρ,S,k1,_,er,so,h1,λb H1 ⟨z0,A1,z1,z2⟩=>?_⟩
   subst z0;exact hq _ _ ⟨rfl,A1,z1,z2⟩
  ·cases e
noncomputable def ve (f g:FE):FE:=λρ S=>match f ρ S with
 | some (.bl true,S1)=>g ρ S1
 | some (.bl false,S1)=>ba (.bl false,S1)
 | _=>gV
noncomputable def B2 (f g:FE):FE:=λρ S=>match f ρ S with
 | some (.bl true,S1)=>ba (.bl true,S1)
 | some (.bl false,S1)=>g ρ S1
 | _=>gV
noncomputable def vf (f:FE):FE:=λρ S=>match f ρ S with
 | some (.bl k,S1)=>ba (.bl (!k),S1)
 | _=>gV
theorem EL {a:KN}{op:T0}{pos:MP}{f:FE}(h:GE X a f):GE X (.BoolOp op [a] pos) f:=DR h
theorem EM {a b:KN}{r:J9 KN}{pos:MP}{f g:FE}(h:GE X a f)(h2:GE X (.BoolOp .And (b::r) pos) g):GE X (.BoolOp .And (a::b::r) pos) (ve f g):=
 GE.of (DS h h2) λσ H A ρ S w S' er so e Q hq=>by
  unfold ve at e;split at e
  ·rename_i S1 h1;refine⟨A,ρ,S,_,S1,er,so,h1,λv H1 ⟨A1,z1,z2,z3⟩=>?_⟩
   cases z3;refine⟨true,rfl,?_⟩;rw[KJ rfl];exact⟨A1,ρ,S1,w,S',er.mono z1,z2,e,λb H' q=>hq b H' (q.after z1)⟩
  ·rename_i S1 h1;cases e;refine⟨A,ρ,S,_,_,er,so,h1,λv H1 ⟨A1,z1,z2,z3⟩=>?_⟩
   cases z3;refine⟨false,rfl,?_⟩;rw[KW KI];exact hq _ _ ⟨A1,z1,z2,.bl⟩
  ·cases e
theorem GU {a b:KN}{r:J9 KN}{pos:MP}{f g:FE}(h:GE X a f)(h2:GE X (.BoolOp .Or (b::r) pos) g):GE X (.BoolOp .Or (a::b::r) pos) (B2 f g):=
 GE.of (Ga h h2) λσ H A ρ S w S' er so e Q hq=>by
  unfold B2 at e;split at e
  ·rename_i S1 h1;cases e;refine⟨A,ρ,S,_,_,er,so,h1,λv H1 ⟨A1,z1,z2,z3⟩=>?_⟩
   cases z3;refine⟨true,rfl,?_⟩;rw[KJ rfl];exact hq _ _ ⟨A1,z1,z2,.bl⟩
  ·rename_i S1 h1;refine⟨A,ρ,S,_,S1,er,so,h1,λv H1 ⟨A1,z1,z2,z3⟩=>?_⟩
   cases z3;refine⟨false,rfl,?_⟩;rw[KW KI];exact⟨A1,ρ,S1,w,S',er.mono z1,z2,e,λb H' q=>hq b H' (q.after z1)⟩
  ·cases e
theorem EN {a:KN}{pos:MP}{f:FE}(h:GE X a f):GE X (.UnaryOp .Not a pos) (vf f):=
 GE.of (DT h) λσ H A ρ S w S' er so e Q hq=>by
  unfold vf at e;split at e
  ·rename_i k1 S1 h1;cases e;refine⟨A,ρ,S,_,_,er,so,h1,λb H1 ⟨A1,z1,z2,z3⟩=>?_⟩
   cases z3;exact⟨_,rfl,hq _ _ ⟨A1,z1,z2,.bl⟩⟩
  ·cases e
noncomputable def B3 (c:FT)(f g:FE):FE:=λρ S=>match c ρ S with
 | some (true,S1)=>f ρ S1
 | some (false,S1)=>g ρ S1
 | none=>gV
theorem EO {c a b:KN}{pos:MP}{fc:FT}{f g:FE}(hc:GT X c fc)(ha:GE X a f)(hb:GE X b g):GE X (.IfExp c a b pos) (B3 fc f g):=
 GE.of (xM hc ha hb) λσ H A ρ S w S' er so e Q hq=>by
  unfold B3 at e;split at e
  ·rename_i S1 h1;refine⟨A,ρ,S,_,S1,er,so,h1,λb H1 ⟨z0,A1,z1,z2⟩=>?_⟩
   subst z0;rw[KJ rfl];exact⟨A1,ρ,S1,w,S',er.mono z1,z2,e,λb H' q=>hq b H' (q.after z1)⟩
  ·rename_i S1 h1;refine⟨A,ρ,S,_,S1,er,so,h1,λb H1 ⟨z0,A1,z1,z2⟩=>?_⟩
   subst z0;rw[KW KI];exact⟨A1,ρ,S1,w,S',er.mono z1,z2,e,λb H' q=>hq b H' (q.after z1)⟩
  ·cases e
noncomputable def iI:FA:=λ_ S=>ba ([],S)
noncomputable def eN (f:FE)(g:FA):FA:=λρ S=>match f ρ S with
 | some (w,S1)=>match g ρ S1 with
  | some (ws,S2)=>ba (w::ws,S2)
  | none=>gV
 | none=>gV
theorem EQ:GA X [] iI:=GA.of xT λσ H A ρ S ws S' er so e Q hq=>by cases e; exact hq _ _ ⟨A,.refl,so,.nil⟩
theorem B4 {e:KN}{es:J9 KN}{f:FE}{g:FA}(h:GE X e f)(h2:GA X es g)(hs:starEach (e::es) X.env=(false,eval e X.env)::starEach es X.env):GA X (e::es) (eN f g):=
 GA.of (pd h h2 hs) λσ H A ρ S ws S' er so e Q hq=>by
  unfold eN at e;split at e
  ·rename_i w S1 h1;split at e
   ·rename_i ws2 S2 h2;cases e;refine⟨A,ρ,S,w,S1,er,so,h1,λv H1 ⟨A1,z1,z2,z3⟩=>?_⟩
    refine⟨A1,ρ,S1,ws2,_,er.mono z1,z2,h2,λvs H2 ⟨A2,y1,y2,y3⟩=>?_⟩
    exact hq _ _ ⟨A2,z1.trans y1,y2,.cons (z3.mono y1) y3⟩
   ·cases e
  ·cases e
noncomputable def y6 (f:FA):FE:=λρ S=>match f ρ S with
 | some (ws,S1)=>tw S1 ws
 | none=>gV
noncomputable def y8 (f:FA):FE:=λρ S=>match f ρ S with
 | some (ws,S1)=>mT S1 ws
 | none=>gV
theorem y9 {es:J9 KN}{k:Kk}{pos:MP}{f:FA}(h:GA X es f):GE X (.Tuple es k pos) (y6 f):=
 GE.of (En h) λσ H A ρ S w S' er so e Q hq=>by
  unfold y6 at e;split at e
  ·rename_i ws S1 h1;obtain⟨hl,rfl,rfl⟩:=uN e;refine⟨A,ρ,S,ws,_,er,so,h1,λvs H1 ⟨A1,z1,z2,z3⟩=>⟨by rw[<- z3.length]; exact hl,λp hp=>?_⟩⟩
   exact hq _ _ (EndV.after z1 (.tup z2 z3 hp))
  ·cases e
theorem zd {es:J9 KN}{pos:MP}{f:FA}(h:GA X es f):GE X (.List es pos) (y8 f):=
 GE.of (Eo h) λσ H A ρ S w S' er so e Q hq=>by
  unfold y8 at e;split at e
  ·rename_i ws S1 h1;obtain⟨hl,rfl,rfl⟩:=kT e;refine⟨A,ρ,S,ws,_,er,so,h1,λvs H1 ⟨A1,z1,z2,z3⟩=>⟨by rw[<- z3.length]; exact hl,λp hp=>?_⟩⟩
   exact hq _ _ (EndV.after z1 (.lst z2 z3 hp))
  ·cases e
noncomputable def kz (g:J9 W->aa->Ki (W×aa))(f:FA):FE:=λρ S=>match f ρ S with
 | some (ws,S1)=>g ws S1
 | none=>gV
theorem LCall.callr {v:Kd}{g:J9 W->aa->Ki (W×aa)}(h:LCall X v g):CallR X v (λvs H Q=>∃A S ws w S',StoreOk X.w X.K A H S/\RelL X.K A H ws vs/\g ws S=ba (w,S')/\∀v H',EndV X.w X.K A H S' w v H'->Q v H'):=by
 intro pins s σ H vs us Q I rv ⟨A,S,ws,w,S',so,rl,e,hq⟩;exact bT (h pins s σ H A S ws vs us w S' I so rl rv e) λu' s' ⟨v',H',A',I',r',e1,o1,z1⟩=>⟨v',H',I',r',hq v' H' ⟨A',e1,o1,z1⟩⟩
theorem oF {g:J9 W->aa->Ki (W×aa)}{f:FA}{σ:L2.St}{H:Hp}{A:J9 Kl}{ρ:Fm}{S:aa}{w:W}{S':aa}(er:EnvRel X.K A H ρ σ)(so:StoreOk X.w X.K A H S)(e:kz g f ρ S=ba (w,S'))(Q:VK)(hq:∀v H',EndV X.w X.K A H S' w v H'->Q v H') :
  tA X f σ H λvs H1=>∃A S ws w S',StoreOk X.w X.K A H1 S/\RelL X.K A H1 ws vs/\g ws S=ba (w,S')/\∀v H',EndV X.w X.K A H1 S' w v H'->Q v H':=by
 unfold kz at e;split at e
 ·rename_i ws S1 h1;exact⟨A,ρ,S,ws,S1,er,so,h1,λvs H1 ⟨A1,z1,z2,z3⟩=>⟨A1,S1,ws,w,S',z2,z3,e,λv H' q=>hq v H' (q.after z1)⟩⟩
 ·cases e
theorem vg {id:LN}{x:KF}{e:KN}{es:J9 KN}{p pos:MP}{f:FA}{g:J9 W->aa->Ki (W×aa)}(hc:LCall X (.builtin id) g)(hg:Gl X x)(hm:X.mg x=gV)(hv:bootBuiltins x=ba (.builtin id))(ha:GA X (e::es) f)
  (hn:x≠"__name__") (hdb:(x==("__debug__" : KF))=false) (hs:starEach (e::es) X.env=(false,eval e X.env)::starEach es X.env) (hpl:(backTo pos (starEach es X.env)).any (·.1)=false):GE X (.Call (.Name x p) (e::es) [] pos) (kz g f):=
 GE.of (qW hc.callr hg hm hv ha hn hdb hs hpl) λσ H A ρ S w S' er so e Q hq=>oF er so e Q hq
theorem rV {id:LN}{x:KF}{e:KN}{es:J9 KN}{p pos:MP}{f:FA}{g:J9 W->aa->Ki (W×aa)}(hc:LCall X (.type id) g)(hg:Gl X x)(hm:X.mg x=gV)(hv:bootBuiltins x=ba (.type id))(ha:GA X (e::es) f)
  (hn:x≠"__name__") (hdb:(x==("__debug__" : KF))=false) (hs:starEach (e::es) X.env=(false,eval e X.env)::starEach es X.env) (hpl:(backTo pos (starEach es X.env)).any (·.1)=false):GE X (.Call (.Name x p) (e::es) [] pos) (kz g f):=
 GE.of (wg hc.callr hg hm hv ha hn hdb hs hpl) λσ H A ρ S w S' er so e Q hq=>oF er so e Q hq
end
noncomputable def tyOk (T:LN)(S:aa):W->KP
 | .str _=>T == "str"
 | .ref i=>(T == "list" && (gc S i).isSome)||(T == "dict" && (kn S i).isSome)
 | _=>false
noncomputable def Do (T:LN)(g:W->J9 W->aa->Ki (W×aa))(fo:FE)(f:FA):FE:=λρ S=>match fo ρ S with
 | some (x,S1)=>if tyOk T S1 x then match f ρ S1 with
  | some (ws,S2)=>g x ws S2
  | none=>gV
  else gV
 | none=>gV
noncomputable def Jd (fa fb:FE):FE:=BX qQ fa fb
noncomputable abbrev FO:=Fm->aa->Ki (Ki Ky×aa)
noncomputable def ER:FO:=λ_ S=>ba (gV,S)
noncomputable def vh (f:FE):FO:=λρ S=>match f ρ S with
 | some (.int i,S1)=>ba (ba i,S1)
 | _=>gV
noncomputable def GV (fa:FE)(fl fh:FO):FE:=λρ S=>match fa ρ S with
 | some (x,S1)=>match fl ρ S1 with
  | some (lo,S2)=>match fh ρ S2 with
   | some (hi,S3)=>ww x lo hi S3
   | none=>gV
  | none=>gV
 | none=>gV
section
variable{X:Cx}
theorem LMeth.mtr {id:LN}{g:W->J9 W->aa->Ki (W×aa)}(h:LMeth X id g):MtR X id (λa vs H Q=>∃A S x ws w S',StoreOk X.w X.K A H S/\Rel X.K A H x a/\RelL X.K A H ws vs/\g x ws S=ba (w,S')/\∀v H',EndV X.w X.K A H S' w v H'->Q v H'):=by
 intro pins s σ H a vs u us Q I ru rv ⟨A,S,x,ws,w,S',so,rx,rl,e,hq⟩;exact bT (h pins s σ H A S x a u ws vs us w S' I so rx ru rl rv e) λu' s' ⟨v',H',A',I',r',e1,o1,z1⟩=>⟨v',H',I',r',hq v' H' ⟨A',e1,o1,z1⟩⟩
theorem tyOk.is {pins:J9 (Kl×LZ)}{σ:L2.St}{s:Kg}{A:J9 Kl}{H:Hp}{S:aa}{T:LN}{x:W}{a:V}{v:Kd}(I:Inv X pins σ H s)(so:StoreOk X.w X.K A H S)(r:Rel X.K A H x a)(rv:RelV a v)(h:tyOk T S x=true) :
  s.TypeIs v T/\∀b,v=.ref b->∃ob,s.heap.get? b=ba ob/\ob.dict=gV:=by
 cases r with
 | str=>exact yb I rv (show IX X.K T (.str _) H from eq_of_beq h)
 | ref ea=>
  simp only[tyOk,Mc,Kj]at h;rcases h with⟨h1,h2⟩|⟨h1,h2⟩
  ·obtain⟨xs,hx⟩:=Lq.mp h2;obtain⟨vs,h3,_⟩:=bO so hx ea;exact yb I rv (show IX X.K T (.ref _) H from .inl ⟨eq_of_beq h1,vs,h3⟩)
  ·obtain⟨kvs,hx⟩:=Lq.mp h2;obtain⟨xs,rd,_⟩:=gk so hx ea;obtain⟨_,_,_,o,es,ep,q1,q2,q3,q4⟩:=cQ I rd;have e:=eq_of_beq h1;subst e;obtain rfl:v=K4 _:=rv;exact⟨⟨o,q1,q2.1⟩,λb e=>by cases e; exact⟨o,q1,q2.2.1⟩⟩
 | _=>cases h
theorem ES {o:KN}{name:KF}{apos cpos:MP}{T id:LN}{g:W->J9 W->aa->Ki (W×aa)}{fo:FE}(pa:PlainAttrs T)(slot:Slot T name id)(hty:typeOf (.builtin id)=pure (.type "method_descriptor"))(hm:LMeth X id g)
  (ho:GE X o fo) (hbase:attributeBase o name X.env (eval o X.env)=eval o X.env) (hline:(apos.endLine==cpos.line)=true) :
  GE X (.Call (.Attribute o name apos) [] [] cpos) (Do T g fo iI):=by
 intro pins s σ H Q I ⟨A,ρ,S,w,S',er,so,e,hq⟩;unfold Do at e;split at e
 ·rename_i x S1 h1;split at e
  ·rename_i ht;dsimp only[iI]at e;refine wpAny_Call_method0_late hbase hline (bT (ho pins s σ H (EndV X.w X.K A H S1 x) I ⟨A,ρ,S,_,_,er,so,h1,λ_ _ z=>z⟩) λv s1 ⟨a,H1,I1,r1,A1,e1,o1,z1⟩=>?_)
   obtain⟨t1,t2⟩:=tyOk.is I1 o1 z1 r1 ht;refine⟨T,id,pa,slot,hty,t1,t2,PR rfl (PySem.evalArgs_none ?_)⟩;refine bT (hm pins s1 σ H1 A1 S1 x a v [] [] [] w S' I1 o1 z1 r1 .nil .nil e) λu' s' ⟨v',H',A',I',r',e3,o3,z3⟩=>?_
   exact⟨v',H',I',r',hq v' H' ⟨A',e1.trans e3,o3,z3⟩⟩
  ·cases e
 ·cases e
theorem oG {o e:KN}{es:J9 KN}{name:KF}{apos cpos:MP}{T id:LN}{g:W->J9 W->aa->Ki (W×aa)}{fo:FE}{f:FA}(pa:PlainAttrs T)(slot:Slot T name id)(hty:typeOf (.builtin id)=pure (.type "method_descriptor"))(hm:LMeth X id g)
  (ho:GE X o fo) (ha:GA X (e::es) f) (hbase:attributeBase o name X.env (eval o X.env)=eval o X.env)
  (hfew:((backTo cpos (starEach (e::es) X.env)).all (λx=>!x.1)&&(backToKw cpos (keywordEach [] X.env)).all (λx=>x.1.isSome)
   && decide ((e::es).length+([]:J9 R9).length+(if ([]:J9 R9).isEmpty then 0 else 1) < 30))=true)
  (hline:(apos.endLine==cpos.line)=true) (hs:starEach (e::es) X.env=(false,eval e X.env)::starEach es X.env) (hplain:(backTo cpos (starEach es X.env)).any (·.1)=false) :
  GE X (.Call (.Attribute o name apos) (e::es) [] cpos) (Do T g fo f):=by
 intro pins s σ H Q I ⟨A,ρ,S,w,S',er,so,e,hq⟩;unfold Do at e;split at e
 ·rename_i x S1 h1;split at e
  ·rename_i ht;split at e
   ·rename_i ws S2 h2;refine wpAny_Call_method_late hbase hfew hline rfl (bT (ho pins s σ H (EndV X.w X.K A H S1 x) I ⟨A,ρ,S,_,_,er,so,h1,λ_ _ z=>z⟩) λv s1 ⟨a,H1,I1,r1,A1,e1,o1,z1⟩=>?_)
    obtain⟨t1,t2⟩:=tyOk.is I1 o1 z1 r1 ht;refine⟨T,id,pa,slot,hty,t1,t2,?_⟩;have hA:=ha cpos pins s1 σ H1 (EF X A1 H1 S2 ws) I1 ⟨A1,ρ,S1,ws,S2,er.mono e1,o1,h2,λ_ _ z=>z⟩
    rw[hs]at hA ⊢;refine PR (by show(false||(backTo cpos (starEach es X.env)).any (·.1))=false; rw[hplain] <;> rfl) (Calls.evalArgs_plain ?_)
    refine bT hA λus s2 ⟨vs,H2,I2,r2,A2,e2,o2,z2⟩=>?_
    refine bT (hm pins s2 σ H2 A2 S2 x a v ws vs us w S' I2 o2 (z1.mono e2) r1 z2 r2 e) λu' s' ⟨v',H',A',I',r',e3,o3,z3⟩=>?_
    exact⟨v',H',I',r',hq v' H' ⟨A',(e1.trans e2).trans e3,o3,z3⟩⟩
   ·cases e
  ·cases e
 ·cases e
theorem LIx.ixr {g:W->W->aa->Ki (W×aa)}(h:LIx X g):IxR X (λa b H Q=>∃A S x y w S',StoreOk X.w X.K A H S/\Rel X.K A H x a/\Rel X.K A H y b/\g x y S=ba (w,S')/\∀v H',EndV X.w X.K A H S' w v H'->Q v H'):=by
 intro value slice pins s σ H a b u v Q I ru rv ⟨A,S,x,y,w,S',so,rx,ry,e,hq⟩ hs;exact bT (h value slice pins s σ H A S x y a b u v w S' I so rx ru ry rv e hs) λu' s' ⟨v',H',A',I',r',e1,o1,z1⟩=>⟨v',H',I',r',hq v' H' ⟨A',e1,o1,z1⟩⟩
theorem GX {a b:KN}{pos:MP}{fa fb:FE}(hu:X.A.units+10 < cLine)(ha:GE X a fa)(hb:GE X b fb)(hs:pg b):GE X (.Subscript a b pos) (Jd fa fb):=
 GE.of (GB (Jb hu).ixr ha hb hs) λσ H A ρ S w S' er so e Q hq=>by
  obtain⟨x,S1,y,S2,h1,h2,h3⟩:=Ih e;exact jd er so h1 h2 λa b H2 A2 e2 o2 r1 r2=>⟨A2,S2,x,y,w,S',o2,r1,r2,h3,λv H' z=>hq v H' (z.after e2)⟩
noncomputable def tO (X:Cx)(f:FO):TO:=λσ H Q=>∃A ρ S k S',EnvRel X.K A H ρ σ/\StoreOk X.w X.K A H S/\f ρ S=ba (k,S')/\∀H' A',Ext X.K A H A' H'->StoreOk X.w X.K A' H' S'->Q k H'
noncomputable abbrev GO (X:Cx)(e:Ki KN)(f:FO):Prop:=PO X e (tO X f)
theorem B5:GO X gV ER:=λpins s σ H Q I ⟨A,ρ,S,k,S',er,so,e,hq⟩=>by
 cases e;exact Bs pins s σ H Q I (hq H A .refl so)
theorem B6 {e:KN}{f:FE}(h:GE X e f):GO X (ba e) (vh f):=λpins s σ H Q I ⟨A,ρ,S,k,S',er,so,e,hq⟩=>by
 unfold vh at e;split at e
 ·rename_i i S1 h1;cases e;refine Bt h pins s σ H Q I ⟨A,ρ,S,_,_,er,so,h1,λv H1 ⟨A1,z1,z2,z3⟩=>?_⟩
  cases z3;exact⟨i,rfl,hq H1 A1 z1 z2⟩
 ·cases e
theorem LSl.slr {g:W->Ki Ky->Ki Ky->aa->Ki (W×aa)}(h:LSl X g):Gz X (λa lo hi H Q=>∃A S x w S',StoreOk X.w X.K A H S/\Rel X.K A H x a/\g x lo hi S=ba (w,S')/\∀v H',EndV X.w X.K A H S' w v H'->Q v H'):=by
 intro pins s σ H a v vl vu lo hi sl Q I rv hs pl pu ⟨A,S,x,w,S',so,rx,e,hq⟩;obtain⟨T,id,h1,h2,h3⟩:=h pins s σ H A S x a v vl vu lo hi sl w S' I so rx rv hs pl pu e;exact⟨T,id,h1,h2,bT h3 λu' s' ⟨v',H',A',I',r',e1,o1,z1⟩=>⟨v',H',I',r',hq v' H' ⟨A',e1,o1,z1⟩⟩⟩
theorem GY {a:KN}{lo hi:Ki KN}{p2 pos:MP}{fa:FE}{fl fh:FO}(ha:GE X a fa)(hl:GO X lo fl)(hh:GO X hi fh):GE X (.Subscript a (.Slice lo hi gV p2) pos) (GV fa fl fh):=
 GE.of (xZ J1.slr ha hl hh) λσ H A ρ S w S' er so e Q hq=>by
  unfold GV at e;split at e
  ·rename_i x S1 h1;split at e
   ·rename_i l S2 h2;split at e
    ·rename_i h S3 h3;refine⟨A,ρ,S,x,S1,er,so,h1,λv H1 ⟨A1,z1,z2,z3⟩=>?_⟩
     refine⟨A1,ρ,S1,l,S2,er.mono z1,z2,h2,λH2 A2 y1 y2=>?_⟩
     refine⟨A2,ρ,S2,h,S3,er.mono (z1.trans y1),y2,h3,λH3 A3 x1 x2=>?_⟩
     exact⟨A3,S3,x,w,S',x2,(z3.mono y1).mono x1,e,λv H' q=>hq v H' (q.after ((z1.trans y1).trans x1))⟩
    ·cases e
   ·cases e
  ·cases e
noncomputable abbrev FF:=J9 W->aa->Ki (W×aa)
noncomputable def ze (wd:Lb)(K:Kr)(n:Kk)(g:FF):Sp:=λvs H Q _=>∃A S ws w S',StoreOk wd K A H S/\RelL K A H ws vs/\ws.length=n/\g ws S=ba (w,S')/\∀v H',EndV wd K A H S' w v H'->Q v H'
noncomputable def rW (n:Kk)(g:FF)(f:FA):FE:=λρ S=>match f ρ S with
 | some (ws,S1)=>if ws.length=n then g ws S1 else gV
 | none=>gV
theorem rX {n:Kk}{g:FF}{f:FA}{σ:L2.St}{H:Hp}{A:J9 Kl}{ρ:Fm}{S:aa}{w:W}{S':aa}{E:XK}(er:EnvRel X.K A H ρ σ)(so:StoreOk X.w X.K A H S)(e:rW n g f ρ S=ba (w,S'))(Q:VK)(hq:∀v H',EndV X.w X.K A H S' w v H'->Q v H') :
  xV (ze X.w X.K n g) [] E (tA X f) σ H Q:=by
 unfold rW at e;split at e
 ·rename_i ws S1 h1;split at e
  ·rename_i hl;refine⟨A,ρ,S,ws,S1,er,so,h1,λvs H1 ⟨A1,z1,z2,z3⟩=>?_⟩
   show ze X.w X.K n g (vs++[]) H1 Q E;rw[MH];exact⟨A1,S1,ws,w,S',z2,z3,hl,e,λv H' q=>hq v H' (q.after z1)⟩
  ·cases e
 ·cases e
theorem ET {k n:Kk}{fa:Kl}{fd:MQ}{ps:J9 KF}{g:FF}{x:KF}{e:KN}{es:J9 KN}{p pos:MP}{f:FA}(F:FnOk X.prog X.w X.K X.mg X.base xG k fa fd ps (ze X.w X.K n g))(hr:Room k X.A)(hg:Gl X x)(hm:X.mg x=ba (.ref fa))(hk:L0 X.K (.ref fa)=true)
  (hb:Binds X.K fd ps []) (ha:GA X (e::es) f) (hdb:(x==("__debug__" : KF))=false) (he:starEach (e::es) X.env=(false,eval e X.env)::starEach es X.env) (hpl:(backTo pos (starEach es X.env)).any (·.1)=false) :
  GE X (.Call (.Name x p) (e::es) [] pos) (rW n g f):=
 GE.of (Bp F hr hg hm hk hb .nil Di ha hdb he hpl) λσ H A ρ S w S' er so e Q hq=>rX er so e Q hq
theorem B7 {k n:Kk}{fa:Kl}{fd:MQ}{ps:J9 KF}{g:FF}{x:KF}{p pos:MP}(F:FnOk X.prog X.w X.K X.mg X.base xG k fa fd ps (ze X.w X.K n g))(hr:Room k X.A)(hg:Gl X x)(hm:X.mg x=ba (.ref fa))(hk:L0 X.K (.ref fa)=true)
  (hb:Binds X.K fd ps []) (hdb:(x==("__debug__" : KF))=false):GE X (.Call (.Name x p) [] [] pos) (rW n g iI):=
 GE.of (xX F hr hg hm hk hb .nil Di hdb) λσ H A ρ S w S' er so e Q hq=>by
  obtain⟨A1,S1,ws,w1,S1',a1,a2,a3,a4,a5⟩:=rX (f:=iI) (E:=E0) er so e Q hq |> λ⟨A,ρ,S,ws,S',b1,b2,b3,b4⟩=>b4 [] H (by cases b3; exact⟨A,.refl,b2,.nil⟩)
  exact⟨A1,S1,ws,w1,S1',a1,a2,a3,a4,a5⟩
theorem B8:GSs X [] (λρ S=>ba (.nx ρ,S)):=GSs.of Be λσ H A ρ S o S' er so e D hd=>by cases e; exact hd.nx _ _ ⟨ρ,A,rfl,.refl,so,er⟩
noncomputable def B9 (f g:FS):FS:=λρ S=>match f ρ S with
 | some (.nx ρ',S1)=>g ρ' S1
 | some (.rt w,S1)=>ba (.rt w,S1)
 | some (.bk ρ',S1)=>ba (.bk ρ',S1)
 | some (.ct ρ',S1)=>ba (.ct ρ',S1)
 | none=>gV
theorem zf {st:M5}{sts:J9 M5}{f g:FS}(h:GS X st f)(h2:GSs X sts g):GSs X (st::sts) (B9 f g):=GSs.of (xO h h2) λσ H A ρ S o S' er so e D hd=>by
 unfold B9 at e;split at e
 ·rename_i ρ1 S1 h1;refine⟨A,ρ,S,_,_,er,so,h1,⟨λσ' H' ⟨ρ',A',e1,e2,e3,e4⟩=>?_,λv H' ⟨w,A',e1,_⟩=>(by cases e1),λv H' ⟨w,A',e1,_⟩=>(by cases e1),λv H' ⟨w,A',e1,_⟩=>(by cases e1)⟩⟩
  cases e1;exact⟨A',_,S1,o,S',e4,e3,e,(EndS.after e2).trans hd⟩
 ·rename_i w S1 h1;cases e;exact⟨A,ρ,S,_,_,er,so,h1,⟨λσ' H' ⟨w,A',e1,_⟩=>(by cases e1),hd.rt,hd.bk,hd.ct⟩⟩
 ·rename_i w S1 h1;cases e;exact⟨A,ρ,S,_,_,er,so,h1,⟨λσ' H' ⟨w,A',e1,_⟩=>(by cases e1),hd.rt,hd.bk,hd.ct⟩⟩
 ·rename_i w S1 h1;cases e;exact⟨A,ρ,S,_,_,er,so,h1,⟨λσ' H' ⟨w,A',e1,_⟩=>(by cases e1),hd.rt,hd.bk,hd.ct⟩⟩
 ·cases e
noncomputable def Cc (f:FE):FS:=λρ S=>match f ρ S with
 | some (_,S1)=>ba (.nx ρ,S1)
 | none=>gV
theorem GZ {e:KN}{pos:MP}{f:FE}(h:GE X e f)(hs:swapsWith e gV pos.line X.env=pure false):GS X (.Expr e pos) (Cc f):=GS.of (Bg h hs) λσ H A ρ S o S' er so e D hd=>by
 unfold Cc at e;split at e
 ·rename_i w S1 h1;cases e;exact⟨A,ρ,S,w,_,er,so,h1,λv H1 ⟨A1,z1,z2,z3⟩=>hd.nx _ _ ⟨ρ,A1,rfl,z1,z2,er.mono z1⟩⟩
 ·cases e
noncomputable def zh:FS:=λρ S=>ba (.nx ρ,S)
theorem EU {x:KF}{j:Kk}{pos pos':MP}:GS X (.Expr (.Constant (.str x) j pos) pos') zh:=GS.of DV λσ H A ρ S o S' er so e D hd=>by cases e; exact hd.nx _ _ ⟨ρ,A,rfl,.refl,so,er⟩
theorem Cd {pos:MP}:GS X (.Pass pos) zh:=GS.of Bf λσ H A ρ S o S' er so e D hd=>by cases e; exact hd.nx _ _ ⟨ρ,A,rfl,.refl,so,er⟩
theorem zj {pos:MP}:GS X (.Break pos) (λρ S=>ba (.bk ρ,S)):=GS.of xP λσ H A ρ S o S' er so e D hd=>by cases e; exact hd.bk _ _ ⟨ρ,A,rfl,.refl,so,er⟩
theorem Ce {pos:MP}:GS X (.Continue pos) (λρ S=>ba (.ct ρ,S)):=GS.of qT λσ H A ρ S o S' er so e D hd=>by cases e; exact hd.ct _ _ ⟨ρ,A,rfl,.refl,so,er⟩
noncomputable def Cf (f:FE):FS:=λρ S=>match f ρ S with
 | some (w,S1)=>ba (.rt w,S1)
 | none=>gV
theorem EV {e:KN}{pos:MP}{f:FE}(h:GE X e f):GS X (.Return (ba e) pos) (Cf f):=GS.of (DW h) λσ H A ρ S o S' er so e D hd=>by
 unfold Cf at e;split at e
 ·rename_i w S1 h1;cases e;exact⟨A,ρ,S,w,_,er,so,h1,λv H1 ⟨A1,z1,z2,z3⟩=>hd.rt _ _ ⟨w,A1,rfl,z1,z2,z3⟩⟩
 ·cases e
theorem Cg {pos:MP}:GS X (.Return gV pos) (λρ S=>ba (.rt .non,S)):=GS.of Bh λσ H A ρ S o S' er so e D hd=>by cases e; exact hd.rt _ _ ⟨_,A,rfl,.refl,so,.non⟩
noncomputable def Ch (c:FT)(f g:FS):FS:=λρ S=>match c ρ S with
 | some (true,S1)=>f ρ S1
 | some (false,S1)=>g ρ S1
 | none=>gV
theorem G0 {c:KN}{a b:J9 M5}{pos:MP}{fc:FT}{f g:FS}(hc:GT X c fc)(ha:GSs X a f)(hb:GSs X b g):GS X (.If c a b pos) (Ch fc f g):=GS.of (Ge hc ha hb) λσ H A ρ S o S' er so e D hd=>by
 unfold Ch at e;split at e
 ·rename_i S1 h1;refine⟨A,ρ,S,_,S1,er,so,h1,λb H1 ⟨z0,A1,z1,z2⟩=>?_⟩
  subst z0;rw[KJ rfl];exact⟨A1,ρ,S1,o,S',er.mono z1,z2,e,(EndS.after z1).trans hd⟩
 ·rename_i S1 h1;refine⟨A,ρ,S,_,S1,er,so,h1,λb H1 ⟨z0,A1,z1,z2⟩=>?_⟩
  subst z0;rw[KW KI];exact⟨A1,ρ,S1,o,S',er.mono z1,z2,e,(EndS.after z1).trans hd⟩
 ·cases e
noncomputable abbrev FG:=W->Fm->aa->Ki (Fm×aa)
noncomputable def tG (X:Cx)(f:FG):TG:=λv σ H Q=>∃A ρ S w ρ' S',EnvRel X.K A H ρ σ/\StoreOk X.w X.K A H S/\Rel X.K A H w v/\f w ρ S=ba (ρ',S')/\∀σ' H' A',Ext X.K A H A' H'->StoreOk X.w X.K A' H' S'->EnvRel X.K A' H' ρ' σ'->Q σ' H'
noncomputable abbrev GG (X:Cx)(tg:KN)(f:FG):Prop:=PG X tg (tG X f)
noncomputable def Ci (i:Kk):FG:=λw ρ S=>ba (ρ.set i (ba w),S)
theorem vk {i:Kk}{x:KF}{pos:MP}(hN:X.N.Nodup)(hi:X.N[i]?=ba x)(hx:Bb X.env.scope x)(hf:X.fn x=true\/X.env.scope.names.lookup x=ba .local):GG X (.Name x pos) (Ci i):=by
 intro pins s σ H v u Q I r ⟨A,ρ,S,w,ρ',S',er,so,rw',e,hq⟩;cases e;exact uG hN hi hx hf pins s σ H v u Q I r (hq _ _ A .refl so (er.set rw' i))
noncomputable def dA:J9 Kk->J9 W->Fm->Ki Fm
 | [],[],ρ=>ba ρ
 | i::is,w::ws,ρ=>dA is ws (ρ.set i (ba w))
 | _,_,_=>gV
noncomputable def EW (is:J9 Kk):FG:=λw ρ S=>match w with
 | .tup ws=>(dA is ws ρ).map λρ'=>(ρ',S)
 | _=>gV
theorem xg:∀ {ts:J9 KN} {is:J9 Kk},(∀x∈ts,∃y p,x=.Name y p)->PH (λ(t:KN) (i:Kk)=>∃x p,t=QA x p/\X.N[i]?=ba x/\Bb X.env.scope x/\(X.fn x=true\/X.env.scope.names.lookup x=ba .local)) ts is->X.N.Nodup->
  Gf X ts (λvs σ H Q=>∃A ρ ws ρ' S,EnvRel X.K A H ρ σ/\StoreOk X.w X.K A H S/\RelL X.K A H ws vs/\dA is ws ρ=ba ρ'/\∀σ',EnvRel X.K A H ρ' σ'->Q σ' H):=by
 intro ts
 induction ts with
 | nil=>
  intro is _ h hN;cases h;intro pins s σ H vs us Q I r ⟨A,ρ,ws,ρ',S,er,so,rl,e,hq⟩;cases rl with
  | nil=>cases e; exact Bj pins s σ H [] us Q I r ⟨rfl,hq _ er⟩
  | cons _ _=>cases e
 | cons t ts ih=>
  intro is hs h hN;cases h with
  | cons h1 h2=>
   obtain⟨x,p,rfl,hi,hl,hf⟩:=h1;have:=ih (λy hy=>hs y (LD _ hy)) h2 hN
   intro pins s σ H vs us Q I r ⟨A,ρ,ws,ρ',S,er,so,rl,e,hq⟩;cases rl with
   | nil=>cases e
   | cons r1 r2=>
    refine xQ (uG hN hi hl hf) this rfl pins s σ H _ us Q I r ⟨_,_,rfl,?_⟩;exact⟨A,_,_,ρ',S,er.set r1 _,so,r2,e,hq⟩
theorem EX {ts:J9 KN}{is:J9 Kk}{k:Kk}{pos:MP}(hc:X.calm=true)(hs:∀x∈ts,∃y p,x=.Name y p)(h:PH (λ(t:KN) (i:Kk)=>∃x p,t=QA x p/\X.N[i]?=ba x/\Bb X.env.scope x/\(X.fn x=true\/X.env.scope.names.lookup x=ba .local)) ts is)(hN:X.N.Nodup)
  (hn:(assignEach ts X.env).length=ts.length) (hst:(assignEach ts X.env).findIdx? (·.1)=gV):GG X (.Tuple ts k pos) (EW is):=by
 intro pins s σ H v u Q I r ⟨A,ρ,S,w,ρ',S',er,so,rw',e,hq⟩;unfold EW at e;split at e
 ·rw[Kf]at e;obtain⟨ρ1,e1,e2⟩:=e;cases e2;cases rw' with
  | tup h1 r1=>
   have hl:∀(is:J9 Kk) (ws:J9 W) (ρ ρ':Fm),dA is ws ρ=ba ρ'->is.length=ws.length:=by
    intro is
    induction is with
    | nil=>intro ws ρ ρ' e; cases ws <;> first|rfl|cases e
    | cons i is ih=>intro ws ρ ρ' e; cases ws <;> first|cases e|(simp; exact ih _ _ _ e)
   exact D0 hc (xg hs h hN) hn hst pins s σ H _ u Q I r ⟨_,_,rfl,h1,by rw[<- r1.length,<- hl _ _ _ _ e1,<- Pk h],A,ρ,_,_,_,er,so,r1,e1,λσ' z=>hq _ _ A .refl so z⟩
 ·cases e
noncomputable def Cj (fo fi:FE):FG:=λw ρ S=>match fo ρ S with
 | some (o,S1)=>match fi ρ S1 with
  | some (i,S2)=>match ja o i w S2 with
   | some S3=>ba (ρ,S3)
   | none=>gV
  | none=>gV
 | none=>gV
theorem LSet.pset {g:W->W->W->aa->Ki aa}(h:LSet X g):DZ X (λao ai av H Q=>∃A S o i w S',StoreOk X.w X.K A H S/\Rel X.K A H o ao/\Rel X.K A H i ai/\Rel X.K A H w av/\g o i w S=ba S'/\∀H' A',Ext X.K A H A' H'->StoreOk X.w X.K A' H' S'->Q H'):=by
 intro pins s σ H ao ai av uo ui uv Q I ro ri rv ⟨A,S,o,i,w,S',so,r1,r2,r3,e,hq⟩;exact bT (h pins s σ H A S o i w ao ai av uo ui uv S' I so r1 ro r2 ri r3 rv e) λ_ s' ⟨H',A',I',e1,o1⟩=>⟨H',I',hq H' A' e1 o1⟩
theorem EY {o i:KN}{pos:MP}{fo fi:FE}(hu:X.A.units+10 < cLine)(ho:GE X o fo)(hi:GE X i fi)(ha:∀v,assign (.Subscript o i pos) X.env v=(do
   let ov <- holding [v] (eval o X.env)
   let iv <- holding [v,ov] (eval i X.env)
   standAt pos
   holding [v,ov,iv] (setItem ov iv v)
   release [v,ov,iv] [])):GG X (.Subscript o i pos) (Cj fo fi):=by
 intro pins s σ H v u Q I r ⟨A,ρ,S,w,ρ',S',er,so,rw',e,hq⟩;unfold Cj at e;split at e
 ·rename_i o' S1 h1;split at e
  ·rename_i i' S2 h2;split at e
   ·rename_i S3 h3;cases e;refine D2 ho hi (GM hu).pset ha pins s σ H v u Q I r ?_;refine⟨A,ρ,S,o',S1,er,so,h1,λa H1 ⟨A1,e1,o1,r1⟩=>?_⟩
    refine⟨A1,ρ,S1,i',S2,er.mono e1,o1,h2,λb H2 ⟨A2,e2,o2,r2⟩=>?_⟩
    exact⟨A2,S2,o',i',w,_,o2,r1.mono e2,r2,rw'.mono (e1.trans e2),h3,λH' A' z1 z2=>hq σ H' A' ((e1.trans e2).trans z1) z2 (er.mono ((e1.trans e2).trans z1))⟩
   ·cases e
  ·cases e
 ·cases e
noncomputable def lM (f:FE)(g:FG):FS:=λρ S=>match f ρ S with
 | some (w,S1)=>match g w ρ S1 with
  | some (ρ',S2)=>ba (.nx ρ',S2)
  | none=>gV
 | none=>gV
theorem t9 {tg e:KN}{pos:MP}{f:FE}{g:FG}(h:GE X e f)(hg:GG X tg g)(hs:swapsWithSole [tg] e pos.line X.env=pure false)(hw:swappedStores [tg] e X.env=pure gV)(h1:(assignEach [tg] X.env).map (·.2)=[assign tg X.env]) :
  GS X (.Assign [tg] e pos) (lM f g):=GS.of (Ea h hg hs hw h1) λσ H A ρ S o S' er so e D hd=>by
 unfold lM at e;split at e
 ·rename_i w S1 h1;split at e
  ·rename_i ρ1 S2 h2;cases e;refine⟨A,ρ,S,w,S1,er,so,h1,λv H1 ⟨A1,z1,z2,z3⟩=>?_⟩
   exact⟨A1,ρ,S1,w,ρ1,_,er.mono z1,z2,z3,h2,λσ' H' A' y1 y2 y3=>hd.nx _ _ ⟨ρ1,A',rfl,z1.trans y1,y2,y3⟩⟩
  ·cases e
 ·cases e
noncomputable def Ck (i j:Kk)(f:FA):FS:=λρ S=>match f ρ S with
 | some ([x,y],S1)=>ba (.nx ((ρ.set i (ba x)).set j (ba y)),S1)
 | _=>gV
theorem EZ {i j:Kk}{x y:KF}{a b:KN}{f:FA}{px py pt pos:MP}{kt k2:Kk}{pt2:MP}(hc:X.calm=true)(hN:X.N.Nodup)(hi:X.N[i]?=ba x)(hj:X.N[j]?=ba y)(hij:i≠j)
  (hx:X.env.scope.names.lookup x=ba .local) (hy:X.env.scope.names.lookup y=ba .local) (ha:GA X [a,b] f)
  (hw:swappedStores [.Tuple [.Name x px,.Name y py] kt pt] (.Tuple [a,b] k2 pt2) X.env=pure (ba [x,y]))
  (hs:swapsWithSole [.Tuple [.Name x px,.Name y py] kt pt] (.Tuple [a,b] k2 pt2) pos.line X.env=pure false) :
  GS X (.Assign [.Tuple [.Name x px,.Name y py] kt pt] (.Tuple [a,b] k2 pt2) pos) (Ck i j f):=GS.of (Eb hc hN hi hj hij hx hy ha hw hs) λσ H A ρ S o S' er so e D hd=>by
 unfold Ck at e;split at e
 ·rename_i x y S1 h1;cases e;refine⟨A,ρ,S,_,_,er,so,h1,λvs H1 ⟨A1,z1,z2,z3⟩=>?_⟩
  cases z3 with
  | cons r1 t=>
   cases t with
   | cons r2 t=>
    cases t;exact⟨_,_,rfl,hd.nx _ _ ⟨_,A1,rfl,z1,z2,((er.mono z1).set r1 i).set r2 j⟩⟩
 ·cases e
noncomputable def pZ (c:FT)(b:FS):Kk->FS
 | 0,_,_=>gV
 | n+1,ρ,S=>match c ρ S with
  | some (true,S1)=>match b ρ S1 with
   | some (.nx ρ',S2)=>pZ c b n ρ' S2
   | some (.ct ρ',S2)=>pZ c b n ρ' S2
   | some (.bk ρ',S2)=>ba (.nx ρ',S2)
   | some (.rt w,S2)=>ba (.rt w,S2)
   | none=>gV
  | some (false,S1)=>ba (.nx ρ,S1)
  | none=>gV
theorem zm {c:KN}{body:J9 M5}{pos:MP}{fc:FT}{fb:FS}(n:Kk)(hp:Qz (model X.prog X.w) X.A X.env X.xe)(hc:GT X c fc)(hb:GSs X body fb):GS X (.While c body [] pos) (pZ fc fb n):=GS.of (xR hp hc hb) λσ H A ρ S o S' er so e D hd=>by
 refine⟨λm σ1 H1=>∃A1 ρ1 S1,Ext X.K A H A1 H1/\EnvRel X.K A1 H1 ρ1 σ1/\StoreOk X.w X.K A1 H1 S1/\pZ fc fb m ρ1 S1=ba (o,S'),⟨n,A,ρ,S,.refl,er,so,e⟩,?_⟩
 rintro m σ1 H1 ⟨A1,ρ1,S1,e1,er1,so1,w1⟩;cases m with
 | zero=>cases w1
 | succ m=>
  simp only[pZ]at w1;split at w1
  ·rename_i S2 h1;refine⟨A1,ρ1,S1,_,S2,er1,so1,h1,λb H2 ⟨z0,A2,z1,z2⟩=>?_⟩
   subst z0;rw[KJ rfl];refine⟨λσ3 H3=>∃A3 ρ3 S3,Ext X.K A H A3 H3/\EnvRel X.K A3 H3 ρ3 σ3/\StoreOk X.w X.K A3 H3 S3/\pZ fc fb m ρ3 S3=ba (o,S'),λσ' H' h=>⟨m,Mn _,h⟩,?_⟩
   split at w1
   ·rename_i ρ3 S3 h3;refine⟨A2,ρ1,S2,_,S3,er1.mono z1,z2,h3,⟨λσ' H' ⟨ρ',A',y0,y1,y2,y3⟩=>?_,λv H' ⟨w,A',y0,_⟩=>(by cases y0),λv H' ⟨w,A',y0,_⟩=>(by cases y0),λv H' ⟨w,A',y0,_⟩=>(by cases y0)⟩⟩
    cases y0;exact⟨A',_,S3,(e1.trans z1).trans y1,y3,y2,w1⟩
   ·rename_i ρ3 S3 h3;refine⟨A2,ρ1,S2,_,S3,er1.mono z1,z2,h3,⟨λv H' ⟨w,A',y0,_⟩=>(by cases y0),λv H' ⟨w,A',y0,_⟩=>(by cases y0),λv H' ⟨w,A',y0,_⟩=>(by cases y0),λσ' H' ⟨ρ',A',y0,y1,y2,y3⟩=>?_⟩⟩
    cases y0;exact⟨A',_,S3,(e1.trans z1).trans y1,y3,y2,w1⟩
   ·rename_i ρ3 S3 h3;cases w1;refine⟨A2,ρ1,S2,_,_,er1.mono z1,z2,h3,⟨λv H' ⟨w,A',y0,_⟩=>(by cases y0),λv H' ⟨w,A',y0,_⟩=>(by cases y0),λσ' H' ⟨ρ',A',y0,y1,y2,y3⟩=>?_,λv H' ⟨w,A',y0,_⟩=>(by cases y0)⟩⟩
    cases y0;exact hd.nx _ _ ⟨_,A',rfl,(e1.trans z1).trans y1,y2,y3⟩
   ·rename_i w3 S3 h3;cases w1;refine⟨A2,ρ1,S2,_,_,er1.mono z1,z2,h3,⟨λv H' ⟨w,A',y0,_⟩=>(by cases y0),λv H' ⟨w,A',y0,y1,y2,y3⟩=>?_,λv H' ⟨w,A',y0,_⟩=>(by cases y0),λv H' ⟨w,A',y0,_⟩=>(by cases y0)⟩⟩
    cases y0;exact hd.rt _ _ ⟨_,A',rfl,(e1.trans z1).trans y1,y2,y3⟩
   ·cases w1
  ·rename_i S2 h1;cases w1;refine⟨A1,ρ1,S1,_,_,er1,so1,h1,λb H2 ⟨z0,A2,z1,z2⟩=>?_⟩
   subst z0;rw[KW KI];exact hd.nx _ _ ⟨_,A2,rfl,e1.trans z1,z2,er1.mono z1⟩
  ·cases w1
end
inductive MI where
 | its (ws:J9 W)
 | live (r:Kk)
 | zl (r q:Kk)
noncomputable def mV (xs ys:J9 W):J9 W:=KZ (λx y=>.tup [x,y]) xs ys
noncomputable def MI.at (S:aa)(i:Kk):MI->Ki (Ki W)
 | .its ws=>ba ws[i]?
 | .live r=>match gc S r with
  | some xs=>ba xs[i]?
  | none=>gV
 | .zl r q=>match gc S r,gc S q with
  | some xs,ba ys=>ba (mV xs ys)[i]?
  | _,_=>gV
noncomputable def MI.len (S:aa):MI->Ki Kk
 | .its ws=>ba ws.length
 | .live r=>(gc S r).map (·.length)
 | .zl r q=>match gc S r,gc S q with
  | some xs,ba ys=>ba (mV xs ys).length
  | _,_=>gV
noncomputable abbrev FI:=Fm->aa->Ki (MI×aa)
structure MIt (wd:Lb)(K:Kr)(mi:MI)(J:It)(A0:J9 Kl)(H0:Hp):Prop where
 go:∀A H S i w,Ext K A0 H0 A H->StoreOk wd K A H S->mi.at S i=ba (ba w)->J.go i H/\∀x H',J.yld i H x H'->Ext K A H A H'/\StoreOk wd K A H' S/\Rel K A H' w x
 stop:∀A H S i,Ext K A0 H0 A H->StoreOk wd K A H S->mi.at S i=ba gV->J.stop i H
noncomputable def tI (X:Cx)(f:FI):TI:=λσ H R=>∃A ρ S mi S',EnvRel X.K A H ρ σ/\StoreOk X.w X.K A H S/\f ρ S=ba (mi,S')/\∀J H' A',Ext X.K A H A' H'->StoreOk X.w X.K A' H' S'->MIt X.w X.K mi J A' H'->R J H'
noncomputable abbrev GI (X:Cx)(tg iter:KN)(f:FI):Prop:=PI X tg iter (tI X f)
noncomputable def Cm (f:FE):FI:=λρ S=>match f ρ S with
 | some (.tup ws,S1)=>ba (.its ws,S1)
 | some (.ref r,S1)=>match gc S1 r with
  | some _=>ba (.live r,S1)
  | none=>gV
 | _=>gV
noncomputable def dt (lo:Ky)(n:Kk):J9 W:=(KS n).map λ(k:Kk)=>.int (lo+(k:Ky))
noncomputable def uc (f:FA):FI:=λρ S=>match f ρ S with
 | some ([.int j],S1)=>if -(2 ^ 62)<=j/\j < 2 ^ 62 then ba (.its (dt 0 j.toNat),S1)else gV
 | _=>gV
noncomputable def iRng2 (f:FA):FI:=λρ S=>match f ρ S with
 | some ([.int i,.int j],S1)=>if -(2 ^ 62)<=i/\i < 2 ^ 62/\-(2 ^ 62)<=j/\j < 2 ^ 62 then ba (.its (dt i (j - i).toNat),S1)else gV
 | _=>gV
noncomputable def gm (mi:MI)(g:FG)(b:FS):Kk->Kk->FS
 | 0,i,ρ,S=>match mi.at S i with
  | some gV=>ba (.nx ρ,S)
  | _=>gV
 | n+1,i,ρ,S=>match mi.at S i with
  | some (ba w)=>match g w ρ S with
   | some (ρ1,S1)=>match b ρ1 S1 with
    | some (.nx ρ2,S2)=>gm mi g b n (i+1) ρ2 S2
    | some (.ct ρ2,S2)=>gm mi g b n (i+1) ρ2 S2
    | some (.bk ρ2,S2)=>ba (.nx ρ2,S2)
    | some (.rt w,S2)=>ba (.rt w,S2)
    | none=>gV
   | none=>gV
  | _=>gV
noncomputable def zn (fi:FI)(g:FG)(b:FS):FS:=λρ S=>match fi ρ S with
 | some (mi,S1)=>match mi.len S1 with
  | some n=>gm mi g b n 0 ρ S1
  | none=>gV
 | none=>gV
section
variable{X:Cx}
theorem Cn {A:J9 Kl}{H:Hp}{ws:J9 W}{a:Kl}{vs:J9 V}(h:SqT X.K H a vs)(r:RelL X.K A H ws vs):MIt X.w X.K (.its ws) (IG X.K a) A H:=by
 refine⟨λA' H' S i w e so hi=>?_,λA' H' S i e so hi=>?_⟩
 ·simp only[MI.at,K2]at hi;obtain⟨v,h1,h2⟩:=(r.mono e).get hi;refine⟨⟨vs,v,e.tp _ _ h,h1⟩,λx H2 ⟨z1,z2⟩=>?_⟩
  subst z1;have:=z2 vs (e.tp _ _ h);rw[h1]at this; cases this
  exact⟨.refl,so,h2⟩
 ·simp only[MI.at,K2]at hi;refine⟨vs,e.tp _ _ h,?_⟩;rw[<- r.length];exact Lv.mp hi
theorem Co {A:J9 Kl}{H:Hp}{r:Kk}{a:Kl}(ea:A[r]?=ba a):MIt X.w X.K (.live r) (IF X.K a) A H:=by
 refine⟨λA' H' S i w e so hi=>?_,λA' H' S i e so hi=>?_⟩
 ·simp only[MI.at]at hi;split at hi
  ·rename_i xs hx;simp only[K2]at hi;obtain⟨vs,h1,r1⟩:=bO so hx (e.ad _ _ ea);obtain⟨v,h2,h3⟩:=r1.get hi;refine⟨⟨vs,v,h1,h2⟩,λx H2 ⟨z1,z2⟩=>?_⟩
   subst z1;have:=z2 vs h1;rw[h2]at this; cases this
   exact⟨.refl,so,h3⟩
  ·cases hi
 ·simp only[MI.at]at hi;split at hi
  ·rename_i xs hx;simp only[K2]at hi;obtain⟨vs,h1,r1⟩:=bO so hx (e.ad _ _ ea);refine⟨vs,h1,?_⟩;rw[<- r1.length];exact Lv.mp hi
  ·cases hi
theorem eO {lo:Ky}{n i:Kk}:(dt lo n)[i]?=if i < n then ba (.int (lo+i))else gV:=by
 unfold dt;rw[Km]
 by_cases h:i < n
 ·rw[KJ h,MK h]; rfl
 ·rw[KW h,Lv.mpr (by simp; omega)]; rfl
theorem vm {A:J9 Kl}{H:Hp}{lo:Ky}{n:Kk}:MIt X.w X.K (.its (dt lo n)) (Gj lo n) A H:=by
 refine⟨λA' H' S i w e so hi=>?_,λA' H' S i e so hi=>?_⟩
 ·simp only[MI.at,K2]at hi;rw[eO]at hi;split at hi
  ·cases hi;refine⟨by assumption,λx H2 ⟨z1,z2⟩=>?_⟩
   subst z1 z2;exact⟨.refl,so,.int⟩
  ·cases hi
 ·simp only[MI.at,K2]at hi;rw[eO]at hi;split at hi
  ·cases hi
  ·show n<=i;omega
theorem rY {tg:KN}{pins:J9 (Kl×LZ)}{σ:L2.St}{H1:Hp}{s1:Kg}{R:It->Hp->Prop}{a:Kl}{xs:J9 V}{v:Kd}(I1:Inv X pins σ H1 s1)(r1:RelV (.ref a) v)(hq:SqL X.K H1 a xs)(q:R (IF X.K a) H1) :
  wpAny (model X.prog X.w) X.A (pyIter v) (Gi X pins σ tg R) X.xe s1:=by
 cases r1;obtain⟨its,rv,p,hz⟩:=I1.list hq;refine NB p.isList ?_;refine⟨s1.heap.objs.size,[s1.heap.objs.size],_,_,H1,rfl,I1.kept (t':=s1.toks) λb o e=>Ke _ e,wa a _,⟨_,Ku _ rfl,rfl,rfl⟩,λb hb=>?_,q⟩
 have e:b=s1.heap.objs.size:=by simpa using hb
 subst e;exact I1.fpOk (Kn _) (I1.hok.fresh (Kn _))
theorem ud {tg:KN}{pins:J9 (Kl×LZ)}{σ:L2.St}{H1:Hp}{s1:Kg}{R:It->Hp->Prop}{a:Kl}{xs:J9 V}{v:Kd}(I1:Inv X pins σ H1 s1)(r1:RelV (.ref a) v)(hq:SqT X.K H1 a xs)(q:R (IG X.K a) H1) :
  wpAny (model X.prog X.w) X.A (pyIter v) (Gi X pins σ tg R) X.xe s1:=by
 cases r1;obtain⟨its,rv,p,hz⟩:=I1.tuple hq;refine Q5 (show s1.heap.IsTuple a its.toArray from p) ?_
 refine⟨s1.heap.objs.size,[s1.heap.objs.size],_,_,H1,rfl,I1.kept (t':=s1.toks) λb o e=>Ke _ e,sW a _,⟨_,Ku _ rfl,rfl,rfl⟩,λb hb=>?_,q⟩
 have e:b=s1.heap.objs.size:=by simpa using hb
 subst e;exact I1.fpOk (Kn _) (I1.hok.fresh (Kn _))
theorem Cp {tg a:KN}{f:FA}{p pos:MP}(hg:Gl X "range")(hm:X.mg "range" = gV)(ha:GA X [a] f)(hs:starEach [a] X.env=[(false,eval a X.env)]):GI X tg (.Call (.Name "range" p) [a] [] pos) (uc f):=by
 intro pins s σ H R I ⟨A,ρ,S,mi,S',er,so,e,hq⟩;unfold uc at e;split at e
 ·rename_i j S1 h1;split at e
  ·rename_i hj;cases e;refine wb hg hm ha hs pins s σ H R I ⟨A,ρ,S,_,_,er,so,h1,λvs H1 ⟨A1,z1,z2,z3⟩=>?_⟩
   cases z3 with
   | cons r1 t=>
    cases t;cases r1;exact⟨j,rfl,hj.1,hj.2,hq _ _ A1 z1 z2 vm⟩
  ·cases e
 ·cases e
theorem Cq {tg a b:KN}{f:FA}{p pos:MP}(hg:Gl X "range")(hm:X.mg "range" = gV)(ha:GA X [a,b] f)(hs:starEach [a,b] X.env=[(false,eval a X.env),(false,eval b X.env)])(hs2:starEach [b] X.env=[(false,eval b X.env)]):GI X tg (.Call (.Name "range" p) [a,b] [] pos) (iRng2 f):=by
 intro pins s σ H R I ⟨A,ρ,S,mi,S',er,so,e,hq⟩;unfold iRng2 at e;split at e
 ·rename_i i j S1 h1;split at e
  ·rename_i hj;cases e;refine wc hg hm ha hs hs2 pins s σ H R I ⟨A,ρ,S,_,_,er,so,h1,λvs H1 ⟨A1,z1,z2,z3⟩=>?_⟩
   cases z3 with
   | cons r1 t=>
    cases t with
    | cons r2 t=>
     cases t;cases r1;cases r2;exact⟨i,j,rfl,hj,hq _ _ A1 z1 z2 vm⟩
  ·cases e
 ·cases e
theorem E1 {tg l:KN}{f:FE}(h:GE X l f):GI X tg l (Cm f):=by
 intro pins s σ H R I ⟨A,ρ,S,mi,S',er,so,e,hq⟩;unfold Cm at e;split at e
 ·rename_i ws S1 h1;cases e;refine bT (h pins s σ H (EndV X.w X.K A H _ (.tup ws)) I ⟨A,ρ,S,_,_,er,so,h1,λ_ _ z=>z⟩) λv s1 ⟨x,H1,I1,r1,A1,e1,o1,z1⟩=>?_
  cases z1 with
  | tup hq1 rl=>
   refine ud I1 r1 hq1 (hq _ _ A1 e1 o1 (Cn hq1 rl))
 ·rename_i r S1 h1;split at e
  ·rename_i ys hy;cases e;refine bT (h pins s σ H (EndV X.w X.K A H _ (.ref r)) I ⟨A,ρ,S,_,_,er,so,h1,λ_ _ z=>z⟩) λv s1 ⟨x,H1,I1,r1,A1,e1,o1,z1⟩=>?_
   cases z1 with
   | ref ea=>
    obtain⟨vs,hl,_⟩:=bO o1 hy ea;exact rY I1 r1 hl (hq _ _ A1 e1 o1 (Co ea))
  ·cases e
 ·cases e
theorem E2 {tg iter:KN}{body:J9 M5}{pos:MP}{fi:FI}{g:FG}{fb:FS}(hp:Qz (model X.prog X.w) X.A X.env X.xe)(hc:X.calm=true)(hi:GI X tg iter fi)(hg:GG X tg g)(hb:GSs X body fb)
  (hs:∀x,foldedSetIterable iter X.env x=pure x):GS X (.For tg iter body [] pos) (zn fi g fb):=GS.of (Ed hp hc hi hg hb hs) λσ H A ρ S o S' er so e D hd=>by
 unfold zn at e;split at e
 ·rename_i mi S1 h1;split at e
  ·rename_i n hn;refine⟨A,ρ,S,mi,S1,er,so,h1,λJ H1 A1 z1 z2 mit=>?_⟩
   refine⟨λi m σ2 H2=>∃A2 ρ2 S2,Ext X.K A1 H1 A2 H2/\EnvRel X.K A2 H2 ρ2 σ2/\StoreOk X.w X.K A2 H2 S2/\gm mi g fb m i ρ2 S2=ba (o,S'),⟨n,A1,ρ,S1,.refl,er.mono z1,z2,e⟩,?_⟩
   rintro i m σ2 H2 ⟨A2,ρ2,S2,e2,er2,so2,w2⟩;cases m with
   | zero=>
    dsimp only[gm]at w2;split at w2
    ·rename_i hs;cases w2;exact .inl ⟨mit.stop A2 H2 _ i e2 so2 hs,hd.nx _ _ ⟨_,A2,rfl,z1.trans e2,so2,er2⟩⟩
    ·cases w2
   | succ m=>
    dsimp only[gm]at w2;split at w2
    ·rename_i w hw;obtain⟨go,yl⟩:=mit.go A2 H2 S2 i w e2 so2 hw;refine .inr ⟨go,λσ3 H3=>∃A3 ρ3 S3,Ext X.K A1 H1 A3 H3/\EnvRel X.K A3 H3 ρ3 σ3/\StoreOk X.w X.K A3 H3 S3/\gm mi g fb m (i+1) ρ3 S3=ba (o,S'),λσ' H' h=>⟨m,Mn _,h⟩,λx H3 hy=>?_⟩
     obtain⟨x1,x2,x3⟩:=yl x H3 hy;split at w2
     ·rename_i ρ3 S3 h3;refine⟨A2,ρ2,S2,w,ρ3,S3,er2.mono x1,x2,x3,h3,λσ4 H4 A4 y1 y2 y3=>?_⟩
      have ex:Ext X.K A1 H1 A4 H4:=(e2.trans x1).trans y1;split at w2
      ·rename_i ρ5 S5 h5;refine⟨A4,ρ3,S3,_,S5,y3,y2,h5,⟨λσ' H' ⟨ρ',A',u0,u1,u2,u3⟩=>?_,λv H' ⟨w,A',y0,_⟩=>(by cases y0),λv H' ⟨w,A',y0,_⟩=>(by cases y0),λv H' ⟨w,A',y0,_⟩=>(by cases y0)⟩⟩
       cases u0;exact⟨A',_,S5,ex.trans u1,u3,u2,w2⟩
      ·rename_i ρ5 S5 h5;refine⟨A4,ρ3,S3,_,S5,y3,y2,h5,⟨λv H' ⟨w,A',y0,_⟩=>(by cases y0),λv H' ⟨w,A',y0,_⟩=>(by cases y0),λv H' ⟨w,A',y0,_⟩=>(by cases y0),λσ' H' ⟨ρ',A',u0,u1,u2,u3⟩=>?_⟩⟩
       cases u0;exact⟨A',_,S5,ex.trans u1,u3,u2,w2⟩
      ·rename_i ρ5 S5 h5;cases w2;refine⟨A4,ρ3,S3,_,_,y3,y2,h5,⟨λv H' ⟨w,A',y0,_⟩=>(by cases y0),λv H' ⟨w,A',y0,_⟩=>(by cases y0),λσ' H' ⟨ρ',A',u0,u1,u2,u3⟩=>?_,λv H' ⟨w,A',y0,_⟩=>(by cases y0)⟩⟩
       cases u0;exact hd.nx _ _ ⟨_,A',rfl,(z1.trans ex).trans u1,u2,u3⟩
      ·rename_i w5 S5 h5;cases w2;refine⟨A4,ρ3,S3,_,_,y3,y2,h5,⟨λv H' ⟨w,A',y0,_⟩=>(by cases y0),λv H' ⟨w,A',u0,u1,u2,u3⟩=>?_,λv H' ⟨w,A',y0,_⟩=>(by cases y0),λv H' ⟨w,A',y0,_⟩=>(by cases y0)⟩⟩
       cases u0;exact hd.rt _ _ ⟨_,A',rfl,(z1.trans ex).trans u1,u2,u3⟩
      ·cases w2
     ·cases w2
    ·cases w2
  ·cases e
 ·cases e
end
section
variable{prog:K1}{w:Lb}{B:K9}{E:Kd->Kg->Prop}{s:Kg}
theorem Cr {d:Kl}{es:KQ MF}{ep:Kk}{Q:Kd->Kg->Prop}(hd:(d==sysModules)=false)(hm:RawD d es ep s.heap)(hfit:(es.size:Ky) < 2 ^ 63)
  (h:Q (.int es.size (s.toks+1)) { s with toks:=s.toks+1+1 }):wpAny (model prog w) B (call (.builtin "len") [.ref d]) Q E s:=by
 have hT:=hm.type;obtain⟨o,ho,hc,hdat⟩:=id hm;refine NS kind_len plain_len entry_len (args_len1 _) ?_;unfold NA.«len»;refine Kb (m:=oneArg "len" _) (Kh ?_);refine Kb (m:=callSpecial? (.ref d) (MA "__len__")) (Lz (name:=MA "__len__") hT F.slot_dict_len (LA F.slot_dict_len hT F.entry_dict_len ?_ (F.args_dict_len_1 _)));show wpAny _ _ (dictSize d >>= _) _ _ s;unfold dictSize;refine Kb (Kb (Om ho hdat (Kh ?_)));show wpAny _ _ (SD d >>= _) _ _ s;refine Kb (wpAny_pendingCount_other hd ?_);refine wpAny_ret_mkInt ?_;rw[Nat.add_zero];show wpAny _ _ _ _ _ { s with toks:=s.toks+1 }
 refine Kb (Ly (Kh ?_));refine Kb (Od ?_);show wpAny _ _ (if ((es.size:Kk):Ky) < 0 then _ else _) _ _ _
 rw[KW (by omega)]
 show wpAny _ _ (if ((es.size:Kk):Ky)>=2 ^ 63 then _ else _) _ _ _
 rw[KW (by omega)]
 exact Kb (TB (Kh ⟨_,rfl,h⟩))
end
section
variable{X:Cx}{pins:J9 (Kl×LZ)}{σ:L2.St}{H:Hp}{s:Kg}{A:J9 Kl}{S:aa}
theorem ue:LCall X (.builtin "len") tR:=by
 intro pins s σ H A S xs vs us w S' I so rl rv e
 by_cases hd:∃i kvs,xs=[.ref i]/\kn S i=ba kvs
 ·obtain⟨i,kvs,rfl,hk⟩:=hd;simp only[tR,hk]at e;cases e;cases rl with
  | cons r t=>
   cases t;cases rv with
   | cons ru rv2=>
    cases rv2;cases r with
    | ref ea=>
     obtain⟨xs,rd,kr⟩:=gk so hk ea;have d:=cQ I rd;obtain⟨es,ep,raw,he⟩:=d.raw;obtain rfl:_=K4 _:=ru;have hl:es.size=xs.length:=by rw[<- Kz,he,Kc]
     have hz:=d.1;have hs:sizeLine=16777216:=Lo;refine Cr d.2.1 raw (by omega) ⟨.int kvs.length,H,A,I.tok _,⟨_,by rw[kr.length,hl]⟩,.refl,so,.int⟩
 ·have:tR xs S=tB xs S:=by
   unfold tR;split
   ·rename_i i;split
    ·rename_i kvs hk;exact absurd ⟨i,kvs,rfl,hk⟩ hd
    ·rfl
   ·rfl
  rw[this]at e;exact wy pins s σ H A S xs vs us w S' I so rl rv e
noncomputable def Ii (S:aa):W->Ki LN
 | .non=>ba "NoneType"|.bl _=>ba "bool"|.int _=>ba "int"|.str _=>ba "str"|.tup _=>ba "tuple"
 | .ref i=>match gc S i with
  | some _=>ba "list"
  | none=>(kn S i).map λ_=>"dict"
noncomputable def rZ:J9 LN:=["bool","int","str","tuple","list","dict"]
noncomputable def xh (S:aa)(x:W)(c:LN):Ki KP:=match Ii S x with
 | some t=>if rZ.contains c then ba (t==c||(t == "bool" && c == "int"))else gV
 | none=>gV
theorem iJ {K:Kr}{t c:LN}(ht:t∈["NoneType","bool","int","str","tuple","list","dict"])(hc:c∈rZ):PySem.W.kitOne K (.type t) (.type c)=ba (t==c||(t == "bool" && c == "int")):=by
 simp only[rZ,KL,Lr,MJ]at ht hc;rcases ht with rfl|rfl|rfl|rfl|rfl|rfl|rfl <;> rcases hc with rfl|rfl|rfl|rfl|rfl|rfl <;> rfl
theorem zo:CallR X (.builtin "isinstance") (λvs H Q=>∃A S x v c b,vs=[v,.ty c]/\StoreOk X.w X.K A H S/\Rel X.K A H x v/\xh S x c=ba b/\Q (.bl b) H):=by
 intro pins s σ H vs us Q I rv ⟨A,S,x,v,c,b,e1,so,rx,e2,hq⟩;subst e1;cases rv with
 | cons r1 rv2=>cases rv2 with
  | cons r2 rv3=>
   cases rv3;obtain rfl:_=Mh c:=r2;unfold xh at e2;split at e2
   ·rename_i t ht;split at e2
    ·rename_i hc;cases e2;have hc':c∈rZ:=by simpa using hc
     have fin:∀tk,EP X pins σ Q (.bool (t==c||(t == "bool" && c == "int"))) { s with toks:=tk }:=λtk=>⟨.bl _,H,I.tok _,rfl,hq⟩
     cases rx with
     | non=>cases ht; cases(show _=Ll from r1); exact MV PySem.W.kitx_none I.kIn Ox (iJ (by simp) hc') (λz=>nomatch z) fin
     | bl=>cases ht; cases(show _=NE _ from r1); exact MV PySem.W.kitx_bool I.kIn Ox (iJ (by simp) hc') (λz=>nomatch z) fin
     | int=>cases ht; obtain⟨t',q⟩:=(show ∃t,_=Pu _ t from r1); cases q; exact MV PySem.W.kitx_int I.kIn Ox (iJ (by simp) hc') (λz=>nomatch z) fin
     | str=>cases ht; obtain⟨t',q⟩:=(show ∃t,_=Ot _ t from r1); cases q; exact MV PySem.W.kitx_str I.kIn Ox (iJ (by simp) hc') (λz=>nomatch z) fin
     | tup h1 r1'=>
      cases ht;obtain⟨its,rv,⟨o,q1,q2,_⟩,hz⟩:=I.tuple h1;cases(show _=K4 _ from r1)
      exact MV PySem.W.kitx_tuple I.kIn ⟨o,q1,q2⟩ (iJ (by simp) hc') (λz=>nomatch z) fin
     | ref ea=>
      cases(show _=K4 _ from r1)
      simp only[Ii]at ht;split at ht
      ·rename_i ws hw;cases ht;obtain⟨vs,h1,_⟩:=bO so hw ea;obtain⟨its,rv,p,hz⟩:=I.list h1;obtain⟨o,q1,q2,_⟩:=p.isList;exact MV PySem.W.kitx_list I.kIn ⟨o,q1,q2⟩ (iJ (by simp) hc') (λz=>nomatch z) fin
      ·rw[Kf]at ht;obtain⟨kvs,hk,rfl⟩:=ht;obtain⟨xs,rd,kr⟩:=gk so hk ea;obtain⟨es,ep,⟨o,q1,q2,_⟩,he⟩:=(cQ I rd).raw;exact MV PySem.W.kitx_dict I.kIn ⟨o,q1,q2.1⟩ (iJ (by simp) hc') (λz=>nomatch z) fin
    ·cases e2
   ·cases e2
noncomputable def zp (c:LN)(f:FE):FE:=λρ S=>match f ρ S with
 | some (x,S1)=>(xh S1 x c).map λb=>(.bl b,S1)
 | none=>gV
theorem E3 {cn:KF}{c:LN}{e:KN}{p p2 pos:MP}{f:FE}(hg:Gl X "isinstance")(hm:X.mg "isinstance" = gV)(hg2:Gl X cn)(hm2:X.mg cn=gV)(hv2:bootBuiltins cn=ba (.type c))(hn2:cn≠"__name__")(hd2:(cn==("__debug__" : KF))=false)
  (he:GE X e f) (hs:starEach [e,.Name cn p2] X.env=(false,eval e X.env)::starEach [.Name cn p2] X.env):GE X (.Call (.Name "isinstance" p) [e,.Name cn p2] [] pos) (zp c f):=
 GE.of (qW (zo) hg hm rfl (pd he (pd (Bc (v:=.ty c) hg2 hm2 hv2 rfl hn2 hd2) xT) hs) (by decide) (by decide) hs rfl) λσ H A ρ S w S' er so e Q hq=>by
  unfold zp at e;split at e
  ·rename_i x1 S1 h1;rw[Kf]at e;obtain⟨b,e1,e2⟩:=e;cases e2;exact⟨A,ρ,S,x1,_,er,so,h1,λv H1 ⟨A1,z1,z2,z3⟩=>⟨A1,_,x1,v,c,b,rfl,z2,z3,e1,hq _ _ ⟨A1,z1,z2,.bl⟩⟩⟩
  ·cases e
end
noncomputable def dY:J9 (T×W)->J9 W->Ki (J9 (T×W))
 | kvs,[]=>ba kvs
 | kvs,k::v::ws=>match gX k with
  | some t=>dY (ft kvs t v) ws
  | none=>gV
 | _,[_]=>gV
noncomputable def Dp:FE:=λ_ S=>ba (.ref S.length,S++[.dic []])
noncomputable def r0 (f:FA):FE:=λρ S=>match f ρ (S++[.dic []])with
 | some (ws,S1)=>match S1[S.length]? with
  | some (.dic [])=>match dY [] ws with
   | some kvs=>ba (.ref S.length,S1.set S.length (.dic kvs))
   | none=>gV
  | _=>gV
 | none=>gV
section
variable (K:Kr) (A:J9 Kl) (H:Hp)
inductive RelP:J9 W->J9 (V×V)->Prop
 | nil:RelP [] []
 | cons {k v:W} {a b:V} {ws:J9 W} {ps:J9 (V×V)}:Rel K A H k a->Rel K A H v b->RelP ws ps->RelP (k::v::ws) ((a,b)::ps)
end
theorem RelP.mono {K:Kr}{A A':J9 Kl}{H H':Hp}(e:Ext K A H A' H'){ws:J9 W}{ps:J9 (V×V)}(h:RelP K A H ws ps):RelP K A' H' ws ps:=by
 induction h with
 | nil=>exact .nil
 | cons a b c ih=>exact .cons (a.mono e) (b.mono e) ih
section
variable{X:Cx}{pins:J9 (Kl×LZ)}{σ:L2.St}{H:Hp}{s:Kg}{A:J9 Kl}{S:aa}
noncomputable def Je (X:Cx)(A:J9 Kl)(H:Hp)(S':aa)(ws:J9 W):J9 (V×V)->Hp->Prop:=λps H'=>∃A',Ext X.K A H A' H'/\StoreOk X.w X.K A' H' S'/\RelP X.K A' H' ws ps
noncomputable def G1 (X:Cx)(pos:MP)(keys:J9 (Ki KN))(values:J9 KN)(f:FA):Prop:=
 ∀(pins:J9 (Kl×LZ)) (s:Kg) (σ:L2.St) (H:Hp) (A:J9 Kl) (ρ:Fm) (S:aa) (ws:J9 W) (S':aa),Inv X pins σ H s->EnvRel X.K A H ρ σ->StoreOk X.w X.K A H S->f ρ S=ba (ws,S')->
  wpAny (model X.prog X.w) X.A (evalPairs (pairTrees keys values X.env pos)) (λvs s'=>∃ps H',Inv X pins σ H' s'/\VV ps vs/\Je X A H S' ws ps H') X.xe s
theorem Cs {pos:MP}:G1 X pos [] [] iI:=λpins s σ H A ρ S ws S' I er so e=>by
 cases e;exact pairTrees_nil_walk ⟨[],H,I,.nil,A,.refl,so,.nil⟩
theorem zq {pos:MP}{k v:KN}{ks:J9 (Ki KN)}{vs:J9 KN}{fk fv:FE}{f:FA}(hk:GE X k fk)(hv:GE X v fv)(hr:G1 X pos ks vs f):G1 X pos (ba k::ks) (v::vs) (eN fk (eN fv f)):=λpins s σ H A ρ S ws S' I er so e=>by
 unfold eN at e;split at e
 ·rename_i w1 S1 h1;split at e
  ·rename_i w2 S2 h2;cases e;split at h2
   ·rename_i w3 S3 h3;split at h2
    ·rename_i w4 S4 h4;cases h2;refine pairTrees_cons_walk (bT (hk pins s σ H (EndV X.w X.K A H S1 w1) I ⟨A,ρ,S,_,_,er,so,h1,λ_ _ z=>z⟩) λu s1 ⟨x,H1,I1,r1,A1,e1,o1,z1⟩=>
      bT (hv pins s1 σ H1 (EndV X.w X.K A1 H1 S3 w3) I1 ⟨A1,ρ,S1,_,_,er.mono e1,o1,h3,λ_ _ z=>z⟩) λu2 s2 ⟨x2,H2,I2,r2,A2,e2,o2,z2⟩=>
      bT (hr pins s2 σ H2 A2 ρ S3 _ _ I2 (er.mono (e1.trans e2)) o2 h4) λvs' s3 ⟨ps,H3,I3,rel,A3,e3,o3,z3⟩=>?_)
     exact⟨(x,x2)::ps,H3,I3,.cons ⟨r1,r2⟩ rel,A3,e1.trans (e2.trans e3),o3,.cons (z1.mono (e2.trans e3)) (z2.mono e3) z3⟩
    ·cases h2
   ·cases h2
  ·cases e
 ·cases e
theorem oH {r:Kk}{d:Kl}{E:Kd->Kg->Prop}(hu:X.A.units+10 < cLine):∀(vs:J9 (Kd×Kd)) (ps:J9 (V×V)) (ws:J9 W) (kvs kvs':J9 (T×W)) (s:Kg) (H:Hp) (S:aa) (Q:PUnit->Kg->Prop),
  Inv X pins σ H s->StoreOk X.w X.K A H S->pO S r=ba kvs->A[r]?=ba d->RelP X.K A H ws ps->VV ps vs->dY kvs ws=ba kvs'->kvs.length+vs.length<=30->
  (∀s' H',Inv X pins σ H' s'->Ext X.K A H A H'->StoreOk X.w X.K A H' (S.set r (.dic kvs'))->Q QV s')->
  wpAny (model X.prog X.w) X.A (forIn vs QV λ(x:Kd×Kd) (_:PUnit)=>(do dictSet d x.1 x.2; pure (Mf QV):Tp (ForInStep PUnit))) Q E s
 | [],_,_,kvs,kvs',s,H,S,Q,I,so,hr,ea,rp,vv,e,hl,hq=>by
  cases vv;cases rp;cases e;rw[Qq];refine Kh (hq s H I .refl ?_);have hS:=i9 hr;have:S.set r (.dic kvs)=S:=by
   apply Pf;intro j;rw[Mt];split
   ·rename_i e; subst e
    split
    ·exact hS.symm
    ·rename_i h; exact absurd (Kq.mp hS).1 h
   ·rfl
  rw[this]; exact so
 | (ku,vu)::vs,_,_,kvs,kvs',s,H,S,Q,I,so,hr,ea,rp,vv,e,hl,hq=>by
  cases vv with
  | cons hv vv2=>
   cases rp with
   | @cons wk wv va vb ws2 ps2 rk rv' rp2=>
    simp only[dY]at e;split at e
    ·rename_i t ht;rw[OE];obtain⟨xs,hH,kr⟩:=uW so hr ea;have dd0:=cQ I (.inl hH);have dd:=dd0.dict I kr;obtain⟨bk,e1,e2,rkk⟩:=i8 ht rk hv.1;have e2:ku=K4 bk:=e2;subst e2;obtain⟨q1,q2,q3⟩:=ey ht;rw[Li]at hl;have hz:xs.length<=sizeLine:=dd0.1;refine Kb (Kb (wpAny_dictSet_heap (hsz:=hz) (show X.A.units+az < cLine by unfold az; omega) (jG I rkk q3) dd λh' dd' hs=>Kh ?_))
     have kr':=kr.put q2 q3 rkk rv' hv.2;have hz':(storedH xs t bk vu).length<=sizeLine:=by
      rw[<- kr'.length];have h2:=dO kvs t wv;rw[Lo];omega
     have dn:DicAt X.w d (storedH xs t bk vu) h':=.of hz' dd0.2.1 dd';obtain⟨so',ex⟩:=so.writeO (i9 hr) rfl ea (u:=eE X.w d (storedH xs t bk vu)) (n:=.dic (ft kvs t wv)) ⟨_,bh,kr'.mono (c9 (.ext hH))⟩;have I':Inv X pins σ (bZ H d (eE X.w d (storedH xs t bk vu))) { s with heap:=h',toks:=s.toks+(bF X.prog X.w).draws t }:=pB I (by rw[hH]; exact Ox) hs (let ⟨q,_,_,hq,_⟩:=dd'; ⟨q,hq⟩) dn.ok
     have hl':(S.set r (.dic (ft kvs t wv)))[r]?=ba (.dic (ft kvs t wv)):=by
      rw[Mt,KJ rfl,KJ (Kq.mp (i9 hr)).1]
     refine oH hu vs _ _ (ft kvs t wv) kvs' _ _ _ Q I' so' (by unfold pO; rw[hl']) ea (rp2.mono ex) vv2 e (by have:=dO kvs t wv; omega) λs' H' I2 ex2 so2=>?_
     rw[List.set_set]at so2;exact hq s' H' I2 (ex.trans ex2) so2
    ·cases e
theorem Ct {pos:MP}:GE X (.Dict [] [] pos) Dp:=λpins s σ H Q I ⟨A,ρ,S,w,S',er,so,e,hq⟩=>by
 cases e;have hn:=I.hok.fresh (Kn s.heap.objs.size);have dn:DicAt X.w s.heap.objs.size [] (s.heap.push { cls:=.type "dict",data:=.dict #[] }):=⟨L1 _,OH.mpr (Ne.symm (KM I.big)),Qr,_,#[],0,Ku _ rfl,⟨rfl,rfl,rfl⟩,rfl,rfl⟩;refine wpAny_Dict_empty ⟨.ref s.heap.objs.size,_,I.laid (a:=s.heap.objs.size) (o:=eE X.w s.heap.objs.size []) (t':=s.toks) (λ_ _ q=>Ke _ q) (Kn _) dn.ok,rfl,hq _ _ ⟨A++[s.heap.objs.size],da hn,so.pushO hn ⟨[],bh,.nil⟩,.ref ?_⟩⟩
 rw[<- so.len]; simp
theorem Cu {pos:MP}{keys:J9 (Ki KN)}{values:J9 KN}{f:FA}(hu:X.A.units+10 < cLine)(h:G1 X pos keys values f)(hall:keys.all (·.isSome)=true)(hl:keys.length=values.length)(h0:keys≠[])(h15:keys.length<=15):GE X (.Dict keys values pos) (r0 f):=by
 intro pins s σ H Q I ⟨A,ρ,S,w,S',er,so,e,hq⟩;unfold r0 at e;split at e
 ·rename_i ws S1 h1;split at e
  ·rename_i hS1;split at e
   ·rename_i kvs hp;cases e;have hn:=I.hok.fresh (Kn s.heap.objs.size);have dn:DicAt X.w s.heap.objs.size [] (s.heap.push { cls:=.type "dict",data:=.dict #[] }):=⟨L1 _,OH.mpr (Ne.symm (KM I.big)),Qr,_,#[],0,Ku _ rfl,⟨rfl,rfl,rfl⟩,rfl,rfl⟩;have I1:=I.laid (a:=s.heap.objs.size) (o:=eE X.w s.heap.objs.size []) (h':=s.heap.push { cls:=.type "dict",data:=.dict #[] }) (t':=s.toks) (λ_ _ q=>Ke _ q) (Kn _) dn.ok
    have ex0:Ext X.K A H (A++[s.heap.objs.size]) (bZ H s.heap.objs.size (eE X.w s.heap.objs.size [])):=da hn;have so0:StoreOk X.w X.K (A++[s.heap.objs.size]) (bZ H s.heap.objs.size (eE X.w s.heap.objs.size [])) (S++[.dic []]):=so.pushO hn ⟨[],bh,.nil⟩;have hlen:=pairTrees_length keys values X.env pos hall hl;have hne:pairTrees keys values X.env pos≠[]:=λhe=>by
     rw[he]at hlen;exact h0 (LY.mp hlen.symm)
    rw[arm_eval_Dict,zip_pairTrees keys values X.env pos hall hl,dictDisplay_pairs _ hne (by omega)]
    refine Kb (Oz (Kb ?_));unfold subDict;refine Kb (Tz ?_);refine Kb (Ly ?_);rw[KJ (by omega)]
    refine Kb (Mj (wpAny_evalPairs_len (h pins _ σ _ _ ρ _ _ _ I1 (er.mono ex0) so0 h1)) (λvs s₁ h₁=>?_) λ_ _ e=>e)
    obtain⟨hvl,ps,H2,I2,vv,A2,ex2,so2,rp⟩:=h₁;refine Ly ?_;have ea:A2[S.length]?=ba s.heap.objs.size:=ex2.ad _ _ (by rw[<- so.len]; simp)
    refine Kb (oH hu vs ps ws [] kvs s₁ H2 S1 _ I2 so2 (by unfold pO; rw[hS1]) ea rp vv hp (by rw[Mu]; omega) λs' H' I3 ex3 so3=>?_)
    exact Kh (Kh (Kh ⟨.ref s.heap.objs.size,H',I3,rfl,hq _ _ ⟨A2,ex0.trans (ex2.trans ex3),so3,.ref ea⟩⟩))
   ·cases e
  ·cases e
 ·cases e
end
noncomputable def JR (wd:Lb)(a:Kl)(o:LZ)(xs:J9 (T×Kl×Kd)):It:=
 ⟨λi H=>H a=ba (.frz o (eE wd a xs))/\i < xs.length,λi H x H'=>H'=H/\∃q,xs[i]?=ba q/\x=.ref q.2.1,λi H=>H a=ba (.frz o (eE wd a xs))/\xs.length<=i⟩
theorem xi {P:K1}{w:Lb}{K:Kr}{tg:KN}(a it:Kl){o:LZ}{es:KQ MF}{ep:Kk}{xs:J9 (T×Kl×Kd)}(hx:o.ExactDict)(hd:o.data=.dict es ep)(he:es.toList=xs.map (yh w)) :
  Turn P w K tg (JR w a o xs) [it] it (λi h=>h.IsKeyIter it a i es.size ep) where
 mem:=by simp
 obj:=λi h st b hb=>by
  have e:b=it:=by simpa using hb
  subst e;obtain⟨o,e,c,d⟩:=st;exact⟨o,e,λv z=>by rw[d]at z; cases z⟩
 keep:=λi h h' st k=>st.at λo e=>k it (by simp) o e
 item:=by
  intro X hP hw hK hc i pins s σ H E I hf st hg;subst hP hw hK;obtain⟨hH,hi⟩:=hg;have ho:s.heap.get? a=ba o:=(show ObjOk X.prog X.w H s.heap a (.frz o (eE X.w a xs))from I.hok a _ hH).1
  have hl:es.size=xs.length:=by rw[<- Kz,he,Kc]
  have hi':i < es.size:=by omega
  obtain⟨f0,f1,f2,f3,f4,f5⟩:=hf it (by simp)
  have hk:es[i].key=.ref (xs[i]).2.1:=by
   have:es.toList[i]?=ba (yh X.w xs[i]):=by rw[he,Km,Ko hi]; rfl
   rw[LI,Mw hi']at this;have:=Lx this;rw[this]; rfl
  refine rE st ⟨o,ho,hx,hd⟩ hi' λh' st' sb=>?_
  have I1:Inv X pins σ H { s with heap:=h' }:=I.turned (t':=s.toks) (λb o hb e=>(sb.2 b hb).trans e) f0 f1 f3 f4 f5
  obtain⟨o',e,c,d⟩:=id st';exact⟨_,rfl,uH (s:={ s with heap:=h' }) e c d (by decide) ⟨.ref (xs[i]).2.1,H,I1,hk,⟨rfl,xs[i],Ko hi,rfl⟩,st',λb hb=>(hf b hb).1⟩⟩
 done:=by
  intro X hP hw hK hc i pins s σ H E I hf st hg;subst hP hw hK;obtain⟨hH,hi⟩:=hg;have ho:s.heap.get? a=ba o:=(show ObjOk X.prog X.w H s.heap a (.frz o (eE X.w a xs))from I.hok a _ hH).1
  have hl:es.size=xs.length:=by rw[<- Kz,he,Kc]
  obtain⟨f0,f1,f2,f3,f4,f5⟩:=hf it (by simp)
  exact uY (I.ok.hd hc) st ⟨o,ho,hx,hd⟩ (by omega) λh' eb=>⟨rfl,I.turned (t':=s.toks) (λb o hb e=>eb b o hb e) f0 f1 f3 f4 f5⟩
 self:=λ_ _ _ _ _ st h=>Qo st h
noncomputable def fU (f:FE):FI:=λρ S=>match f ρ S with
 | some (.tup ws,S1)=>ba (.its ws,S1)
 | some (.ref r,S1)=>match gc S1 r with
  | some _=>ba (.live r,S1)
  | none=>match kn S1 r with
   | some kvs=>ba (.its (kvs.map λp=>p.1.w),S1.set r (.frd kvs))
   | none=>gV
 | _=>gV
section
variable{X:Cx}{pins:J9 (Kl×LZ)}{σ:L2.St}{H:Hp}{s:Kg}{A:J9 Kl}{S:aa}
theorem zr {a:Kl}{o:LZ}{kvs:J9 (T×W)}{xs:J9 (T×Kl×Kd)}(hH:H a=ba (.frz o (eE X.w a xs)))(kr:KRel X.K A H kvs xs):MIt X.w X.K (.its (kvs.map λp=>p.1.w)) (JR X.w a o xs) A H:=by
 refine⟨λA' H' S i w e so hi=>?_,λA' H' S i e so hi=>?_⟩
 ·simp only[MI.at,K2]at hi;obtain⟨v,h1,h2⟩:=((kr.mono e).keysL).get hi;rw[Km,Kf]at h1;obtain⟨q,q1,q2⟩:=h1;refine⟨⟨e.fz _ _ _ hH,(Kq.mp q1).1⟩,λx H2 ⟨z1,q',z2,z3⟩=>?_⟩
  subst z1 z3;rw[q1]at z2; cases z2
  exact⟨.refl,so,by rw[q2]; exact h2⟩
 ·simp only[MI.at,K2]at hi;refine⟨e.fz _ _ _ hH,?_⟩;have:=Lv.mp hi;rw[Kc,kr.length]at this;exact this
theorem Cv {tg l:KN}{f:FE}(h:GE X l f):GI X tg l (fU f):=by
 intro pins s σ H R I ⟨A,ρ,S,mi,S',er,so,e,hq⟩
 by_cases hd:∃r S1 kvs,f ρ S=ba (.ref r,S1)/\gc S1 r=gV/\kn S1 r=ba kvs
 ·obtain⟨r,S1,kvs,h1,h2,h3⟩:=hd;simp only[fU,h1,h2,h3]at e;cases e;refine bT (h pins s σ H (EndV X.w X.K A H S1 (.ref r)) I ⟨A,ρ,S,_,_,er,so,h1,λ_ _ z=>z⟩) λv s1 ⟨x,H1,I1,r1,A1,e1,o1,z1⟩=>?_
  cases z1 with
  | @ref _ a ea=>
   obtain rfl:v=K4 a:=r1;have fz:∃o xs H2,Inv X pins σ H2 s1/\Ext X.K A1 H1 A1 H2/\StoreOk X.w X.K A1 H2 (S1.set r (.frd kvs))/\H2 a=ba (.frz o (eE X.w a xs))/\KRel X.K A1 H2 kvs xs:=by
    unfold kn at h3;split at h3
    ·rename_i k hk;cases h3;obtain⟨xs,hH,kr⟩:=o1.obj r _ a hk ea;have d:=cQ I1 (.inl hH);obtain⟨_,_,_,o,es,ep,q1,q2,q3,q4⟩:=id d;obtain⟨so',ex⟩:=o1.writeO hk rfl ea (u:=.frz o (eE X.w a xs)) (n:=.frd kvs) ⟨o,xs,bh,kr.mono (c9 (.ext hH))⟩;exact⟨o,xs,_,pB (h':=s1.heap) (t':=s1.toks) (ob:=.frz o (eE X.w a xs)) I1 (by rw[hH]; exact Ox) (Rq _ _) ⟨o,q1⟩ ⟨q1,d.ok⟩,ex,so',bh,kr.mono ex⟩
    ·rename_i k hk;cases h3;obtain⟨o,xs,hH,kr⟩:=o1.obj r _ a hk ea;have:S1.set r (.frd kvs)=S1:=by
      apply Pf;intro j;rw[Mt];split
      ·rename_i e; subst e
       split
       ·exact hk.symm
       ·rename_i h; exact absurd (Kq.mp hk).1 h
      ·rfl
     rw[this];exact⟨o,xs,H1,I1,.refl,o1,hH,kr⟩
    ·cases h3
   obtain⟨o,xs,H2,I2,ex,so2,hH,kr⟩:=fz;have d:=cQ I2 (.inr ⟨o,hH⟩);have ho:s1.heap.get? a=ba o:=(show ObjOk X.prog X.w H2 s1.heap a (.frz o (eE X.w a xs))from I2.hok a _ hH).1
   obtain⟨_,hsm,_,o',es,ep,q1,q2,q3,q4⟩:=id d;rw[ho]at q1;cases q1;refine rD hsm ⟨o,ho,q2,q3⟩ ?_;refine⟨s1.heap.objs.size,[s1.heap.objs.size],_,_,H2,rfl,I2.kept (t':=s1.toks) λb o e=>Ke _ e,xi a _ q2 q3 q4,⟨_,Ku _ rfl,rfl,rfl⟩,λb hb=>?_,hq _ _ A1 (e1.trans ex) so2 (zr hH kr)⟩
   have e:b=s1.heap.objs.size:=by simpa using hb
   subst e;exact I2.fpOk (Kn _) (I2.hok.fresh (Kn _))
 ·have:fU f ρ S=Cm f ρ S:=by
   unfold fU Cm;cases hf:f ρ S with
   | none=>rfl
   | some p=>
    obtain⟨w,S1⟩:=p;cases w with
    | ref r=>
     cases h2:gc S1 r with
     | some _=>simp only[h2]
     | none=>
      cases h3:kn S1 r with
      | none=>simp only[h2,h3]
      | some kvs=>exact absurd ⟨r,S1,kvs,hf,h2,h3⟩ hd
    | _=>rfl
  rw[this]at e;exact E1 h pins s σ H R I ⟨A,ρ,S,mi,S',er,so,e,hq⟩
end
noncomputable def bW (mi:MI)(g:FG)(c:FT)(f:FE):Kk->Kk->Fm->aa->Ki (J9 W×aa)
 | 0,i,_,S=>match mi.at S i with
  | some gV=>ba ([],S)
  | _=>gV
 | n+1,i,ρ,S=>match mi.at S i with
  | some (ba w)=>match g w ρ S with
   | some (ρ1,S1)=>match c ρ1 S1 with
    | some (true,S2)=>match f ρ1 S2 with
     | some (y,S3)=>match bW mi g c f n (i+1) ρ1 S3 with
      | some (ys,S4)=>ba (y::ys,S4)
      | none=>gV
     | none=>gV
    | some (false,S2)=>bW mi g c f n (i+1) ρ1 S2
    | none=>gV
   | none=>gV
  | _=>gV
noncomputable def fN (cap:J9 (Ki Kk))(ρ:Fm):Fm:=cap.map λo=>match o with
 | some j=>(ρ[j]?).join
 | none=>gV
noncomputable def lN (fi:FI)(g:FG)(c:FT)(f:FE)(cap:J9 (Ki Kk)):FE:=λρ S=>match fi ρ S with
 | some (mi,S1)=>match mi.len S1 with
  | some n=>match bW mi g c f n 0 (fN cap ρ) S1 with
   | some (ys,S2)=>mT S2 ys
   | none=>gV
  | none=>gV
 | none=>gV
noncomputable def Dq:FT:=λ_ S=>ba (true,S)
noncomputable def mR (X:Cx)(scope:Nz)(cl:J9 (KF×Kl))(C:Kl)(N:J9 KF)(s0:Kg)(H0:Hp)(ex:J9 Kl):Cx:=
 { X with env:=compEnvC scope cl C X.env,N:=N,s₀:=s0,H₀:=H0,outer:=X.stack,stack:=X.stack,ex:=ex,fn:=λ_=>false,pn:=[],xe:=λ_ _=>LL }
structure CompOk (X:Cx)(scope:Nz)(cl:J9 (KF×Kl))(N:J9 KF)(cap:J9 (Ki Kk)):Prop where
 clos:closureFor scope X.env=pure cl
 kind:scope.kind=.function
 names:∀y∈scope.names,y.2=.local->scope.names.lookup y.1=ba .local
 nocell:∀y∈scope.names,y.2≠.cell
 sub:∀x c,cl.lookup x=ba c->X.env.cells.lookup x=ba c
 has:∀x,((relabel scope X.env).names.lookup x=ba .cell\/(relabel scope X.env).names.lookup x=ba .free)->∃c,cl.lookup x=ba c
 len:cap.length=N.length
 cap:∀(i j:Kk) (x:KF),cap[i]?=ba (ba j)->N[i]?=ba x->X.N[j]?=ba x/\(X.env.kindOf x=ba .cell\/X.env.kindOf x=ba .free)/\((relabel scope X.env).names.lookup x=ba .cell\/(relabel scope X.env).names.lookup x=ba .free)
theorem gZ {prog:K1}{w:Lb}{A:K9}{R:Rz->Kg->Prop}{s:Kg}{elt target iter:KN}{ifs:J9 KN}{scope:Nz}{pos:MP}{it acc:Kd}{env:Q9}(I:Kk->Kg->Prop)
    (turn:∀n s,I n s->wpAny (model prog w) A (pyNext it) (λr s₁=>match r with
      | none=>R (.ok .next) s₁
      | some v=>wpAny (model prog w) A (letOwnedTupleGo target it v) (λ_ s₁=>wpAny (model prog w) A (assign target env v) (λ_ s₂=>
          wpAny (model prog w) A (forIn ifs true λc r=>if r=true then do let ok <- isTrue c env (eval c env); pure (Mf ok)else pure (Mf r)) (λok s₃=>
            if ok=true then wpAny (model prog w) A (eval elt env) (λx s₄=>
              wpAny (model prog w) A (call (.builtin "list.append") [acc,x]) (λ_ s₅=>∃m,m < n/\I m s₅) (λ_ _=>LL) s₄) (λ_ _=>LL) s₃
            else ∃m,m < n/\I m s₃) (λ_ _=>LL) s₂) (λ_ _=>LL) s₁) (λ_ _=>LL) s₁) (λ_ _=>LL) s)
    (n:Kk) (h:I n s) :
    codeAny (model prog w) A (.compLoop (.ListComp elt [⟨target,iter,ifs,0⟩] scope pos) 0 it acc env) R s:=by
  refine codeAny_loop rfl I (λn s hI=>?_) n h
  show wpAny _ A ((compTurn (.ListComp elt [⟨target,iter,ifs,0⟩] scope pos) 0 it acc env).onRaise (λx=>do noteFrame x env; theTreesLotGoes x)) _ _ s
  refine wpAny_noted ?_;rw[compTurn_list];refine Kb (Oz (Kb (Mj (turn n s hI) (λr s₁ h₁=>?_) λ_ _ h'=>h'.elim)))
  cases r with
  | none=>exact Kh h₁
  | some v=>
    refine Kb (Mj h₁ (λ_ s₁ h₁=>?_) λ_ _ h'=>h'.elim)
    refine Kb (Mj h₁ (λ_ s₂ h₂=>Kb (Mj h₂ (λok s₃ h₃=>?_) λ_ _ h'=>h'.elim)) λ_ _ h'=>h'.elim)
    cases ok with
    | false=>exact Kh ⟨rfl,h₃⟩
    | true=>
      exact Kb (Kb (Mj h₃ (λx s₄ h₄=>Kb (Mj h₄ (λ_ s₅ h₅=>Kh (Kh ⟨rfl,h₅⟩)) λ_ _ h'=>h'.elim)) λ_ _ h'=>h'.elim))
section
variable{X:Cx}{pins:J9 (Kl×LZ)}{σ:L2.St}{H:Hp}{s:Kg}
theorem Inv.adopt {D:Kl}{o:HO}(I:Inv X pins σ H s)(hn:H D=gV)(h1:D∈X.ex\/X.s₀.heap.objs.size<=D)(hL:D≠X.env.locals)(h2:∀x c,X.env.cells.lookup x=ba c->c≠D)(h3:∀p∈X.pn++pins,p.1≠D)
  (new:ObjOk X.prog X.w (bZ H D o) s.heap D o):Inv X pins σ (bZ H D o) s:=by
 have nit:∀b u,H b=ba u->b≠D:=λb u e z=>by rw[z,hn]at e; cases e
 have key:Inv X pins σ (bZ H D o) { s with heap:=s.heap,gens:=s.gens,drawn:=s.drawn,toks:=s.toks }:=by
  refine I.step (g':=s.gens) (d':=s.drawn) (t':=s.toks) (h':=s.heap) (ch:=[D]) (λb hb=>?_) (λb o _ _ hc e _=>e) (λb o _ _ hc e _=>⟨o.slots,e⟩) (λb o hc e n=>?_)
   (λb o hc e=>⟨o,e⟩) (λb xs e=>?_) (λb o xs e=>?_) (λb ps e=>⟨#[],?_⟩) (λm hm=>hm) (λb u e=>?_) I.bare
  ·have e:b=D:=by simpa using hb
   subst e;exact⟨h1,hL,h2,h3⟩
  ·rw[aK (λz=>hc (by simp[z]))]; exact n
  ·rw[aK (nit b _ e)]; exact e
  ·rw[aK (nit b _ e)]; exact e
  ·rw[aK (nit b _ e),e]; simp
  ·by_cases hb:b=D
   ·subst hb; rw[bh]at e; cases e; exact new
   ·rw[aK hb]at e;refine(I.hok b u e).stay (λc v hc q=>q) (λc q=>?_) λc xs q=>?_
    ·rw[aK (nit c _ q)]; exact q
    ·rw[aK (nit c _ q)]; exact q
 exact key
theorem E4 {scope:Nz}{cl:J9 (KF×Kl)}{N:J9 KF}{cap:J9 (Ki Kk)}{C:Kl}{s0:Kg}{ex:J9 Kl}(I:Inv X pins σ H s)(ck:CompOk X scope cl N cap)(hs:s.heap.objs.size<=s0.heap.objs.size)(hC:s0.heap.objs.size<=C)
  (hk:∀b o,s.heap.get? b=ba o->s0.heap.get? b=ba o) (hex:∀b∈ex,(b≠C)/\(∀x c,X.env.cells.lookup x=ba c->c≠b)/\(∀o,X.base.get? b≠ba o)/\b∉sV X.stack) :
  (mR X scope cl C N s0 H ex).Ok where
 mod:=I.ok.mod
 kind:=ck.kind
 glob:=I.ok.glob
 blt:=I.ok.blt
 above:=hC
 inj:=λx y c h1 h2=>I.ok.inj x y c (ck.sub x c h1) (ck.sub y c h2)
 has:=λx h=>ck.has x h
 cab:=λx c h=>by cases h
 hd:=I.ok.hd
 frames:=I.ok.frames
 stk:=.inl rfl
 exf:=λb hb=>⟨(hex b hb).1,λx c h=>(hex b hb).2.1 x c (ck.sub x c h)⟩
 bs:=λb o e=>⟨hk b o (I.bk b o e),(I.bs b o e).2⟩
 bsz:=KT (KT I.ok.bsz I.sz) hs
 noex:=λb o e hb=>(hex b hb).2.2.1 o e
 exfs:=λb hb=>(hex b hb).2.2.2
 funs:=I.stack.of_keeps λb o e _=>⟨o,hk b o e,rfl⟩
 frf:=I.stkFree
structure BlockOk (X:Cx)(scope:Nz)(cl:J9 (KF×Kl))(N:J9 KF)(tg elt:KN)(ifs:J9 KN)(g:FG)(c:FT)(f:FE):Prop where
 tgt:∀C s0 H0 ex,GG (mR X scope cl C N s0 H0 ex) tg g
 tst:∀C s0 H0 ex pins s σ H Q,Inv (mR X scope cl C N s0 H0 ex) pins σ H s->tT (mR X scope cl C N s0 H0 ex) c σ H Q->
  wpAny (model X.prog X.w) X.A (forIn ifs true λc r=>if r=true then do let ok <- isTrue c (compEnvC scope cl C X.env) (eval c (compEnvC scope cl C X.env)); pure (Mf ok)else pure (Mf r)) (TP (mR X scope cl C N s0 H0 ex) pins σ Q) (λ_ _=>LL) s
 elt:∀C s0 H0 ex,GE (mR X scope cl C N s0 H0 ex) elt f
theorem p4 {prog:K1}{w:Lb}{B:K9}{s:Kg}{E:Kd->Kg->Prop}{Q:Kd->Kg->Prop}{D:Kl}{its:J9 Kd}{n:Kk}{u:Kd}(e:s.heap.get? D=ba { cls:=.type "list",data:=.seq its.toArray n })(hz:its.length < sizeLine)
  (h:∀h' n',h'.get? D=ba { cls:=.type "list",data:=.seq (its++[u]).toArray n' }->(∀b o,b≠D->s.heap.get? b=ba o->h'.get? b=ba o)->Q .none { s with heap:=h' }) :
  wpAny (model prog w) B (call (.builtin "list.append") [.ref D,u]) Q E s:=by
 refine Ow F.slot_list_append ⟨_,e,rfl⟩ F.entry_list_append (F.args_list_append_2 _ _) (Ri D its.toArray n u (by rw[Kv]; omega)) ⟨e,?_⟩
 have q:=RD e (λa=>a.push u)
 have e2:its.toArray.push u=(its++[u]).toArray:=by simp
 rw[e2]at q;exact h _ _ q (λb o hb ho=>(Lh s.heap (LR λa=>a.push u) (Ne.symm hb)).trans ho)
theorem oJ {scope:Nz}{cl:J9 (KF×Kl)}{N:J9 KF}{cap:J9 (Ki Kk)}{tg elt iter:KN}{ifs:J9 KN}{g:FG}{c:FT}{f:FE}{pos:MP}{A:J9 Kl}{ρ:Fm}{S S':aa}{mi:MI}{n:Kk}{ws:J9 W}{E:Kd->Kg->Prop}
  {it:Kl} {fp:J9 Kl} {tn:Kk->Lj->Prop} {J:It} {RR:Kd->Kl->Rz->Kg->Prop}
  (I:Inv X pins σ H s) (hc:X.calm=true) (er:EnvRel X.K A H ρ σ) (so:StoreOk X.w X.K A H S) (ck:CompOk X scope cl N cap) (bk:BlockOk X scope cl N tg elt ifs g c f)
  (T:Turn X.prog X.w X.K tg J fp it tn) (t0:tn 0 s.heap) (hfp:∀b∈fp,jB X pins H b) (mit:MIt X.w X.K mi J A H) (e:bW mi g c f n 0 (fN cap ρ) S=ba (ws,S')) (hz:ws.length<=sizeLine)
  (fin:∀D C s' H' A' vs m,s'.heap.Ns C m->H' D=gV->D≠C->C≠X.env.locals->C∉X.fs->H' C=gV->X.s₀.heap.objs.size<=C->(∀x c,X.env.cells.lookup x=ba c->c≠C)->(∀p∈X.pn++pins,p.1≠C)->
   Inv X pins σ (bZ H' D (.lst vs)) s'->Ext X.K A H A' H'->StoreOk X.w X.K A' H' S'->RelL X.K A' H' ws vs->RR (.ref D) C (.ok .next) s') :
  wpAny (model X.prog X.w) X.A (newList []) (λacc s₃=>wpAny (model X.prog X.w) X.A (newFunctionEnv scope X.env.globals cl [] X.env.qual gV .none (ba X.env)) (λcenv s₄=>
   codeAny (model X.prog X.w) X.A (.compStart (.ListComp elt [⟨tg,iter,ifs,0⟩] scope pos) 0 (.ref it) acc { cenv with scope:=relabel scope X.env }) (RR acc cenv.locals) s₄) E s₃) E s:=by
 refine Lc (wpAny_newFunctionEnv ck.nocell (by intro y hy; simp at hy) (λh₁ hns₁ hsb₁=>?_) ck.kind)
 dsimp only at hns₁ hsb₁ ⊢;generalize hH2:s.heap.push { cls:=.type "list",dict:=gV,data:=.seq ([]:J9 Kd).toArray }=h2 at hns₁ hsb₁ ⊢;have hCs:h2.objs.size=s.heap.objs.size+1:=by rw[<- hH2,L9]
 have k2:∀b o,s.heap.get? b=ba o->h2.get? b=ba o:=λb o z=>hH2 ▸ Ke _ z
 have lt2:∀b o,h2.get? b=ba o->b < h2.objs.size:=λb o z=>KA z
 have k1:∀b o,h2.get? b=ba o->h₁.get? b=ba o:=λb o z=>hsb₁.extBut b o (KM (lt2 b o z)) (Ke _ z)
 have hD2:h2.get? s.heap.objs.size=ba { cls:=.type "list",data:=.seq ([]:J9 Kd).toArray }:=hH2 ▸ Ku _ rfl;have hDC:s.heap.objs.size≠h2.objs.size:=by rw[hCs]; omega
 have fresh:∀a,s.heap.objs.size<=a->H a=gV:=λa ha=>I.hok.fresh ha
 have cellLt:∀x c,X.env.cells.lookup x=ba c->c < s.heap.objs.size:=λx c z=>let ⟨_,q⟩:=I.cell x c z; q.lt
 have fpLt:∀b∈fp,b < s.heap.objs.size:=λb hb=>let ⟨_,q,_⟩:=T.obj 0 s.heap t0 b hb; KA q
 have stkLt:∀b∈sV X.stack,b < s.heap.objs.size:=λb hb=>let ⟨_,o,q,_⟩:=I.stack.mem hb; KA q
 have baseLt:∀b o,X.base.get? b=ba o->b < s.heap.objs.size:=λb o z=>KA (I.bk b o z)
 have fpStk:∀b∈fp,b∉sV X.stack:=λb hb z=>by
  rcases KL.mp (I.stkSub b z)with q|q
  ·exact(hfp b hb).2.1 q
  ·exact(hfp b hb).2.2.1 q
 have fpBase:∀b∈fp,∀o,X.base.get? b≠ba o:=λb hb o z=>by
  rcases(hfp b hb).2.2.2.1 with q|q
  ·exact I.ok.noex b o z q
  ·exact absurd (KR (KA (I.ok.bs b o z).1) q) (LQ _)
 have ltC:∀ {b:Kl},b < s.heap.objs.size->b≠h2.objs.size:=λhb=>by rw[hCs]; exact KM (M0 hb)
 let s3:Kg:={ s with heap:=h2 }
 have ok':(mR X scope cl h2.objs.size N s3 H (fp++[s.heap.objs.size])).Ok:=by
  refine E4 I ck (show s.heap.objs.size<=h2.objs.size by rw[hCs]; omega) (Kn _) k2 λb hb=>?_
  rcases Ln.mp hb with hb|hb
  ·exact⟨ltC (fpLt b hb),(hfp b hb).2.2.2.2.1,fpBase b hb,fpStk b hb⟩
  ·have eb:b=s.heap.objs.size:=by simpa using hb
   subst eb;exact⟨hDC,λx c z=>KM (cellLt x c z),λo z=>LQ _ (baseLt _ o z),λz=>LQ _ (stkLt _ z)⟩
 obtain⟨m0,hn0,hl0⟩:=I.loc;have I0:Inv (mR X scope cl h2.objs.size N s3 H (fp++[s.heap.objs.size])) [] (cap.map λo=>match o with|some j=>(σ[j]?).join|none=>gV) H { s3 with heap:=h₁,toks:=s3.toks+([]:J9 (KF×Kd)).length }:=by
  refine⟨ok',rfl,I.bare,Un.kept k1,⟨_,hns₁,λi x v e1 e2 e3=>?_⟩,λx cc z=>?_,fresh _ (show s.heap.objs.size<=h2.objs.size by rw[hCs]; exact MY _),λx cc z=>I.freeC x cc (ck.sub x cc z),λp hp=>absurd hp (by simp[mR]),(I.hok.kept k2).kept k1,by rw[Kc]; exact ck.len⟩
  ·rw[Km]at e2;cases q:cap[i]? with
   | none=>rw[q]at e2; cases e2
   | some oj=>
    rw[q]at e2;cases oj with
    | none=>cases e2
    | some j=>
     obtain⟨z1,z2,z3⟩:=ck.cap i j x q e1;have e2':(σ[j]?).join=ba v:=by simpa using e2
     have e2'':σ[j]?=ba (ba v):=by
      cases r:σ[j]? with
      | none=>rw[r]at e2'; cases e2'
      | some y=>rw[r]at e2'; exact congrArg ba e2'
     obtain⟨u,ru,lk⟩:=hl0 j x v z1 e2'' (by
      rcases z2 with z|z
      ·exact .inr (.inl z)
      ·exact .inr (.inr z))
     refine⟨u,ru,?_⟩;rcases lk with⟨zk,_⟩|⟨_,cc,zc,zi⟩
     ·rcases z2 with z|z <;> (rw[zk]at z; cases z)
     ·obtain⟨c2,hc2⟩:=ck.has x z3;have:=ck.sub x c2 hc2;rw[zc]at this; cases this
      refine .inr ⟨z3,cc,hc2,?_⟩;obtain⟨o,ho,hd⟩:=zi;exact⟨o,k1 _ _ (k2 _ _ ho),hd⟩
  ·obtain⟨v,o,ho,hd⟩:=I.cell x cc (ck.sub x cc z);exact⟨v,o,k1 _ _ (k2 _ _ ho),hd⟩
 have er0:EnvRel X.K A H (fN cap ρ) (cap.map λo=>match o with|some j=>(σ[j]?).join|none=>gV):=by
  refine⟨by simp[fN],λi w q=>?_⟩
  unfold fN at q;rw[Km]at q ⊢;cases r:cap[i]? with
  | none=>rw[r]at q; cases q
  | some oj=>
   rw[r]at q;cases oj with
   | none=>cases q
   | some j=>
    have q':(ρ[j]?).join=ba w:=by simpa using q
    have q'':ρ[j]?=ba (ba w):=by
     cases z:ρ[j]? with
     | none=>rw[z]at q'; cases q'
     | some y=>rw[z]at q'; exact congrArg ba q'
    obtain⟨v,z1,z2⟩:=er.2 j w q'';exact⟨v,by simp[z1],z2⟩
 have t1:tn 0 h₁:=T.keep 0 s.heap h₁ t0 λb hb o z=>k1 b o (k2 b o z)
 have fpOk':∀ {H':Hp} {pp:J9 (Kl×LZ)},(∀b∈fp,H' b=gV)->(∀p∈pp,p.1=s.heap.objs.size)->∀b∈fp,jB (mR X scope cl h2.objs.size N s3 H (fp++[s.heap.objs.size])) pp H' b:=λhn hp b hb=>
  ⟨hn b hb,ltC (fpLt b hb),fpStk b hb,.inl (Mk _ hb),λx cc z=>(hfp b hb).2.2.2.2.1 x cc (ck.sub x cc z),λp hpp=>by
   rw[hp p (by simpa [mR]using hpp)]
   exact(KM (fpLt b hb)).symm⟩
 have DinEx:s.heap.objs.size∈fp++[s.heap.objs.size]:=K8 _ (by simp)
 have cellD:∀x c,cl.lookup x=ba c->c≠s.heap.objs.size:=λx cc z=>KM (cellLt x cc (ck.sub x cc z))
 have fpD:∀b∈fp,b≠s.heap.objs.size:=λb hb=>KM (fpLt b hb)
 have theEnd:∀s' σ' H' A' vs its nn,Inv (mR X scope cl h2.objs.size N s3 H (fp++[s.heap.objs.size])) [] σ' H' s'->s'.heap.get? s.heap.objs.size=ba { cls:=.type "list",data:=.seq its nn }->∀(hits:∃l:J9 Kd,its=l.toArray/\Vals vs l),H' s.heap.objs.size=gV->Ext X.K A H A' H'->StoreOk X.w X.K A' H' S'->RelL X.K A' H' ws vs->
   RR (.ref s.heap.objs.size) h2.objs.size (.ok .next) s':=by
  intro s' σ' H' A' vs its nn I' hD hits hDn ex so' rl;obtain⟨l,rfl,rv⟩:=hits;obtain⟨m,hn,_⟩:=id I'.loc;have un:Un (sV X.stack) (fp++[s.heap.objs.size]) H H' s.heap s'.heap:=(Un.kept k2).trans I'.base;have hch:∀b∈fp++[s.heap.objs.size],(b∈X.ex\/X.s₀.heap.objs.size<=b)/\b≠X.env.locals/\(∀x c,X.env.cells.lookup x=ba c->c≠b)/\∀p∈X.pn++pins,p.1≠b:=λb hb=>by
   rcases Ln.mp hb with hb|hb
   ·exact⟨(hfp b hb).2.2.2.1,(hfp b hb).2.1,(hfp b hb).2.2.2.2.1,(hfp b hb).2.2.2.2.2⟩
   ·have eb:b=s.heap.objs.size:=by simpa using hb
    subst eb;exact⟨.inr I.sz,(KM I.lt).symm,λx cc z=>KM (cellLt x cc z),λp hp=>KM (KA (I.pin p hp).1)⟩
  have I2:Inv X pins σ H' s':=I.call' (show s'.os=s.os from I'.os) un I'.hok I'.bare hch
  have I3:Inv X pins σ (bZ H' s.heap.objs.size (.lst vs)) s':=Inv.adopt I2 hDn (hch _ DinEx).1 (hch _ DinEx).2.1 (hch _ DinEx).2.2.1 (hch _ DinEx).2.2.2 ⟨by rw[<- rl.length]; exact hz,l,nn,rv,hD⟩
  have hCle:s.heap.objs.size<=h2.objs.size:=by rw[hCs]; exact MY _
  exact fin _ _ s' H' A' vs m hn hDn hDC (Mr (KR I.lt hCle)) (I.nofs hCle) I'.free (KT I.sz hCle) (λx cc z=>KM (KR (cellLt x cc z) hCle))
   (λp hp=>KM (KR (KA (I.pin p hp).1) hCle)) I3 ex so' rl
 have loop:∀s4:Kg,s4={ s3 with heap:=h₁,toks:=s3.toks+([]:J9 (KF×Kd)).length }->
   codeAny (model X.prog X.w) X.A (.compLoop (.ListComp elt [⟨tg,iter,ifs,0⟩] scope pos) 0 (.ref it) (.ref s.heap.objs.size) (compEnvC scope cl h2.objs.size X.env)) (RR (.ref s.heap.objs.size) h2.objs.size) s4:=by
  rintro s4 rfl;refine gZ (λk s5=>∃i σ5 H5 A5 ρ5 S5 done its nn vs ys,Inv (mR X scope cl h2.objs.size N s3 H (fp++[s.heap.objs.size])) [] σ5 H5 s5/\tn i s5.heap/\(∀b∈fp,H5 b=gV)/\s5.heap.get? s.heap.objs.size=ba { cls:=.type "list",data:=.seq (its:J9 Kd).toArray nn }/\H5 s.heap.objs.size=gV/\Vals vs its/\
   Ext X.K A H A5 H5/\EnvRel X.K A5 H5 ρ5 σ5/\StoreOk X.w X.K A5 H5 S5/\RelL X.K A5 H5 done vs/\ws=done++ys/\bW mi g c f k i ρ5 S5=ba (ys,S')) ?_ n
   ⟨0,_,H,A,_,S,[],[],0,[],ws,I0,t1,λb hb=>(hfp b hb).1,k1 _ _ hD2,fresh _ (Kn _),.nil,.refl,er0,so,.nil,rfl,e⟩
  rintro k s5 ⟨i,σ5,H5,A5,ρ5,S5,done,its,nn,vs,ys,I5,t5,f5,d5,n5,v5,e5,er5,so5,rl5,hw5,w5⟩;have pinD:Inv (mR X scope cl h2.objs.size N s3 H (fp++[s.heap.objs.size])) [(s.heap.objs.size,{ cls:=.type "list",data:=.seq its.toArray nn })] σ5 H5 s5:=I5.pins_of λp hp=>by
   have hp':p=(s.heap.objs.size,{ cls:=.type "list",data:=.seq its.toArray nn }):=by simpa using hp
   subst hp';exact⟨d5,n5,hDC,λz=>LQ _ (stkLt _ z),λv z=>by cases z⟩
  have oneD:∀p∈[(s.heap.objs.size,({ cls:=.type "list",data:=.seq its.toArray nn }:LZ))],p.1=s.heap.objs.size:=λp hp=>by
   have hp':p=(s.heap.objs.size,{ cls:=.type "list",data:=.seq its.toArray nn }):=by simpa using hp
   rw[hp']
  cases k with
  | zero=>
   dsimp only[bW]at w5;split at w5
   ·rename_i hst;cases w5;rw[MH]at hw5;subst hw5;refine bT (T.done (mR X scope cl h2.objs.size N s3 H (fp++[s.heap.objs.size])) rfl rfl rfl hc i _ s5 σ5 H5 _ pinD (fpOk' f5 oneD) t5 (mit.stop A5 H5 _ i e5 so5 hst)) λr s6 ⟨hr,I6⟩=>?_
    subst hr;have p6:=I6.pin _ (K8 _ (Kx.mpr rfl));exact theEnd s6 σ5 H5 A5 vs _ nn (I6.pins_of λp hp=>absurd hp (by simp)) p6.1 ⟨its,rfl,v5⟩ n5 e5 so5 rl5
   ·cases w5
  | succ k=>
   dsimp only[bW]at w5;split at w5
   ·rename_i w hw;obtain⟨go,yl⟩:=mit.go A5 H5 S5 i w e5 so5 hw;refine bT (T.item (mR X scope cl h2.objs.size N s3 H (fp++[s.heap.objs.size])) rfl rfl rfl hc i _ s5 σ5 H5 _ pinD (fpOk' f5 oneD) t5 go) λr s6 ⟨u,hr,h6⟩=>?_
    subst hr;refine bT h6 λ_ s7 ⟨x,H7,I7,r7,y7,t7,f7⟩=>?_
    obtain⟨x1,x2,x3⟩:=yl x H7 y7;have I7':=I7.pinned (fpOk' f7 oneD) (T.obj _ _ t7);split at w5
    ·rename_i ρ8 S8 h8;refine bT (bk.tgt _ _ _ _ _ s7 σ5 H7 x u (λσ' H'=>∃A',Ext X.K A5 H5 A' H'/\StoreOk X.w X.K A' H' S8/\EnvRel X.K A' H' ρ8 σ') I7' r7 ⟨A5,ρ5,S5,w,ρ8,S8,er5.mono x1,x2,x3,h8,λσ' H' A' q1 q2 q3=>⟨A',x1.trans q1,q2,q3⟩⟩) λ_ s8 ⟨σ8,H8,I8,A8,e58,so8,er8⟩=>?_
     have e8:Ext X.K A H A8 H8:=e5.trans e58;have pD:∀ {σ':L2.St} {H':Hp} {s':Kg},Inv (mR X scope cl h2.objs.size N s3 H (fp++[s.heap.objs.size])) ([(s.heap.objs.size,{ cls:=.type "list",data:=.seq its.toArray nn })]++jC fp s7.heap) σ' H' s'->s'.heap.get? s.heap.objs.size=ba { cls:=.type "list",data:=.seq its.toArray nn }/\H' s.heap.objs.size=gV:=λI'=>
      let q:=I'.pin _ (K8 _ (Mk _ (Kx.mpr rfl)))
      ⟨q.1,q.2.1⟩
     have pF:∀ {σ':L2.St} {H':Hp} {s':Kg},Inv (mR X scope cl h2.objs.size N s3 H (fp++[s.heap.objs.size])) ([(s.heap.objs.size,{ cls:=.type "list",data:=.seq its.toArray nn })]++jC fp s7.heap) σ' H' s'->(∀b∈fp,H' b=gV)/\∀b∈fp,∀o,s7.heap.get? b=ba o->s'.heap.get? b=ba o:=λI'=>
      ⟨λb hb=>by
       obtain⟨o,eo,_⟩:=T.obj _ _ t7 b hb;exact(I'.pin (b,o) (K8 _ (K8 _ (fK hb eo)))).2.1,
       λb hb o eo=>(I'.pin (b,o) (K8 _ (K8 _ (fK hb eo)))).1⟩
     split at w5
     ·rename_i S9 h9;refine bT (bk.tst _ _ _ _ _ s8 σ8 H8 (λb H'=>b=true/\∃A',Ext X.K A8 H8 A' H'/\StoreOk X.w X.K A' H' S9) I8 ⟨A8,ρ8,S8,true,S9,er8,so8,h9,λb H' ⟨z0,A',z1,z2⟩=>⟨z0,A',z1,z2⟩⟩) λb s9 ⟨H9,I9,z0,A9,e9,so9⟩=>?_
      subst z0;rw[KJ rfl];split at w5
      ·rename_i y S10 h10;split at w5
       ·rename_i ys' S4 h11;cases w5;refine bT (bk.elt _ _ _ _ _ s9 σ8 H9 (EndV X.w X.K A9 H9 S10 y) I9 ⟨A9,ρ8,S9,y,S10,er8.mono e9,so9,h10,λ_ _ z=>z⟩) λu10 s10 ⟨v10,H10,I10,r10,A10,e10,so10,rl10⟩=>?_
        obtain⟨d10,n10⟩:=pD I10;obtain⟨f10,k10⟩:=pF I10;have hlen:its.length < sizeLine:=by
         have l1:=v5.length;have l2:=rl5.length;rw[hw5,Ks,Li]at hz;omega
        refine p4 d10 hlen λh' n' hd' hk'=>?_
        have Ib:Inv (mR X scope cl h2.objs.size N s3 H (fp++[s.heap.objs.size])) [] σ8 H10 { s10 with heap:=h' }:=by
         have Ia:Inv (mR X scope cl h2.objs.size N s3 H (fp++[s.heap.objs.size])) [] σ8 H10 s10:=I10.pins_of λp hp=>absurd hp (by simp)
         exact Ia.turned (t':=s10.toks) (it:=s.heap.objs.size) hk' n10 hDC (.inl DinEx) cellD (λp hp=>absurd hp (by simp[mR]))
        refine⟨k,Mn k,i+1,σ8,H10,A10,ρ8,S10,done++[y],its++[u10],n',vs++[v10],ys',Ib,?_,f10,hd',n10,v5.append (.cons r10 .nil),(e8.trans e9).trans e10,(er8.mono e9).mono e10,so10,?_,?_,h11⟩
        ·exact T.keep (i+1) s7.heap h' t7 λb hb o eo=>hk' b o (fpD b hb) (k10 b hb o eo)
        ·exact(rl5.mono ((e58.trans e9).trans e10)).append (.cons rl10 .nil)
        ·rw[hw5,MZ]; rfl
       ·cases w5
      ·cases w5
     ·rename_i S9 h9;refine bT (bk.tst _ _ _ _ _ s8 σ8 H8 (λb H'=>b=false/\∃A',Ext X.K A8 H8 A' H'/\StoreOk X.w X.K A' H' S9) I8 ⟨A8,ρ8,S8,false,S9,er8,so8,h9,λb H' ⟨z0,A',z1,z2⟩=>⟨z0,A',z1,z2⟩⟩) λb s9 ⟨H9,I9,z0,A9,e9,so9⟩=>?_
      subst z0;rw[KW KI];obtain⟨d9,n9⟩:=pD I9;obtain⟨f9,k9⟩:=pF I9;refine⟨k,Mn k,i+1,σ8,H9,A9,ρ8,S9,done,its,nn,vs,ys,I9.pins_of λp hp=>absurd hp (by simp),T.keep (i+1) s7.heap _ t7 k9,f9,d9,n9,v5,e8.trans e9,er8.mono e9,so9,rl5.mono (e58.trans e9),hw5,w5⟩
     ·cases w5
    ·cases w5
   ·cases w5
 exact codeAny_compStart_list (loop _ rfl) (T.self X.A 0 _ _ _ t1 (loop _ rfl))
theorem r4 {fi:FI}{g:FG}{c:FT}{f:FE}{cap:J9 (Ki Kk)}{ρ:Fm}{S:aa}{w:W}{S':aa}(e:lN fi g c f cap ρ S=ba (w,S')) :
  ∃mi S1 n ys S2,fi ρ S=ba (mi,S1)/\mi.len S1=ba n/\bW mi g c f n 0 (fN cap ρ) S1=ba (ys,S2)/\ys.length<=sizeLine/\w=.ref S2.length/\S'=S2++[.lst ys]:=by
 unfold lN at e;split at e
 ·rename_i mi S1 h1;split at e
  ·rename_i n h2;split at e
   ·rename_i ys S2 h3;obtain⟨h4,h5,h6⟩:=kT e;exact⟨mi,S1,n,ys,S2,h1,h2,h3,h4,h5,h6⟩
   ·cases e
  ·cases e
 ·cases e
theorem Cw {scope:Nz}{N:J9 KF}{cap:J9 (Ki Kk)}{tg elt iter:KN}{ifs:J9 KN}{fi:FI}{g:FG}{c:FT}{f:FE}{pos:MP}(hc:X.calm=true)(hi:GI X tg iter fi)(hck:X.Ok->∃cl,CompOk X scope cl N cap/\BlockOk X scope cl N tg elt ifs g c f)
  (hs:∀x,foldedSetIterable iter X.env x=pure x):GE X (.ListComp elt [⟨tg,iter,ifs,0⟩] scope pos) (lN fi g c f cap):=by
 intro pins s σ H Q I ⟨A,ρ,S,w,S',er,so,e,hq⟩;obtain⟨mi,S1,n,ys,S2,h1,h2,h3,h4,rfl,rfl⟩:=r4 e;obtain⟨cl,ck,bk⟩:=hck I.ok;rw[eval_ListComp];refine Pr (use:=gV) rfl hs ck.clos ck.kind ck.names (bT (hi pins s σ H (λJ H'=>∃A',Ext X.K A H A' H'/\StoreOk X.w X.K A' H' S1/\MIt X.w X.K mi J A' H') I ⟨A,ρ,S,mi,S1,er,so,h1,λJ H' A' z1 z2 z3=>⟨A',z1,z2,z3⟩⟩) λv s1 q1=>bT q1 λitv s2 q2=>?_)
 obtain⟨it,fp,tn,J,H2,rfl,I2,T,t0,hfp,A2,e2,so2,mit⟩:=q2;refine oJ (RR:=λacc C=>compPost (model X.prog X.w) X.A X.xe gV (EP X pins σ Q) acc C) I2 hc (er.mono e2) so2 ck bk T t0 hfp mit h3 h4 ?_
 intro D C s' H' A' vs m hn hDn hDC hCL hCf hCn hCs hCc hCp I3 ex so3 rl;refine⟨m,hn,λh' hs'=>?_⟩
 have I4:Inv X pins σ (bZ H' D (.lst vs)) { s' with heap:=h' }:=I3.turned (t':=s'.toks) (it:=C) (λb o hb eo=>hs'.extBut b o hb eo) (by rw[aK (Ne.symm hDC)]; exact hCn) hCL (.inr hCs) hCc hCp
 exact⟨.ref D,_,I4,rfl,hq _ _ (EndV.after (e2.trans ex) (.lst so3 rl hDn))⟩
theorem uf {scope:Nz}{N:J9 KF}{cap:J9 (Ki Kk)}{tg elt iter:KN}{ifs:J9 KN}{fi:FI}{g:FG}{c:FT}{f:FE}{pos py spos:MP}{y:KF}{i:Kk}(hc:X.calm=true)(hi:GI X tg iter fi)(hck:X.Ok->∃cl,CompOk X scope cl N cap/\BlockOk X scope cl N tg elt ifs g c f)
  (hs:∀x,foldedSetIterable iter X.env x=pure x) (hsw:swapsWith (.ListComp elt [⟨tg,iter,ifs,0⟩] scope pos) (ba (.Name y py)) spos.line X.env=pure true) (hN:X.N.Nodup) (hy:X.N[i]?=ba y) (hl:X.env.scope.names.lookup y=ba .local) :
  GS X (.Assign [.Name y py] (.ListComp elt [⟨tg,iter,ifs,0⟩] scope pos) spos) (lM (lN fi g c f cap) (Ci i)):=by
 intro pins s σ H Dd I ⟨A,ρ,S,o,S',er,so,e,hd⟩;unfold lM at e;split at e
 ·rename_i w S0 h0;simp only[Ci]at e;cases e;obtain⟨mi,S1,n,ys,S2,h1,h2,h3,h4,rfl,rfl⟩:=r4 h0;obtain⟨cl,ck,bk⟩:=hck I.ok;rw[exec_Assign_Name_used _ _ _ _ hsw];refine Kb (Oz (Kb ?_));show wpAny _ X.A (do let _ <- comprehension (.ListComp elt [⟨tg,iter,ifs,0⟩] scope pos) scope X.env _ (newList []) false (eval iter X.env) (ba (assign (.Name y py) X.env))) _ _ s
  refine Kb (Mj (Pr (use:=ba (assign (.Name y py) X.env)) (Q:=λ_ s'=>SP X pins Dd .next s') rfl hs ck.clos ck.kind ck.names
   (bT (hi pins s σ H (λJ H'=>∃A',Ext X.K A H A' H'/\StoreOk X.w X.K A' H' S1/\MIt X.w X.K mi J A' H') I ⟨A,ρ,S,mi,S1,er,so,h1,λJ H' A' z1 z2 z3=>⟨A',z1,z2,z3⟩⟩) λv s1 q1=>bT q1 λitv s2 q2=>?_)) (λ_ s' hq=>Kh (Kh hq)) λ_ _ e=>e)
  obtain⟨it,fp,tn,J,H2,rfl,I2,T,t0,hfp,A2,e2,so2,mit⟩:=q2;refine oJ (RR:=λacc C=>compPost (model X.prog X.w) X.A X.xe (ba (assign (.Name y py) X.env)) (λ_ s'=>SP X pins Dd .next s') acc C) I2 hc (er.mono e2) so2 ck bk T t0 hfp mit h3 h4 ?_
  intro D C s' H' A' vs m hn hDn hDC hCL hCf hCn hCs hCc hCp I3 ex so3 rl;obtain⟨oC,esC,epC,hoC,hdC,hrC⟩:=id hn;have I3':Inv X (pins++[(C,oC)]) σ (bZ H' D (.lst vs)) s':=I3.pins_of λp hp=>by
   rcases Ln.mp hp with hp|hp
   ·exact I3.pin p (K8 _ hp)
   ·have hp':p=(C,oC):=by simpa using hp
    subst hp';exact⟨hoC,by rw[aK (Ne.symm hDC)]; exact hCn,hCL,hCf,λv z=>by rw[hdC]at z; cases z⟩
  show wpAny _ X.A (assign (.Name y py) X.env (.ref D)) _ _ _;refine Ra (iV I3' hN hy (.inl hl) (v:=.ref D) rfl (λs4 I4=>?_) (.inr hl))
  have pC:=I4.pin (C,oC) (K8 _ (K8 _ (Kx.mpr rfl)));refine⟨m,⟨oC,esC,epC,pC.1,hdC,hrC⟩,λh' hs'=>?_⟩
  have I5:Inv X pins (σ.set i (ba (.ref D))) (bZ H' D (.lst vs)) s4:=I4.pins_of λp hp=>I4.pin p (K8 _ (Mk _ hp))
  have I6:Inv X pins (σ.set i (ba (.ref D))) (bZ H' D (.lst vs)) { s4 with heap:=h' }:=I5.turned (t':=s4.toks) (it:=C) (λb o hb eo=>hs'.extBut b o hb eo) (by rw[aK (Ne.symm hDC)]; exact hCn) hCL (.inr hCs) hCc hCp
  obtain⟨Af,f1,f2,f3⟩:=EndV.after (e2.trans ex) (EndV.lst so3 rl hDn);exact⟨_,_,I6,hd.nx _ _ ⟨_,Af,rfl,f1,f2,(er.mono f1).set f3 i⟩⟩
 ·cases e
end
open PySem.Builtin.SmallTypes (nextOf)
structure Zap (z p q i j:Kl):Prop where
 pz:p≠z
 qz:q≠z
 iz:i≠z
 jz:j≠z
 pq:p≠q
 pi:p≠i
 pj:p≠j
 qi:q≠i
 qj:q≠j
 ij:i≠j
section
variable{prog:K1}{w:Lb}
structure Zit (prog:K1)(w:Lb)(it:Kl)(T:Kk->Lj->Prop)(C:Lj->Prop)(i:Kk)(U:Ki (Kd->Prop)):Prop where
 keep:∀j h h',T j h->(∀o,h.get? it=ba o->h'.get? it=ba o)->T j h'
 next:∀V,U=ba V->∀(B:K9) (s:Kg) (Q:Kd->Kg->Prop) (E:Kd->Kg->Prop),T i s.heap->C s.heap->(∀u h' tk,V u->T (i+1) h'->Mq it s.heap h'->Q u { s with heap:=h',toks:=tk })->wpAny (model prog w) B (nextOf (.ref it)) Q E s
 stop:U=gV->∀(B:K9) (s:Kg) (Q:Kd->Kg->Prop) (E:Kd->Kg->Prop),B.handled=gV->T i s.heap->C s.heap->(∀h' e,RW it s.heap h'->(∃o,h'.get? e=ba o/\o.cls=.type "StopIteration")->E (.ref e) { s with heap:=h' })->wpAny (model prog w) B (nextOf (.ref it)) Q E s
variable{B:K9}{E:Kd->Kg->Prop}{s:Kg}{z p q i1 i2:Kl}{T1 T2:Kk->Lj->Prop}{C1 C2:Lj->Prop}{i:Kk}{a b:Kd}
noncomputable def Zc (z q i1 i2:Kl)(C:Lj->Prop):Prop:=∀h h',C h->(∀c o,c≠z->c≠q->c≠i1->c≠i2->h.get? c=ba o->h'.get? c=ba o)->C h'
theorem lO {U1 U2:Ki (Kd->Prop)}{Q:Kd->Kg->Prop}(D:Zap z p q i1 i2)(Z1:Zit prog w i1 T1 C1 i U1)(Z2':∀V1,U1=ba V1->Zit prog w i2 T2 C2 i U2)(k1:Zc z q i1 i2 C1)(k2:Zc z q i1 i2 C2)(hh:B.handled=gV)
  (hz:QK s.heap z p q .none) (hp:Oy s.heap p (.ref i1) (.ref i2)) (hq:Oy s.heap q a b) (t1:T1 i s.heap) (t2:T2 i s.heap) (c1:C1 s.heap) (c2:C2 s.heap)
  (hI:∀V1 V2,U1=ba V1->U2=ba V2->∀u v h' tk,V1 u->V2 v->QK h' z p q (rawInt s.heap.objs.size)->Oy h' q u v->T1 (i+1) h'->T2 (i+1) h'->Oy h' s.heap.objs.size u v->
   (∀c o,c≠z->c≠q->c≠i1->c≠i2->s.heap.get? c=ba o->h'.get? c=ba o)->Q (.ref s.heap.objs.size) { s with heap:=h',toks:=tk })
  (hE:U1=gV\/U2=gV->∀h' tk e,(∀c o,c≠z->c≠q->c≠i1->c≠i2->s.heap.get? c=ba o->h'.get? c=ba o)->(∃o,h'.get? e=ba o/\o.cls=.type "StopIteration")->E (.ref e) { s with heap:=h',toks:=tk }) :
  wpAny (model prog w) B (NA.«zip.__next__» ⟨[.ref z],[]⟩) (λfin s'=>∃v,fin=.done (.ret v)/\Q v s') E s:=by
 show wpAny _ _ (field (.ref z) 2 >>= _) _ _ s;refine Kb (MN hz rfl (x:=.bool false) rfl ?_);show wpAny _ _ (field (.ref z) 3 >>= _) _ _ s;refine Kb (MN hz rfl (x:=.ref p) rfl (Kb (LU hp rfl ?_)));show wpAny _ _ (N2 (.ref z) >>= _) _ _ s;unfold N2;refine Kb (Kb (MN hz rfl (x:=.none) rfl (Kh ?_)));simp only[L7];refine Kb (PK (Kb (MN hz rfl (x:=.ref q) rfl ?_)));refine Kb (Nq hz (by simp) λg1 zz1 s1=>?_)
 replace zz1:QK g1 z p q .ellipsis:=zz1;refine Kb ?_;simp only[List.zipIdx_cons,List.zipIdx_nil,OE,Qq];refine Kb (Kb (SU ?_));show wpAny _ _ (nextOf (.ref i1) >>= _) _ _ _;have up1:∀c o,c≠z->s.heap.get? c=ba o->g1.get? c=ba o:=λc o hc e=>s1.extBut c o hc e
 have t1':T1 i g1:=Z1.keep _ _ _ t1 λo e=>up1 _ _ D.iz e
 have c1':C1 g1:=k1 _ _ c1 λc o hc _ _ _ e=>up1 c o hc e
 have fin:∀(g:Lj) (tk:Kk) (it e:Kl),(it=i1\/it=i2)->U1=gV\/U2=gV->QK g z p q .ellipsis->(∀c o,c≠z->c≠q->c≠i1->c≠i2->s.heap.get? c=ba o->g.get? c=ba o)->(∃o,g.get? e=ba o/\o.cls=.type "StopIteration")->
   wpAny (model prog w) B (setField (.ref z) 0 .none) (λ_ s''=>E (.ref e) s'') E { s with heap:=g,toks:=tk }:=λg tk it e _ hu gz kg ⟨oe,he,hc⟩=>by
  have ne:e≠z:=λx=>by subst x; rw[gz]at he; cases he; simp at hc
  exact Nq gz (by simp) λg' _ sb=>hE hu g' tk e (λc o a1 a2 a3 a4 x=>sb.extBut _ _ a1 (kg c o a1 a2 a3 a4 x)) ⟨oe,sb.extBut _ _ ne he,hc⟩
 cases hu1:U1 with
 | none=>
  refine Kb (Z1.stop hu1 _ _ _ _ hh t1' c1' λg2 e eb he=>?_)
  exact fin g2 s.toks i1 e (.inl rfl) (.inl hu1) (eb _ _ D.iz.symm zz1) (λc o a1 _ a3 _ x=>eb _ _ a3 (up1 c o a1 x)) he
 | some V1=>
  have Z2:=Z2' V1 hu1;refine Kb (Z1.next V1 hu1 _ _ _ _ t1' c1' λu g2 tk2 hu t12 s2=>Kh ?_)
  have q2:Oy g2 q a b:=s2.extBut _ _ D.qi (up1 _ _ D.qz hq);refine Kb (LU q2 rfl (Kb (Qs q2 λg3 q3 s3=>?_)))
  replace q3:Oy g3 q u b:=q3;refine Kb (Od (Kh ?_));refine Kb (Kb (SU ?_));show wpAny _ _ (nextOf (.ref i2) >>= _) _ _ _;have up3:∀c o,c≠z->c≠q->c≠i1->s.heap.get? c=ba o->g3.get? c=ba o:=λc o a1 a2 a3 x=>s3.extBut _ _ a2 (s2.extBut _ _ a3 (up1 c o a1 x))
  have zz3:QK g3 z p q .ellipsis:=s3.extBut _ _ D.qz.symm (s2.extBut _ _ D.iz.symm zz1);have t2':T2 i g3:=Z2.keep _ _ _ t2 λo e=>up3 _ _ D.jz D.qj.symm D.ij.symm e
  have c2':C2 g3:=k2 _ _ c2 λc o a1 a2 a3 _ e=>up3 c o a1 a2 a3 e
  cases hu2:U2 with
  | none=>
   refine Kb (Z2.stop hu2 _ _ _ _ hh t2' c2' λg4 e eb he=>?_)
   exact fin g4 tk2 i2 e (.inr rfl) (.inr hu2) (eb _ _ D.jz.symm zz3) (λc o a1 a2 a3 a4 x=>eb _ _ a4 (up3 c o a1 a2 a3 x)) he
  | some V2=>
   refine Kb (Z2.next V2 hu2 _ _ _ _ t2' c2' λv g4 tk4 hv t24 s4=>Kh ?_)
   have q4:Oy g4 q u b:=s4.extBut _ _ D.qj q3;refine Kb (LU q4 rfl (Kb (Qs q4 λg5 q5 s5=>?_)))
   replace q5:Oy g5 q u v:=q5;refine Kb (Od (Kh (Kh ?_)));refine Kb (LU q5 rfl (Kb (Ql ?_)));have sz:g5.objs.size=s.heap.objs.size:=by rw[s5.1,s4.1,s3.1,s2.1,s1.1]
   have zz5:QK g5 z p q .ellipsis:=s5.extBut _ _ D.qz.symm (s4.extBut _ _ D.jz.symm zz3);have t15:T1 (i+1) g5:=Z1.keep _ _ _ t12 λo e=>s5.extBut _ _ D.qi.symm (s4.extBut _ _ D.ij (s3.extBut _ _ D.qi.symm e))
   have t25:T2 (i+1) g5:=Z2.keep _ _ _ t24 λo e=>s5.extBut _ _ D.qj.symm e
   have zlt:z < g5.objs.size:=KA zz5;show wpAny _ _ (NY (.ref z) (.ref g5.objs.size) >>= _) _ _ _;refine Kb ?_;unfold NY;have zz6:QK (g5.push { cls:=.type "tuple",data:=.seq [u,v].toArray }) z p q .ellipsis:=Ke _ zz5;refine Kb (Nq zz6 (by simp) λg7 zz7 s7=>?_)
   replace zz7:QK g7 z p q (rawInt g5.objs.size):=zz7;refine Nq zz7 (by simp) λg8 zz8 s8=>?_
   replace zz8:QK g8 z p q (rawInt g5.objs.size):=zz8;have up8:∀c o,c≠z->g5.get? c=ba o->g8.get? c=ba o:=λc o hc e=>s8.extBut _ _ hc (s7.extBut _ _ hc (Ke _ e))
   have n8:Oy g8 g5.objs.size u v:=s8.extBut _ _ (Mr zlt) (s7.extBut _ _ (Mr zlt) (Ku _ rfl));rw[sz]at zz8 n8;refine Kh ⟨_,rfl,?_⟩;show Q (.ref g5.objs.size) _;rw[sz];exact hI V1 V2 hu1 hu2 u v g8 tk4 hu hv zz8 (up8 _ _ D.qz q5) (Z1.keep _ _ _ t15 λo e=>up8 _ _ D.iz e) (Z2.keep _ _ _ t25 λo e=>up8 _ _ D.jz e) n8 λc o a1 a2 a3 a4 e=>up8 c o a1 (s5.extBut _ _ a2 (s4.extBut _ _ a4 (up3 c o a1 a2 a3 e)))
end
end Mi
namespace Mi
open PySem PySem.Spec PyProof.Rows L2
open PySem.Builtin.SmallTypes (nextOf)
noncomputable def gn (prog:K1)(w:Lb)(v:Kd)(o:LZ)(C:Lj->Prop):Prop:=∀(B:K9) (s:Kg) (Q:Kd->Kg->Prop) (E:Kd->Kg->Prop),C s.heap->Q (.ref s.heap.objs.size) { s with heap:=s.heap.push o }->wpAny (model prog w) B (pyIter v) Q E s
noncomputable def G2 (h:Lj)(o1 o2:LZ):Lj:=(h.push o1).push o2
noncomputable def G3 (h:Lj)(o1 o2:LZ):Lj:=(G2 h o1 o2).push { cls:=.type "tuple",data:=.seq [.ref h.objs.size,.ref (h.push o1).objs.size].toArray }
noncomputable def G4 (h:Lj)(o1 o2:LZ):Lj:=(G3 h o1 o2).push { cls:=.type "tuple",data:=.seq [.none,.none].toArray }
noncomputable def Dr (h:Lj)(o1 o2:LZ):Lj:=(G4 h o1 o2).push { cls:=.type "zip",data:=.fields [.none,.bool false,.bool false,.ref (G2 h o1 o2).objs.size,.ref (G3 h o1 o2).objs.size].toArray }
section
variable{prog:K1}{w:Lb}{B:K9}{E:Kd->Kg->Prop}{s:Kg}{v1 v2:Kd}{o1 o2:LZ}{C1 C2:Lj->Prop}
theorem ug (h1:gn prog w v1 o1 C1)(h2:gn prog w v2 o2 C2)(k2:∀h o,C2 h->C2 (h.push o)) :
  MeetsIn prog w (NA.«zip.__new__» ⟨[.type "zip",v1,v2],[]⟩) (λ_ R s=>C1 s.heap/\C2 s.heap/\R (.ok (.ret (.ref (G4 s.heap o1 o2).objs.size))) { s with heap:=Dr s.heap o1 o2 }):=
 .of_wp λA R s h=>by
  obtain⟨hp,g,d,tk,os⟩:=s;obtain⟨c1,c2,h⟩:=h;have hsub:=sub_zip;have d1:∀(B:K9) (Q:Kd->Kg->Prop) (E:Kd->Kg->Prop),Q (.ref hp.objs.size) ⟨hp.push o1,g,d,tk,os⟩->wpAny (model prog w) B (pyIter v1) Q E ⟨hp,g,d,tk,os⟩:=λB Q E q=>h1 B ⟨hp,g,d,tk,os⟩ Q E c1 q
  have d2:∀(B:K9) (Q:Kd->Kg->Prop) (E:Kd->Kg->Prop),Q (.ref (hp.push o1).objs.size) ⟨(hp.push o1).push o2,g,d,tk,os⟩->wpAny (model prog w) B (pyIter v2) Q E ⟨hp.push o1,g,d,tk,os⟩:=λB Q E q=>h2 B ⟨hp.push o1,g,d,tk,os⟩ Q E (k2 _ _ c2) q
  wp_walk using d1 _ _ _,d2 _ _ _
  exact⟨_,rfl,h⟩
theorem zt {Q:Kd->Kg->Prop}(h1:gn prog w v1 o1 C1)(h2:gn prog w v2 o2 C2)(k2:∀h o,C2 h->C2 (h.push o))(c1:C1 s.heap)(c2:C2 s.heap)(n1:o1.isFreed=false)(n2:o2.isFreed=false)
  (h:∀h',QK h' (s.heap.objs.size+4) (s.heap.objs.size+2) (s.heap.objs.size+3) .none->Oy h' (s.heap.objs.size+2) (.ref s.heap.objs.size) (.ref (s.heap.objs.size+1))->Oy h' (s.heap.objs.size+3) .none .none->
   h'.get? s.heap.objs.size=ba o1->h'.get? (s.heap.objs.size+1)=ba o2->h'.objs.size=s.heap.objs.size+5->(∀c o,s.heap.get? c=ba o->h'.get? c=ba o)->Q (.ref (s.heap.objs.size+4)) { s with heap:=h' }) :
  wpAny (model prog w) B (call (.type "zip") [v1,v2]) Q E s:=by
 refine callType_newIn F.called_zip (by decide) (F.typeCall_zip_2 _ _) (F.newCall_zip_2 _ _) (λobj=>F.args_object_init_3 obj _ _) F.entry_zip_new (ug h1 h2 k2) ⟨c1,c2,?_⟩
 have e1:(s.heap.push o1).objs.size=s.heap.objs.size+1:=L9 ..;have e2:(G2 s.heap o1 o2).objs.size=s.heap.objs.size+2:=by unfold G2; rw[L9,e1]
 have e3:(G3 s.heap o1 o2).objs.size=s.heap.objs.size+3:=by unfold G3; rw[L9,e2]
 have e4:(G4 s.heap o1 o2).objs.size=s.heap.objs.size+4:=by unfold G4; rw[L9,e3]
 have e5:(Dr s.heap o1 o2).objs.size=s.heap.objs.size+5:=by unfold Dr; rw[L9,e4]
 have g5:(Dr s.heap o1 o2).get? (G4 s.heap o1 o2).objs.size=ba _:=Ku _ rfl;have g4:(Dr s.heap o1 o2).get? (G3 s.heap o1 o2).objs.size=ba _:=Ke _ (Ku _ rfl);have g3:(Dr s.heap o1 o2).get? (G2 s.heap o1 o2).objs.size=ba _:=Ke _ (Ke _ (Ku _ rfl));have g2:(Dr s.heap o1 o2).get? (s.heap.push o1).objs.size=ba o2:=Ke _ (Ke _ (Ke _ (Ku _ n2)));have g1:(Dr s.heap o1 o2).get? s.heap.objs.size=ba o1:=Ke _ (Ke _ (Ke _ (Ke _ (Ku _ n1))));rw[e2,e3,e4]at g5;rw[e1,e2]at g3;rw[e3]at g4;rw[e1]at g2;show _/\_;rw[e4];exact⟨⟨_,g5,rfl⟩,h _ g5 g3 g4 g1 g2 e5 λc o x=>Ke _ (Ke _ (Ke _ (Ke _ (Ke _ x))))⟩
end
end Mi
namespace Mi
open PySem PySem.Spec PyProof.Rows L2
open PySem.Builtin.SmallTypes (nextOf)
section
variable{prog:K1}{w:Lb}{A:K9}{E:Kd->Kg->Prop}{s:Kg}
theorem G5 {it t:Kl}{i:Kk}{items:KQ Kd}{x:Kd}{Q:Kd->Kg->Prop}(hit:s.heap.IsTupleIter it t i)(ht:s.heap.IsTuple t items)(hx:items[i]?=ba x)
  (hQ:∀h',h'.IsTupleIter it t (i+1)->Mq it s.heap h'->Q x { s with heap:=h' }):wpAny (model prog w) A (nextOf (.ref it)) Q E s:=by
 obtain⟨o,ho,hc,hd⟩:=id hit;obtain⟨ot,hot,_,nt,hdt⟩:=ht;unfold Pa;refine Kb (Lz (name:=MA "__next__") hit.typeIs F.slot_tuple_iterator_next (LA F.slot_tuple_iterator_next hit.typeIs F.entry_tuple_iterator_next ?_ (F.args_tuple_iterator_next_1 _)));show wpAny _ _ (field (.ref it) 0 >>= _) _ _ s;refine Kb (MN ho hd (x:=.ref t) rfl ?_);show wpAny _ _ (if (K4 t==Ll)=true then _ else _) _ _ s
 rw[KW (show ¬ ((K4 t==Ll)=true)from KI)]
 show wpAny _ _ (field (.ref it) 1 >>= _) _ _ s;refine Kb (MN ho hd (x:=.int i 0) rfl (Kb (LU hot hdt ?_)));simp only[KC,hx];refine Kb (OZ ho hd (by simp) (Kh ⟨x,rfl,Kh (hQ _ ⟨_,LV _ ho (Qe (N9 hd _)),(Rr ..).trans hc,?_⟩ (Na ..))⟩))
 rw[N9 hd]; simp[rawInt]
theorem G6 {it t:Kl}{i:Kk}{items:KQ Kd}{Q:Kd->Kg->Prop}(hh:A.handled=gV)(hit:s.heap.IsTupleIter it t i)(ht:s.heap.IsTuple t items)(hx:items[i]?=gV)
  (hE:∀h' e,RW it s.heap h'->(∃o,h'.get? e=ba o/\o.cls=.type "StopIteration")->E (.ref e) { s with heap:=h' }):wpAny (model prog w) A (nextOf (.ref it)) Q E s:=by
 obtain⟨o,ho,hc,hd⟩:=id hit;obtain⟨ot,hot,_,nt,hdt⟩:=ht;unfold Pa;refine Kb (Lz (name:=MA "__next__") hit.typeIs F.slot_tuple_iterator_next (LA F.slot_tuple_iterator_next hit.typeIs F.entry_tuple_iterator_next ?_ (F.args_tuple_iterator_next_1 _)));show wpAny _ _ (field (.ref it) 0 >>= _) _ _ s;refine Kb (MN ho hd (x:=.ref t) rfl ?_);show wpAny _ _ (if (K4 t==Ll)=true then _ else _) _ _ s
 rw[KW (show ¬ ((K4 t==Ll)=true)from KI)]
 show wpAny _ _ (field (.ref it) 1 >>= _) _ _ s;refine Kb (MN ho hd (x:=.int i 0) rfl (Kb (LU hot hdt ?_)));simp only[KC,hx];refine Kb (PK (Kb (OZ ho hd (by simp) ?_)))
 show wpAny _ _ (newExc (.type "StopIteration") [] >>= _) _ _ _;refine Kb ?_;simp only[newExc,newTuple];refine Kb (Lc ?_ (by size_fits))
 refine Kb (m:=firstArgMember _ _) (Oc (a:=Ll) (by first|rfl|(simp only[firstArgMember]; rfl)) (Lc ?_ (by size_fits)))
 simp only[raiseNew];refine Kb (QJ ?_)
 first|rw[show A.in1.handled=gV from hh]|rw[hh]
 exact Kb (Kh (RS (hE _ _ (((Na ..).extBut.push _).push _) ⟨_,Ku _ rfl,rfl⟩)))
end
inductive Zs where|tup (a:Kl)|lst (a:Kl)|txt (x:KF)
noncomputable def Zs.T (it:Kl):Zs->Kk->Lj->Prop
 | .tup a,i,h=>h.IsTupleIter it a i
 | .lst a,i,h=>h.IsListIter it a i
 | .txt x,i,h=>∃t,h.IsStrIter it "str_ascii_iterator" x t i\/h.IsStrIter it "str_iterator" x t i
noncomputable def Zs.at (K:Kr)(H:Hp)(i:Kk)(v:V):Zs->Prop
 | .tup a=>∃xs,SqT K H a xs/\xs[i]?=ba v
 | .lst a=>∃xs,SqL K H a xs/\xs[i]?=ba v
 | .txt x=>∃c,x.cps[i]?=ba c/\v=.str ⟨[c].toArray⟩
noncomputable def Zs.out (K:Kr)(H:Hp)(i:Kk):Zs->Prop
 | .tup a=>∃xs,SqT K H a xs/\xs.length<=i
 | .lst a=>∃xs,SqL K H a xs/\xs.length<=i
 | .txt x=>x.cps.size<=i
theorem Zs.keep {S:Zs}{it:Kl}{j:Kk}{h h':Lj}(t:S.T it j h)(k:∀o,h.get? it=ba o->h'.get? it=ba o):S.T it j h':=by
 cases S with
 | tup a=>exact t.at k
 | lst a=>exact t.at k
 | txt x=>
  obtain⟨tk,t⟩:=t;exact⟨tk,t.imp (λ⟨o,e,r⟩=>⟨o,k _ e,r⟩) λ⟨o,e,r⟩=>⟨o,k _ e,r⟩⟩
section
variable{X:Cx}{pins:J9 (Kl×LZ)}{σ:L2.St}{H:Hp}{s:Kg}
theorem zu (I:Inv X pins σ H s){a b:Kl}{o:LZ}(h:X.K.lookup a=ba o)(f:jB X pins H b):a≠b:=λz=>by
 subst z;have hb:=I.ok.mod.kin a o h;rcases f.2.2.2.1 with q|q
 ·exact I.ok.noex a o hb q
 ·exact absurd (KR (KA (I.ok.bs a o hb).1) q) (LQ _)
end
end Mi
namespace Mi
open PySem PySem.Spec PyProof.Rows L2
open PySem.Builtin.SmallTypes (nextOf)
section
variable{X:Cx}{pins:J9 (Kl×LZ)}{σ:L2.St}{H:Hp}{s:Kg}{h':Lj}
theorem zv {a b:Kl}{u:HO}(h:Rd H a u)(f:H b=gV):a≠b:=λz=>by
 subst z;rcases h with h|⟨o,h⟩ <;> (rw[f]at h; cases h)
theorem Inv.turnedL {t':Kk}{ch:J9 Kl}(I:Inv X pins σ H s)(k:∀b o,b∉ch->s.heap.get? b=ba o->h'.get? b=ba o)(hf:∀b∈ch,jB X pins H b):Inv X pins σ H { s with heap:=h',toks:=t' }:=by
 have nit:∀b u,H b=ba u->b∉ch:=λb u e z=>by have:=(hf b z).1; rw[e]at this; cases this
 refine I.step (g':=s.gens) (d':=s.drawn) (ch:=ch) (λb hb=>?_) (λb o _ _ hc e _=>k b o hc e) (λb o _ _ hc e _=>⟨o.slots,k b o hc e⟩) (λ_ _ _ _ n=>n) (λb o hc e=>⟨o,k b o hc e⟩) (λ_ _ e=>e) (λ_ _ _ e=>e) (λb ps e=>⟨#[],by rw[e]; simp⟩) (λm hm=>?_) (λb u e=>?_) I.bare
 ·obtain⟨_,f1,_,f3,f4,f5⟩:=hf b hb;exact⟨f3,f1,f4,f5⟩
 ·obtain⟨o,es,ep,ho,r⟩:=hm;exact⟨o,es,ep,k _ o (λz=>(hf _ z).2.1 rfl) ho,r⟩
 ·refine(I.hok b u e).stay (λc v hc q=>k c v ?_ q) (λ_ q=>q) λ_ _ q=>q
  rcases hc with z|z
  ·rw[z]; exact nit b u e
  ·exact nit c _ z
theorem Zs.zit {S:Zs}{it z q i1 i2:Kl}{i:Kk}{U:Ki V}(I:Inv X pins σ H s)(hf:∀b∈[z,q,i1,i2],jB X pins H b)(g:match U with|some v=>S.at X.K H i v|none=>S.out X.K H i) :
  ∃C,Zit X.prog X.w it (S.T it) C i (U.map λv u=>RelV v u)/\C s.heap/\Zc z q i1 i2 C:=by
 have zc:∀(a:Kl) (P:Lj->Prop),(∀h h',P h->(∀o,h.get? a=ba o->h'.get? a=ba o)->P h')->(∀b∈[z,q,i1,i2],a≠b)->Zc z q i1 i2 P:=λa P hP hn h h' p k=>
  hP h h' p λo e=>k a o (hn z (by simp)) (hn q (by simp)) (hn i1 (by simp)) (hn i2 (by simp)) e
 have sep:∀ {a:Kl} {u:HO} {o:LZ} {b:Kl},(Rd H a u\/X.K.lookup a=ba o)->b∈[z,q,i1,i2]->a≠b:=λh hb=>h.elim (λr=>zv r (hf _ hb).1) λr=>zu I r (hf _ hb)
 cases S with
 | tup a=>
  obtain⟨xs,hq,hx⟩ : ∃xs,SqT X.K H a xs/\(match U with|some v=>xs[i]?=ba v|none=>xs.length<=i):=by
   cases U <;> exact g
  obtain⟨its,rv,p,_⟩:=I.tuple hq;have hne:∀b∈[z,q,i1,i2],a≠b:=λb hb=>by
   rcases hq with r|⟨o,_,_,r,_⟩
   ·exact zv r (hf b hb).1
   ·exact zu I r (hf b hb)
  refine⟨λh=>h.IsTuple a its.toArray,⟨λj h h' t k=>Zs.keep (S:=.tup a) t k,λV hV B s2 Q E t c hQ=>?_,λhU B s2 Q E hh t c hE=>?_⟩,p,zc a _ (λh h' ⟨o,e,r⟩ k=>⟨o,k _ e,r⟩) hne⟩
  ·cases U with
   | none=>cases hV
   | some v=>
    cases hV;obtain⟨u,hu,ru⟩:=rv.get hx;exact G5 t c (x:=u) (by simpa using hu) λh' t' sb=>hQ u h' s2.toks ru t' sb
  ·cases U with
   | some v=>cases hU
   | none=>
    have:=L2.Vals.length rv;have hx':xs.length<=i:=hx;exact G6 hh t c (by simp; omega) hE
 | lst a=>
  obtain⟨xs,hq,hx⟩ : ∃xs,SqL X.K H a xs/\(match U with|some v=>xs[i]?=ba v|none=>xs.length<=i):=by
   cases U <;> exact g
  obtain⟨its,rv,p,_⟩:=I.list hq;have hne:∀b∈[z,q,i1,i2],a≠b:=λb hb=>by
   rcases hq with r|⟨o,_,_,r,_⟩
   ·exact zv r (hf b hb).1
   ·exact zu I r (hf b hb)
  refine⟨λh=>h.IsList a its.toArray,⟨λj h h' t k=>Zs.keep (S:=.lst a) t k,λV hV B s2 Q E t c hQ=>?_,λhU B s2 Q E hh t c hE=>?_⟩,p.isList,zc a _ (λh h' ⟨o,e,r⟩ k=>⟨o,k _ e,r⟩) hne⟩
  ·cases U with
   | none=>cases hV
   | some v=>
    cases hV;obtain⟨u,hu,ru⟩:=rv.get hx;exact wpAny_nextOf_list_item t c (x:=u) (by simpa using hu) λh' t' sb=>hQ u h' s2.toks ru t' sb
  ·cases U with
   | some v=>cases hU
   | none=>
    have:=L2.Vals.length rv;have hx':xs.length<=i:=hx;exact wpAny_nextOf_list_end hh t c (by simp; omega) hE
 | txt x=>
  refine⟨λ_=>QP,⟨λj h h' t k=>Zs.keep (S:=.txt x) t k,λV hV B s2 Q E t _ hQ=>?_,λhU B s2 Q E hh t _ hE=>?_⟩,trivial,λ_ _ _ _=>trivial⟩
  ·cases U with
   | none=>cases hV
   | some v=>
    cases hV;obtain⟨c,hc,rfl⟩ : ∃c,x.cps[i]?=ba c/\v=.str ⟨[c].toArray⟩:=g;obtain⟨tk,t|t⟩:=t
    ·exact wpAny_nextOf_ascii_item t hc λh' t' sb=>hQ _ h' _ ⟨_,rfl⟩ ⟨tk,.inl t'⟩ sb
    ·exact wpAny_nextOf_wide_item t hc λh' t' sb=>hQ _ h' _ ⟨_,rfl⟩ ⟨tk,.inr t'⟩ sb
  ·cases U with
   | some v=>cases hU
   | none=>
    have hx:x.cps[i]?=gV:=by simpa using(show x.cps.size<=i from g)
    obtain⟨tk,t|t⟩:=t
    ·exact wpAny_nextOf_ascii_end hh t hx hE
    ·exact wpAny_nextOf_wide_end hh t hx hE
end
noncomputable def Zs.is (K:Kr)(H:Hp)(i:Kk)(v:V):Zs->Prop
 | .tup a=>∀xs,SqT K H a xs->xs[i]?=ba v
 | .lst a=>∀xs,SqL K H a xs->xs[i]?=ba v
 | .txt x=>∃c,x.cps[i]?=ba c/\v=.str ⟨[c].toArray⟩
theorem Zs.at_is {S:Zs}{X:Cx}{pins:J9 (Kl×LZ)}{σ:L2.St}{H:Hp}{s:Kg}{i:Kk}{v:V}(I:Inv X pins σ H s)(h:S.at X.K H i v):S.is X.K H i v:=by
 cases S with
 | tup a=>obtain⟨xs,hq,hx⟩:=h; exact λys hy=>by rw[I.tuple_inj hy hq]; exact hx
 | lst a=>obtain⟨xs,hq,hx⟩:=h; exact λys hy=>by rw[I.list_inj hy hq]; exact hx
 | txt x=>exact h
noncomputable def Ij (K:Kr)(S1 S2:Zs):It:=
 ⟨λi H=>∃x y,S1.at K H i x/\S2.at K H i y,λi H v H'=>∃p x y,S1.is K H i x/\S2.is K H i y/\v=.ref p/\H p=gV/\H'=bZ H p (.tup [x,y]),λi H=>S1.out K H i\/(∃x,S1.at K H i x)/\S2.out K H i⟩
theorem zw {P:K1}{w:Lb}{K:Kr}{els:J9 KN}{k0:Kk}{tp:MP}{S1 S2:Zs}{z p q i1 i2:Kl}(D:Zap z p q i1 i2) :
  Turn P w K (.Tuple els k0 tp) (Ij K S1 S2) [z,p,q,i1,i2] z (λi h=>QK h z p q .none/\Oy h p (.ref i1) (.ref i2)/\(∃a b,Oy h q a b)/\S1.T i1 i h/\S2.T i2 i h) where
 mem:=by simp
 obj:=λi h ⟨a,b,⟨u,v,c⟩,d,e⟩ b' hb=>by
  have it:∀ {S:Zs} {it:Kl},S.T it i h->∃o,h.get? it=ba o/\∀v,o.data≠.cell v:=λ{S it} t=>by
   cases S with
   | tup a=>obtain⟨o,e,_,d⟩:=t; exact⟨o,e,λv z=>by rw[d]at z; cases z⟩
   | lst a=>obtain⟨o,e,_,d⟩:=t; exact⟨o,e,λv z=>by rw[d]at z; cases z⟩
   | txt x=>obtain⟨tk,⟨o,e,_,d⟩|⟨o,e,_,d⟩⟩:=t <;> exact⟨o,e,λv z=>by rw[d]at z; cases z⟩
  simp only[KL,Lr,MJ]at hb;rcases hb with rfl|rfl|rfl|rfl|rfl
  ·exact⟨_,a,λv z=>by cases z⟩
  ·exact⟨_,b,λv z=>by cases z⟩
  ·exact⟨_,c,λv z=>by cases z⟩
  ·exact it d
  ·exact it e
 keep:=λi h h' ⟨a,b,⟨u,v,c⟩,d,e⟩ k=>⟨k z (by simp) _ a,k p (by simp) _ b,⟨u,v,k q (by simp) _ c⟩,Zs.keep d (k i1 (by simp)),Zs.keep e (k i2 (by simp))⟩
 item:=by
  intro X hP hw hK hc i pins s σ H E I hf st hg;subst hP hw hK;obtain⟨x,y,g1,g2⟩:=hg;obtain⟨a,b,⟨u,v,c⟩,d,e⟩:=st;have hf4:∀b∈[z,q,i1,i2],jB X pins H b:=λb hb=>hf b (by simp only[KL,Lr,MJ]at hb ⊢; rcases hb with h|h|h|h <;> simp[h])
  obtain⟨C1,Z1,c1,k1⟩:=Zs.zit (it:=i1) (U:=ba x) I hf4 g1;obtain⟨C2,Z2,c2,k2⟩:=Zs.zit (it:=i2) (U:=ba y) I hf4 g2;have hT:s.TypeIs (.ref z) "zip":=⟨_,a,rfl⟩;unfold pyNext;refine Kb (OA (Lz (name:=MA "__next__") hT F.slot_zip_next (LA F.slot_zip_next hT F.entry_zip_next ?_ (F.args_zip_next_1 _))));refine lO D Z1 (λ_ _=>Z2) k1 k2 (I.ok.hd hc) a b c d e c1 c2 (λV1 V2 e1 e2 u1 u2 g tk r1 r2 zg qg t1 t2 ng kp=>?_) (λz=>by rcases z with z|z <;> cases z)
  cases e1;cases e2;refine Kh ⟨_,rfl,?_⟩;refine wpAny_letOwnedTupleGo_zip (s:={ s with heap:=g,toks:=tk }) zg λg' zg' sb=>?_
  have N0:H s.heap.objs.size=gV:=I.hok.fresh (Kn _);have lt:∀ {b:Kl},b∈[z,p,q,i1,i2]->s.heap.objs.size≠b:=λ{b} hb=>by
   have:∃o,s.heap.get? b=ba o:=by
    have it:∀ {S:Zs} {it:Kl},S.T it i s.heap->∃o,s.heap.get? it=ba o:=λ{S it} t=>by
     cases S with
     | tup a=>obtain⟨o,e,_⟩:=t; exact⟨o,e⟩
     | lst a=>obtain⟨o,e,_⟩:=t; exact⟨o,e⟩
     | txt x=>obtain⟨tk,⟨o,e,_⟩|⟨o,e,_⟩⟩:=t <;> exact⟨o,e⟩
    simp only[KL,Lr,MJ]at hb;rcases hb with rfl|rfl|rfl|rfl|rfl
    ·exact⟨_,a⟩
    ·exact⟨_,b⟩
    ·exact⟨_,c⟩
    ·exact it d
    ·exact it e
   obtain⟨o,e⟩:=this;exact Mr (KA e)
  have up:∀b o,b∉[z,q,i1,i2]->s.heap.get? b=ba o->g'.get? b=ba o:=λb o hb e=>by
   simp only[KL,Lr,MJ,Te]at hb;exact sb.extBut _ _ hb.1 (kp b o hb.1 hb.2.1 hb.2.2.1 hb.2.2.2 e)
  have I1:Inv X pins σ H { s with heap:=g',toks:=tk }:=Mi.Inv.turnedL I up hf4
  have ng':Oy g' s.heap.objs.size u1 u2:=sb.extBut _ _ (lt (by simp)) ng
  have I2:Inv X pins σ (bZ H s.heap.objs.size (.tup [x,y])) { s with heap:=g',toks:=tk }:=by
   refine Mi.Inv.adopt I1 N0 (.inr I.sz) (Mr I.lt) (λw c e=>?_) (λp hp=>?_) ⟨by show 2<=sizeLine; decide,[u1,u2],.cons r1 (.cons r2 .nil),⟨_,ng',rfl,0,rfl⟩⟩
   ·obtain⟨v,q⟩:=I.cell w c e;exact KM q.lt
   ·exact KM (KA (I.pin p hp).1)
  refine⟨.ref s.heap.objs.size,_,I2,rfl,⟨s.heap.objs.size,x,y,Zs.at_is I g1,Zs.at_is I g2,rfl,N0,rfl⟩,⟨zg',up p _ ?_ b,⟨u1,u2,sb.extBut _ _ D.qz qg⟩,Zs.keep t1 λo e=>sb.extBut _ _ D.iz e,Zs.keep t2 λo e=>sb.extBut _ _ D.jz e⟩,λb hb=>?_⟩
  ·simp only[KL,Lr,MJ,Te];exact⟨D.pz,D.pq,D.pi,D.pj⟩
  ·rw[aK (Ne.symm (lt hb))];exact(hf b hb).1
 done:=by
  intro X hP hw hK hc i pins s σ H E I hf st hg;subst hP hw hK;obtain⟨a,b,⟨u,v,c⟩,d,e⟩:=st;have hf4:∀b∈[z,q,i1,i2],jB X pins H b:=λb hb=>hf b (by simp only[KL,Lr,MJ]at hb ⊢; rcases hb with h|h|h|h <;> simp[h])
  have hT:s.TypeIs (.ref z) "zip":=⟨_,a,rfl⟩;unfold pyNext;refine Kb (OA (Lz (name:=MA "__next__") hT F.slot_zip_next (LA F.slot_zip_next hT F.entry_zip_next ?_ (F.args_zip_next_1 _))));have ends:∀h' tk e,(∀c o,c≠z->c≠q->c≠i1->c≠i2->s.heap.get? c=ba o->h'.get? c=ba o)->(∃o,h'.get? e=ba o/\o.cls=.type "StopIteration")->
    wpAny (model X.prog X.w) X.A (do if <- isInstance (.ref e) (.type "StopIteration")then pure (gV:Ki Kd)else throw (.ref e)) (λr s1=>r=gV/\Inv X pins σ H s1) E { s with heap:=h',toks:=tk }:=λh' tk e k ⟨o,ho,hc⟩=>
   Kb (NP (T:="StopIteration") (b:=true) ⟨o,ho,hc⟩ Qk (Kh ⟨rfl,Mi.Inv.turnedL I (λb o hb e=>by
    simp only[KL,Lr,MJ,Te]at hb;exact k b o hb.1 hb.2.1 hb.2.2.1 hb.2.2.2 e) hf4⟩))
  rcases hg with g1|⟨⟨x,g1⟩,g2⟩
  ·obtain⟨C1,Z1,c1,k1⟩:=Zs.zit (it:=i1) (U:=gV) I hf4 g1;exact lO (U2:=gV) D Z1 (λV1 e1=>by cases e1) k1 (C2:=λ_=>QP) (λ_ _ _ _=>trivial) (I.ok.hd hc) a b c d e c1 trivial (λV1 V2 e1 _=>by cases e1) λ_ h' tk e k he=>ends h' tk e k he
  ·obtain⟨C1,Z1,c1,k1⟩:=Zs.zit (it:=i1) (U:=ba x) I hf4 g1;obtain⟨C2,Z2,c2,k2⟩:=Zs.zit (it:=i2) (U:=gV) I hf4 g2;exact lO D Z1 (λ_ _=>Z2) k1 k2 (I.ok.hd hc) a b c d e c1 c2 (λV1 V2 _ e2=>by cases e2) λ_ h' tk e k he=>ends h' tk e k he
 self:=λ_ _ _ _ _ st h=>RK st.1 h
end Mi
namespace Mi
open PySem PySem.Spec PyProof.Rows L2
noncomputable def Ik:W->Ki (J9 W)
 | .tup xs=>ba xs
 | .str x=>ba (x.cps.toList.map λc=>.str ⟨[c].toArray⟩)
 | _=>gV
noncomputable def Cy (f:FA):FI:=λρ S=>match f ρ S with
 | some ([x,y],S1)=>match Ik x,Ik y with
  | some xs,ba ys=>ba (.its (mV xs ys),S1)
  | _,_=>match x,y with
   | .ref r,.ref q=>match gc S1 r,gc S1 q with
    | some _,ba _=>ba (.zl r q,S1)
    | _,_=>gV
   | _,_=>gV
 | _=>gV
section
variable{X:Cx}{pins:J9 (Kl×LZ)}{σ:L2.St}{H:Hp}{s:Kg}{A:J9 Kl}
noncomputable def ZRel (K:Kr)(A:J9 Kl)(H:Hp)(xs:J9 W):Zs->Prop
 | .tup a=>∃vs,SqT K H a vs/\RelL K A H xs vs
 | .lst a=>LL
 | .txt x=>xs=x.cps.toList.map λc=>.str ⟨[c].toArray⟩
theorem ZRel.mono {K:Kr}{A A':J9 Kl}{H H':Hp}{xs:J9 W}{S:Zs}(e:Ext K A H A' H')(h:ZRel K A H xs S):ZRel K A' H' xs S:=by
 cases S with
 | tup a=>obtain⟨vs,h1,h2⟩:=h; exact⟨vs,e.tp _ _ h1,h2.mono e⟩
 | lst a=>exact h
 | txt x=>exact h
theorem ZRel.at {K:Kr}{xs:J9 W}{S:Zs}{i:Kk}{w:W}(h:ZRel K A H xs S)(hi:xs[i]?=ba w):∃v,S.at K H i v/\Rel K A H w v:=by
 cases S with
 | tup a=>obtain⟨vs,h1,h2⟩:=h; obtain⟨v,h3,h4⟩:=h2.get hi; exact⟨v,⟨vs,h1,h3⟩,h4⟩
 | lst a=>exact h.elim
 | txt x=>
  have h:xs=x.cps.toList.map λc=>.str ⟨[c].toArray⟩:=h
  subst h;rw[Km,Kf]at hi;obtain⟨c,hc,rfl⟩:=hi;exact⟨.str ⟨[c].toArray⟩,⟨c,by rw[<- LI]; exact hc,rfl⟩,.str⟩
theorem ZRel.is {K:Kr}{xs:J9 W}{S:Zs}{i:Kk}{w:W}{v:V}(h:ZRel K A H xs S)(hi:xs[i]?=ba w)(z:S.is K H i v):Rel K A H w v:=by
 obtain⟨v',h1,h2⟩:=h.at hi;cases S with
 | tup a=>
  obtain⟨vs,q,e⟩:=h1;have:=z vs q;rw[e]at this; cases this
  exact h2
 | lst a=>exact h.elim
 | txt x=>
  obtain⟨c,e,rfl⟩:=h1;obtain⟨c',e',rfl⟩:=z;rw[e]at e'; cases e'
  exact h2
theorem ZRel.out {K:Kr}{xs:J9 W}{S:Zs}{i:Kk}(h:ZRel K A H xs S)(hi:xs.length<=i):S.out K H i:=by
 cases S with
 | tup a=>obtain⟨vs,h1,h2⟩:=h; exact⟨vs,h1,by rw[<- h2.length]; exact hi⟩
 | lst a=>exact h.elim
 | txt x=>
  have h:xs=x.cps.toList.map λc=>.str ⟨[c].toArray⟩:=h
  subst h;show x.cps.size<=i
  simpa using hi
theorem r6 {xs ys:J9 W}{i:Kk}{w:W}(h:(mV xs ys)[i]?=ba w):∃x y,xs[i]?=ba x/\ys[i]?=ba y/\w=.tup [x,y]:=by
 unfold mV at h;rw[Qf]at h;split at h
 ·rename_i x y e1 e2;cases h;exact⟨x,y,e1,e2,rfl⟩
 ·cases h
theorem Cz {S1 S2:Zs}{xs ys:J9 W}(z1:ZRel X.K A H xs S1)(z2:ZRel X.K A H ys S2):MIt X.w X.K (.its (mV xs ys)) (Ij X.K S1 S2) A H:=by
 refine⟨λA' H' S i w e so hi=>?_,λA' H' S i e so hi=>?_⟩
 ·simp only[MI.at,K2]at hi;obtain⟨x,y,e1,e2,rfl⟩:=r6 hi;obtain⟨v,g1,r1⟩:=(z1.mono e).at e1;obtain⟨u,g2,r2⟩:=(z2.mono e).at e2;refine⟨⟨v,u,g1,g2⟩,λp H2 ⟨a,v',u',q1,q2,hp,hn,hH⟩=>?_⟩
  subst hp hH;have ex:Ext X.K A' H' A' (bZ H' a (.tup [v',u'])):=c9 (.inl hn);exact⟨ex,so.lay hn,.tup (.of bh) (.cons (((z1.mono e).is e1 q1).mono ex) (.cons (((z2.mono e).is e2 q2).mono ex) .nil))⟩
 ·simp only[MI.at,K2,Lv,mV,Nb]at hi
  by_cases h1:xs.length<=i
  ·exact .inl ((z1.mono e).out h1)
  ·have hx:i < xs.length:=by omega
   obtain⟨v,g1,_⟩:=(z1.mono e).at (Ko hx);exact .inr ⟨⟨v,g1⟩,(z2.mono e).out (by omega)⟩
theorem zx {r q:Kk}{a b:Kl}(ea:A[r]?=ba a)(eb:A[q]?=ba b):MIt X.w X.K (.zl r q) (Ij X.K (.lst a) (.lst b)) A H:=by
 refine⟨λA' H' S i w e so hi=>?_,λA' H' S i e so hi=>?_⟩
 ·simp only[MI.at]at hi;split at hi
  ·rename_i xs ys hx hy;simp only[K2]at hi;obtain⟨x,y,e1,e2,rfl⟩:=r6 hi;obtain⟨vs,h1,r1⟩:=bO so hx (e.ad _ _ ea);obtain⟨us,h2,r2⟩:=bO so hy (e.ad _ _ eb);obtain⟨v,g1,q1⟩:=r1.get e1;obtain⟨u,g2,q2⟩:=r2.get e2;refine⟨⟨v,u,⟨vs,h1,g1⟩,⟨us,h2,g2⟩⟩,λp H2 ⟨c,v',u',z1,z2,hp,hn,hH⟩=>?_⟩
   subst hp hH;have t1:=z1 vs h1;rw[g1]at t1; cases t1
   have t2:=z2 us h2;rw[g2]at t2; cases t2
   have ex:Ext X.K A' H' A' (bZ H' c (.tup [v,u])):=c9 (.inl hn);exact⟨ex,so.lay hn,.tup (.of bh) (.cons (q1.mono ex) (.cons (q2.mono ex) .nil))⟩
  ·cases hi
 ·simp only[MI.at]at hi;split at hi
  ·rename_i xs ys hx hy;simp only[K2,Lv,mV,Nb]at hi;obtain⟨vs,h1,r1⟩:=bO so hx (e.ad _ _ ea);obtain⟨us,h2,r2⟩:=bO so hy (e.ad _ _ eb)
   by_cases hl:xs.length<=i
   ·exact .inl ⟨vs,h1,by rw[<- r1.length]; exact hl⟩
   ·have hx':i < xs.length:=by omega
    obtain⟨v,g1,_⟩:=r1.get (Ko hx');exact .inr ⟨⟨v,vs,h1,g1⟩,us,h2,by rw[<- r2.length]; omega⟩
  ·cases hi
theorem vn {x:W}{v:V}{u:Kd}{xs:J9 W}(I:Inv X pins σ H s)(r:Rel X.K A H x v)(ru:RelV v u)(e:Ik x=ba xs) :
  ∃(S:Zs) (o:LZ) (C:Lj->Prop),ZRel X.K A H xs S/\gn X.prog X.w u o C/\C s.heap/\(∀h o,C h->C (h.push o))/\o.isFreed=false/\∀it h,h.get? it=ba o->S.T it 0 h:=by
 cases r with
 | @tup ws a vs hq rl=>
  cases e;obtain⟨its,rv,p,_⟩:=I.tuple hq;obtain rfl:u=K4 a:=ru;exact⟨.tup a,{ cls:=.type "tuple_iterator",data:=.fields [.ref a,.int 0 0].toArray },λh=>h.IsTuple a its.toArray,⟨vs,hq,rl⟩,λB s Q E c hQ=>Q5 c hQ,p,λh o ⟨ot,e,r⟩=>⟨ot,Ke _ e,r⟩,rfl,λit h e=>⟨_,e,rfl,rfl⟩⟩
 | @str x=>
  cases e;obtain⟨t,rfl⟩:=ru;cases ha:x.cps.all (· < 128)with
  | false=>exact⟨.txt x,{ cls:=.type "str_iterator",data:=.fields [.str x t,.int 0 0].toArray },λ_=>QP,rfl,λB s Q E _ hQ=>wpAny_pyIter_wide ha hQ,trivial,λ_ _ _=>trivial,rfl,λit h e=>⟨t,.inr ⟨_,e,rfl,rfl⟩⟩⟩
  | true=>exact⟨.txt x,{ cls:=.type "str_ascii_iterator",data:=.fields [.str x t,.int 0 0].toArray },λ_=>QP,rfl,λB s Q E _ hQ=>wpAny_pyIter_ascii ha hQ,trivial,λ_ _ _=>trivial,rfl,λit h e=>⟨t,.inl ⟨_,e,rfl,rfl⟩⟩⟩
 | _=>cases e
theorem zy:bootBuiltins "zip" = ba (.type "zip"):=rfl
theorem vo {a:Kl}{xs:J9 V}{u:Kd}(I:Inv X pins σ H s)(ru:RelV (.ref a) u)(hq:SqL X.K H a xs) :
  ∃(o:LZ) (C:Lj->Prop),gn X.prog X.w u o C/\C s.heap/\(∀h o,C h->C (h.push o))/\o.isFreed=false/\∀it h,h.get? it=ba o->(Zs.lst a).T it 0 h:=by
 obtain⟨its,rv,p,_⟩:=I.list hq;obtain rfl:u=K4 a:=ru;exact⟨{ cls:=.type "list_iterator",data:=.fields [.ref a,.int 0 0].toArray },λh=>h.IsList a its.toArray,λB s Q E c hQ=>NB c hQ,p.isList,λh o ⟨ot,e,r⟩=>⟨ot,Ke _ e,r⟩,rfl,λit h e=>⟨_,e,rfl,rfl⟩⟩
theorem E5 {els:J9 KN}{k0:Kk}{tp:MP}{a b:KN}{f:FA}{p pos:MP}(hg:Gl X "zip")(hm:X.mg "zip" = gV)(ha:GA X [a,b] f)(hs:starEach [a,b] X.env=[(false,eval a X.env),(false,eval b X.env)])(hs2:starEach [b] X.env=[(false,eval b X.env)]) :
  GI X (.Tuple els k0 tp) (.Call (.Name "zip" p) [a,b] [] pos) (Cy f):=by
 intro pins s σ H R I ⟨A,ρ,S,mi,S',er,so,e,hq⟩;have fin:∀ {s1:Kg} {H1:Hp} {u v:Kd} {Sa Sb:Zs} {oa ob:LZ} {Ca Cb:Lj->Prop},Inv X pins σ H1 s1->gn X.prog X.w u oa Ca->Ca s1.heap->oa.isFreed=false->(∀it h,h.get? it=ba oa->Sa.T it 0 h)->gn X.prog X.w v ob Cb->Cb s1.heap->(∀h o,Cb h->Cb (h.push o))->ob.isFreed=false->(∀it h,h.get? it=ba ob->Sb.T it 0 h)->R (Ij X.K Sa Sb) H1->
   wpAny (model X.prog X.w) X.A (call (.type "zip") [u,v]) (λv s=>wpAny (model X.prog X.w) X.A (pyIter v) (Gi X pins σ (.Tuple els k0 tp) R) X.xe s) X.xe s1:=λ{s1 H1 u v Sa Sb oa ob Ca Cb} I1 ia ca na ta ib cb kb nb tb hR=>by
  refine zt ia ib kb ca cb na nb λh' hz hp hq' g1 g2 hsz kp=>?_
  have I2:Inv X pins σ H1 { s1 with heap:=h' }:=I1.kept (t':=s1.toks) kp
  refine RK (s:={ s1 with heap:=h' }) hz ?_
  have D:Zap (s1.heap.objs.size+4) (s1.heap.objs.size+2) (s1.heap.objs.size+3) s1.heap.objs.size (s1.heap.objs.size+1):=by constructor <;> (intro z; simp at z)
  refine⟨s1.heap.objs.size+4,_,_,_,H1,rfl,I2,zw (S1:=Sa) (S2:=Sb) D,⟨hz,hp,⟨_,_,hq'⟩,ta _ _ g1,tb _ _ g2⟩,λb hb=>?_,hR⟩
  have hb':s1.heap.objs.size<=b:=by
   simp only[KL,Lr,MJ]at hb;rcases hb with rfl|rfl|rfl|rfl|rfl
   ·exact Nl _ _
   ·exact Nl _ _
   ·exact Nl _ _
   ·exact Kn _
   ·exact Nl _ _
  exact I1.fpOk hb' (I1.hok.fresh hb')
 unfold Cy at e;split at e
 ·rename_i x y S1 h1;refine Call_ (jA I hg hm zy (ML (bT (ha pos pins s σ H _ I ⟨A,ρ,S,_,_,er,so,h1,λ_ _ z=>z⟩) λus s1 ⟨vs,H1,I1,r1,A1,z1,z2,z3⟩=>?_) (by rw[hs,hs2]) (by rw[hs2]; rfl)))
  cases z3 with
  | cons ra t=>
   cases t with
   | cons rb t=>
    cases t;cases r1 with
    | cons ua t=>
     cases t with
     | cons ub t=>
      cases t;split at e
      ·rename_i xs ys e1 e2;cases e;obtain⟨Sa,oa,Ca,za,ia,ca,ka,na,ta⟩:=vn I1 ra ua e1;obtain⟨Sb,ob,Cb,zb,ib,cb,kb,nb,tb⟩:=vn I1 rb ub e2;exact fin I1 ia ca na ta ib cb kb nb tb (hq _ _ A1 z1 z2 (Cz za zb))
      ·split at e
       ·rename_i r q;split at e
        ·rename_i xs ys hx hy;cases e;cases ra with
         | @ref _ a ea=>
          cases rb with
          | @ref _ b eb=>
           obtain⟨va,q1,_⟩:=bO z2 hx ea;obtain⟨vb,q2,_⟩:=bO z2 hy eb;obtain⟨oa,Ca,ia,ca,ka,na,ta⟩:=vo I1 ua q1;obtain⟨ob,Cb,ib,cb,kb,nb,tb⟩:=vo I1 ub q2;exact fin I1 ia ca na ta ib cb kb nb tb (hq _ _ A1 z1 z2 (zx ea eb))
        ·cases e
       ·cases e
 ·cases e
end
noncomputable def Ds (g1 g2:J9 W->aa->Ki (W×aa))(xs:J9 W)(S:aa):Ki (W×aa):=match g1 xs S with
 | some r=>ba r
 | none=>g2 xs S
theorem r8 {X:Cx}{f:Kd}{g1 g2:J9 W->aa->Ki (W×aa)}(h1:LCall X f g1)(h2:LCall X f g2):LCall X f (Ds g1 g2):=by
 intro pins s σ H A S xs vs us w S' I so rl rv e;unfold Ds at e;split at e
 ·rename_i r hr;cases e;exact h1 pins s σ H A S xs vs us w S' I so rl rv hr
 ·exact h2 pins s σ H A S xs vs us w S' I so rl rv e
inductive Bi where|len|list|tuple|int|set|sorted|range|all|min
 deriving ND
noncomputable def Bi.fn:Bi->J9 W->aa->Ki (W×aa)
 | .len=>tR|.list=>Ds oh ou|.tuple=>lL|.int=>GH|.set=>lJ|.sorted=>Ds dc fM|.range=>tJ|.all=>BV|.min=>yK
noncomputable def Bi.name:Bi->KF
 | .len=>"len"|.list=>"list"|.tuple=>"tuple"|.int=>"int"|.set=>"set"|.sorted=>"sorted"|.range=>"range"|.all=>"all"|.min=>"min"
inductive Me where|append|extend|join|pop|get|clear
 deriving ND
noncomputable def Me.fn:Me->W->J9 W->aa->Ki (W×aa)
 | .append=>i3|.extend=>i4|.join=>uT|.pop=>EB|.get=>uX|.clear=>lw
noncomputable def Me.name:Me->KF
 | .append=>"append"|.extend=>"extend"|.join=>"join"|.pop=>"pop"|.get=>"get"|.clear=>"clear"
noncomputable def Me.ty:Me->LN
 | .append=>"list"|.extend=>"list"|.join=>"str"|.pop=>"list"|.get=>"dict"|.clear=>"list"
inductive Tg where
 | nm (i:Kk)|tp (is:J9 Kk)
set_option genSizeOf false in
set_option genInjectivity false in
mutual
inductive E where
 | c (w:W)|v (i:Kk)
 | op (o:BOp) (a b:E)
 | cmp (o:COp) (a b:E)
 | and (a b:E)|or (a b:E)|not (a:E)
 | own (f:KF) (n:Kk) (es:Es)|bi (b:Bi) (es:Es)|me (m:Me) (o:E) (es:Es)
 | ix (a b:E)|sl (a:E) (lo hi:Ep)|tup (es:Es)|lst (es:Es)
 | isi (c:LN) (a:E)
 | neg (a:E)|dnew|disp (es:Es)|ite (t a b:E)
 | comp (elt:E) (tg:Tg) (it:Ie) (cs:Es) (cap:J9 (Ki Kk))
inductive Es where
 | nil|cons (e:E) (es:Es)
inductive Ep where
 | no|yes (e:E)
inductive Ie where
 | seq (e:E)|rng (es:Es)|zip (es:Es)|rng2 (es:Es)
end
set_option genSizeOf false in
set_option genInjectivity false in
mutual
inductive Sm where
 | set (i:Kk) (e:E)|asg (is:J9 Kk) (e:E)|par (i j:Kk) (es:Es)|put (o k e:E)
 | ex (e:E)|ret (e:E)|retN|pass|brk|cont|bad
 | ite (t:E) (a b:Ss)|whl (t:E) (b:Ss)|loop (tg:Tg) (it:Ie) (b:Ss)
inductive Ss where
 | nil|cons (s:Sm) (ss:Ss)
end
noncomputable def ik:Tg->FG
 | .nm i=>Ci i
 | .tp is=>EW is
section
variable (Φ:KF->FF)
mutual
noncomputable def aE:E->FE
 | .c w=>fC w
 | .v i=>fV i
 | .op o a b=>BX (gf o) (aE a) (aE b)
 | .cmp o a b=>BY o (aE a) (aE b)
 | .and a b=>ve (aE a) (aE b)
 | .or a b=>B2 (aE a) (aE b)
 | .not a=>vf (aE a)
 | .own f n es=>rW n (Φ f) (dy es)
 | .bi b es=>kz b.fn (dy es)
 | .me m o es=>Do m.ty m.fn (aE o) (dy es)
 | .ix a b=>Jd (aE a) (aE b)
 | .sl a lo hi=>GV (aE a) (vp lo) (vp hi)
 | .tup es=>y6 (dy es)
 | .lst es=>y8 (dy es)
 | .isi c a=>zp c (aE a)
 | .neg a=>yW (aE a)
 | .dnew=>Dp
 | .disp es=>r0 (dy es)
 | .ite t a b=>B3 (du t) (aE a) (aE b)
 | .comp elt tg it cs cap=>lN (la it) (ik tg) (CA cs) (aE elt) cap
noncomputable def du:E->FT
 | .cmp o a b=>yY (BY o (aE a) (aE b))
 | .and a b=>yZ (du a) (du b)
 | .or a b=>GQ (du a) (du b)
 | .not a=>BZ (du a)
 | .c w=>gY (fC w)
 | .v i=>gY (fV i)
 | .op o a b=>gY (BX (gf o) (aE a) (aE b))
 | .own f n es=>gY (rW n (Φ f) (dy es))
 | .bi b es=>gY (kz b.fn (dy es))
 | .me m o es=>gY (Do m.ty m.fn (aE o) (dy es))
 | .ix a b=>gY (Jd (aE a) (aE b))
 | .sl a lo hi=>gY (GV (aE a) (vp lo) (vp hi))
 | .tup es=>gY (y6 (dy es))
 | .lst es=>gY (y8 (dy es))
 | .isi c a=>gY (zp c (aE a))
 | .neg a=>gY (yW (aE a))
 | .dnew=>λ_ _=>gV
 | .disp _=>λ_ _=>gV
 | .ite _ _ _=>λ_ _=>gV
 | .comp _ _ _ _ _=>λ_ _=>gV
noncomputable def dy:Es->FA
 | .nil=>iI
 | .cons e es=>eN (aE e) (dy es)
noncomputable def CA:Es->FT
 | .nil=>Dq
 | .cons e .nil=>du e
 | .cons _ (.cons _ _)=>λ_ _=>gV
noncomputable def vp:Ep->FO
 | .no=>ER
 | .yes e=>vh (aE e)
noncomputable def la:Ie->FI
 | .seq e=>fU (aE e)
 | .rng es=>uc (dy es)
 | .zip es=>Cy (dy es)
 | .rng2 es=>iRng2 (dy es)
end
variable (fuel:Kk)
mutual
noncomputable def gN:Sm->FS
 | .set i e=>lM (aE Φ e) (Ci i)
 | .asg is e=>lM (aE Φ e) (EW is)
 | .par i j es=>Ck i j (dy Φ es)
 | .put o k e=>lM (aE Φ e) (Cj (aE Φ o) (aE Φ k))
 | .ex e=>Cc (aE Φ e)
 | .ret e=>Cf (aE Φ e)
 | .retN=>λ_ S=>ba (.rt .non,S)
 | .pass=>zh
 | .brk=>λρ S=>ba (.bk ρ,S)
 | .cont=>λρ S=>ba (.ct ρ,S)
 | .bad=>λ_ _=>gV
 | .ite t a b=>Ch (du Φ t) (gq a) (gq b)
 | .whl t b=>pZ (du Φ t) (gq b) fuel
 | .loop tg it b=>zn (la Φ it) (ik tg) (gq b)
noncomputable def gq:Ss->FS
 | .nil=>λρ S=>ba (.nx ρ,S)
 | .cons s ss=>B9 (gN s) (gq ss)
end
end
structure Gam where
 sc:J9 (KF×Mm)
 N:J9 KF
 fns:J9 (KF×Kk)
 blt:J9 KF
 dfn:KP
noncomputable def E6:Ki Mm->KP
 | some .local=>true|some .cell=>true|some .free=>true|_=>false
noncomputable def CB:Ki Mm->KP
 | some .cell=>true|some .free=>true|_=>false
noncomputable def gr (names outer:J9 (KF×Mm)):J9 (KF×Mm):=names.map λ(n,k)=>if (k==.free&&outer.lookup n==ba .cell)then(n,.cell)else(n,k)
noncomputable def slot (Γ:Gam)(x:KF):Ki Kk:=if E6 (Γ.sc.lookup x) && !(x==("__debug__" : KF)) && !(x==("__classdict__" : KF))then Γ.N.findIdx? (· == x)else gV
noncomputable def vt:Rc->Ki BOp
 | .Add=>ba .add|.Sub=>ba .sub|.Mult=>ba .mul|.FloorDiv=>ba .fdiv|.Mod=>ba .mod|.Pow=>ba .pow|_=>gV
noncomputable def vw:SY->Ki COp
 | .Eq=>ba .eq|.NotEq=>ba .ne|.Lt=>ba .lt|.LtE=>ba .le|.Gt=>ba .gt|.GtE=>ba .ge|.In=>ba .isin|.NotIn=>ba .notin|.Is=>ba .is|.IsNot=>ba .isnot
noncomputable def CC (x:KF):Ki Bi:=[Bi.len,.list,.tuple,.int,.set,.sorted,.range,.all,.min].find? λb=>b.name==x
noncomputable def CD (x:KF):Ki Me:=[Me.append,.extend,.join,.pop,.get,.clear].find? λb=>b.name==x
noncomputable def G7 (Γ:Gam)(x:KF):KP:=Γ.sc.lookup x==ba .globalImplicit && !(x==("__debug__" : KF))
noncomputable def zz (x:KF):Ki LN:=if x==("bool" : KF)then ba "bool" else if x==("int" : KF)then ba "int" else if x==("str" : KF)then ba "str" else if x==("tuple" : KF)then ba "tuple" else if x==("list" : KF)then ba "list" else if x==("dict" : KF)then ba "dict" else gV
noncomputable def vx:J9 (Ki KN)->J9 KN->J9 KN
 | some k::ks,v::vs=>k::v::vx ks vs
 | _,_=>[]
noncomputable def CF (Γ:Gam)(f:KN->Ki E):J9 KN->Ki E
 | [a,.Name c _]=>if G7 Γ c&&Γ.blt.contains c then match zz c,f a with
  | some cs,ba a'=>ba (.isi cs a')
  | _,_=>gV
  else gV
 | _=>gV
noncomputable def eB:KN->KP
 | .Name _ _=>true|.Constant _ _ _=>true|.Subscript _ _ _=>true|_=>false
noncomputable def mW (Γ:Gam)(x:KF):KP:=Γ.sc.lookup x==ba .globalImplicit && !(x==("__debug__" : KF))
noncomputable def dB (Γ:Gam)(x:KF):Ki Kk:=if (Γ.sc.lookup x==ba .local)||(Γ.dfn&&Γ.sc.lookup x==ba .cell)then Γ.N.findIdx? (· == x)else gV
noncomputable def cA (f:KN->Ki E)(es:J9 KN):Ki Es:=es.foldr (λe acc=>match f e,acc with|some e',ba es'=>ba (.cons e' es')|_,_=>gV) (ba .nil)
noncomputable def cB (f:KN->Ki E)(op:T0):J9 KN->Ki E
 | []=>gV
 | [a]=>f a
 | a::b::bV=>match f a,cB f op (b::bV)with
  | some a',ba b'=>ba (match op with|.And=>.and a' b'|.Or=>.or a' b')
  | _,_=>gV
noncomputable def cP (f:KN->Ki E):Ki KN->Ki Ep
 | none=>ba .no
 | some e=>(f e).map .yes
noncomputable def isTup:KN->KP
 | .Tuple _ _ _=>true
 | _=>false
noncomputable def cI (Γ:Gam)(f:KN->Ki E)(tg:KN):KN->Ki Ie
 | .Call (.Name x p) [a] [] q=>if x==("range" : KF)&&mW Γ x&&Γ.blt.contains x then(cA f [a]).map .rng else(f (.Call (.Name x p) [a] [] q)).map .seq
 | .Call (.Name x p) [a,b] [] q=>if x==("zip" : KF)&&mW Γ x&&Γ.blt.contains x&&isTup tg then(cA f [a,b]).map .zip else if x==("range" : KF)&&mW Γ x&&Γ.blt.contains x then(cA f [a,b]).map .rng2 else(f (.Call (.Name x p) [a,b] [] q)).map .seq
 | e=>(f e).map .seq
noncomputable def F3 (Γ:Gam):J9 KN->Ki (J9 Kk)
 | []=>ba []
 | .Name x _::ts=>match dB Γ x,F3 Γ ts with
  | some i,ba is=>ba (i::is)
  | _,_=>gV
 | _::_=>gV
noncomputable def cT (Γ:Gam):KN->Ki Tg
 | .Name x _=>(dB Γ x).map .nm
 | .Tuple ts _ _=>(F3 Γ ts).map .tp
 | _=>gV
noncomputable def im (names:J9 (KF×Mm)):J9 KF:=(names.filter λp=>p.2==.local||p.2==.free).map (·.1)
noncomputable def gO (Γ:Gam)(names:J9 (KF×Mm)):J9 (Ki Kk):=(im names).map λx=>if names.lookup x==ba .local then gV else Γ.N.findIdx? (· == x)
noncomputable def zA (Γ:Gam)(scope:Nz):KP:=
 (scope.kind==.function)&&scope.names.all (λy=>!(y.2==.local)||scope.names.lookup y.1==ba .local)&&scope.names.all (λy=>!(y.2==.cell)) &&
 scope.names.all (λy=>!(y.2==.free)||(CB (Γ.sc.lookup y.1)&&scope.names.lookup y.1==ba .free&&(Γ.N.findIdx? (· == y.1)).isSome))&&decide (im scope.names).Nodup
noncomputable def io (Γ:Gam)(scope:Nz):Gam:={ Γ with sc:=gr scope.names Γ.sc,N:=im scope.names,dfn:=false }
noncomputable def zB (f:KN->Ki E)(keys:J9 (Ki KN))(values:J9 KN):Ki E:=
 if keys.isEmpty&&values.isEmpty then ba .dnew
 else if keys.all (·.isSome)&&decide (keys.length=values.length)&&decide (keys.length<=15)then(cA f (vx keys values)).map .disp else gV
noncomputable def cE:Kk->Gam->KN->Ki E
 | 0,_,_=>gV
 | n+1,Γ,e=>match e with
  | .Constant (.int i) _ _=>ba (.c (.int i))
  | .Constant (.str x) _ _=>ba (.c (.str x))
  | .Constant (.bool b) _ _=>ba (.c (.bl b))
  | .Constant .none _ _=>ba (.c .non)
  | .Name x _=>match slot Γ x with
   | some i=>ba (.v i)
   | none=>gV
  | .BinOp a op b _=>match vt op,cE n Γ a,cE n Γ b with
   | some o,ba a',ba b'=>ba (.op o a' b')
   | _,_,_=>gV
  | .UnaryOp .Not a _=>(cE n Γ a).map .not
  | .UnaryOp .USub a _=>(cE n Γ a).map .neg
  | .BoolOp op vs _=>cB (cE n Γ) op vs
  | .Compare a [op] [b] _=>match vw op,cE n Γ a,cE n Γ b with
   | some o,ba a',ba b'=>ba (.cmp o a' b')
   | _,_,_=>gV
  | .IfExp t a b _=>match cE n Γ t,cE n Γ a,cE n Γ b with
   | some t',ba a',ba b'=>ba (.ite t' a' b')
   | _,_,_=>gV
  | .Call (.Name f _) args [] _=>if mW Γ f then match Γ.fns.lookup f with
    | some k=>(cA (cE n Γ) args).map (.own f k)
    | none=>if f==("isinstance" : KF)then(if Γ.blt.contains f then CF Γ (cE n Γ) args else gV)else match CC f,args with
     | some b,a::as=>if Γ.blt.contains f then(cA (cE n Γ) (a::as)).map (.bi b)else gV
     | _,_=>gV
   else gV
  | .Call (.Attribute o m apos) [] [] cpos=>if (m==("clear" : KF))&&eB o&&(apos.endLine==cpos.line)then(cE n Γ o).map λo'=>.me .clear o' .nil else gV
  | .Call (.Attribute o m apos) (a::as) [] cpos=>match CD m,cE n Γ o,cA (cE n Γ) (a::as)with
   | some m',ba o',ba es=>if eB o&&(apos.endLine==cpos.line)&&decide ((a::as).length < 29)then ba (.me m' o' es)else gV
   | _,_,_=>gV
  | .Subscript a (.Slice lo hi gV _) _=>match cE n Γ a,cP (cE n Γ) lo,cP (cE n Γ) hi with
   | some a',ba lo',ba hi'=>ba (.sl a' lo' hi')
   | _,_,_=>gV
  | .Subscript a b _=>match cE n Γ a,cE n Γ b with
   | some a',ba b'=>ba (.ix a' b')
   | _,_=>gV
  | .Tuple es _ _=>(cA (cE n Γ) es).map .tup
  | .List es _=>(cA (cE n Γ) es).map .lst
  | .Dict keys values _=>zB (cE n Γ) keys values
  | .ListComp elt [⟨tg,iter,ifs,asy⟩] scope _=>if (asy==0)&&(zA Γ scope&&decide (ifs.length<=1))then
    match cI Γ (cE n Γ) tg iter,cT (io Γ scope) tg,cA (cE n (io Γ scope)) ifs,cE n (io Γ scope) elt with
    | some it,ba t,ba cs,ba el=>ba (.comp el t it cs (gO Γ scope.names))
    | _,_,_,_=>gV
   else gV
  | _=>gV
structure CtxOk (Φ:KF->FF)(X:Cx)(Γ:Gam):Prop where
 names:X.env.scope.names=Γ.sc
 kind:X.env.scope.kind=.function
 N:X.N=Γ.N
 nd:Γ.N.Nodup
 calm:X.calm=true
 xe:X.xe=λ_ _=>LL
 un:X.A.units+iC < cLine
 dfn:Γ.dfn=true->∀x,X.fn x=true
 blt:∀x∈Γ.blt,X.mg x=gV
 fns:∀f n,Γ.fns.lookup f=ba n->∃k fa fd ps,FnOk X.prog X.w X.K X.mg X.base xG k fa fd ps (ze X.w X.K n (Φ f))/\Room k X.A/\X.mg f=ba (.ref fa)/\L0 X.K (.ref fa)=true/\Binds X.K fd ps []
theorem bj {α:Type}{x:α}{P:Prop}(h:(gV:Ki α)=ba x):P:=nomatch h
noncomputable def iK:KN->KP
 | .Starred _ _=>false
 | _=>true
theorem am {e:KN}{es:J9 KN}{env:Q9}(h:iK e=true):starEach (e::es) env=(false,eval e env)::starEach es env:=by
 cases e <;> first|rfl|cases h
theorem bB {env:Q9}{pos:MP}:∀ {es:J9 KN},es.all iK=true->(backTo pos (starEach es env)).any (·.1)=false
 | [],_=>rfl
 | e::es,h=>by
  rw[Lu,Kj]at h;rw[am h.1];show(false||(backTo pos (starEach es env)).any (·.1))=false
  rw[bB h.2];rfl
theorem r9 {env:Q9}{pos:MP}:∀ {es:J9 KN},es.all iK=true->(backTo pos (starEach es env)).all (λx=>!x.1)=true
 | [],_=>rfl
 | e::es,h=>by
  rw[Lu,Kj]at h;rw[am h.1];show(true&&(backTo pos (starEach es env)).all (λx=>!x.1))=true
  rw[r9 h.2];rfl
theorem jL {n:Kk}{Γ:Gam}{e:KN}{e':E}(h:cE n Γ e=ba e'):iK e=true:=by
 cases n with
 | zero=>cases h
 | succ n=>cases e <;> first|rfl|(exact bj h)
theorem je {f:KN->Ki E}{e:KN}{es:J9 KN}{r:Es}(h:cA f (e::es)=ba r):∃e' es',f e=ba e'/\cA f es=ba es'/\r=.cons e' es':=by
 simp only[cA,R6]at h;split at h
 ·rename_i e' es' h1 h2;cases h;exact⟨e',es',h1,h2,rfl⟩
 ·cases h
theorem cY {n:Kk}{Γ:Gam}:∀ {es:J9 KN} {r:Es},cA (cE n Γ) es=ba r->es.all iK=true
 | [],_,_=>rfl
 | e::es,r,h=>by
  obtain⟨e',es',h1,h2,_⟩:=je h;rw[Lu,jL h1,cY h2];rfl
theorem dQ {N:J9 KF}{x:KF}{i:Kk}(h:N.findIdx? (· == x)=ba i):N[i]?=ba x:=by
 obtain⟨hl,h1,_⟩:=List.findIdx?_eq_some_iff_getElem.mp h;rw[Ko hl];exact congrArg ba (eq_of_beq h1)
section
variable{Φ:KF->FF}{X:Cx}{Γ:Gam}
theorem lb {e:KN}:GT X e (λ_ _=>gV):=λpins s σ H Q I ⟨A,ρ,S,k,S',er,so,e1,hq⟩=>by cases e1
theorem zC {x:KF}(h:E6 (X.env.scope.names.lookup x)=true):HW X.env.scope x:=by
 unfold E6 at h;split at h
 ·exact .inl (by assumption)
 ·exact .inr (.inl (by assumption))
 ·exact .inr (.inr (by assumption))
 ·cases h
theorem zD (K:CtxOk Φ X Γ){x:KF}{pos:MP}{i:Kk}(h:slot Γ x=ba i):GE X (.Name x pos) (fV i):=by
 unfold slot at h;split at h
 ·rename_i hc;rw[Kj,Kj]at hc;obtain⟨⟨h1,h2⟩,h3⟩:=hc;refine Jc (xI (by rw[K.N]; exact dQ h) (zC (by rw[K.names]; exact h1)) (by simpa using h2) (by simpa using h3))
 ·cases h
theorem lP (K:CtxOk Φ X Γ){x:KF}(h:mW Γ x=true):Gl X x/\(x==("__debug__" : KF))=false:=by
 unfold mW at h;rw[Kj]at h;refine⟨?_,by simpa using h.2⟩
 show X.env.scope.names.lookup x=_;rw[K.names];exact eq_of_beq h.1
theorem zE {o:SY}{c:COp}(h:vw o=ba c):c.py=o:=by
 cases o <;> (simp only[vw,K2]at h; subst h; rfl)
theorem zF {o:Rc}{c:BOp}(h:vt o=ba c):c.py=o:=by
 cases o <;> simp only[vt,K2]at h <;> first|(subst h; rfl)|cases h
theorem xj {x:KF}{b:Bi}(h:CC x=ba b):b.name=x:=by
 have:=P7 h;exact eq_of_beq this
theorem xk {x:KF}{b:Me}(h:CD x=ba b):b.name=x:=by
 have:=P7 h;exact eq_of_beq this
theorem dZ {n:Kk}(ih:∀ {e:KN} {e':E},cE n Γ e=ba e'->GE X e (aE Φ e')):∀ {es:J9 KN} {r:Es},cA (cE n Γ) es=ba r->GA X es (dy Φ r)
 | [],r,h=>by cases h; exact EQ
 | e::es,r,h=>by
  obtain⟨e',es',h1,h2,rfl⟩:=je h;exact B4 (ih h1) (dZ ih h2) (am (jL h1))
theorem G8 (K:CtxOk Φ X Γ){n:Kk}{f:KF}{p pos:MP}{args:J9 KN}{k:Kk}{r:Es}(hg:mW Γ f=true)(hf:Γ.fns.lookup f=ba k)(ha:cA (cE n Γ) args=ba r)(h:GA X args (dy Φ r)):GE X (.Call (.Name f p) args [] pos) (rW k (Φ f) (dy Φ r)):=by
 obtain⟨d,fa,fd,ps,F,hr,hm,hk,hb⟩:=K.fns f k hf;obtain⟨g1,g2⟩:=lP K hg;cases args with
 | nil=>cases ha; exact B7 F hr g1 hm hk hb g2
 | cons a as=>
  have ns:=cY ha;rw[Lu,Kj]at ns;exact ET F hr g1 hm hk hb h g2 (am ns.1) (bB ns.2)
theorem Jf (K:CtxOk Φ X Γ){n:Kk}{f:KF}{p pos:MP}{a:KN}{as:J9 KN}{b:Bi}{r:Es}(hg:mW Γ f=true)(hb:CC f=ba b)(hc:Γ.blt.contains f=true)(ha:cA (cE n Γ) (a::as)=ba r)(h:GA X (a::as) (dy Φ r)):GE X (.Call (.Name f p) (a::as) [] pos) (kz b.fn (dy Φ r)):=by
 obtain⟨g1,g2⟩:=lP K hg;have hm:X.mg f=gV:=K.blt f (by simpa using hc)
 have ns:=cY ha;rw[Lu,Kj]at ns;have e:=xj hb;subst e;have hu:X.A.units+12 < cLine:=by have:=K.un; have:iC=20:=rfl; omega
 have calm:∀ {f:Kd} {g:J9 W->aa->Ki (W×aa)},(X.A.handled=gV->LCall X f g)->LCall X f g:=λh pins s σ H A S xs vs us w S' I=>h (I.ok.hd K.calm) pins s σ H A S xs vs us w S' I
 cases b with
 | len=>exact vg ue g1 hm PySem.boot_len h (by decide) g2 (am ns.1) (bB ns.2)
 | list=>exact rV (calm λhh=>r8 (rq hh) (rL hh)) g1 hm rfl h (by decide) g2 (am ns.1) (bB ns.2)
 | tuple=>exact rV (calm pY) g1 hm rfl h (by decide) g2 (am ns.1) (bB ns.2)
 | int=>exact rV wz g1 hm rfl h (by decide) g2 (am ns.1) (bB ns.2)
 | set=>exact rV (calm λhh=>t4 hh hu) g1 hm rfl h (by decide) g2 (am ns.1) (bB ns.2)
 | sorted=>exact vg (calm λhh=>r8 (rS hh hu) (pS hh hu)) g1 hm rfl h (by decide) g2 (am ns.1) (bB ns.2)
 | range=>exact rV rn g1 hm rfl h (by decide) g2 (am ns.1) (bB ns.2)
 | all=>exact vg (calm xf) g1 hm rfl h (by decide) g2 (am ns.1) (bB ns.2)
 | min=>exact vg (calm λhh=>xb hh hu) g1 hm rfl h (by decide) g2 (am ns.1) (bB ns.2)
theorem zG {x:KF}{c:LN}(h:zz x=ba c):bootBuiltins x=ba (.type c)/\x≠"__name__":=by
 unfold zz at h;split at h
 ·rename_i e; cases h; rw[eq_of_beq e]; exact⟨rfl,by decide⟩
 ·split at h
  ·rename_i e; cases h; rw[eq_of_beq e]; exact⟨rfl,by decide⟩
  ·split at h
   ·rename_i e; cases h; rw[eq_of_beq e]; exact⟨rfl,by decide⟩
   ·split at h
    ·rename_i e; cases h; rw[eq_of_beq e]; exact⟨rfl,by decide⟩
    ·split at h
     ·rename_i e; cases h; rw[eq_of_beq e]; exact⟨rfl,by decide⟩
     ·split at h
      ·rename_i e; cases h; rw[eq_of_beq e]; exact⟨rfl,by decide⟩
      ·cases h
theorem G9 (K:CtxOk Φ X Γ){n:Kk}{f:KF}{p pos:MP}{args:J9 KN}{r:E}(hg:mW Γ f=true)(hb:(f==("isinstance" : KF))=true)(hc:Γ.blt.contains f=true)(ih:∀ {e:KN} {e':E},cE n Γ e=ba e'->GE X e (aE Φ e'))(h:CF Γ (cE n Γ) args=ba r) :
  GE X (.Call (.Name f p) args [] pos) (aE Φ r)/\∃a c,r=.isi c a:=by
 obtain⟨g1,g2⟩:=lP K hg;have hm:X.mg f=gV:=K.blt f (by simpa using hc)
 have e:=eq_of_beq hb;subst e;unfold CF at h;split at h
 ·rename_i a c q;split at h
  ·rename_i hcc;rw[Kj]at hcc;obtain⟨g3,g4⟩:=lP K (x:=c) hcc.1;have hm2:X.mg c=gV:=K.blt c (by simpa using hcc.2)
   split at h
   ·rename_i cs a' h1 h2;cases h;obtain⟨b1,b2⟩:=zG h1;exact⟨E3 g1 hm g3 hm2 b1 b2 g4 (ih h2) (am (jL h2)),a',cs,rfl⟩
   ·cases h
  ·cases h
 ·cases h
theorem dC {o:KN}{name:KF}{env:Q9}(h:eB o=true):attributeBase o name env (eval o env)=eval o env:=by
 cases o <;> first|rfl|cases h
theorem vy {n:Kk}{pos:MP}(ih:∀ {e:KN} {e':E},cE n Γ e=ba e'->GE X e (aE Φ e')):∀(keys:J9 (Ki KN)) (values:J9 KN) {r:Es},keys.all (·.isSome)=true->keys.length=values.length->cA (cE n Γ) (vx keys values)=ba r->G1 X pos keys values (dy Φ r)
 | [],[],r,_,_,h=>by cases h; exact Cs
 | [],_::_,r,_,hl,_=>by cases hl
 | _::_,[],r,_,hl,_=>by cases hl
 | none::_,_::_,r,ha,_,_=>by cases ha
 | some k::ks,v::vs,r,ha,hl,h=>by
  dsimp only[vx]at h;obtain⟨e1,es1,h1,h2,rfl⟩:=je h;obtain⟨e2,es2,h3,h4,rfl⟩:=je h2;rw[Lu,Kj]at ha;exact zq (ih h1) (ih h3) (vy ih ks vs ha.2 (by simpa using hl) h4)
theorem Jg (K:CtxOk Φ X Γ){n:Kk}{m:KF}{apos cpos:MP}{o a:KN}{as:J9 KN}{b:Me}{o':E}{r:Es}(hm:CD m=ba b)(hr:eB o=true)(hl:(apos.endLine==cpos.line)=true)(hn:(a::as).length < 29)(ho:GE X o (aE Φ o'))(ha:cA (cE n Γ) (a::as)=ba r)(h:GA X (a::as) (dy Φ r)) :
  GE X (.Call (.Attribute o m apos) (a::as) [] cpos) (Do b.ty b.fn (aE Φ o') (dy Φ r)):=by
 have ns:=cY ha;have ns':=ns;rw[Lu,Kj]at ns;have kG:((backTo cpos (starEach (a::as) X.env)).all (λx=>!x.1)&&(backToKw cpos (keywordEach [] X.env)).all (λx=>x.1.isSome)&&decide ((a::as).length+([]:J9 R9).length+(if ([]:J9 R9).isEmpty then 0 else 1) < 30))=true:=by
  rw[r9 ns',OB,Kj];exact⟨rfl,L3 (by simp only[Mu,List.isEmpty_nil,L7]; omega)⟩
 have e:=xk hm;subst e;cases b with
 | append=>exact oG MG PySem.F.slot_list_append PySem.F.type_list_append pJ ho h (dC hr) kG hl (am ns.1) (bB ns.2)
 | extend=>exact oG MG PySem.F.slot_list_extend PySem.F.type_list_extend pK ho h (dC hr) kG hl (am ns.1) (bB ns.2)
 | join=>exact oG PySem.F.plainAttrs_str PySem.F.slot_str_join PySem.F.type_str_join tD ho h (dC hr) kG hl (am ns.1) (bB ns.2)
 | pop=>exact oG MG PySem.F.slot_list_pop PySem.F.type_list_pop wD ho h (dC hr) kG hl (am ns.1) (bB ns.2)
 | get=>exact oG PySem.F.plainAttrs_dict Qb PySem.F.type_dict_get (tM (by have:=K.un; have:iC=20:=rfl; omega)) ho h (dC hr) kG hl (am ns.1) (bB ns.2)
 | clear=>exact oG MG Pz PB kj ho h (dC hr) kG hl (am ns.1) (bB ns.2)
theorem sa {n:Kk}{Γ:Gam}{e:KN}{e':E}{op:SY}(h:cE n Γ e=ba e'):behindInMarks op e=false:=by
 cases n with
 | zero=>cases h
 | succ n=>cases e <;> first|rfl|(exact bj h)
theorem uh {n:Kk}{Γ:Gam}{e:KN}{e':E}(h:cE n Γ e=ba e'):pg e:=by
 cases n with
 | zero=>cases h
 | succ n=>cases e <;> first|(intro o i; rfl)|(exact bj h)
theorem p7 {n:Kk}{Γ:Gam}{f:KN->Ki E}{e:KN}{i:Ie}{env:Q9}{tg:KN}(hf:∀el k p,f (.Set el k p)=gV)(h:cI Γ f tg e=ba i):∀x,foldedSetIterable e env x=pure x:=by
 intro x;cases e <;> first|rfl|(simp[cI,hf]at h)
theorem p8 {n:Kk}{op:T0}{pos:MP}(ih:∀ {e:KN} {e':E},cE n Γ e=ba e'->GE X e (aE Φ e')):∀ {vs:J9 KN} {r:E},cB (cE n Γ) op vs=ba r->GE X (.BoolOp op vs pos) (aE Φ r)
 | [],r,h=>by cases h
 | [a],r,h=>EL (ih h)
 | a::b::bV,r,h=>by
  simp only[cB]at h;split at h
  ·rename_i a' b' h1 h2;cases h;cases op with
   | And=>exact EM (ih h1) (p8 ih h2)
   | Or=>exact GU (ih h1) (p8 ih h2)
  ·cases h
theorem p9 {n:Kk}{op:T0}{pos:MP}(ih:∀ {e:KN} {e':E},cE n Γ e=ba e'->GT X e (du Φ e')):∀ {vs:J9 KN} {r:E},cB (cE n Γ) op vs=ba r->GW X (.BoolOp op vs pos) (du Φ r)
 | [],r,h=>by cases h
 | [a],r,h=>by
  cases op with
  | And=>exact B1 (ih h)
  | Or=>exact EI (ih h)
 | a::b::bV,r,h=>by
  simp only[cB]at h;split at h
  ·rename_i a' b' h1 h2;cases h;cases op with
   | And=>exact EJ (ih h1) (p9 ih h2)
   | Or=>exact GR (ih h1) (p9 ih h2)
  ·cases h
theorem zH {n:Kk}(ih:∀ {e:KN} {e':E},cE n Γ e=ba e'->GE X e (aE Φ e')){o:Ki KN}{p:Ep}(h:cP (cE n Γ) o=ba p):GO X o (vp Φ p):=by
 cases o with
 | none=>cases h; exact B5
 | some e=>
  simp only[cP,Kf]at h;obtain⟨e',h1,rfl⟩:=h;exact B6 (ih h1)
theorem uj (K:CtxOk Φ X Γ){n:Kk}(ih:∀ {e:KN} {e':E},cE n Γ e=ba e'->GE X e (aE Φ e')){tg e:KN}{i:Ie}(h:cI Γ (cE n Γ) tg e=ba i):GI X tg e (la Φ i):=by
 have gen:(cE n Γ e).map Ie.seq=ba i->GI X tg e (la Φ i):=λh=>by
  rw[Kf]at h;obtain⟨e',h1,rfl⟩:=h;exact Cv (ih h1)
 unfold cI at h;split at h
 ·rename_i x p a pos;split at h
  ·rename_i hc;rw[Kj,Kj]at hc;obtain⟨⟨h1,h2⟩,h3⟩:=hc;have hx:=eq_of_beq h1;subst hx;rw[Kf]at h;obtain⟨r,hr,rfl⟩:=h;have ns:=cY hr;rw[Lu,Kj]at ns;exact Cp (lP K h2).1 (K.blt _ (by simpa using h3)) (dZ ih hr) (am ns.1)
  ·exact gen h
 ·rename_i x p a b pos;split at h
  ·rename_i hc;rw[Kj,Kj,Kj]at hc;obtain⟨⟨⟨h1,h2⟩,h3⟩,h4⟩:=hc;have hx:=eq_of_beq h1;subst hx;rw[Kf]at h;obtain⟨r,hr,rfl⟩:=h;have ns:=cY hr;rw[Lu,Lu,Kj,Kj]at ns;cases tg with
   | Tuple els k0 tp=>exact E5 (lP K h2).1 (K.blt _ (by simpa using h3)) (dZ ih hr) (by rw[am ns.1,am ns.2.1]; rfl) (am ns.2.1)
   | _=>cases h4
  ·split at h
   ·rename_i hc;rw[Kj,Kj]at hc;obtain⟨⟨h1,h2⟩,h3⟩:=hc;have hx:=eq_of_beq h1;subst hx;rw[Kf]at h;obtain⟨r,hr,rfl⟩:=h;have ns:=cY hr;rw[Lu,Lu,Kj,Kj]at ns;exact Cq (lP K h2).1 (K.blt _ (by simpa using h3)) (dZ ih hr) (by rw[am ns.1,am ns.2.1]; rfl) (am ns.2.1)
   ·exact gen h
 ·exact gen h
theorem qa (K:CtxOk Φ X Γ){x:KF}{i:Kk}(h:dB Γ x=ba i):X.N[i]?=ba x/\Bb X.env.scope x/\(X.fn x=true\/X.env.scope.names.lookup x=ba .local):=by
 unfold dB at h;split at h
 ·rename_i hc;refine⟨by rw[K.N]; exact dQ h,?_⟩
  unfold L2.Bb;rw[K.names];rw[Mc,Kj]at hc;rcases hc with hc|⟨hd,hc⟩
  ·have:=eq_of_beq hc;exact⟨.inl this,.inr this⟩
  ·exact⟨.inr (eq_of_beq hc),.inl (K.dfn hd x)⟩
 ·cases h
theorem sd (K:CtxOk Φ X Γ):∀ {ts:J9 KN} {is:J9 Kk},F3 Γ ts=ba is->(∀x∈ts,∃y p,x=QA y p)/\PH (λ(t:KN) (i:Kk)=>∃x p,t=QA x p/\X.N[i]?=ba x/\Bb X.env.scope x/\(X.fn x=true\/X.env.scope.names.lookup x=ba .local)) ts is
 | [],is,h=>by cases h; exact⟨λx hx=>by simp at hx,.nil⟩
 | t::ts,is,h=>by
  cases t with
  | Name x p=>
   dsimp only[F3]at h;split at h
   ·rename_i i is' h1 h2;cases h;obtain⟨a,b⟩:=sd K h2;exact⟨λy hy=>(KL.mp hy).elim (λe=>⟨x,p,e⟩) (a y),.cons ⟨x,p,rfl,qa K h1⟩ b⟩
   ·cases h
  | _=>cases h
theorem iL {env:Q9}:∀ {ts:J9 KN},(∀x∈ts,∃y p,x=QA y p)->(assignEach ts env).length=ts.length/\(assignEach ts env).findIdx? (·.1)=gV
 | [],_=>⟨rfl,rfl⟩
 | t::ts,h=>by
  obtain⟨y,p,rfl⟩:=h t LM;obtain⟨a,b⟩:=iL (env:=env) λx hx=>h x (LD _ hx)
  refine⟨by show(assignEach ts env).length+1=ts.length+1; rw[a],?_⟩
  show List.findIdx? (·.1) ((false,assign (.Name y p) env)::assignEach ts env)=gV
  rw[List.findIdx?_cons,b];rfl
theorem vz (K:CtxOk Φ X Γ){tg:KN}{t:Tg}(h:cT Γ tg=ba t):GG X tg (ik t):=by
 have hN:X.N.Nodup:=by rw[K.N]; exact K.nd
 cases tg with
 | Name x p=>
  dsimp only[cT]at h; simp only[Kf]at h
  obtain⟨i,h1,rfl⟩:=h;obtain⟨a,b,c⟩:=qa K h1;exact vk hN a b c
 | Tuple ts k p=>
  dsimp only[cT]at h; simp only[Kf]at h
  obtain⟨is,h1,rfl⟩:=h;obtain⟨a,b⟩:=sd K h1;exact EX K.calm a b hN (iL a).1 (iL a).2
 | _=>cases h
end
noncomputable def fu (env:Q9):J9 (KF×Mm)->J9 (KF×Kl)->J9 (KF×Kl)
 | [],cs=>cs
 | (n,k)::r,cs=>fu env r (if k==.free then(n,(env.cells.lookup n).getD 0)::cs else cs)
theorem jM {env:Q9}:∀(names:J9 (KF×Mm)) (cs:J9 (KF×Kl)),(∀y∈names,y.2=.free->(env.cells.lookup y.1).isSome=true)->
  (forIn names cs λx r=>match x with|(name,kind)=>if (kind==N3)=true then do let a <- cellOf env name; pure (Mf ((name,a)::r))else pure (Mf r):Tp (J9 (KF×Kl)))=pure (fu env names cs)
 | [],cs,_=>by rw[Qq]; rfl
 | (n,k)::r,cs,h=>by
  rw[OE];have hr:=λy hy=>h y (LD _ hy)
  by_cases hk:(k==N3)=true
  ·obtain⟨c,hc⟩:=Lq.mp (h (n,k) LM (eq_of_beq hk));have e1:cellOf env n=pure c:=by unfold cellOf; rw[hc]
   simp only[hk,L7,e1,pure_bind];rw[jM r _ hr];simp only[fu,hk,L7,hc,RL]
  ·have hk':(k==N3)=false:=by simpa using hk
   simp only[hk',KO,LH,pure_bind];rw[jM r _ hr];simp only[fu,hk',KO,LH]
theorem kF {scope:Nz}{env:Q9}(h:∀y∈scope.names,y.2=.free->(env.cells.lookup y.1).isSome=true):closureFor scope env=pure (fu env scope.names []):=by
 have:=jM scope.names [] h;unfold closureFor;simp only[this,pure_bind]
theorem lQ {env:Q9}:∀(names:J9 (KF×Mm)) (cs:J9 (KF×Kl)),(∀y∈names,y.2=.free->(env.cells.lookup y.1).isSome=true)->(∀x c,cs.lookup x=ba c->env.cells.lookup x=ba c)->
  ∀x c,(fu env names cs).lookup x=ba c->env.cells.lookup x=ba c
 | [],cs,_,h,x,c,e=>h x c e
 | (n,k)::r,cs,hn,h,x,c,e=>by
  refine lQ r _ (λy hy=>hn y (LD _ hy)) (λx c e=>?_) x c e
  split at e
  ·rename_i hk;rw[Mo]at e;split at e
   ·rename_i hx;cases e;have:=eq_of_beq hx;subst this;obtain⟨c,hc⟩:=Lq.mp (hn (x,k) LM (eq_of_beq hk));rw[hc]; rfl
   ·exact h x c e
  ·exact h x c e
theorem kA {env:Q9}{x:KF}:∀(names:J9 (KF×Mm)) (cs:J9 (KF×Kl)),(∃c,cs.lookup x=ba c)->∃c,(fu env names cs).lookup x=ba c
 | [],cs,h=>h
 | (n,k)::r,cs,h=>by
  refine kA r _ ?_;split
  ·rw[Mo];split
   ·exact⟨_,rfl⟩
   ·exact h
  ·exact h
theorem lR {env:Q9}{x:KF}:∀(names:J9 (KF×Mm)) (cs:J9 (KF×Kl)),(x,N3)∈names->∃c,(fu env names cs).lookup x=ba c
 | [],cs,h=>by simp at h
 | (n,k)::r,cs,h=>by
  rcases KL.mp h with e|h
  ·cases e;refine kA r _ ?_;simp[Mo]
  ·exact lR r _ h
theorem lS {x:KF}{k:Mm}:∀ {l:J9 (KF×Mm)},l.lookup x=ba k->(x,k)∈l
 | [],h=>by simp at h
 | (n,j)::r,h=>by
  rw[Mo]at h;split at h
  ·rename_i hx;cases h;have:=eq_of_beq hx;subst this;exact LM
  ·exact LD _ (lS h)
theorem fw {X:Cx}{Φ:KF->FF}{Γ:Gam}(K:CtxOk Φ X Γ)(scope:Nz):(relabel scope X.env).names=gr scope.names Γ.sc:=by
 unfold relabel gr PU;rw[K.kind,K.names];refine LO λ⟨n,k⟩ _=>?_
 have e:(Q6==Q6)=true:=rfl;simp only[e,N1]
theorem eP {outer:J9 (KF×Mm)}{x:KF}:∀ {names:J9 (KF×Mm)},(gr names outer).lookup x=(names.lookup x).map λk=>if (k==.free&&outer.lookup x==ba .cell)then .cell else k
 | []=>rfl
 | (n,k)::r=>by
  have ih:=eP (outer:=outer) (x:=x) (names:=r);show List.lookup x ((if (k==N3&&outer.lookup n==ba .cell)=true then(n,Us)else(n,k))::gr r outer)=_
  cases hx:x==n with
  | true=>
   have:=eq_of_beq hx;subst this;simp only[Mo,Lp,Ld];split <;> simp[Mo]
  | false=>
   simp only[Mo,hx];split <;> (simp only[Mo,hx]; exact ih)
section
variable{Φ:KF->FF}{X:Cx}{Γ:Gam}
structure ScOk (Γ:Gam)(scope:Nz):Prop where
 kind:scope.kind=.function
 names:∀y∈scope.names,y.2=.local->scope.names.lookup y.1=ba .local
 nocell:∀y∈scope.names,y.2≠.cell
 free:∀y∈scope.names,y.2=.free->CB (Γ.sc.lookup y.1)=true/\scope.names.lookup y.1=ba .free/\(Γ.N.findIdx? (· == y.1)).isSome=true
 nd:(im scope.names).Nodup
theorem vA {scope:Nz}(h:zA Γ scope=true):ScOk Γ scope:=by
 unfold zA at h;rw[Kj,Kj,Kj,Kj]at h;obtain⟨⟨⟨⟨h1,h2⟩,h3⟩,h4⟩,h5⟩:=h;refine⟨eq_of_beq h1,λy hy e=>?_,λy hy e=>?_,λy hy e=>?_,Lm h5⟩
 ·have:=KH.mp h2 y hy;rw[e]at this
  simpa using this
 ·have:=KH.mp h3 y hy;rw[e]at this;simp at this
 ·have:=KH.mp h4 y hy;rw[e]at this;simp only[Lp,M7,Po,Kj]at this;exact⟨this.1.1,eq_of_beq this.1.2,this.2⟩
theorem vB {o:Ki Mm}(h:CB o=true):o=ba .cell\/o=ba .free:=by
 unfold CB at h;split at h
 ·exact .inl rfl
 ·exact .inr rfl
 ·cases h
theorem oK (K:CtxOk Φ X Γ)(ok:X.Ok){scope:Nz}(sc:ScOk Γ scope):CompOk X scope (fu X.env scope.names []) (im scope.names) (gO Γ scope.names):=by
 have cells:∀y∈scope.names,y.2=.free->(X.env.cells.lookup y.1).isSome=true:=λy hy e=>by
  have hk:=vB (sc.free y hy e).1;obtain⟨c,hc⟩:=ok.has y.1 (by unfold PU; rw[K.names]; exact hk)
  rw[hc]; rfl
 have relab:∀x,((relabel scope X.env).names.lookup x=ba .cell\/(relabel scope X.env).names.lookup x=ba .free)->(x,N3)∈scope.names:=λx h=>by
  rw[fw K,eP]at h;cases q:scope.names.lookup x with
  | none=>rw[q]at h; rcases h with h|h <;> cases h
  | some k=>
   rw[q]at h;have hm:=lS q;cases k with
   | free=>exact hm
   | cell=>exact absurd rfl (sc.nocell _ hm)
   | _=>rcases h with h|h <;> simp at h
 refine⟨kF cells,sc.kind,sc.names,sc.nocell,lQ _ _ cells (λx c e=>by cases e),λx h=>lR _ _ (relab x h),by simp[gO],λi j x hi hx=>?_⟩
 unfold gO at hi;rw[Km,hx]at hi;simp only[Ld,K2]at hi;split at hi
 ·cases hi
 ·rename_i hl;have hx2:x∈im scope.names:=Kt hx;unfold im at hx2;obtain⟨⟨x',k⟩,hf,e⟩:=Kw.mp hx2;obtain⟨hm,hk⟩:=Ma.mp hf;have e':x'=x:=e;subst e';have hkf:k=.free:=by
   simp only[Mc]at hk;rcases hk with hk|hk
   ·have:k=.local:=eq_of_beq hk;subst this;have:=sc.names (x',.local) hm rfl;rw[this]at hl;simp at hl
   ·exact eq_of_beq hk
  subst hkf;obtain⟨f1,f2,f3⟩:=sc.free _ hm rfl;refine⟨by rw[K.N]; exact dQ hi,by unfold PU; rw[K.names]; exact vB f1,?_⟩
  rw[fw K,eP,f2];simp only[Ld,K2,Lp,OB];split
  ·exact .inl rfl
  ·exact .inr rfl
theorem fE (K:CtxOk Φ X Γ){scope:Nz}(sc:ScOk Γ scope)(C:Kl)(s0:Kg)(H0:Hp)(ex:J9 Kl):CtxOk Φ (mR X scope (fu X.env scope.names []) C (im scope.names) s0 H0 ex) (io Γ scope) where
 names:=fw K scope
 kind:=sc.kind
 N:=rfl
 nd:=sc.nd
 calm:=K.calm
 xe:=rfl
 un:=K.un
 dfn:=λh=>by cases h
 blt:=K.blt
 fns:=K.fns
theorem sf {cs:Es}{n:Kk}{ifs:J9 KN}{Γ:Gam}(hl:ifs.length<=1)(hc:cA (cE n Γ) ifs=ba cs){Y:Cx}(ih:∀ {e:KN} {e':E},cE n Γ e=ba e'->GT Y e (du Φ e'))(hx:Y.xe=λ_ _=>LL) :
  ∀pins s σ H Q,Inv Y pins σ H s->tT Y (CA Φ cs) σ H Q->
  wpAny (model Y.prog Y.w) Y.A (forIn ifs true λc r=>if r=true then do let ok <- isTrue c Y.env (eval c Y.env); pure (Mf ok)else pure (Mf r)) (TP Y pins σ Q) (λ_ _=>LL) s:=by
 intro pins s σ H Q I h
 match ifs,hl,hc with
 | [],_,hc=>
  cases hc;obtain⟨A,ρ,S,k,S',er,so,e,hq⟩:=h;cases e;exact wpAny_tests_nil ⟨H,I,hq _ _ ⟨rfl,A,.refl,so⟩⟩
 | [c],_,hc=>
  obtain⟨e',es',h1,h2,rfl⟩:=je hc;cases h2;have:=ih h1 pins s σ H Q I h;rw[hx]at this;exact wpAny_tests_one this
theorem cm:∀(n:Kk) {Γ:Gam} {X:Cx} {e:KN} {e':E},CtxOk Φ X Γ->cE n Γ e=ba e'->GE X e (aE Φ e')/\GT X e (du Φ e'):=by
 intro n
 induction n with
 | zero=>intro Γ X e e' K h; cases h
 | succ n ih=>
  intro Γ X e e' K h;have ihE:∀ {e:KN} {e':E},cE n Γ e=ba e'->GE X e (aE Φ e'):=λq=>(ih K q).1
  have ihT:∀ {e:KN} {e':E},cE n Γ e=ba e'->GT X e (du Φ e'):=λq=>(ih K q).2
  have hu10:X.A.units+10 < cLine:=by have:=K.un; have:iC=20:=rfl; omega
  cases e with
  | Constant c k p=>
   cases c <;> cases h
   all_goals first
    | exact⟨rT xK (λ_ _=>.non),cH (rT xK (λ_ _=>.non)) λ_=>rfl⟩
    | exact⟨rT Dg (λ_ _=>.bl),cH (rT Dg (λ_ _=>.bl)) λ_=>rfl⟩
    | exact⟨rT xJ (λ_ _=>.int),cH (rT xJ (λ_ _=>.int)) λ_=>rfl⟩
    | exact⟨rT xL (λ_ _=>.str),cH (rT xL (λ_ _=>.str)) λ_=>rfl⟩
  | Name x p=>
   replace h:(match slot Γ x with|some i=>ba (E.v i)|none=>gV)=ba e':=h
   split at h
   ·rename_i i h1;cases h;exact⟨zD K h1,cH (zD K h1) λ_=>rfl⟩
   ·cases h
  | BinOp a op b p=>
   replace h:(match vt op,cE n Γ a,cE n Γ b with|some o,ba a',ba b'=>ba (E.op o a' b')|_,_,_=>gV)=ba e':=h
   split at h
   ·rename_i o a' b' h1 h2 h3;cases h;have e:=zF h1;subst e;exact⟨Dm (uO o) (ihE h2) (ihE h3),cH (Dm (uO o) (ihE h2) (ihE h3)) λ_=>rfl⟩
   ·cases h
  | UnaryOp op a p=>
   cases op with
   | Not=>
    replace h:(cE n Γ a).map E.not=ba e':=h;rw[Kf]at h;obtain⟨a',h1,rfl⟩:=h;exact⟨EN (ihE h1),EK (ihT h1)⟩
   | USub=>
    replace h:(cE n Γ a).map E.neg=ba e':=h;rw[Kf]at h;obtain⟨a',h1,rfl⟩:=h;exact⟨yX (ihE h1),cH (yX (ihE h1)) λ_=>rfl⟩
   | _=>exact bj h
  | BoolOp op vs p=>
   replace h:cB (cE n Γ) op vs=ba e':=h;exact⟨p8 ihE h,(p9 ihT h).pt⟩
  | Compare a ops cs p=>
   match ops,cs,h with
   | [op],[b],h=>
    replace h:(match vw op,cE n Γ a,cE n Γ b with|some o,ba a',ba b'=>ba (E.cmp o a' b')|_,_,_=>gV)=ba e':=h
    split at h
    ·rename_i o a' b' h1 h2 h3;cases h;have e:=zE h1;subst e;exact⟨EG K.un (ihE h2) (ihE h3) (sa h3),EH K.un (ihE h2) (ihE h3) (sa h3)⟩
    ·cases h
   | [],_,h=>exact bj h
   | [_],[],h=>exact bj h
   | [_],_::_::_,h=>exact bj h
   | _::_::_,_,h=>exact bj h
  | IfExp t a b p=>
   replace h:(match cE n Γ t,cE n Γ a,cE n Γ b with|some t',ba a',ba b'=>ba (E.ite t' a' b')|_,_,_=>gV)=ba e':=h
   split at h
   ·rename_i t' a' b' h1 h2 h3;cases h;exact⟨EO (ihT h1) (ihE h2) (ihE h3),lb⟩
   ·cases h
  | Call f args kws p=>
   cases kws with
   | cons _ _=>cases f <;> first|(exact bj h)|(cases args <;> (exact bj h))
   | nil=>
    cases f with
    | Name x q=>
     replace h:(if mW Γ x then match Γ.fns.lookup x with|some k=>(cA (cE n Γ) args).map (E.own x k)|none=>if x==("isinstance" : KF)then(if Γ.blt.contains x then CF Γ (cE n Γ) args else gV)else match (generalizing:=false) CC x,args with|some b,a::as=>if Γ.blt.contains x then(cA (cE n Γ) (a::as)).map (E.bi b)else gV|_,_=>gV else gV)=ba e':=h
     split at h
     ·rename_i hg;split at h
      ·rename_i k hk;rw[Kf]at h;obtain⟨r,hr,rfl⟩:=h;have g:=G8 (pos:=p) (p:=q) K hg hk hr (dZ ihE hr);exact⟨g,cH g λ_=>rfl⟩
      ·split at h
       ·rename_i his;split at h
        ·rename_i hc;obtain⟨g,a',c',rfl⟩:=G9 (pos:=p) (p:=q) K hg his hc ihE h;exact⟨g,cH g λ_=>rfl⟩
        ·cases h
       ·split at h
        ·rename_i bb a as hb;split at h
         ·rename_i hc;rw[Kf]at h;obtain⟨r,hr,rfl⟩:=h;have g:=Jf (pos:=p) (p:=q) K hg hb hc hr (dZ ihE hr);exact⟨g,cH g λ_=>rfl⟩
         ·cases h
        ·cases h
     ·cases h
    | Attribute o m q=>
     cases args with
     | nil=>
      replace h:(if (m==("clear" : KF))&&eB o&&(q.endLine==p.line)then(cE n Γ o).map λo'=>E.me .clear o' .nil else gV)=ba e':=h
      split at h
      ·rename_i hc;rw[Kj,Kj]at hc;rw[Kf]at h;obtain⟨o',h1,rfl⟩:=h;have e:=eq_of_beq hc.1.1;subst e;have g:GE X (.Call (.Attribute o ("clear" : KF) q) [] [] p) (aE Φ (.me .clear o' .nil)):=ES MG Pz PB kj (ihE h1) (dC hc.1.2) hc.2;exact⟨g,cH g λ_=>rfl⟩
      ·cases h
     | cons a as=>
      replace h:(match CD m,cE n Γ o,cA (cE n Γ) (a::as)with|some m',ba o',ba es=>if eB o&&(q.endLine==p.line)&&decide ((a::as).length < 29)then ba (E.me m' o' es)else gV|_,_,_=>gV)=ba e':=h
      split at h
      ·rename_i m' o' es h1 h2 h3;split at h
       ·rename_i hc;rw[Kj,Kj,KG]at hc;cases h;have g:=Jg K (cpos:=p) (apos:=q) h1 hc.1.1 hc.1.2 hc.2 (ihE h2) h3 (dZ ihE h3);exact⟨g,cH g λ_=>rfl⟩
       ·cases h
      ·cases h
    | _=>exact bj h
  | Subscript a b p=>
   have plain:(match cE n Γ a,cE n Γ b with|some a',ba b'=>ba (E.ix a' b')|_,_=>gV)=ba e'->GE X (.Subscript a b p) (aE Φ e')/\GT X (.Subscript a b p) (du Φ e'):=λh=>by
    split at h
    ·rename_i a' b' h1 h2;cases h;have g:=GX (pos:=p) hu10 (ihE h1) (ihE h2) (uh h2);exact⟨g,cH g λ_=>rfl⟩
    ·cases h
   cases b with
   | Slice lo hi st q=>
    cases st with
    | none=>
     replace h:(match cE n Γ a,cP (cE n Γ) lo,cP (cE n Γ) hi with|some a',ba lo',ba hi'=>ba (E.sl a' lo' hi')|_,_,_=>gV)=ba e':=h
     split at h
     ·rename_i a' lo' hi' h1 h2 h3;cases h;have g:=GY (pos:=p) (p2:=q) (ihE h1) (zH ihE h2) (zH ihE h3);exact⟨g,cH g λ_=>rfl⟩
     ·cases h
    | some z=>exact plain h
   | _=>exact plain h
  | Tuple es k p=>
   replace h:(cA (cE n Γ) es).map E.tup=ba e':=h;rw[Kf]at h;obtain⟨r,h1,rfl⟩:=h;exact⟨y9 (dZ ihE h1),cH (y9 (dZ ihE h1)) λ_=>rfl⟩
  | List es p=>
   replace h:(cA (cE n Γ) es).map E.lst=ba e':=h;rw[Kf]at h;obtain⟨r,h1,rfl⟩:=h;exact⟨zd (dZ ihE h1),cH (zd (dZ ihE h1)) λ_=>rfl⟩
  | Dict keys values p=>
   replace h:zB (cE n Γ) keys values=ba e':=h;unfold zB at h;split at h
   ·rename_i hc;cases h;rw[Kj]at hc;have k0:keys=[]:=RM.mp hc.1;have v0:values=[]:=RM.mp hc.2;subst k0 v0;exact⟨Ct,lb⟩
   ·rename_i hc0;split at h
    ·rename_i hc;rw[Kj,Kj,KG,KG]at hc;rw[Kf]at h;obtain⟨r,hr,rfl⟩:=h;have h0:keys≠[]:=λz=>by
      subst z;have v0:values=[]:=LY.mp hc.1.2.symm;subst v0;exact hc0 rfl
     exact⟨Cu (pos:=p) hu10 (vy ihE keys values hc.1.1 hc.1.2 hr) hc.1.1 hc.1.2 h0 hc.2,lb⟩
    ·cases h
  | ListComp elt gens scope p=>
   match gens,h with
   | [⟨tg,iter,ifs,asy⟩],h=>
    replace h:(if (asy==0)&&(zA Γ scope&&decide (ifs.length<=1))then match cI Γ (cE n Γ) tg iter,cT (io Γ scope) tg,cA (cE n (io Γ scope)) ifs,cE n (io Γ scope) elt with|some it,ba t,ba cs,ba el=>ba (E.comp el t it cs (gO Γ scope.names))|_,_,_,_=>gV else gV)=ba e':=h
    split at h
    ·rename_i hc;rw[Kj,Kj,KG]at hc;have e0:asy=0:=eq_of_beq hc.1;subst e0;replace hc:=hc.2;split at h
     ·rename_i it t cs el h1 h2 h3 h4;cases h;have sc:=vA hc.1;refine⟨Cw K.calm (uj K ihE h1) (λok=>⟨_,oK K ok sc,?_⟩) (p7 (n:=n) (λel k p=>by cases n <;> rfl) h1),lb⟩
      refine⟨λC s0 H0 ex=>vz (fE K sc C s0 H0 ex) h2,λC s0 H0 ex pins s σ H Q I q=>?_,λC s0 H0 ex=>(ih (fE K sc C s0 H0 ex) h4).1⟩
      exact sf hc.2 h3 (λz=>(ih (fE K sc C s0 H0 ex) z).2) rfl pins s σ H Q I q
     ·cases h
    ·cases h
   | [],h=>exact bj h
   | ⟨_,_,_,_⟩::_::_,h=>exact bj h
  | _=>exact bj h
end
noncomputable abbrev cp:Kk:=30
noncomputable def Dt:KN->KP
 | .Constant (.str _) _ _=>true
 | _=>false
noncomputable def jN:KN->KP
 | .ListComp _ _ _ _=>true
 | _=>false
noncomputable def vC:KN->KP
 | .Slice _ _ _ _=>true
 | _=>false
noncomputable def xl (f:M5->Ki Sm)(ss:J9 M5):Ki Ss:=ss.foldr (λs acc=>match f s,acc with|some s',ba ss'=>ba (.cons s' ss')|_,_=>gV) (ba .nil)
noncomputable def E7 (Γ:Gam):J9 KN->KN->Ki Sm
 | [.Name x px,.Name y py],.Tuple [a,b] _ _=>match Γ.N.findIdx? (· == x),Γ.N.findIdx? (· == y),cA (cE cp Γ) [a,b]with
  | some i,ba j,ba es=>if !(i==j)&&(Γ.sc.lookup x==ba .local)&&(Γ.sc.lookup y==ba .local)&&(py.line==px.line) && !([a,b].all (foldedForSure 8)) && !([a,b].all (constantsAlone 8))then ba (.par i j es)else gV
  | _,_,_=>gV
 | _,_=>gV
noncomputable def cS:Kk->Gam->M5->Ki Sm
 | 0,_,_=>gV
 | n+1,Γ,st=>match st with
  | .Assign [.Name x _] e _=>match dB Γ x,cE cp Γ e with
   | some i,ba e'=>ba (.set i e')
   | _,_=>gV
  | .Assign [.Tuple ts _ _] e _=>if isTup e then E7 Γ ts e else if jN e then gV else match F3 Γ ts,cE cp Γ e with
   | some is,ba e'=>ba (.asg is e')
   | _,_=>gV
  | .Assign [.Subscript o k _] e _=>if vC k then gV else match cE cp Γ o,cE cp Γ k,cE cp Γ e with
   | some o',ba k',ba e'=>ba (.put o' k' e')
   | _,_,_=>gV
  | .Expr e _=>if Dt e then ba .pass else if jN e then gV else(cE cp Γ e).map .ex
  | .Return (ba e) _=>(cE cp Γ e).map .ret
  | .Return gV _=>ba .retN
  | .Pass _=>ba .pass
  | .Raise _ _ _=>ba .bad
  | .Break _=>ba .brk
  | .Continue _=>ba .cont
  | .If t a b _=>match cE cp Γ t,xl (cS n Γ) a,xl (cS n Γ) b with
   | some t',ba a',ba b'=>ba (.ite t' a' b')
   | _,_,_=>gV
  | .While t b [] _=>match cE cp Γ t,xl (cS n Γ) b with
   | some t',ba b'=>ba (.whl t' b')
   | _,_=>gV
  | .For tg it b [] _=>match cT Γ tg,cI Γ (cE cp Γ) tg it,xl (cS n Γ) b with
   | some t,ba i,ba b'=>ba (.loop t i b')
   | _,_,_=>gV
  | _=>gV
section
variable{Φ:KF->FF}{X:Cx}{Γ:Gam}{fuel:Kk}
theorem zI {f:M5->Ki Sm}{s:M5}{ss:J9 M5}{r:Ss}(h:xl f (s::ss)=ba r):∃s' ss',f s=ba s'/\xl f ss=ba ss'/\r=.cons s' ss':=by
 simp only[xl,R6]at h;split at h
 ·rename_i e' es' h1 h2;cases h;exact⟨e',es',h1,h2,rfl⟩
 ·cases h
theorem gP {n:Kk}(ih:∀ {st:M5} {s':Sm},cS n Γ st=ba s'->GS X st (gN Φ fuel s')):∀ {ss:J9 M5} {r:Ss},xl (cS n Γ) ss=ba r->GSs X ss (gq Φ fuel r)
 | [],r,h=>by cases h; exact B8
 | s::ss,r,h=>by
  obtain⟨s',ss',h1,h2,rfl⟩:=zI h;exact zf (ih h1) (gP ih h2)
theorem lT {e:KN}{t:Ki KN}{l:Kk}{env:Q9}(h:jN e=false)(n:Kk){Γ:Gam}{e':E}(hc:cE n Γ e=ba e'):swapsWith e t l env=pure false:=by
 cases n with
 | zero=>cases hc
 | succ n=>cases e <;> first|(exfalso; exact bj hc)|rfl|cases h
theorem uk (K:CtxOk Φ X Γ){n:Kk}{elt:KN}{gens:J9 Comprehension}{scope:Nz}{p:MP}{e':E}(h:cE (n+1) Γ (.ListComp elt gens scope p)=ba e') :
  ∃tg iter ifs fi g c f cap,gens=[⟨tg,iter,ifs,0⟩]/\aE Φ e'=lN fi g c f cap/\GI X tg iter fi/\(X.Ok->∃cl,CompOk X scope cl (im scope.names) cap/\BlockOk X scope cl (im scope.names) tg elt ifs g c f)/\∀x,foldedSetIterable iter X.env x=pure x:=by
 match gens,h with
 | [⟨tg,iter,ifs,asy⟩],h=>
  replace h:(if (asy==0)&&(zA Γ scope&&decide (ifs.length<=1))then match cI Γ (cE n Γ) tg iter,cT (io Γ scope) tg,cA (cE n (io Γ scope)) ifs,cE n (io Γ scope) elt with|some it,ba t,ba cs,ba el=>ba (E.comp el t it cs (gO Γ scope.names))|_,_,_,_=>gV else gV)=ba e':=h
  split at h
  ·rename_i hc;rw[Kj,Kj,KG]at hc;have e0:asy=0:=eq_of_beq hc.1;subst e0;replace hc:=hc.2;split at h
   ·rename_i it t cs el h1 h2 h3 h4;cases h;have sc:=vA hc.1;refine⟨tg,iter,ifs,_,_,_,_,_,rfl,rfl,uj K (λz=>(cm n K z).1) h1,λok=>⟨_,oK K ok sc,?_⟩,p7 (n:=n) (λel k p=>by cases n <;> rfl) h1⟩
    refine⟨λC s0 H0 ex=>vz (fE K sc C s0 H0 ex) h2,λC s0 H0 ex pins s σ H Q I q=>?_,λC s0 H0 ex=>(cm n (fE K sc C s0 H0 ex) h4).1⟩
    exact sf hc.2 h3 (λz=>(cm n (fE K sc C s0 H0 ex) z).2) rfl pins s σ H Q I q
   ·cases h
  ·cases h
 | [],h=>exact bj h
 | ⟨_,_,_,_⟩::_::_,h=>exact bj h
theorem Ha (K:CtxOk Φ X Γ){x:KF}{px pos:MP}{e:KN}{i:Kk}{e':E}(hi:dB Γ x=ba i)(he:cE cp Γ e=ba e'):GS X (.Assign [.Name x px] e pos) (lM (aE Φ e') (Ci i)):=by
 obtain⟨a,b,c⟩:=qa K hi;have hN:X.N.Nodup:=by rw[K.N]; exact K.nd
 have plain:swapsWith e (ba (.Name x px)) pos.line X.env=pure false->GS X (.Assign [.Name x px] e pos) (lM (aE Φ e') (Ci i)):=λhs=>t9 (cm _ K he).1 (vk hN a b c) hs (by cases e <;> rfl) rfl
 cases hc:jN e with
 | false=>exact plain (lT hc _ he)
 | true=>
  cases e with
  | ListComp elt gens scope p=>
   cases hsw:(X.env.blockKind==.function&&X.env.kindOf x==ba .local&&px.line==p.line && !(scope.names.any λ(n,k)=>n==x&&(k==.local||k==.cell)))with
   | false=>
    refine plain ?_;show(pure (X.env.blockKind==.function&&X.env.kindOf x==ba .local&&px.line==p.line && !(scope.names.any λ(n,k)=>n==x&&(k==.local||k==.cell))):Tp KP)=pure false
    rw[hsw]
   | true=>
    have hsw':swapsWith (.ListComp elt gens scope p) (ba (.Name x px)) pos.line X.env=pure true:=by
     show(pure (X.env.blockKind==.function&&X.env.kindOf x==ba .local&&px.line==p.line && !(scope.names.any λ(n,k)=>n==x&&(k==.local||k==.cell))):Tp KP)=pure true
     rw[hsw]
    rw[Kj,Kj,Kj]at hsw;have hl:X.env.scope.names.lookup x=ba .local:=eq_of_beq hsw.1.1.2;obtain⟨tg,iter,ifs,fi,g,c',f,cap,rfl,e2,gi,hck,hs⟩:=uk K he;rw[e2];exact uf K.calm gi hck hs hsw' hN a hl
  | _=>cases hc
theorem sg (K:CtxOk Φ X Γ){x y:KF}{px py pt pt2:MP}{kt k2:Kk}{a b:KN}(hxy:x≠y)(hx:Γ.sc.lookup x=ba .local)(hy:Γ.sc.lookup y=ba .local)(hl:(py.line==px.line)=true)(h1:[a,b].all (foldedForSure 8)=false)(h2:[a,b].all (constantsAlone 8)=false)(hs:iK a=true)(hs2:iK b=true) :
  swappedStores [.Tuple [.Name x px,.Name y py] kt pt] (.Tuple [a,b] k2 pt2) X.env=pure (ba [x,y]):=by
 have kx:(X.env.kindOf x==ba .local)=true:=by unfold PU; rw[K.names,hx]; rfl
 have ky:(X.env.kindOf y==ba .local)=true:=by unfold PU; rw[K.names,hy]; rfl
 have bk:(X.env.blockKind != .function)=false:=by
  unfold Env.blockKind;rw[K.kind];rfl
 have hp:(px.line==px.line)=true:=by simp
 have ed:([x,y].eraseDups.length != [x,y].length)=false:=by
  have:(y==x)=false:=by simpa using Ne.symm hxy
  simp[QE,this]
 have kx':X.env.kindOf x=ba .local:=eq_of_beq kx;have ky':X.env.kindOf y=ba .local:=eq_of_beq ky;have hl':py.line=px.line:=eq_of_beq hl;have bk':X.env.blockKind=.function:=by simpa using bk
 have yx:(y==x)=false:=by simpa using Ne.symm hxy
 have h1':(foldedForSure 8 a&&foldedForSure 8 b)=false:=by simpa using h1
 have h2':(constantsAlone 8 a&&constantsAlone 8 b)=false:=by simpa using h2
 unfold swappedStores;simp only[MO,List.any_nil,QI,NV,List.filterMap_nil,kx',ky',bk',List.head?_cons,Ld,RL,Li,Mu,Lu,List.all_nil,N1,h1',h2'];refine Eq.trans (KW ?_) (Eq.trans (KW ?_) ?_)
 ·decide
 ·rw[Mc];rintro(hh|hh)
  ·clear h1 h2 h1' h2';cases a <;> first|(cases hh; done)|(cases hs; done)
  ·clear h1 h2 h1' h2';cases b <;> first|(cases hh; done)|(cases hs2; done)
 ·dsimp only[Expr.pos]; simp[hl',yx,QE]
theorem CG (fuel:Kk)(K:CtxOk Φ X Γ):∀(n:Kk) {st:M5} {s':Sm},cS n Γ st=ba s'->GS X st (gN Φ fuel s'):=by
 have hN:X.N.Nodup:=by rw[K.N]; exact K.nd
 have own:Qz (model X.prog X.w) X.A X.env X.xe:=by rw[K.xe]; exact Ug
 intro n
 induction n with
 | zero=>intro st s' h; cases h
 | succ n ih=>
  intro st s' h;cases st with
  | Expr e p=>
   replace h:(if Dt e then ba Sm.pass else if jN e then gV else(cE cp Γ e).map Sm.ex)=ba s':=h
   split at h
   ·rename_i hd;cases h;cases e with
    | Constant c k q=>
     cases c with
     | str x=>exact EU
     | _=>cases hd
    | _=>cases hd
   ·split at h
    ·cases h
    ·rename_i hd hc;rw[Kf]at h;obtain⟨e',h1,rfl⟩:=h;exact GZ (cm _ K h1).1 (lT (by simpa using hc) _ h1)
  | Return o p=>
   cases o with
   | none=>cases h; exact Cg
   | some e=>
    replace h:(cE cp Γ e).map Sm.ret=ba s':=h;rw[Kf]at h;obtain⟨e',h1,rfl⟩:=h;exact EV (cm _ K h1).1
  | Pass p=>cases h; exact Cd
  | Raise exc cause pos=>cases h; exact λpins s D σ H I ⟨A,ρ,S,o,S',er,so,e,hq⟩=>nomatch e
  | Break p=>cases h; exact zj
  | Continue p=>cases h; exact Ce
  | If t a b p=>
   replace h:(match cE cp Γ t,xl (cS n Γ) a,xl (cS n Γ) b with|some t',ba a',ba b'=>ba (Sm.ite t' a' b')|_,_,_=>gV)=ba s':=h
   split at h
   ·rename_i t' a' b' h1 h2 h3;cases h;exact G0 (cm _ K h1).2 (gP ih h2) (gP ih h3)
   ·cases h
  | While t b o p=>
   cases o with
   | cons _ _=>exact bj h
   | nil=>
    replace h:(match cE cp Γ t,xl (cS n Γ) b with|some t',ba b'=>ba (Sm.whl t' b')|_,_=>gV)=ba s':=h
    split at h
    ·rename_i t' b' h1 h2;cases h;exact zm fuel own (cm _ K h1).2 (gP ih h2)
    ·cases h
  | For tg it b o p=>
   cases o with
   | cons _ _=>exact bj h
   | nil=>
    replace h:(match cT Γ tg,cI Γ (cE cp Γ) tg it,xl (cS n Γ) b with|some t,ba i,ba b'=>ba (Sm.loop t i b')|_,_,_=>gV)=ba s':=h
    split at h
    ·rename_i t i b' h1 h2 h3;cases h;exact E2 own K.calm (uj K (λz=>(cm _ K z).1) h2) (vz K h1) (gP ih h3) (p7 (n:=cp) (λel k p=>rfl) h2)
    ·cases h
  | Assign ts e p=>
   match ts,h with
   | [],h=>exact bj h
   | a::_::_,h=>cases a <;> exact bj h
   | [t],h=>
    cases t with
    | Name x px=>
     replace h:(match dB Γ x,cE cp Γ e with|some i,ba e'=>ba (Sm.set i e')|_,_=>gV)=ba s':=h
     split at h
     ·rename_i i e' h1 h2;cases h;exact Ha K h1 h2
     ·cases h
    | Subscript o k q=>
     replace h:(if vC k then gV else match cE cp Γ o,cE cp Γ k,cE cp Γ e with|some o',ba k',ba e'=>ba (Sm.put o' k' e')|_,_,_=>gV)=ba s':=h
     split at h
     ·cases h
     ·rename_i hc;split at h
      ·rename_i o' k' e' h1 h2 h3;cases h;refine t9 (cm _ K h3).1 (EY (by have:=K.un; have:iC=20:=rfl; omega) (cm _ K h1).1 (cm _ K h2).1 ?_) (by cases e <;> rfl) (by cases e <;> rfl) rfl
       intro v;cases k <;> first|rfl|exact absurd rfl hc
      ·cases h
    | Tuple ts' k q=>
     have par:∀ {x y:KF} {px py:MP} {a b:PySem.Expr} {k2:Kk} {q2:MP},(match Γ.N.findIdx? (· == x),Γ.N.findIdx? (· == y),cA (cE cp Γ) [a,b]with
       | some i,ba j,ba es=>if !(i==j)&&(Γ.sc.lookup x==ba .local)&&(Γ.sc.lookup y==ba .local)&&(py.line==px.line) && !([a,b].all (foldedForSure 8)) && !([a,b].all (constantsAlone 8))then ba (Sm.par i j es)else gV
       | _,_,_=>gV)=ba s'->GS X (.Assign [.Tuple [.Name x px,.Name y py] k q] (.Tuple [a,b] k2 q2) p) (gN Φ fuel s'):=λ{x y px py a b k2 q2} h=>by
      split at h
      ·rename_i i j es h1 h2 h3;split at h
       ·rename_i hc;cases h;rw[Kj,Kj,Kj,Kj,Kj]at hc;obtain⟨⟨⟨⟨⟨c1,c2⟩,c3⟩,c4⟩,c5⟩,c6⟩:=hc;have hij:i≠j:=by simpa using c1
        have ns:=cY h3;rw[Lu,Lu,Kj,Kj]at ns;have hi:X.N[i]?=ba x:=by rw[K.N]; exact dQ h1
        have hj:X.N[j]?=ba y:=by rw[K.N]; exact dQ h2
        refine EZ K.calm hN hi hj hij (by rw[K.names]; exact eq_of_beq c2) (by rw[K.names]; exact eq_of_beq c3) (dZ (λz=>(cm _ K z).1) h3) (sg K ?_ (eq_of_beq c2) (eq_of_beq c3) c4 (by rw[<- Pg]; exact c5) (by rw[<- Pg]; exact c6) ns.1 ns.2.1) rfl
        rintro rfl;rw[h1]at h2;cases h2;exact hij rfl
       ·cases h
      ·cases h
     replace h:(if isTup e then E7 Γ ts' e else if jN e then gV else match F3 Γ ts',cE cp Γ e with|some is,ba e'=>ba (Sm.asg is e')|_,_=>gV)=ba s':=h
     split at h
     ·unfold E7 at h;split at h
      ·exact par h
      ·cases h
     ·split at h
      ·cases h
      ·rename_i hc1 hc2;split at h
       ·rename_i is e' h1 h2;cases h;refine t9 (cm _ K h2).1 (vz (tg:=.Tuple ts' k q) (t:=.tp is) K (by simp[cT,h1])) (lT (t:=ba (.Tuple ts' k q)) (l:=p.line) (env:=X.env) (by simpa using hc2) _ h2) ?_ rfl
        cases e <;> first|rfl|exact absurd rfl hc1
       ·cases h
    | _=>exact bj h
  | _=>exact bj h
end
structure Df where
 ps:J9 KF
 N:J9 KF
 body:Ss
noncomputable def fO (N:J9 KF)(ws:J9 W):Fm:=ws.map ba++K7 (N.length - ws.length) gV
noncomputable def aq (defs:J9 (KF×Df))(fuel:Kk):Kk->KF->FF
 | 0,_,_,_=>gV
 | d+1,f,ws,S=>match defs.lookup f with
  | some df=>if ws.length=df.ps.length then match gq (aq defs fuel d) fuel df.body (fO df.N ws) S with
    | some (.rt w,S')=>ba (w,S')
    | some (.nx _,S')=>ba (.non,S')
    | _=>gV
   else gV
  | none=>gV
structure Md where
 fns:J9 (KF×Kk)
 blt:J9 KF
noncomputable def Du (M:Md)(st:M5)(N:J9 KF):Gam:={ sc:=(ag st).names,N:=N,fns:=M.fns,blt:=M.blt,dfn:=true }
noncomputable def cf (M:Md)(st:M5)(df:Df):Prop:=xl (cS 20 (Du M st df.N)) (c8 st)=ba df.body
theorem oM {K:Kr}{A:J9 Kl}{H:Hp}{ws:J9 W}{vs:J9 V}{N:J9 KF}(r:RelL K A H ws vs):EnvRel K A H (fO N ws) (ga N vs):=by
 refine⟨by simp[fO,L2.ga,r.length],λi w h=>?_⟩
 unfold fO at h;unfold L2.ga
 by_cases hi:i < ws.length
 ·rw[Lk (by simpa using hi),Km]at h
  rw[Lk (by rw[Kc,<- r.length]; exact hi),Km]
  cases q:ws[i]? with
  | none=>rw[q]at h; cases h
  | some w'=>
   rw[q]at h;simp only[Ld,K2]at h;subst h;obtain⟨v,h1,h2⟩:=r.get q;exact⟨v,by rw[h1]; rfl,h2⟩
 ·rw[Ms (by simpa using hi)]at h
  have:=Kt h;simp at this
section
variable{P:K1}{w:Lb}{K:Kr}{mg:KF->Ki Kd}{base:Lj}
noncomputable def Dv (P:K1)(w:Lb)(K:Kr)(mg:KF->Ki Kd)(base:Lj)(M:Md)(defs:J9 (KF×Df))(fuel d:Kk):Prop:=
 ∀f n,M.fns.lookup f=ba n->∃fa fd ps,FnOk P w K mg base xG d fa fd ps (ze w K n (aq defs fuel d f))/\mg f=ba (.ref fa)/\L0 K (.ref fa)=true/\Binds K fd ps []
structure MdOk (w:Lb)(K:Kr)(mg:KF->Ki Kd)(M:Md):Prop where
 blt:∀y∈M.blt,mg y=gV
theorem Dw {M:Md}{defs:J9 (KF×Df)}{fuel d:Kk}{x qual:KF}{st:M5}{f:Kl}{fd:MQ}{df:Df}(F:Fun K x qual st f fd)(S:FnScope df.N df.ps (ag st))(hd:defs.lookup x=ba df)(hc:cf M st df)
  (hb:MdOk w K mg M) (prev:Dv P w K mg base M defs fuel d):FnOk P w K mg base xG (d+1) f fd df.ps (ze w K df.ps.length (aq defs fuel (d+1) x)):=by
 refine F.ok S (λvs H Q E h=>?_) (λcdv A outer s H vs Q E hr h=>?_)
 ·obtain⟨A,S,ws,w',S',_,rl,hl,_⟩:=h;rw[<- rl.length]; exact hl
 ·obtain⟨A',St,ws,w',S',so,rl,hl,e,hq⟩:=h;have K':CtxOk (aq defs fuel d) (tf xG P w K mg base df.N qual (ag st) f cdv A outer s H E).nox (Du M st df.N):=by
   refine⟨rfl,S.kind,rfl,S.nd,rfl,rfl,?_,λ_ _=>rfl,hb.blt,λg n hg=>?_⟩
   ·have:=hr.un;show(A.deeper _).units+20 < cLine;omega
   ·obtain⟨fa,fd',ps',h1,h2,h3,h4⟩:=prev g n hg;exact⟨d,fa,fd',ps',h1,hr,h2,h3,h4⟩
  refine⟨tS _ (gq (aq defs fuel d) fuel df.body),gP (λz=>CG fuel K' 20 z) hc,?_⟩
  simp only[aq,hd]at e;rw[KJ hl]at e;split at e
  ·rename_i w1 S1 h1;cases e;refine⟨A',fO df.N ws,St,_,_,oM rl,so,h1,⟨λσ' H' ⟨_,_,z,_⟩=>(by cases z),λv H' ⟨w2,A2,z0,z1,z2,z3⟩=>?_,λσ' H' ⟨_,_,z,_⟩=>(by cases z),λσ' H' ⟨_,_,z,_⟩=>(by cases z)⟩⟩
   cases z0;exact hq v H' ⟨A2,z1,z2,z3⟩
  ·rename_i ρ1 S1 h1;cases e;refine⟨A',fO df.N ws,St,_,_,oM rl,so,h1,⟨λσ' H' ⟨w2,A2,z0,z1,z2,z3⟩=>?_,λσ' H' ⟨_,_,z,_⟩=>(by cases z),λσ' H' ⟨_,_,z,_⟩=>(by cases z),λσ' H' ⟨_,_,z,_⟩=>(by cases z)⟩⟩
   exact hq _ H' ⟨A2,z1,z2,.non⟩
  ·cases e
theorem xm {H:Hp}{a:Kl}{ns:J9 Ky}(hO:ye H)(hS:SqL K H a (ns.map V.int)):StoreOk w K [a] H [.fro (ns.map W.int)]/\RelL K [a] H [.ref 0] [.ref a]:=by
 have rl:∀ns:J9 Ky,RelL K [a] H (ns.map W.int) (ns.map V.int):=by
  intro ns
  induction ns with
  | nil=>exact .nil
  | cons n ns ih=>exact .cons .int ih
 have fr:FroL K H a (ns.map V.int):=by
  rcases hS with(h|⟨o,h⟩)|h
  ·rcases hO a with z|⟨o,xs,z⟩ <;> (rw[z]at h; cases h)
  ·exact .inl ⟨o,h⟩
  ·exact .inr h
 refine⟨⟨rfl,λi j b o u e1 m1 e2 m2 _ _=>?_,λi o b e1 e2=>?_⟩,.cons (.ref rfl) .nil⟩
 ·cases i with
  | zero=>simp at e1; subst e1; cases m1
  | succ i=>simp at e1
 ·cases i with
  | zero=>
   simp at e1 e2;subst e1 e2;exact⟨_,fr,rl ns⟩
  | succ i=>simp at e1
theorem E8 {g:FF}{H:Hp}{a:Kl}{ns:J9 Ky}(h:∃S',g [.ref 0] [.fro (ns.map W.int)]=ba (.bl true,S'))(hO:ye H)(hS:SqL K H a (ns.map V.int)):ze w K 1 g [.ref a] H (λv _=>v=.bl true) λ_ _ _=>LL:=by
 obtain⟨S',e⟩:=h;obtain⟨so,rl⟩:=xm hO hS;exact⟨[a],_,_,_,S',so,rl,rfl,e,λv H' ⟨A',z1,z2,z3⟩=>by cases z3; rfl⟩
end
noncomputable def Wp {α:Type}(o:Ki α)(Q:α->Prop):Prop:=∃a,o=ba a/\Q a
theorem ab {α:Type}{a:α}{Q:α->Prop}:Wp (ba a) Q↔Q a:=⟨λ⟨b,e,h⟩=>(by cases e; exact h),λh=>⟨a,rfl,h⟩⟩
theorem ac {α:Type}{Q:α->Prop}:Wp (gV:Ki α) Q↔LL:=⟨λ⟨b,e,h⟩=>(by cases e),λh=>h.elim⟩
theorem Wp.mono {α:Type}{o:Ki α}{Q Q':α->Prop}(h:Wp o Q)(k:∀a,Q a->Q' a):Wp o Q':=let ⟨a,e,q⟩:=h; ⟨a,e,k a q⟩
theorem Jh {α β:Type}{o:Ki α}{f:α->β}{Q:β->Prop}:Wp (o.map f) Q↔Wp o λa=>Q (f a):=by cases o <;> simp[ab,ac]
section
variable{Φ:KF->FF}{fuel:Kk}{ρ:Fm}{S:aa}
noncomputable abbrev QW:=W×aa->Prop
theorem J2 {w:W}{Q:QW}:Wp (aE Φ (.c w) ρ S) Q↔Q (w,S):=by(dsimp only[aE]; simp[fC,ab,ac])
theorem JS {i:Kk}{Q:QW}:Wp (aE Φ (.v i) ρ S) Q↔∃w,ρ[i]?=ba (ba w)/\Q (w,S):=by
 (dsimp only[aE]; simp only[fV])
 rcases h:ρ[i]? with _|_|w <;> simp[ab,ac]
theorem zJ {g:W->W->aa->Ki (W×aa)}{a b:FE}{Q:QW}:Wp (BX g a b ρ S) Q↔Wp (a ρ S) λp=>Wp (b ρ p.2) λq=>Wp (g p.1 q.1 q.2) Q:=by
 unfold BX;rcases h:a ρ S with _|⟨x,S1⟩
 ·simp[ab,ac]
 ·rcases h2:b ρ S1 with _|⟨y,S2⟩ <;> simp[ab,ac,h2]
theorem Ji {o:BOp}{a b:E}{Q:QW}:Wp (aE Φ (.op o a b) ρ S) Q↔Wp (aE Φ a ρ S) λp=>Wp (aE Φ b ρ p.2) λq=>Wp (gf o p.1 q.1 q.2) Q:=by dsimp only[aE]; exact zJ
theorem Dx {o:COp}{a b:E}{Q:QW}:Wp (aE Φ (.cmp o a b) ρ S) Q↔Wp (aE Φ a ρ S) λp=>Wp (aE Φ b ρ p.2) λq=>Wp (dz o p.1 q.1 q.2) Q:=by dsimp only[aE]; exact zJ
theorem Jj {a b:E}{Q:QW}:Wp (aE Φ (.ix a b) ρ S) Q↔Wp (aE Φ a ρ S) λp=>Wp (aE Φ b ρ p.2) λq=>Wp (qQ p.1 q.1 q.2) Q:=by dsimp only[aE]; exact zJ
theorem Hb {a b:E}{Q:QW}:Wp (aE Φ (.and a b) ρ S) Q↔Wp (aE Φ a ρ S) λp=>∃k,p.1=.bl k/\(k=true->Wp (aE Φ b ρ p.2) Q)/\(k=false->Q (.bl false,p.2)):=by
 (dsimp only[aE]; simp only[ve])
 rcases h:aE Φ a ρ S with _|⟨x,S1⟩
 ·simp[ab,ac]
 ·cases x <;> simp[ab,ac]
  rename_i b; cases b <;> simp[ab,ac]
theorem Jk {a b:E}{Q:QW}:Wp (aE Φ (.or a b) ρ S) Q↔Wp (aE Φ a ρ S) λp=>∃k,p.1=.bl k/\(k=true->Q (.bl true,p.2))/\(k=false->Wp (aE Φ b ρ p.2) Q):=by
 (dsimp only[aE]; simp only[B2])
 rcases h:aE Φ a ρ S with _|⟨x,S1⟩
 ·simp[ab,ac]
 ·cases x <;> simp[ab,ac]
  rename_i b; cases b <;> simp[ab,ac]
theorem Hc {a:E}{Q:QW}:Wp (aE Φ (.not a) ρ S) Q↔Wp (aE Φ a ρ S) λp=>∃k,p.1=.bl k/\Q (.bl (!k),p.2):=by
 (dsimp only[aE]; simp only[vf])
 rcases h:aE Φ a ρ S with _|⟨x,S1⟩
 ·simp[ab,ac]
 ·cases x <;> simp[ab,ac]
  rename_i k; cases k <;> simp
theorem Hd {t a b:E}{Q:QW}:Wp (aE Φ (.ite t a b) ρ S) Q↔Wp (du Φ t ρ S) λp=>(p.1=true->Wp (aE Φ a ρ p.2) Q)/\(p.1=false->Wp (aE Φ b ρ p.2) Q):=by
 (dsimp only[aE]; simp only[B3])
 rcases h:du Φ t ρ S with _|⟨x,S1⟩
 ·simp[ab,ac]
 ·cases x <;> simp[ab,ac]
theorem Dy {f:KF}{n:Kk}{es:Es}{Q:QW}:Wp (aE Φ (.own f n es) ρ S) Q↔Wp (dy Φ es ρ S) λp=>p.1.length=n/\Wp (Φ f p.1 p.2) Q:=by
 (dsimp only[aE]; simp only[rW])
 rcases h:dy Φ es ρ S with _|⟨x,S1⟩
 ·simp[ab,ac]
 ·by_cases hl:x.length=n <;> simp[ab,ac,hl]
theorem He {b:Bi}{es:Es}{Q:QW}:Wp (aE Φ (.bi b es) ρ S) Q↔Wp (dy Φ es ρ S) λp=>Wp (b.fn p.1 p.2) Q:=by
 (dsimp only[aE]; simp only[kz])
 rcases h:dy Φ es ρ S with _|⟨x,S1⟩ <;> simp[ab,ac]
theorem Jl {m:Me}{o:E}{es:Es}{Q:QW}:Wp (aE Φ (.me m o es) ρ S) Q↔Wp (aE Φ o ρ S) λp=>tyOk m.ty p.2 p.1=true/\Wp (dy Φ es ρ p.2) λq=>Wp (m.fn p.1 q.1 q.2) Q:=by
 (dsimp only[aE]; simp only[Do])
 rcases h:aE Φ o ρ S with _|⟨x,S1⟩
 ·simp[ab,ac]
 ·by_cases ht:tyOk m.ty S1 x=true
  ·rcases h2:dy Φ es ρ S1 with _|⟨y,S2⟩ <;> simp[ab,ac,ht,h2]
  ·simp[ab,ac,ht]
theorem Jm {a:E}{lo hi:Ep}{Q:QW}:Wp (aE Φ (.sl a lo hi) ρ S) Q↔Wp (aE Φ a ρ S) λp=>Wp (vp Φ lo ρ p.2) λq=>Wp (vp Φ hi ρ q.2) λr=>Wp (ww p.1 q.1 r.1 r.2) Q:=by
 (dsimp only[aE]; simp only[GV])
 rcases h:aE Φ a ρ S with _|⟨x,S1⟩
 ·simp[ab,ac]
 ·rcases h2:vp Φ lo ρ S1 with _|⟨y,S2⟩
  ·simp[ab,ac,h2]
  ·rcases h3:vp Φ hi ρ S2 with _|⟨z,S3⟩ <;> simp[ab,ac,h2,h3]
theorem Jn {Q:Ki Ky×aa->Prop}:Wp (vp Φ .no ρ S) Q↔Q (gV,S):=by(dsimp only[vp]; simp[ER,ab,ac])
theorem Hf {a:E}{Q:Ki Ky×aa->Prop}:Wp (vp Φ (.yes a) ρ S) Q↔Wp (aE Φ a ρ S) λp=>∃i,p.1=.int i/\Q (ba i,p.2):=by
 (dsimp only[vp]; simp only[vh])
 rcases h:aE Φ a ρ S with _|⟨x,S1⟩
 ·simp[ab,ac]
 ·cases x <;> simp[ab,ac]
theorem Hg {es:Es}{Q:QW}:Wp (aE Φ (.tup es) ρ S) Q↔Wp (dy Φ es ρ S) λp=>p.1.length<=sizeLine/\Q (.tup p.1,p.2):=by
 (dsimp only[aE]; simp only[y6,tw])
 rcases h:dy Φ es ρ S with _|⟨x,S1⟩
 ·simp[ab,ac]
 ·by_cases hl:x.length<=sizeLine <;> simp[ab,ac,hl]
theorem Hh {es:Es}{Q:QW}:Wp (aE Φ (.lst es) ρ S) Q↔Wp (dy Φ es ρ S) λp=>p.1.length<=sizeLine/\Q (.ref p.2.length,p.2++[.lst p.1]):=by
 (dsimp only[aE]; simp only[y8,mT])
 rcases h:dy Φ es ρ S with _|⟨x,S1⟩
 ·simp[ab,ac]
 ·by_cases hl:x.length<=sizeLine <;> simp[ab,ac,hl]
theorem Dz {c:LN}{a:E}{Q:QW}:Wp (aE Φ (.isi c a) ρ S) Q↔Wp (aE Φ a ρ S) λp=>∃k,xh p.2 p.1 c=ba k/\Q (.bl k,p.2):=by
 (dsimp only[aE]; simp only[zp])
 rcases h:aE Φ a ρ S with _|⟨x,S1⟩
 ·simp[ab,ac]
 ·cases h2:xh S1 x c <;> simp[ab,ac,h2]
  rename_i k; cases k <;> simp
theorem Hi {a:E}{Q:QW}:Wp (aE Φ (.neg a) ρ S) Q↔Wp (aE Φ a ρ S) λp=>∃i,p.1=.int i/\Q (.int (-i),p.2):=by
 (dsimp only[aE]; simp only[yW])
 rcases h:aE Φ a ρ S with _|⟨x,S1⟩
 ·simp[ab,ac]
 ·cases x <;> simp[ab,ac]
theorem E9 {es:Es}{Q:QW}:Wp (aE Φ (.disp es) ρ S) Q↔Wp (dy Φ es ρ (S++[.dic []])) λp=>p.2[S.length]?=ba (.dic [])/\∃kvs,dY [] p.1=ba kvs/\Q (.ref S.length,p.2.set S.length (.dic kvs)):=by
 have e:aE Φ (.disp es) ρ S=r0 (dy Φ es) ρ S:=by dsimp only[aE]
 rw[e];unfold r0;cases dy Φ es ρ (S++[.dic []])with
 | none=>simp[ac]
 | some p=>
  obtain⟨x,S1⟩:=p;simp only[ab];cases h2:S1[S.length]? with
  | none=>simp[ac]
  | some o=>
   cases o with
   | lst _=>simp[ac]
   | fro _=>simp[ac]
   | frd _=>simp[ac]
   | stt _=>simp[ac]
   | rng _ _=>simp[ac]
   | dic kvs=>
    cases kvs with
    | nil=>cases h3:dY [] x <;> simp[ab,ac]
    | cons a b=>simp[ac]
theorem Hj {Q:J9 W×aa->Prop}:Wp (dy Φ .nil ρ S) Q↔Q ([],S):=by(dsimp only[dy]; simp[iI,ab,ac])
theorem Fa {e:E}{es:Es}{Q:J9 W×aa->Prop}:Wp (dy Φ (.cons e es) ρ S) Q↔Wp (aE Φ e ρ S) λp=>Wp (dy Φ es ρ p.2) λq=>Q (p.1::q.1,q.2):=by
 (dsimp only[dy]; simp only[eN])
 rcases h:aE Φ e ρ S with _|⟨x,S1⟩
 ·simp[ab,ac]
 ·rcases h2:dy Φ es ρ S1 with _|⟨y,S2⟩ <;> simp[ab,ac,h2]
noncomputable abbrev QB:=KP×aa->Prop
theorem Hk {f:FE}{Q:QB}:Wp (yY f ρ S) Q↔Wp (f ρ S) λp=>∃k,p.1=.bl k/\Q (k,p.2):=by
 unfold yY;rcases h:f ρ S with _|⟨x,S1⟩
 ·simp[ab,ac]
 ·cases x <;> simp[ab,ac]
  rename_i k; cases k <;> simp
theorem vD {f:FE}{Q:QB}:Wp (gY f ρ S) Q↔Wp (f ρ S) λp=>∃k,iE p.2 p.1=ba k/\Q (k,p.2):=by
 unfold gY;rcases h:f ρ S with _|⟨x,S1⟩
 ·simp[ab,ac]
 ·cases h2:iE S1 x <;> simp[ab,ac,h2]
  rename_i k; cases k <;> simp
theorem Hl {o:COp}{a b:E}{Q:QB}:Wp (du Φ (.cmp o a b) ρ S) Q↔Wp (aE Φ (.cmp o a b) ρ S) λp=>∃k,p.1=.bl k/\Q (k,p.2):=by dsimp only[du,aE]; exact Hk
theorem Hm {a b:E}{Q:QB}:Wp (du Φ (.and a b) ρ S) Q↔Wp (du Φ a ρ S) λp=>(p.1=true->Wp (du Φ b ρ p.2) Q)/\(p.1=false->Q (false,p.2)):=by
 (dsimp only[du]; simp only[yZ])
 rcases h:du Φ a ρ S with _|⟨x,S1⟩
 ·simp[ab,ac]
 ·cases x <;> simp[ab,ac]
theorem Jo {a b:E}{Q:QB}:Wp (du Φ (.or a b) ρ S) Q↔Wp (du Φ a ρ S) λp=>(p.1=true->Q (true,p.2))/\(p.1=false->Wp (du Φ b ρ p.2) Q):=by
 (dsimp only[du]; simp only[GQ])
 rcases h:du Φ a ρ S with _|⟨x,S1⟩
 ·simp[ab,ac]
 ·cases x <;> simp[ab,ac]
theorem Hn {a:E}{Q:QB}:Wp (du Φ (.not a) ρ S) Q↔Wp (du Φ a ρ S) λp=>Q (!p.1,p.2):=by
 (dsimp only[du]; simp only[BZ])
 rcases h:du Φ a ρ S with _|⟨x,S1⟩ <;> simp[ab,ac]
theorem J3 {i:Kk}{Q:QB}:Wp (du Φ (.v i) ρ S) Q↔Wp (aE Φ (.v i) ρ S) λp=>∃k,iE p.2 p.1=ba k/\Q (k,p.2):=by dsimp only[du,aE]; exact vD
theorem Ho {f:KF}{n:Kk}{es:Es}{Q:QB}:Wp (du Φ (.own f n es) ρ S) Q↔Wp (aE Φ (.own f n es) ρ S) λp=>∃k,iE p.2 p.1=ba k/\Q (k,p.2):=by dsimp only[du,aE]; exact vD
theorem Jp {b:Bi}{es:Es}{Q:QB}:Wp (du Φ (.bi b es) ρ S) Q↔Wp (aE Φ (.bi b es) ρ S) λp=>∃k,iE p.2 p.1=ba k/\Q (k,p.2):=by dsimp only[du,aE]; exact vD
theorem Hq {c:LN}{a:E}{Q:QB}:Wp (du Φ (.isi c a) ρ S) Q↔Wp (aE Φ (.isi c a) ρ S) λp=>∃k,iE p.2 p.1=ba k/\Q (k,p.2):=by dsimp only[du,aE]; exact vD
noncomputable abbrev QO:=Out×aa->Prop
theorem Hr {Q:QO}:Wp (gq Φ fuel .nil ρ S) Q↔Q (.nx ρ,S):=by(dsimp only[gq]; simp[ab,ac])
theorem Fb {s:Sm}{ss:Ss}{Q:QO}:Wp (gq Φ fuel (.cons s ss) ρ S) Q↔Wp (gN Φ fuel s ρ S) λp=>(∀ρ',p.1=.nx ρ'->Wp (gq Φ fuel ss ρ' p.2) Q)/\((∀ρ',p.1≠.nx ρ')->Q p):=by
 (dsimp only[gq]; simp only[B9])
 rcases h:gN Φ fuel s ρ S with _|⟨o,S1⟩
 ·simp[ab,ac]
 ·cases o <;> simp[ab,ac]
theorem zK {f:FE}{g:FG}{Q:QO}:Wp (lM f g ρ S) Q↔Wp (f ρ S) λp=>Wp (g p.1 ρ p.2) λq=>Q (.nx q.1,q.2):=by
 unfold lM;rcases h:f ρ S with _|⟨x,S1⟩
 ·simp[ab,ac]
 ·rcases h2:g x ρ S1 with _|⟨y,S2⟩ <;> simp[ab,ac,h2]
theorem Fc {i:Kk}{e:E}{Q:QO}:Wp (gN Φ fuel (.set i e) ρ S) Q↔Wp (aE Φ e ρ S) λp=>Q (.nx (ρ.set i (ba p.1)),p.2):=by
 dsimp only[gN]; rw[zK]; simp[Ci,ab,ac]
theorem Fd {is:J9 Kk}{e:E}{Q:QO}:Wp (gN Φ fuel (.asg is e) ρ S) Q↔Wp (aE Φ e ρ S) λp=>∃ws ρ',p.1=.tup ws/\dA is ws ρ=ba ρ'/\Q (.nx ρ',p.2):=by
 dsimp only[gN]; rw[zK]
 constructor
 ·refine λh=>h.mono λp hp=>?_
  obtain⟨w,S1⟩:=p;obtain⟨q,h1,h2⟩:=hp;cases w with
  | tup ws=>
   simp only[EW,Kf]at h1;obtain⟨ρ',h3,rfl⟩:=h1;exact⟨ws,ρ',rfl,h3,h2⟩
  | _=>cases h1
 ·refine λh=>h.mono λp hp=>?_
  obtain⟨w,S1⟩:=p;obtain⟨ws,ρ',h0,h1,h2⟩:=hp;subst h0;exact⟨(ρ',S1),by simp[EW,h1],h2⟩
theorem Fe {i j:Kk}{es:Es}{Q:QO}:Wp (gN Φ fuel (.par i j es) ρ S) Q↔Wp (dy Φ es ρ S) λp=>∃x y,p.1=[x,y]/\Q (.nx ((ρ.set i (ba x)).set j (ba y)),p.2):=by
 (dsimp only[gN]; simp only[Ck])
 rcases h:dy Φ es ρ S with _|⟨x,S1⟩
 ·simp[ac]
 ·match x with
  | []=>simp[ab,ac]
  | [_]=>simp[ab,ac]
  | [a,b]=>
   simp only[ab];exact⟨λh=>⟨a,b,rfl,h⟩,λ⟨x,y,e,h⟩=>by cases e; exact h⟩
  | _::_::_::_=>simp[ab,ac]
theorem Ff {o k e:E}{Q:QO}:Wp (gN Φ fuel (.put o k e) ρ S) Q↔Wp (aE Φ e ρ S) λp=>Wp (aE Φ o ρ p.2) λq=>Wp (aE Φ k ρ q.2) λr=>∃S',ja q.1 r.1 p.1 r.2=ba S'/\Q (.nx ρ,S'):=by
 dsimp only[gN]; rw[zK]
 rcases h:aE Φ e ρ S with _|⟨x,S1⟩
 ·simp[ab,ac]
 ·simp only[ab];unfold Cj;rcases h2:aE Φ o ρ S1 with _|⟨y,S2⟩
  ·simp[ab,ac]
  ·rcases h3:aE Φ k ρ S2 with _|⟨z,S3⟩
   ·simp[ab,ac,h3]
   ·cases h4:ja y z x S3 <;> simp[ab,ac,h3,h4]
theorem Hs {e:E}{Q:QO}:Wp (gN Φ fuel (.ex e) ρ S) Q↔Wp (aE Φ e ρ S) λp=>Q (.nx ρ,p.2):=by
 (dsimp only[gN]; simp only[Cc])
 rcases h:aE Φ e ρ S with _|⟨x,S1⟩ <;> simp[ab,ac]
theorem Fg {e:E}{Q:QO}:Wp (gN Φ fuel (.ret e) ρ S) Q↔Wp (aE Φ e ρ S) λp=>Q (.rt p.1,p.2):=by
 (dsimp only[gN]; simp only[Cf])
 rcases h:aE Φ e ρ S with _|⟨x,S1⟩ <;> simp[ab,ac]
theorem Fh {t:E}{a b:Ss}{Q:QO}:Wp (gN Φ fuel (.ite t a b) ρ S) Q↔Wp (du Φ t ρ S) λp=>(p.1=true->Wp (gq Φ fuel a ρ p.2) Q)/\(p.1=false->Wp (gq Φ fuel b ρ p.2) Q):=by
 (dsimp only[gN]; simp only[Ch])
 rcases h:du Φ t ρ S with _|⟨x,S1⟩
 ·simp[ab,ac]
 ·cases x <;> simp[ab,ac]
end
section
variable{Φ:KF->FF}{fuel:Kk}{ρ:Fm}{S:aa}
noncomputable def zL (I:Fm->aa->Prop)(Q:QO)(o:Out×aa):Prop:=match o.1 with
 | .nx ρ'=>I ρ' o.2
 | .ct ρ'=>I ρ' o.2
 | .bk ρ'=>Q (.nx ρ',o.2)
 | .rt w=>Q (.rt w,o.2)
theorem jO {mi:MI}{g:FG}{b:FS}{xs:J9 W}{Q:QO}(I:Kk->Fm->aa->Prop)(hat:∀i ρ S,I i ρ S->mi.at S i=ba xs[i]?)
  (hstep:∀i w ρ S,xs[i]?=ba w->I i ρ S->Wp (g w ρ S) λq=>Wp (b q.1 q.2) (zL (I (i+1)) Q)) (hend:∀ρ S,I xs.length ρ S->Q (.nx ρ,S)):∀(n i:Kk) (ρ:Fm) (S:aa),i+n=xs.length->I i ρ S->Wp (gm mi g b n i ρ S) Q
 | 0,i,ρ,S,hl,hI=>by
  have e:mi.at S i=ba gV:=by rw[hat i ρ S hI,Nx (by omega)]
  simp only[gm,e];have hi:i=xs.length:=by omega
  exact ab.mpr (hend ρ S (hi ▸ hI))
 | n+1,i,ρ,S,hl,hI=>by
  have hi:i < xs.length:=by omega
  have e:mi.at S i=ba (ba xs[i]):=by rw[hat i ρ S hI,Ko hi]
  obtain⟨⟨ρ1,S1⟩,h1,⟨o,S2⟩,h2,h3⟩:=hstep i xs[i] ρ S (Ko hi) hI;simp only[gm,e,h1,h2];cases o with
  | nx ρ2=>exact jO I hat hstep hend n (i+1) ρ2 S2 (by omega) h3
  | ct ρ2=>exact jO I hat hstep hend n (i+1) ρ2 S2 (by omega) h3
  | bk ρ2=>exact ab.mpr h3
  | rt w=>exact ab.mpr h3
theorem Ht {fi:FI}{g:FG}{b:FS}{Q:QO}:Wp (zn fi g b ρ S) Q↔Wp (fi ρ S) λp=>∃n,p.1.len p.2=ba n/\Wp (gm p.1 g b n 0 ρ p.2) Q:=by
 unfold zn;rcases h:fi ρ S with _|⟨mi,S1⟩
 ·simp[ac]
 ·cases h2:mi.len S1 <;> simp[ab,ac,h2]
theorem de {mi:MI}{g:FG}{c:FT}{f:FE}{xs:J9 W}{Q:J9 W×aa->Prop}(I:Kk->J9 W->Fm->aa->Prop)(hat:∀i ys ρ S,I i ys ρ S->mi.at S i=ba xs[i]?)
  (hstep:∀i w ys ρ S,xs[i]?=ba w->I i ys ρ S->Wp (g w ρ S) λq=>Wp (c q.1 q.2) λk=>(k.1=true->Wp (f q.1 k.2) λy=>I (i+1) (ys++[y.1]) q.1 y.2)/\(k.1=false->I (i+1) ys q.1 k.2))
  (hend:∀ys ρ S,I xs.length ys ρ S->Q (ys,S)):∀(n i:Kk) (ys:J9 W) (ρ:Fm) (S:aa),i+n=xs.length->I i ys ρ S->Wp (bW mi g c f n i ρ S) λp=>Q (ys++p.1,p.2)
 | 0,i,ys,ρ,S,hl,hI=>by
  have e:mi.at S i=ba gV:=by rw[hat i ys ρ S hI,Nx (by omega)]
  simp only[bW,e];refine ab.mpr ?_;have:i=xs.length:=by omega
  simpa using hend ys ρ S (this ▸ hI)
 | n+1,i,ys,ρ,S,hl,hI=>by
  have hi:i < xs.length:=by omega
  have e:mi.at S i=ba (ba xs[i]):=by rw[hat i ys ρ S hI,Ko hi]
  obtain⟨⟨ρ1,S1⟩,h1,⟨k,S2⟩,h2,h3,h4⟩:=hstep i xs[i] ys ρ S (Ko hi) hI;simp only[bW,e,h1,h2];cases k with
  | true=>
   obtain⟨⟨y,S3⟩,h5,h6⟩:=h3 rfl;simp only[h5];obtain⟨⟨zs,S4⟩,h7,h8⟩:=de I hat hstep hend n (i+1) (ys++[y]) ρ1 S3 (by omega) h6
   simp only[h7];exact ab.mpr (by simpa using h8)
  | false=>exact de I hat hstep hend n (i+1) ys ρ1 S2 (by omega) (h4 rfl)
theorem um {elt:E}{tg:Tg}{it:Ie}{cs:Es}{cap:J9 (Ki Kk)}{Q:QW}:Wp (aE Φ (.comp elt tg it cs cap) ρ S) Q↔Wp (la Φ it ρ S) λp=>∃n,p.1.len p.2=ba n/\Wp (bW p.1 (ik tg) (CA Φ cs) (aE Φ elt) n 0 (fN cap ρ) p.2) λq=>q.1.length<=sizeLine/\Q (.ref q.2.length,q.2++[.lst q.1]):=by
 (dsimp only[aE]; simp only[lN,mT])
 rcases h:la Φ it ρ S with _|⟨mi,S1⟩
 ·simp[ac]
 ·rcases h2:mi.len S1 with _|n
  ·simp[ab,ac,h2]
  ·rcases h3:bW mi (ik tg) (CA Φ cs) (aE Φ elt) n 0 (fN cap ρ) S1 with _|⟨ys,S2⟩
   ·simp[ab,ac,h2,h3]
   ·by_cases hl:ys.length<=sizeLine <;> simp[ab,ac,h2,h3,hl]
theorem Hu {Q:QB}:Wp (CA Φ .nil ρ S) Q↔Q (true,S):=by(dsimp only[CA]; simp[Dq,ab])
theorem Hv {e:E}{Q:QB}:Wp (CA Φ (.cons e .nil) ρ S) Q↔Wp (du Φ e ρ S) Q:=by dsimp only[CA]; exact Iff.rfl
theorem Jq {i:Kk}{w:W}{Q:Fm×aa->Prop}:Wp (ik (.nm i) w ρ S) Q↔Q (ρ.set i (ba w),S):=by(dsimp only[ik]; simp[Ci,ab])
theorem Jr {is:J9 Kk}{ws:J9 W}{Q:Fm×aa->Prop}:Wp (ik (.tp is) (.tup ws) ρ S) Q↔∃ρ',dA is ws ρ=ba ρ'/\Q (ρ',S):=by
 (dsimp only[ik]; simp only[EW])
 cases dA is ws ρ <;> simp[ab,ac]
theorem lU {c:FT}{b:FS}{Q:QO}(I:Kk->Fm->aa->Prop)(hstep:∀m ρ S,I m ρ S->Wp (c ρ S) λk=>(k.1=true->∃m',m=m'+1/\Wp (b ρ k.2) (zL (I m') Q))/\(k.1=false->Q (.nx ρ,k.2))) :
  ∀(n m:Kk) (ρ:Fm) (S:aa),m < n->I m ρ S->Wp (pZ c b n ρ S) Q
 | 0,m,ρ,S,h,_=>by omega
 | n+1,m,ρ,S,h,hI=>by
  obtain⟨⟨k,S1⟩,h1,h2,h3⟩:=hstep m ρ S hI;simp only[pZ,h1];cases k with
  | false=>exact ab.mpr (h3 rfl)
  | true=>
   obtain⟨m',rfl,⟨o,S2⟩,h5,h6⟩:=h2 rfl;simp only[h5];cases o with
   | nx ρ2=>exact lU I hstep n m' ρ2 S2 (by omega) h6
   | ct ρ2=>exact lU I hstep n m' ρ2 S2 (by omega) h6
   | bk ρ2=>exact ab.mpr h6
   | rt w=>exact ab.mpr h6
theorem xn {defs:J9 (KF×Df)}{d:Kk}{f:KF}{ws:J9 W}{df:Df}{Q:QW}(h:defs.lookup f=ba df)(hl:ws.length=df.ps.length)
  (hb:Wp (gq (aq defs fuel d) fuel df.body (fO df.N ws) S) λp=>match p.1 with|.rt w=>Q (w,p.2)|.nx _=>Q (.non,p.2)|_=>LL):Wp (aq defs fuel (d+1) f ws S) Q:=by
 obtain⟨⟨o,S1⟩,h1,h2⟩:=hb;simp only[aq,h,KJ hl,h1];cases o with
 | rt w=>exact ab.mpr h2
 | nx ρ=>exact ab.mpr h2
 | bk _=>exact h2.elim
 | ct _=>exact h2.elim
end
section
variable{S:aa}{Q:QW}
theorem d6 {a b:Ky}:gf .add (.int a) (.int b) S=ba (.int (a+b),S):=rfl
theorem zM {a b:Ky}:gf .sub (.int a) (.int b) S=ba (.int (a - b),S):=rfl
theorem qb {c:Ky->Ky->KP}{f:Ky->Ky->Ky}{i j:Ky}(h:c i j=true):AY c f (.int i) (.int j) S=ba (.int (f i j),S):=by
 unfold AY;dsimp only;rw[KJ h]
theorem sh {a b:Ky}(h : -(2 ^ 64) < b)(h2:b < 2 ^ 64):gf .mul (.int a) (.int b) S=ba (.int (a*b),S):=qb (c:=wq) (f:=(· * ·)) (by
 unfold wq;simp only[Mc,Kj,KG];exact .inr ⟨h,h2⟩)
theorem jf {a b:Ky}(h:0 < b):gf .mod (.int a) (.int b) S=ba (.int (a % b),S):=qb (c:=λ_ j=>decide (0 < j)) (f:=(· % ·)) (L3 h)
theorem iM {a b:Ky}(h:0 < b)(h2:b < 1073741824):gf .fdiv (.int a) (.int b) S=ba (.int (a / b),S):=qb (c:=λ_ j=>BC j) (f:=(· / ·)) (by
 unfold BC;simp only[Kj,KG];exact⟨h,h2⟩)
theorem Fi:gf .pow (.int 10) (.int 18) S=ba (.int 1000000000000000000,S):=rfl
theorem Fj {x y:KF}(h:x.length+y.length<=sizeLine):gf .add (.str x) (.str y) S=ba (.str (x++y),S):=by simp only[gf,wt]; rw[KJ h]
theorem iN {xs ys:J9 W}(h:(xs++ys).length<=sizeLine):gf .add (.tup xs) (.tup ys) S=ba (.tup (xs++ys),S):=by simp only[gf,wt,tw]; rw[KJ h]
theorem zN {i j:Kk}{xs ys:J9 W}(h1:S[i]?=ba (.lst xs))(h2:S[j]?=ba (.lst ys))(h:(xs++ys).length<=sizeLine):gf .add (.ref i) (.ref j) S=ba (.ref S.length,S++[.lst (xs++ys)]):=by
 simp only[gf,wt,pE,h1,h2,mT]; rw[KJ h]
theorem iO {a b:Ky}:dz .eq (.int a) (.int b) S=ba (.bl (a==b),S):=rfl
theorem Js {a b:Ky}:dz .ne (.int a) (.int b) S=ba (.bl (!(a==b)),S):=rfl
theorem CH {a b:Ky}:dz .lt (.int a) (.int b) S=ba (.bl (decide (a < b)),S):=rfl
theorem Hw {a b:Ky}:dz .gt (.int a) (.int b) S=ba (.bl (decide (a > b)),S):=rfl
theorem Jt {a b:Ky}:dz .ge (.int a) (.int b) S=ba (.bl (decide (a>=b)),S):=rfl
theorem DA {a b:KF}:dz .eq (.str a) (.str b) S=ba (.bl (a==b),S):=rfl
theorem Hx {a b:KF}:dz .ne (.str a) (.str b) S=ba (.bl (!(a==b)),S):=rfl
theorem aw {r:Kk}{xs:J9 W}(h:S[r]?=ba (.lst xs)):gc S r=ba xs:=by simp[gc,h]
theorem CI {r:Kk}{xs:J9 W}(h:S[r]?=ba (.fro xs)):gc S r=ba xs:=by simp[gc,h]
theorem dF {r:Kk}{xs:J9 W}(h:S[r]?=ba (.lst xs)):pE S r=ba xs:=by simp[pE,h]
theorem qc {r:Kk}{xs:J9 W}(h:S[r]?=ba (.lst xs)):kn S r=gV:=by simp[kn,h]
theorem dG {r:Kk}{kvs:J9 (T×W)}(h:S[r]?=ba (.dic kvs)):kn S r=ba kvs:=by simp[kn,h]
theorem qd {r:Kk}{kvs:J9 (T×W)}(h:S[r]?=ba (.dic kvs)):gc S r=gV:=by simp[gc,h]
theorem CJ {r:Kk}{kvs:J9 (T×W)}(h:S[r]?=ba (.frd kvs)):kn S r=ba kvs:=by simp[kn,h]
theorem atI_nat {α:Type}{xs:J9 α}{j:Kk}{w:α}(h:xs[j]?=ba w):qX xs (j:Ky)=ba w:=by
 have hl:=(Kq.mp h).1;unfold qX uK;rw[KJ (KY j),KJ (by exact_mod_cast hl)]
 simpa using h
theorem qf {α:Type}{xs:J9 α}{i:Ky}{w:α}(h0:0<=i)(h:xs[i.toNat]?=ba w):qX xs i=ba w:=by
 have:=atI_nat h
 rwa [NW h0]at this
theorem zO {r:Kk}{xs:J9 W}{i:Ky}{w:W}(h:S[r]?=ba (.lst xs))(h0:0<=i)(hw:xs[i.toNat]?=ba w):qQ (.ref r) (.int i) S=ba (w,S):=by
 show wu (.ref r) (.int i) S=_;simp[wu,aw h,qf h0 hw]
theorem Hy {xs:J9 W}{i:Ky}{w:W}(h0:0<=i)(hw:xs[i.toNat]?=ba w):qQ (.tup xs) (.int i) S=ba (w,S):=by
 show wu (.tup xs) (.int i) S=_;simp[wu,qf h0 hw]
theorem DB {x:KF}{i:Ky}{c:Kk}(hz:x.length<=sizeLine)(h0:0<=i)(hw:x.cps.toList[i.toNat]?=ba c):qQ (.str x) (.int i) S=ba (.str ⟨[c].toArray⟩,S):=by
 show wu (.str x) (.int i) S=_;simp[wu,hz,qf h0 hw]
theorem DC {r:Kk}{xs:J9 W}{i:Ky}{w:W}(h:S[r]?=ba (.lst xs))(h0:0<=i)(hi:i.toNat < xs.length):ja (.ref r) (.int i) w S=ba (S.set r (.lst (xs.set i.toNat w))):=by
 show wx (.ref r) (.int i) w S=_;have:uK xs.length i=ba i.toNat:=by
  unfold uK;rw[KJ h0,KJ (by omega)]
 simp[wx,dF h,this]
theorem DD {r:Kk}{xs:J9 W}(h:S[r]?=ba (.lst xs)):tR [.ref r] S=ba (.int xs.length,S):=by
 simp[tR,qc h,tB,aw h]
theorem vE {r:Kk}{xs:J9 W}{y:W}(h:S[r]?=ba (.lst xs))(hl:xs.length < sizeLine):i3 (.ref r) [y] S=ba (.non,S.set r (.lst (xs++[y]))):=by
 simp[i3,dF h,hl]
theorem Hz {r:Kk}{xs:J9 W}(h:S[r]?=ba (.lst xs)):lL [.ref r] S=ba (.tup xs,S):=by
 simp[lL,BS,h,lv,aw h]
theorem dg {r:Kk}{xs:J9 W}(h:S[r]?=ba (.lst xs)):tyOk "list" S (.ref r)=true:=by simp[tyOk,aw h]
theorem bX {r:Kk}{o o':O}(h:S[r]?=ba o):(S.set r o')[r]?=ba o':=by
 rw[Mt,KJ rfl,KJ (Kq.mp h).1]
theorem bY {r j:Kk}{o':O}(h:r≠j):(S.set r o')[j]?=S[j]?:=by rw[Mt,KW h]
theorem ah {o:O}:(S++[o])[S.length]?=ba o:=by simp
theorem ap {j:Kk}{o u:O}(h:S[j]?=ba o):(S++[u])[j]?=ba o:=by rw[Lk (Kq.mp h).1]; exact h
theorem dR {j:Kk}{o:O}(h:S[j]?=ba o):j < S.length:=(Kq.mp h).1
structure Kp (r:Kk)(S S':aa):Prop where
 get:∀j o,j≠r->S[j]?=ba o->S'[j]?=ba o
 len:S.length<=S'.length
theorem Kp.refl {r:Kk}{S:aa}:Kp r S S:=⟨λ_ _ _ h=>h,Kn _⟩
theorem Kp.trans {r:Kk}{S S' S'':aa}(a:Kp r S S')(b:Kp r S' S''):Kp r S S'':=⟨λj o n h=>b.get j o n (a.get j o n h),KT a.len b.len⟩
theorem Kp.set {r:Kk}{S:aa}{o:O}:Kp r S (S.set r o):=⟨λj u n h=>by rw[bY (Ne.symm n)]; exact h,by simp⟩
theorem Kp.push {r:Kk}{S:aa}{o:O}:Kp r S (S++[o]):=⟨λj u n h=>ap h,by simp⟩
theorem Kp.late {r t:Kk}{S0 S:aa}{o:O}(a:Kp r S0 S)(h:S0.length<=t):Kp r S0 (S.set t o):=
 ⟨λj u n e=>by
  have:=dR e;rw[bY (by omega)]; exact a.get j u n e,by simpa using a.len⟩
end
noncomputable def wO {α:Type}(o:Ki α)(Q:α->Prop):Prop:=match o with
 | some a=>Q a
 | none=>LL
theorem cL {α:Type}{o:Ki α}{Q:α->Prop}(h:wO o Q):Wp o Q:=by
 cases o with
 | none=>exact h.elim
 | some a=>exact⟨a,rfl,h⟩
theorem HA {α:Type}{o:Ki α}{Q:α->Prop}(h:Wp o Q):wO o Q:=by
 obtain⟨a,rfl,q⟩:=h;exact q
theorem ae {α:Type}{o:Ki α}{a:α}{Q:α->Prop}(e:o=ba a)(h:Q a):wO o Q:=by subst e; exact h
noncomputable def wB:W->(KP->Prop)->Prop
 | .bl k,Q=>Q k
 | _,_=>LL
noncomputable def wN:W->(Ky->Prop)->Prop
 | .int k,Q=>Q k
 | _,_=>LL
noncomputable def wU:W->(J9 W->Prop)->Prop
 | .tup k,Q=>Q k
 | _,_=>LL
theorem vF {w:W}{Q:KP->Prop}(h:wB w Q):∃k,w=.bl k/\Q k:=by cases w <;> first|exact h.elim|exact⟨_,rfl,h⟩
theorem DE {w:W}{Q:Ky->Prop}(h:wN w Q):∃k,w=.int k/\Q k:=by cases w <;> first|exact h.elim|exact⟨_,rfl,h⟩
theorem HB {w:W}{Q:J9 W->Prop}(h:wU w Q):∃k,w=.tup k/\Q k:=by cases w <;> first|exact h.elim|exact⟨_,rfl,h⟩
noncomputable def w2:J9 W->(W->W->Prop)->Prop
 | [x,y],Q=>Q x y
 | _,_=>LL
theorem HC {xs:J9 W}{Q:W->W->Prop}(h:w2 xs Q):∃x y,xs=[x,y]/\Q x y:=by
 match xs,h with
 | [x,y],h=>exact⟨x,y,rfl,h⟩
noncomputable def wG:Ki W->(W->Prop)->Prop
 | some w,Q=>Q w
 | none,_=>LL
noncomputable def wV:Fm->Kk->(W->Prop)->Prop
 | [],_,_=>LL
 | o::_,0,Q=>wG o Q
 | _::ρ,n+1,Q=>wV ρ n Q
theorem zP {Q:W->Prop}:∀ {ρ:Fm} {i:Kk},wV ρ i Q->∃w,ρ[i]?=ba (ba w)/\Q w
 | [],i,h=>h.elim
 | some w::ρ,0,h=>⟨w,rfl,h⟩
 | none::ρ,0,h=>h.elim
 | x::ρ,n+1,h=>by
  obtain⟨w,e2,q⟩:=zP (ρ:=ρ) (i:=n) h;exact⟨w,e2,q⟩
noncomputable def bN (Φ:KF->FF)(f:KF)(n:Kk)(ws:J9 W)(S:aa):Ki (W×aa):=if ws.length=n then Φ f ws S else gV
section
variable (Φ:KF->FF) (fuel:Kk)
mutual
noncomputable def wE:E->Fm->aa->QW->Prop
 | .c w,_,S,Q=>Q (w,S)
 | .v i,ρ,S,Q=>wV ρ i λw=>Q (w,S)
 | .op o a b,ρ,S,Q=>wE a ρ S λp=>wE b ρ p.2 λq=>wO (gf o p.1 q.1 q.2) Q
 | .cmp o a b,ρ,S,Q=>wE a ρ S λp=>wE b ρ p.2 λq=>wO (dz o p.1 q.1 q.2) Q
 | .and a b,ρ,S,Q=>wE a ρ S λp=>wB p.1 λk=>(k=true->wE b ρ p.2 Q)/\(k=false->Q (.bl false,p.2))
 | .or a b,ρ,S,Q=>wE a ρ S λp=>wB p.1 λk=>(k=true->Q (.bl true,p.2))/\(k=false->wE b ρ p.2 Q)
 | .not a,ρ,S,Q=>wE a ρ S λp=>wB p.1 λk=>Q (.bl (!k),p.2)
 | .own f n es,ρ,S,Q=>wA es ρ S λp=>wO (bN Φ f n p.1 p.2) Q
 | .bi b es,ρ,S,Q=>wA es ρ S λp=>wO (b.fn p.1 p.2) Q
 | .me m o es,ρ,S,Q=>wE o ρ S λp=>tyOk m.ty p.2 p.1=true/\wA es ρ p.2 λq=>wO (m.fn p.1 q.1 q.2) Q
 | .ix a b,ρ,S,Q=>wE a ρ S λp=>wE b ρ p.2 λq=>wO (qQ p.1 q.1 q.2) Q
 | .sl a lo hi,ρ,S,Q=>wE a ρ S λp=>wP lo ρ p.2 λq=>wP hi ρ q.2 λr=>wO (ww p.1 q.1 r.1 r.2) Q
 | .tup es,ρ,S,Q=>wA es ρ S λp=>Q (.tup p.1,p.2)
 | .lst es,ρ,S,Q=>wA es ρ S λp=>Q (.ref p.2.length,p.2++[.lst p.1])
 | .isi c a,ρ,S,Q=>wE a ρ S λp=>wO (xh p.2 p.1 c) λk=>Q (.bl k,p.2)
 | .neg a,ρ,S,Q=>wE a ρ S λp=>wN p.1 λi=>Q (.int (-i),p.2)
 | .dnew,_,S,Q=>Q (.ref S.length,S++[.dic []])
 | .disp es,ρ,S,Q=>wA es ρ (S++[.dic []]) λp=>p.2[S.length]?=ba (.dic [])/\wO (dY [] p.1) λkvs=>Q (.ref S.length,p.2.set S.length (.dic kvs))
 | .ite t a b,ρ,S,Q=>wT t ρ S λp=>(p.1=true->wE a ρ p.2 Q)/\(p.1=false->wE b ρ p.2 Q)
 | .comp elt tg it cs cap,ρ,S,Q=>Wp (aE Φ (.comp elt tg it cs cap) ρ S) Q
noncomputable def wT:E->Fm->aa->QB->Prop
 | .cmp o a b,ρ,S,Q=>wE a ρ S λp=>wE b ρ p.2 λq=>wO (dz o p.1 q.1 q.2) λr=>wB r.1 λk=>Q (k,r.2)
 | .and a b,ρ,S,Q=>wT a ρ S λp=>(p.1=true->wT b ρ p.2 Q)/\(p.1=false->Q (false,p.2))
 | .or a b,ρ,S,Q=>wT a ρ S λp=>(p.1=true->Q (true,p.2))/\(p.1=false->wT b ρ p.2 Q)
 | .not a,ρ,S,Q=>wT a ρ S λp=>Q (!p.1,p.2)
 | .isi c a,ρ,S,Q=>wE a ρ S λp=>wO (xh p.2 p.1 c) λk=>Q (k,p.2)
 | .c w,ρ,S,Q=>Wp (du Φ (.c w) ρ S) Q
 | .v i,ρ,S,Q=>wV ρ i λw=>wO (iE S w) λk=>Q (k,S)
 | .op o a b,ρ,S,Q=>Wp (du Φ (.op o a b) ρ S) Q
 | .own f n es,ρ,S,Q=>wA es ρ S λp=>wO (bN Φ f n p.1 p.2) λq=>wO (iE q.2 q.1) λk=>Q (k,q.2)
 | .bi b es,ρ,S,Q=>wA es ρ S λp=>wO (b.fn p.1 p.2) λq=>wO (iE q.2 q.1) λk=>Q (k,q.2)
 | .me m o es,ρ,S,Q=>Wp (du Φ (.me m o es) ρ S) Q
 | .ix a b,ρ,S,Q=>Wp (du Φ (.ix a b) ρ S) Q
 | .sl a lo hi,ρ,S,Q=>Wp (du Φ (.sl a lo hi) ρ S) Q
 | .tup es,ρ,S,Q=>Wp (du Φ (.tup es) ρ S) Q
 | .lst es,ρ,S,Q=>Wp (du Φ (.lst es) ρ S) Q
 | .neg a,ρ,S,Q=>Wp (du Φ (.neg a) ρ S) Q
 | .dnew,ρ,S,Q=>Wp (du Φ .dnew ρ S) Q
 | .disp es,ρ,S,Q=>Wp (du Φ (.disp es) ρ S) Q
 | .ite t a b,ρ,S,Q=>Wp (du Φ (.ite t a b) ρ S) Q
 | .comp elt tg it cs cap,ρ,S,Q=>Wp (du Φ (.comp elt tg it cs cap) ρ S) Q
noncomputable def wA:Es->Fm->aa->(J9 W×aa->Prop)->Prop
 | .nil,_,S,Q=>Q ([],S)
 | .cons e es,ρ,S,Q=>wE e ρ S λp=>wA es ρ p.2 λq=>Q (p.1::q.1,q.2)
noncomputable def wP:Ep->Fm->aa->(Ki Ky×aa->Prop)->Prop
 | .no,_,S,Q=>Q (gV,S)
 | .yes a,ρ,S,Q=>wE a ρ S λp=>wN p.1 λi=>Q (ba i,p.2)
end
noncomputable def uq (K:Fm->aa->Prop)(Q:QO)(p:Out×aa):Prop:=match p.1 with
 | .nx ρ=>K ρ p.2
 | o=>Q (o,p.2)
mutual
noncomputable def wS:Sm->Fm->aa->(Fm->aa->Prop)->QO->Prop
 | .set i e,ρ,S,K,_=>wE Φ e ρ S λp=>K (ρ.set i (ba p.1)) p.2
 | .asg is e,ρ,S,K,_=>wE Φ e ρ S λp=>wU p.1 λws=>wO (dA is ws ρ) λρ'=>K ρ' p.2
 | .par i j es,ρ,S,K,_=>wA Φ es ρ S λp=>w2 p.1 λx y=>K ((ρ.set i (ba x)).set j (ba y)) p.2
 | .put o k e,ρ,S,K,_=>wE Φ e ρ S λp=>wE Φ o ρ p.2 λq=>wE Φ k ρ q.2 λr=>wO (ja q.1 r.1 p.1 r.2) λS'=>K ρ S'
 | .ex e,ρ,S,K,_=>wE Φ e ρ S λp=>K ρ p.2
 | .ret e,ρ,S,_,Q=>wE Φ e ρ S λp=>Q (.rt p.1,p.2)
 | .retN,_,S,_,Q=>Q (.rt .non,S)
 | .pass,ρ,S,K,_=>K ρ S
 | .brk,ρ,S,_,Q=>Q (.bk ρ,S)
 | .cont,ρ,S,_,Q=>Q (.ct ρ,S)
 | .bad,_,_,_,_=>LL
 | .ite t a b,ρ,S,K,Q=>wT Φ t ρ S λp=>∀Q':QO,(∀ρ' S',K ρ' S'->Q' (.nx ρ',S'))->(∀o S',(∀ρ',o≠.nx ρ')->Q (o,S')->Q' (o,S'))->(p.1=true->CK a ρ p.2 Q')/\(p.1=false->CK b ρ p.2 Q')
 | .whl t b,ρ,S,K,Q=>Wp (gN Φ fuel (.whl t b) ρ S) (uq K Q)
 | .loop tg it b,ρ,S,K,Q=>Wp (gN Φ fuel (.loop tg it b) ρ S) (uq K Q)
noncomputable def CK:Ss->Fm->aa->QO->Prop
 | .nil,ρ,S,Q=>Q (.nx ρ,S)
 | .cons s ss,ρ,S,Q=>wS s ρ S (λρ' S'=>CK ss ρ' S' Q) Q
end
end
noncomputable def Il:Es->Kk
 | .nil=>0
 | .cons _ es=>Il es+1
mutual
noncomputable def eC:E->KP
 | .c _|.v _|.comp _ _ _ _ _|.dnew=>true
 | .op _ a b|.cmp _ a b|.and a b|.or a b|.ix a b=>eC a&&eC b
 | .ite a b c=>eC a&&eC b&&eC c
 | .neg a|.not a|.isi _ a=>eC a
 | .own _ n es=>Il es==n&&qR es
 | .bi _ es|.disp es=>qR es
 | .me _ o es=>eC o&&qR es
 | .sl a lo hi=>eC a&&Ju lo&&Ju hi
 | .tup es|.lst es=>decide (Il es<=1000)&&qR es
noncomputable def qR:Es->KP
 | .nil=>true
 | .cons e es=>eC e&&qR es
noncomputable def Ju:Ep->KP
 | .no=>true
 | .yes e=>eC e
end
mutual
noncomputable def JT:Sm->KP
 | .set _ e|.asg _ e|.ex e|.ret e=>eC e
 | .put o k e=>eC o&&eC k&&eC e
 | .par _ _ es=>qR es
 | .ite t a b=>eC t&&iP a&&iP b
 | _=>true
noncomputable def iP:Ss->KP
 | .nil=>true
 | .cons s ss=>JT s&&iP ss
end
section
variable{Φ:KF->FF}{fuel:Kk}
theorem jg:∀ {es:Es} {ρ:Fm} {S S':aa} {ws:J9 W},dy Φ es ρ S=ba (ws,S')->ws.length=Il es
 | .nil,ρ,S,S',ws,h=>by dsimp only[dy]at h; cases h; rfl
 | .cons e es,ρ,S,S',ws,h=>by
  dsimp only[dy]at h;unfold eN at h;split at h
  ·split at h
   ·rename_i h2; cases h; rw[Li,jg h2]; rfl
   ·cases h
  ·cases h
theorem zQ {n:Kk}(h:decide (n<=1000)=true):n<=sizeLine:=KT (Lm h) (by rw[Lo]; decide)
theorem dv {a b:KP}(h:(a&&b)=true):a=true:=by cases a <;> first|rfl|cases h
theorem eQ {a b:KP}(h:(a&&b)=true):b=true:=by cases a <;> first|exact h|cases h
mutual
theorem bG:∀(e:E) {ρ:Fm} {S:aa} {Q:QW},eC e=true->wE Φ e ρ S Q->Wp (aE Φ e ρ S) Q
 | .c w,ρ,S,Q,k,h=>J2.mpr h
 | .v i,ρ,S,Q,k,h=>JS.mpr (zP h)
 | .op o a b,ρ,S,Q,k,h=>Ji.mpr ((bG a (dv k) h).mono λp hp=>(bG b (eQ k) hp).mono λq hq=>cL hq)
 | .cmp o a b,ρ,S,Q,k,h=>Dx.mpr ((bG a (dv k) h).mono λp hp=>(bG b (eQ k) hp).mono λq hq=>cL hq)
 | .and a b,ρ,S,Q,k,h=>Hb.mpr ((bG a (dv k) h).mono λp hp=>let ⟨c,e,h1,h2⟩:=vF hp; ⟨c,e,λz=>bG b (eQ k) (h1 z),h2⟩)
 | .or a b,ρ,S,Q,k,h=>Jk.mpr ((bG a (dv k) h).mono λp hp=>let ⟨c,e,h1,h2⟩:=vF hp; ⟨c,e,h1,λz=>bG b (eQ k) (h2 z)⟩)
 | .not a,ρ,S,Q,k,h=>Hc.mpr ((bG a k h).mono λp hp=>vF hp)
 | .own f n es,ρ,S,Q,k,h=>Dy.mpr (by
   obtain⟨⟨ws,S1⟩,e,hq⟩:=ip es (eQ k) h;have hl:ws.length=n:=(jg e).trans (eq_of_beq (dv k));simp only[bN,KJ hl]at hq;exact⟨_,e,hl,cL hq⟩)
 | .bi b es,ρ,S,Q,k,h=>He.mpr ((ip es k h).mono λp hp=>cL hp)
 | .me m o es,ρ,S,Q,k,h=>Jl.mpr ((bG o (dv k) h).mono λp hp=>⟨hp.1,(ip es (eQ k) hp.2).mono λq hq=>cL hq⟩)
 | .ix a b,ρ,S,Q,k,h=>Jj.mpr ((bG a (dv k) h).mono λp hp=>(bG b (eQ k) hp).mono λq hq=>cL hq)
 | .sl a lo hi,ρ,S,Q,k,h=>Jm.mpr ((bG a (dv (dv k)) h).mono λp hp=>(DF lo (eQ (dv k)) hp).mono λq hq=>(DF hi (eQ k) hq).mono λr hr=>cL hr)
 | .tup es,ρ,S,Q,k,h=>Hg.mpr (by
   obtain⟨⟨ws,S1⟩,e,hq⟩:=ip es (eQ k) h;exact⟨_,e,by rw[jg e]; exact zQ (dv k),hq⟩)
 | .lst es,ρ,S,Q,k,h=>Hh.mpr (by
   obtain⟨⟨ws,S1⟩,e,hq⟩:=ip es (eQ k) h;exact⟨_,e,by rw[jg e]; exact zQ (dv k),hq⟩)
 | .isi c a,ρ,S,Q,k,h=>Dz.mpr ((bG a k h).mono λp hp=>cL hp)
 | .neg a,ρ,S,Q,k,h=>Hi.mpr ((bG a k h).mono λp hp=>DE hp)
 | .dnew,ρ,S,Q,k,h=>⟨_,rfl,h⟩
 | .disp es,ρ,S,Q,k,h=>E9.mpr ((ip es k h).mono λp hp=>⟨hp.1,let ⟨kvs,e,q⟩:=cL hp.2; ⟨kvs,e,q⟩⟩)
 | .ite t a b,ρ,S,Q,k,h=>Hd.mpr ((jh t (dv (dv k)) h).mono λp hp=>⟨λz=>bG a (eQ (dv k)) (hp.1 z),λz=>bG b (eQ k) (hp.2 z)⟩)
 | .comp elt tg it cs cap,ρ,S,Q,k,h=>h
theorem ip:∀(es:Es) {ρ:Fm} {S:aa} {Q:J9 W×aa->Prop},qR es=true->wA Φ es ρ S Q->Wp (dy Φ es ρ S) Q
 | .nil,ρ,S,Q,k,h=>Hj.mpr h
 | .cons e es,ρ,S,Q,k,h=>Fa.mpr ((bG e (dv k) h).mono λp hp=>ip es (eQ k) hp)
theorem DF:∀(e:Ep) {ρ:Fm} {S:aa} {Q:Ki Ky×aa->Prop},Ju e=true->wP Φ e ρ S Q->Wp (vp Φ e ρ S) Q
 | .no,ρ,S,Q,k,h=>Jn.mpr h
 | .yes a,ρ,S,Q,k,h=>Hf.mpr ((bG a k h).mono λp hp=>DE hp)
theorem jh:∀(e:E) {ρ:Fm} {S:aa} {Q:QB},eC e=true->wT Φ e ρ S Q->Wp (du Φ e ρ S) Q
 | .cmp o a b,ρ,S,Q,k,h=>Hl.mpr (Dx.mpr ((bG a (dv k) h).mono λp hp=>(bG b (eQ k) hp).mono λq hq=>(cL hq).mono λr hr=>vF hr))
 | .and a b,ρ,S,Q,k,h=>Hm.mpr ((jh a (dv k) h).mono λp hp=>⟨λz=>jh b (eQ k) (hp.1 z),hp.2⟩)
 | .or a b,ρ,S,Q,k,h=>Jo.mpr ((jh a (dv k) h).mono λp hp=>⟨hp.1,λz=>jh b (eQ k) (hp.2 z)⟩)
 | .not a,ρ,S,Q,k,h=>Hn.mpr (jh a k h)
 | .isi c a,ρ,S,Q,k,h=>Hq.mpr (Dz.mpr ((bG a k h).mono λp hp=>let ⟨b,e,q⟩:=cL hp; ⟨b,e,b,rfl,q⟩))
 | .v i,ρ,S,Q,k,h=>J3.mpr (JS.mpr (let ⟨w,e,q⟩:=zP h; ⟨w,e,cL q⟩))
 | .own f n es,ρ,S,Q,k,h=>Ho.mpr (Dy.mpr (by
   obtain⟨⟨ws,S1⟩,e,hq⟩:=ip es (eQ k) h;have hl:ws.length=n:=(jg e).trans (eq_of_beq (dv k));simp only[bN,KJ hl]at hq;exact⟨_,e,hl,(cL hq).mono λq hq=>cL hq⟩))
 | .c w,ρ,S,Q,k,h=>h
 | .op o a b,ρ,S,Q,k,h=>h
 | .bi b es,ρ,S,Q,k,h=>Jp.mpr (He.mpr ((ip es k h).mono λp hp=>(cL hp).mono λq hq=>cL hq))
 | .me m o es,ρ,S,Q,k,h=>h
 | .ix a b,ρ,S,Q,k,h=>h
 | .sl a lo hi,ρ,S,Q,k,h=>h
 | .tup es,ρ,S,Q,k,h=>h
 | .lst es,ρ,S,Q,k,h=>h
 | .neg a,ρ,S,Q,k,h=>h
 | .dnew,ρ,S,Q,k,h=>h
 | .disp es,ρ,S,Q,k,h=>h
 | .ite t a b,ρ,S,Q,k,h=>h
 | .comp elt tg it cs cap,ρ,S,Q,k,h=>h
end
mutual
theorem HD:∀(s:Sm) {ρ:Fm} {S:aa} {K:Fm->aa->Prop} {Q:QO},JT s=true->wS Φ fuel s ρ S K Q->Wp (gN Φ fuel s ρ S) (uq K Q)
 | .set i e,ρ,S,K,Q,k,h=>Fc.mpr (bG e k h)
 | .asg is e,ρ,S,K,Q,k,h=>Fd.mpr ((bG e k h).mono λp hp=>let ⟨ws,e1,h1⟩:=HB hp; let ⟨ρ',e2,h2⟩:=cL h1; ⟨ws,ρ',e1,e2,h2⟩)
 | .par i j es,ρ,S,K,Q,k,h=>Fe.mpr ((ip es k h).mono λp hp=>HC hp)
 | .put o i e,ρ,S,K,Q,k,h=>Ff.mpr ((bG e (eQ k) h).mono λp hp=>(bG o (dv (dv k)) hp).mono λq hq=>(bG i (eQ (dv k)) hq).mono λr hr=>cL hr)
 | .ex e,ρ,S,K,Q,k,h=>Hs.mpr (bG e k h)
 | .ret e,ρ,S,K,Q,k,h=>Fg.mpr (bG e k h)
 | .retN,ρ,S,K,Q,k,h=>⟨_,rfl,h⟩
 | .pass,ρ,S,K,Q,k,h=>⟨_,rfl,h⟩
 | .brk,ρ,S,K,Q,k,h=>⟨_,rfl,h⟩
 | .cont,ρ,S,K,Q,k,h=>⟨_,rfl,h⟩
 | .bad,ρ,S,K,Q,k,h=>h.elim
 | .ite t a b,ρ,S,K,Q,k,h=>Fh.mpr ((jh t (dv (dv k)) h).mono λp hp=>by
   obtain⟨h1,h2⟩:=hp (uq K Q) (λρ' S' z=>z) (λo S' hn z=>by cases o <;> first|exact z|exact absurd rfl (hn _))
   exact⟨λz=>jP a (eQ (dv k)) (h1 z),λz=>jP b (eQ k) (h2 z)⟩)
 | .whl t b,ρ,S,K,Q,k,h=>h
 | .loop tg it b,ρ,S,K,Q,k,h=>h
theorem jP:∀(ss:Ss) {ρ:Fm} {S:aa} {Q:QO},iP ss=true->CK Φ fuel ss ρ S Q->Wp (gq Φ fuel ss ρ S) Q
 | .nil,ρ,S,Q,k,h=>Hr.mpr h
 | .cons s ss,ρ,S,Q,k,h=>Fb.mpr ((HD s (dv k) h).mono λp hp=>by
   obtain⟨o,S1⟩:=p;cases o with
   | nx ρ'=>exact⟨λρ2 e=>by cases e; exact jP ss (eQ k) hp,λz=>absurd rfl (z ρ')⟩
   | _=>exact⟨λρ2 e=>(by cases e),λ_=>hp⟩)
end
structure wZ (Φ:KF->FF)(fuel:Kk)(ss:Ss)(ρ:Fm)(S:aa)(Q:QO):Prop where
 out:CK Φ fuel ss ρ S Q
theorem HE {ss:Ss}{ρ:Fm}{S:aa}{Q:QO}:CK Φ fuel ss ρ S Q=wZ Φ fuel ss ρ S Q:=propext ⟨λh=>⟨h⟩,λh=>h.out⟩
theorem Fk {defs:J9 (KF×Df)}{d:Kk}{f:KF}{n:Kk}{ws:J9 W}{df:Df}{S:aa}{Q:QW}(h:defs.lookup f=ba df)(hn:ws.length=n)(hl:ws.length=df.ps.length)(ok:iP df.body=true)
  (hb:∀Q':QO,(∀w S',Q (w,S')->Q' (.rt w,S'))->wZ (aq defs fuel d) fuel df.body (fO df.N ws) S Q'):wO (bN (aq defs fuel (d+1)) f n ws S) Q:=by
 unfold bN;rw[KJ hn];exact HA (xn h hl ((jP _ ok (hb (λp=>match p.1 with|.rt w=>Q (w,p.2)|_=>LL) λw S' q=>q).out).mono λp hp=>by
  obtain⟨o,S1⟩:=p;cases o <;> first|exact hp|exact hp.elim))
end
section
variable{Φ:KF->FF}{fuel:Kk}{ρ:Fm}{S:aa}{K:Fm->aa->Prop}{Q:QO}
noncomputable def zR (Φ:KF->FF)(fuel:Kk)(b:Ss)(ρ:Fm)(S:aa)(I:Fm->aa->Prop)(Q:QO):Prop:=∀Q':QO,(∀ρ' S',I ρ' S'->Q' (.nx ρ',S'))->(∀w S',Q (.rt w,S')->Q' (.rt w,S'))->wZ Φ fuel b ρ S Q'
theorem jQ {tg:Tg}{it:Ie}{b:Ss}{mi:MI}{S1:aa}{xs:J9 W}(I:Kk->Fm->aa->Prop)(ok:iP b=true)(hi:la Φ it ρ S=ba (mi,S1))(hat:∀i ρ S,I i ρ S->mi.at S i=ba xs[i]?)(hl:mi.len S1=ba xs.length)(h0:I 0 ρ S1)
  (hstep:∀(i:Kk) (w:W) (ρ:Fm) (S:aa),xs[i]?=ba w->I i ρ S->wO (ik tg w ρ S) λq=>zR Φ fuel b q.1 q.2 (I (i+1)) Q) (hend:∀ρ S,I xs.length ρ S->K ρ S):Wp (gN Φ fuel (.loop tg it b) ρ S) (uq K Q):=by
 rw[gN,Ht];refine⟨_,hi,xs.length,hl,?_⟩;refine jO (Q:=uq K Q) I hat (λi w ρ S h1 h2=>?_) (λρ S h=>hend ρ S h) _ 0 ρ S1 (by omega) h0
 exact(cL (hstep i w ρ S h1 h2)).mono λq hq=>jP b ok (wZ.out (hq _ (λ_ _ h=>h) λ_ _ h=>h))
theorem cv {e:E}{Q:QW}(ok:eC e=true)(h:wE Φ e ρ S Q):∃w S',aE Φ e ρ S=ba (w,S')/\Q (w,S'):=let ⟨⟨w,S'⟩,a,b⟩:=bG e ok h; ⟨w,S',a,b⟩
theorem eg {i0:Kk}{e:E}{b:Ss}(j:Ky)(I:Kk->Fm->aa->Prop)(oe:eC e=true)(ok:iP b=true)(hj : -(2 ^ 62)<=j/\j < 2 ^ 62)(he:wE Φ e ρ S λp=>p.1=.int j/\I 0 ρ p.2)
  (hstep:∀(i:Kk) (ρ:Fm) (S:aa),(i:Ky) < j->I i ρ S->zR Φ fuel b (ρ.set i0 (ba (.int i))) S (I (i+1)) Q) (hend:∀ρ S,I j.toNat ρ S->K ρ S):Wp (gN Φ fuel (.loop (.nm i0) (.rng (.cons e .nil)) b) ρ S) (uq K Q):=by
 obtain⟨w,S1,e1,rfl,h0⟩:=cv oe he;have hl:(dt 0 j.toNat).length=j.toNat:=by simp[dt]
 refine jQ (mi:=.its (dt 0 j.toNat)) (S1:=S1) (xs:=dt 0 j.toNat) I ok ?_ (λ_ _ _ _=>rfl) rfl h0 (λi w ρ S hw hI=>?_) λρ S hI=>hend ρ S (hl ▸ hI)
 ·simp only[la,dy,eN,iI,uc,e1];rw[KJ hj]
 ·rw[eO]at hw;split at hw
  ·rename_i hk;cases hw;rw[PV];exact hstep i ρ S (by omega) hI
  ·cases hw
theorem vG {tg:Tg}{e:E}{b:Ss}(t:Kk)(xs:J9 W)(I:Kk->Fm->aa->Prop)(oe:eC e=true)(ok:iP b=true)(he:wE Φ e ρ S λp=>p.1=.ref t/\I 0 ρ p.2)(hat:∀i ρ S,I i ρ S->S[t]?=ba (.lst xs))
  (hstep:∀(i:Kk) (w:W) (ρ:Fm) (S:aa),xs[i]?=ba w->I i ρ S->wO (ik tg w ρ S) λq=>zR Φ fuel b q.1 q.2 (I (i+1)) Q) (hend:∀ρ S,I xs.length ρ S->K ρ S):Wp (gN Φ fuel (.loop tg (.seq e) b) ρ S) (uq K Q):=by
 obtain⟨w,S1,e1,rfl,h0⟩:=cv oe he;exact jQ (mi:=.live t) (S1:=S1) I ok (by simp only[la,fU,e1,aw (hat _ _ _ h0)]) (λi ρ S h=>by simp only[MI.at,aw (hat _ _ _ h)]) (by simp only[MI.len,aw (hat _ _ _ h0),Ld]) h0 hstep hend
theorem DG {t:E}{b:Ss}(I:Kk->Fm->aa->Prop)(m:Kk)(ot:eC t=true)(ok:iP b=true)(hm:m < fuel)(h0:I m ρ S)
  (hstep:∀m ρ S,I m ρ S->wT Φ t ρ S λk=>(k.1=true->∃m',m=m'+1/\zR Φ fuel b ρ k.2 (I m') Q)/\(k.1=false->K ρ k.2)):Wp (gN Φ fuel (.whl t b) ρ S) (uq K Q):=by
 rw[gN];refine lU (Q:=uq K Q) I (λm ρ S hI=>(jh t ot (hstep m ρ S hI)).mono λk hk=>⟨λz=>?_,λz=>hk.2 z⟩) fuel m ρ S hm h0
 obtain⟨m',e,h⟩:=hk.1 z;exact⟨m',e,jP b ok (wZ.out (h _ (λ_ _ h=>h) λ_ _ h=>h))⟩
noncomputable def wC (Φ:KF->FF):Es->Fm->aa->QB->Prop
 | .nil,_,S,Q=>Q (true,S)
 | .cons e .nil,ρ,S,Q=>wT Φ e ρ S Q
 | .cons _ (.cons _ _),_,_,_=>LL
theorem zS {cs:Es}{Q:QB}(ok:qR cs=true)(h:wC Φ cs ρ S Q):Wp (CA Φ cs ρ S) Q:=by
 match cs,h,ok with
 | .nil,h,_=>exact Hu.mpr h
 | .cons e .nil,h,ok=>exact Hv.mpr (jh e (dv ok) h)
noncomputable def iQ (Φ:KF->FF)(elt:E)(cs:Es)(ρ:Fm)(S:aa)(G:W->Fm->aa->Prop)(N:Fm->aa->Prop):Prop:=wC Φ cs ρ S λk=>(k.1=true->wE Φ elt ρ k.2 λy=>G y.1 ρ y.2)/\(k.1=false->N ρ k.2)
theorem lV {elt:E}{tg:Tg}{it:Ie}{cs:Es}{cap:J9 (Ki Kk)}{mi:MI}{S1:aa}{xs:J9 W}{Q:QW}(I:Kk->J9 W->Fm->aa->Prop)(oe:eC elt=true)(oc:qR cs=true)(hi:la Φ it ρ S=ba (mi,S1))(hat:∀i ys ρ S,I i ys ρ S->mi.at S i=ba xs[i]?)(hl:mi.len S1=ba xs.length)(h0:I 0 [] (fN cap ρ) S1)
  (hstep:∀(i:Kk) (w:W) (ys:J9 W) (ρ:Fm) (S:aa),xs[i]?=ba w->I i ys ρ S->wO (ik tg w ρ S) λq=>iQ Φ elt cs q.1 q.2 (λy=>I (i+1) (ys++[y])) (I (i+1) ys))
  (hend:∀ys ρ S,I xs.length ys ρ S->ys.length<=sizeLine/\Q (.ref S.length,S++[.lst ys])):Wp (aE Φ (.comp elt tg it cs cap) ρ S) Q:=by
 rw[um];refine⟨_,hi,xs.length,hl,?_⟩;refine(de (xs:=xs) (Q:=λq=>q.1.length<=sizeLine/\Q (.ref q.2.length,q.2++[.lst q.1])) I hat (λi w ys ρ S h1 h2=>?_) hend xs.length 0 [] _ S1 (by omega) h0).mono λq hq=>by simpa using hq
 exact(cL (hstep i w ys ρ S h1 h2)).mono λq hq=>(zS oc hq).mono λk hk=>⟨λz=>bG elt oe (hk.1 z),hk.2⟩
theorem dH {elt e:E}{i0:Kk}{cs:Es}{cap:J9 (Ki Kk)}{Q:QW}(j:Ky)(I:Kk->J9 W->Fm->aa->Prop)(oi:eC e=true)(oe:eC elt=true)(oc:qR cs=true)(hj : -(2 ^ 62)<=j/\j < 2 ^ 62)(he:wE Φ e ρ S λp=>p.1=.int j/\I 0 [] (fN cap ρ) p.2)
  (hstep:∀(i:Kk) (ys:J9 W) (ρ:Fm) (S:aa),(i:Ky) < j->I i ys ρ S->iQ Φ elt cs (ρ.set i0 (ba (.int i))) S (λy=>I (i+1) (ys++[y])) (I (i+1) ys))
  (hend:∀ys ρ S,I j.toNat ys ρ S->ys.length<=sizeLine/\Q (.ref S.length,S++[.lst ys])):Wp (aE Φ (.comp elt (.nm i0) (.rng (.cons e .nil)) cs cap) ρ S) Q:=by
 obtain⟨w,S1,e1,rfl,h0⟩:=cv oi he;have hl:(dt 0 j.toNat).length=j.toNat:=by simp[dt]
 refine lV (mi:=.its (dt 0 j.toNat)) (S1:=S1) (xs:=dt 0 j.toNat) I oe oc ?_ (λ_ _ _ _ _=>rfl) rfl h0 (λi w ys ρ S hw hI=>?_) λys ρ S hI=>hend ys ρ S (hl ▸ hI)
 ·simp only[la,dy,eN,iI,uc,e1];rw[KJ hj]
 ·rw[eO]at hw;split at hw
  ·rename_i hk;cases hw;rw[PV];exact hstep i ys ρ S (by omega) hI
  ·cases hw
theorem vH {elt e:E}{tg:Tg}{cs:Es}{cap:J9 (Ki Kk)}{Q:QW}(xs:J9 W)(I:Kk->J9 W->Fm->aa->Prop)(oi:eC e=true)(oe:eC elt=true)(oc:qR cs=true)(he:wE Φ e ρ S λp=>p.1=.tup xs/\I 0 [] (fN cap ρ) p.2)
  (hstep:∀(i:Kk) (w:W) (ys:J9 W) (ρ:Fm) (S:aa),xs[i]?=ba w->I i ys ρ S->wO (ik tg w ρ S) λq=>iQ Φ elt cs q.1 q.2 (λy=>I (i+1) (ys++[y])) (I (i+1) ys))
  (hend:∀ys ρ S,I xs.length ys ρ S->ys.length<=sizeLine/\Q (.ref S.length,S++[.lst ys])):Wp (aE Φ (.comp elt tg (.seq e) cs cap) ρ S) Q:=by
 obtain⟨w,S1,e1,rfl,h0⟩:=cv oi he;exact lV (mi:=.its xs) (S1:=S1) I oe oc (by simp only[la,fU,e1]) (λ_ _ _ _ _=>rfl) rfl h0 hstep hend
theorem vI {elt e:E}{tg:Tg}{cs:Es}{cap:J9 (Ki Kk)}{Q:QW}(t:Kk)(xs:J9 W)(I:Kk->J9 W->Fm->aa->Prop)(oi:eC e=true)(oe:eC elt=true)(oc:qR cs=true)(he:wE Φ e ρ S λp=>p.1=.ref t/\I 0 [] (fN cap ρ) p.2)(hat:∀i ys ρ S,I i ys ρ S->S[t]?=ba (.lst xs))
  (hstep:∀(i:Kk) (w:W) (ys:J9 W) (ρ:Fm) (S:aa),xs[i]?=ba w->I i ys ρ S->wO (ik tg w ρ S) λq=>iQ Φ elt cs q.1 q.2 (λy=>I (i+1) (ys++[y])) (I (i+1) ys))
  (hend:∀ys ρ S,I xs.length ys ρ S->ys.length<=sizeLine/\Q (.ref S.length,S++[.lst ys])):Wp (aE Φ (.comp elt tg (.seq e) cs cap) ρ S) Q:=by
 obtain⟨w,S1,e1,rfl,h0⟩:=cv oi he;exact lV (mi:=.live t) (S1:=S1) I oe oc (by simp only[la,fU,e1,aw (hat _ _ _ _ h0)]) (λi ys ρ S h=>by simp only[MI.at,aw (hat _ _ _ _ h)]) (by simp only[MI.len,aw (hat _ _ _ _ h0),Ld]) h0 hstep hend
theorem st {s:Sm}{ss:Ss}(h:wS Φ fuel s ρ S (λρ' S'=>wZ Φ fuel ss ρ' S' Q) Q):wZ Φ fuel (.cons s ss) ρ S Q:=⟨by
 dsimp only[CK];simp only[HE];exact h⟩
theorem dS (h:Q (.nx ρ,S)):wZ Φ fuel .nil ρ S Q:=⟨h⟩
theorem aS {t:KP}{a b:Ss}{Q Q0:QO}{K:Fm->aa->Prop}(ha:t=true->∀Q':QO,(∀ρ' S',K ρ' S'->Q' (.nx ρ',S'))->(∀w S',Q (.rt w,S')->Q' (.rt w,S'))->wZ Φ fuel a ρ S Q')(hb:t=false->∀Q':QO,(∀ρ' S',K ρ' S'->Q' (.nx ρ',S'))->(∀w S',Q (.rt w,S')->Q' (.rt w,S'))->wZ Φ fuel b ρ S Q') :
  ∀Q':QO,(∀ρ' S',K ρ' S'->Q' (.nx ρ',S'))->(∀o S',(∀ρ',o≠.nx ρ')->Q (o,S')->Q' (o,S'))->(t=true->CK Φ fuel a ρ S Q')/\(t=false->CK Φ fuel b ρ S Q'):=
 λQ' h1 h2=>⟨λe=>(ha e Q' h1 λw S'=>h2 (.rt w) S' (λ_ z=>nomatch z)).out,λe=>(hb e Q' h1 λw S'=>h2 (.rt w) S' (λ_ z=>nomatch z)).out⟩
end
noncomputable def eR:Ss:=
 (.cons (.ret (.lst (.cons (.bi .list (.cons (.v 0) .nil)) (.cons (.c (.int 0)) (.cons (.c (.int 0)) (.cons (.c (.int 1)) (.cons (.c (.int 0)) .nil)))))))
 .nil)
noncomputable def cW:Ss:=
 (.cons (.ite (.and (.cmp .eq (.ix (.v 0) (.c (.int 2))) (.c (.int 0))) (.cmp .lt (.ix (.v 0) (.c (.int 1))) (.bi .len (.cons (.ix (.v 0) (.c (.int 0))) .nil)))) (.cons (.set 2 (.ix (.ix (.v 0) (.c (.int 0))) (.ix (.v 0) (.c (.int 1)))))
 (.cons (.put (.v 0) (.c (.int 1)) (.op .add (.ix (.v 0) (.c (.int 1))) (.c (.int 1))))
 (.cons (.ite (.cmp .ge (.v 2) (.op .pow (.c (.int 10)) (.c (.int 18)))) (.cons (.put (.v 0) (.c (.int 2)) (.v 2))
 .nil) (.cons (.put (.v 0) (.c (.int 3)) (.op .mod (.op .add (.op .add (.op .mul (.ix (.v 0) (.c (.int 3))) (.c (.int 40013))) (.op .mod (.v 2) (.c (.int 1000003)))) (.c (.int 1))) (.c (.int 2147483647))))
 .nil))
 .nil))) .nil)
 (.cons (.ite (.cmp .gt (.ix (.v 0) (.c (.int 2))) (.c (.int 0))) (.cons (.set 3 (.op .mod (.ix (.v 0) (.c (.int 2))) (.v 1)))
 (.cons (.put (.v 0) (.c (.int 2)) (.op .fdiv (.ix (.v 0) (.c (.int 2))) (.v 1)))
 (.cons (.ret (.v 3))
 .nil))) .nil)
 (.cons (.put (.v 0) (.c (.int 4)) (.op .add (.ix (.v 0) (.c (.int 4))) (.c (.int 1))))
 (.cons (.put (.v 0) (.c (.int 3)) (.op .mod (.op .add (.op .add (.op .mul (.ix (.v 0) (.c (.int 3))) (.c (.int 48271))) (.c (.int 12820163))) (.ix (.v 0) (.c (.int 4)))) (.c (.int 2147483647))))
 (.cons (.ret (.op .mod (.op .fdiv (.op .mod (.op .mul (.op .add (.op .mod (.ix (.v 0) (.c (.int 3))) (.c (.int 65521))) (.c (.int 1))) (.op .add (.op .fdiv (.ix (.v 0) (.c (.int 3))) (.c (.int 65521))) (.c (.int 7919)))) (.c (.int 1000003))) (.c (.int 7))) (.v 1)))
 .nil)))))
noncomputable def dI:Ss:=
 (.cons (.ret (.me .join (.c (.str "")) (.cons (.comp (.ix (.c (.str "abcdefghijklmnopqrstuvwxyz")) (.own "_law_pick" 2 (.cons (.v 2) (.cons (.c (.int 26)) .nil)))) (.nm 1) (.rng (.cons (.v 1) .nil)) .nil [gV,gV,ba 0]) .nil)))
 .nil)
noncomputable def fP:Ss:=
 (.cons (.ite (.cmp .ne (.v 1) (.c (.str ""))) (.cons (.ret (.op .add (.v 1) (.own "_law_letters" 2 (.cons (.v 0) (.cons (.op .add (.c (.int 1)) (.own "_law_pick" 2 (.cons (.v 0) (.cons (.c (.int 2)) .nil)))) .nil)))))
 .nil) .nil)
 (.cons (.ite (.cmp .eq (.own "_law_pick" 2 (.cons (.v 0) (.cons (.c (.int 6)) .nil))) (.c (.int 0))) (.cons (.set 2 (.lst (.cons (.c (.str "markss")) (.cons (.c (.str "mark")) (.cons (.c (.str "way")) (.cons (.c (.str "wayss")) (.cons (.c (.str "bars")) (.cons (.c (.str "ba")) (.cons (.c (.str "somex")) .nil)))))))))
 (.cons (.set 2 (.op .add (.v 2) (.lst (.cons (.c (.str "eachx")) (.cons (.c (.str "note")) (.cons (.c (.str "no")) (.cons (.c (.str "ands")) (.cons (.c (.str "ors")) (.cons (.c (.str "o")) (.cons (.c (.str "iss")) .nil))))))))))
 (.cons (.ret (.ix (.v 2) (.own "_law_pick" 2 (.cons (.v 0) (.cons (.c (.int 14)) .nil)))))
 .nil))) .nil)
 (.cons (.ret (.own "_law_letters" 2 (.cons (.v 0) (.cons (.op .add (.c (.int 1)) (.own "_law_pick" 2 (.cons (.v 0) (.cons (.c (.int 8)) .nil)))) .nil))))
 .nil)))
noncomputable def cZ:Ss:=
 (.cons (.set 2 (.c (.str "")))
 (.cons (.ite (.cmp .eq (.own "_law_pick" 2 (.cons (.v 0) (.cons (.c (.int 3)) .nil))) (.c (.int 0))) (.cons (.set 2 (.own "_law_letters" 2 (.cons (.v 0) (.cons (.op .add (.c (.int 1)) (.own "_law_pick" 2 (.cons (.v 0) (.cons (.c (.int 6)) .nil)))) .nil))))
 .nil) .nil)
 (.cons (.set 3 (.lst (.cons (.c (.str "marks")) (.cons (.c (.str "ways")) (.cons (.c (.str "bar")) (.cons (.c (.str "some")) (.cons (.c (.str "each")) (.cons (.c (.str "not")) (.cons (.c (.str "and")) (.cons (.c (.str "or")) (.cons (.c (.str "is")) .nil)))))))))))
 (.cons (.loop (.nm 4) (.rng (.cons (.v 1) .nil)) (.cons (.set 5 (.own "_law_name" 2 (.cons (.v 0) (.cons (.v 2) .nil))))
 (.cons (.set 6 (.c (.int 0)))
 (.cons (.whl (.cmp .isin (.v 5) (.v 3)) (.cons (.set 5 (.op .mul (.ix (.c (.str "abcdefghijklmnopqrstuvwxyz")) (.op .mod (.v 6) (.c (.int 26)))) (.op .add (.c (.int 1)) (.op .fdiv (.v 6) (.c (.int 26))))))
 (.cons (.set 6 (.op .add (.v 6) (.c (.int 1))))
 .nil)))
 (.cons (.ex (.me .append (.v 3) (.cons (.v 5) .nil)))
 .nil)))))
 (.cons (.ret (.bi .tuple (.cons (.sl (.v 3) (.yes (.c (.int 9))) .no) .nil)))
 .nil)))))
noncomputable def dJ:Ss:=
 (.cons (.ite (.cmp .lt (.v 3) (.v 2)) (.cons (.ret (.ix (.ix (.ix (.v 1) (.v 2)) (.c (.int 1))) (.v 3)))
 .nil) .nil)
 (.cons (.ret (.ix (.ix (.ix (.v 0) (.c (.int 1))) (.ix (.ix (.ix (.v 1) (.v 3)) (.c (.int 1))) (.v 2))) (.c (.int 1))))
 .nil))
noncomputable def fQ:Ss:=
 (.cons (.set 3 (.lst .nil))
 (.cons (.loop (.nm 4) (.rng (.cons (.bi .len (.cons (.v 2) .nil)) .nil)) (.cons (.set 5 (.ix (.v 2) (.v 4)))
 (.cons (.ex (.me .append (.v 3) (.cons (.tup (.cons (.ix (.ix (.v 1) (.v 5)) (.c (.int 0))) (.cons (.bi .tuple (.cons (.comp (.own "_law_between" 4 (.cons (.v 3) (.cons (.v 4) (.cons (.v 2) (.cons (.v 1) .nil))))) (.nm 1) (.seq (.sl (.v 2) .no (.yes (.v 4)))) .nil [gV,gV,ba 5,ba 0,ba 1]) .nil)) .nil))) .nil)))
 .nil)))
 (.cons (.ret (.bi .tuple (.cons (.v 3) .nil)))
 .nil)))
noncomputable def gw:Ss:=
 (.cons (.ret (.lst (.cons (.tup (.cons (.c (.int 0)) (.cons (.c (.int 1)) (.cons (.c (.int 2)) .nil)))) (.cons (.tup (.cons (.c (.int 0)) (.cons (.c (.int 2)) (.cons (.c (.int 1)) .nil)))) (.cons (.tup (.cons (.c (.int 1)) (.cons (.c (.int 0)) (.cons (.c (.int 2)) .nil)))) (.cons (.tup (.cons (.c (.int 1)) (.cons (.c (.int 2)) (.cons (.c (.int 0)) .nil)))) (.cons (.tup (.cons (.c (.int 2)) (.cons (.c (.int 0)) (.cons (.c (.int 1)) .nil)))) (.cons (.tup (.cons (.c (.int 2)) (.cons (.c (.int 1)) (.cons (.c (.int 0)) .nil)))) .nil))))))))
 .nil)
noncomputable def eh:Ss:=
 (.cons (.ret (.bi .min (.cons (.comp (.own "_law_part" 3 (.cons (.v 2) (.cons (.v 3) (.cons (.v 1) .nil)))) (.nm 1) (.seq (.own "_law_turns" 0 .nil)) .nil [gV,gV,ba 0,ba 1]) .nil)))
 .nil)
noncomputable def eZ:Ss:=
 (.cons (.set 2 (.ix (.lst (.cons (.lst (.cons (.tup (.cons (.c (.int 0)) .nil)) .nil)) (.cons (.lst (.cons (.tup (.cons (.c (.int 0)) (.cons (.c (.int 1)) .nil))) (.cons (.tup (.cons (.c (.int 1)) (.cons (.c (.int 0)) .nil))) .nil))) (.cons (.lst (.cons (.tup (.cons (.c (.int 0)) (.cons (.c (.int 1)) (.cons (.c (.int 2)) .nil)))) (.cons (.tup (.cons (.c (.int 1)) (.cons (.c (.int 0)) (.cons (.c (.int 2)) .nil)))) (.cons (.tup (.cons (.c (.int 0)) (.cons (.c (.int 2)) (.cons (.c (.int 1)) .nil)))) .nil)))) .nil)))) (.op .sub (.v 1) (.c (.int 1)))))
 (.cons (.ret (.ix (.v 2) (.own "_law_pick" 2 (.cons (.v 0) (.cons (.bi .len (.cons (.v 2) .nil)) .nil)))))
 .nil))
noncomputable def dL:Ss:=
 (.cons (.set 4 (.own "_law_names" 2 (.cons (.v 0) (.cons (.op .add (.v 1) (.bi .len (.cons (.v 2) .nil))) .nil))))
 (.cons (.set 5 (.bi .tuple (.cons (.comp (.tup (.cons (.ix (.v 4) (.op .add (.v 3) (.v 1))) (.cons (.ix (.v 2) (.v 1)) .nil))) (.nm 1) (.rng (.cons (.bi .len (.cons (.v 2) .nil)) .nil)) .nil [gV,gV,ba 2,ba 1,ba 4]) .nil)))
 (.cons (.ret (.tup (.cons (.sl (.v 4) .no (.yes (.v 1))) (.cons (.v 5) (.cons (.bi .tuple (.cons (.bi .sorted (.cons (.v 3) .nil)) .nil)) .nil)))))
 .nil)))
noncomputable def cz:Ss:=
 (.cons (.set 3 (.lst .nil))
 (.cons (.loop (.nm 4) (.rng (.cons (.c (.int 3)) .nil)) (.cons (.ex (.me .append (.v 3) (.cons (.tup (.cons (.own "_law_pick" 2 (.cons (.v 0) (.cons (.v 1) .nil))) (.cons (.bi .tuple (.cons (.comp (.own "_law_pick" 2 (.cons (.v 2) (.cons (.v 3) .nil))) (.nm 1) (.rng (.cons (.v 4) .nil)) .nil [gV,gV,ba 0,ba 2]) .nil)) .nil))) .nil)))
 .nil))
 (.cons (.ret (.bi .tuple (.cons (.v 3) .nil)))
 .nil)))
noncomputable def ff:Ss:=
 (.cons (.set 1 (.lst (.cons (.tup (.cons (.c (.int 1)) (.cons (.c (.int 1)) .nil))) (.cons (.tup (.cons (.c (.int 2)) (.cons (.c (.int 1)) .nil))) (.cons (.tup (.cons (.c (.int 3)) (.cons (.c (.int 1)) .nil))) (.cons (.tup (.cons (.c (.int 1)) (.cons (.c (.int 2)) .nil))) (.cons (.tup (.cons (.c (.int 1)) (.cons (.c (.int 2)) .nil))) (.cons (.tup (.cons (.c (.int 2)) (.cons (.c (.int 2)) .nil))) (.cons (.tup (.cons (.c (.int 2)) (.cons (.c (.int 2)) .nil))) (.cons (.tup (.cons (.c (.int 3)) (.cons (.c (.int 2)) .nil))) (.cons (.tup (.cons (.c (.int 1)) (.cons (.c (.int 3)) .nil))) (.cons (.tup (.cons (.c (.int 1)) (.cons (.c (.int 3)) .nil))) (.cons (.tup (.cons (.c (.int 2)) (.cons (.c (.int 3)) .nil))) .nil)))))))))))))
 (.cons (.ret (.ix (.v 1) (.own "_law_pick" 2 (.cons (.v 0) (.cons (.c (.int 11)) .nil)))))
 .nil))
noncomputable def dh:Ss:=
 (.cons (.asg [1,2] (.own "_law_sizes" 1 (.cons (.v 0) .nil)))
 (.cons (.set 3 (.own "_law_rule_of" 4 (.cons (.v 0) (.cons (.v 1) (.cons (.own "_law_backs" 2 (.cons (.v 0) (.cons (.v 2) .nil))) (.cons (.tup .nil) .nil))))))
 (.cons (.set 4 .dnew)
 (.cons (.loop (.nm 5) (.rng (.cons (.own "_law_pick" 2 (.cons (.v 0) (.cons (.c (.int 9)) .nil))) .nil)) (.cons (.put (.v 4) (.own "_law_figure" 2 (.cons (.v 3) (.cons (.own "_law_free_three" 3 (.cons (.v 0) (.cons (.v 1) (.cons (.v 2) .nil)))) .nil))) (.c (.bl true)))
 .nil))
 (.cons (.ret (.tup (.cons (.ix (.v 3) (.c (.int 0))) (.cons (.ix (.v 3) (.c (.int 1))) (.cons (.bi .tuple (.cons (.bi .sorted (.cons (.v 4) .nil)) .nil)) .nil)))))
 .nil)))))
noncomputable def cq:Ss:=
 (.cons (.set 1 (.lst (.cons (.tup (.cons (.tup (.cons (.c (.int 1)) (.cons (.c (.int 0)) .nil))) (.cons (.disp (.cons (.tup (.cons (.c (.int 0)) (.cons (.c (.int 0)) .nil))) (.cons (.lst (.cons (.c (.int 0)) .nil)) .nil))) (.cons (.c (.int 3)) .nil)))) (.cons (.tup (.cons (.tup (.cons (.c (.int 0)) (.cons (.c (.int 2)) (.cons (.c (.int 1)) .nil)))) (.cons (.disp (.cons (.tup (.cons (.c (.int 1)) (.cons (.c (.int 1)) .nil))) (.cons (.lst (.cons (.c (.int 1)) .nil)) .nil))) (.cons (.c (.int 2)) .nil)))) (.cons (.tup (.cons (.tup (.cons (.c (.int 0)) (.cons (.c (.int 1)) .nil))) (.cons (.disp (.cons (.tup (.cons (.c (.int 1)) (.cons (.c (.int 1)) .nil))) (.cons (.lst (.cons (.c (.int 1)) .nil)) .nil))) (.cons (.c (.int 3)) .nil)))) .nil)))))
 (.cons (.ex (.me .append (.v 1) (.cons (.tup (.cons (.tup (.cons (.c (.int 0)) (.cons (.c (.int 1)) .nil))) (.cons (.disp (.cons (.tup (.cons (.c (.int 1)) (.cons (.c (.int 1)) .nil))) (.cons (.lst (.cons (.c (.int 1)) .nil)) (.cons (.tup (.cons (.c (.int 0)) (.cons (.c (.int 0)) .nil))) (.cons (.lst (.cons (.c (.int 1)) .nil)) .nil))))) (.cons (.c (.int 3)) .nil)))) .nil)))
 (.cons (.ex (.me .append (.v 1) (.cons (.tup (.cons (.tup (.cons (.c (.int 0)) (.cons (.c (.int 1)) .nil))) (.cons (.disp (.cons (.tup (.cons (.c (.int 1)) (.cons (.c (.int 1)) .nil))) (.cons (.lst .nil) .nil))) (.cons (.c (.int 1)) .nil)))) .nil)))
 (.cons (.ex (.me .append (.v 1) (.cons (.tup (.cons (.tup (.cons (.c (.int 0)) (.cons (.c (.int 2)) (.cons (.c (.int 1)) .nil)))) (.cons (.disp (.cons (.tup (.cons (.c (.int 0)) (.cons (.c (.int 0)) .nil))) (.cons (.lst (.cons (.c (.int 0)) .nil)) (.cons (.tup (.cons (.c (.int 0)) (.cons (.c (.int 1)) .nil))) (.cons (.lst (.cons (.c (.int 1)) .nil)) (.cons (.tup (.cons (.c (.int 1)) (.cons (.c (.int 0)) .nil))) (.cons (.lst (.cons (.c (.int 1)) .nil)) (.cons (.tup (.cons (.c (.int 1)) (.cons (.c (.int 1)) .nil))) (.cons (.lst (.cons (.c (.int 1)) .nil)) .nil))))))))) (.cons (.c (.int 2)) .nil)))) .nil)))
 (.cons (.ex (.me .append (.v 1) (.cons (.tup (.cons (.tup (.cons (.c (.int 1)) (.cons (.c (.int 0)) .nil))) (.cons .dnew (.cons (.c (.int 3)) .nil)))) .nil)))
 (.cons (.ex (.me .append (.v 1) (.cons (.tup (.cons (.tup (.cons (.c (.int 0)) (.cons (.c (.int 1)) (.cons (.c (.int 2)) .nil)))) (.cons (.disp (.cons (.tup (.cons (.c (.int 2)) (.cons (.c (.int 2)) .nil))) (.cons (.lst (.cons (.c (.int 2)) .nil)) (.cons (.tup (.cons (.c (.int 1)) (.cons (.c (.int 2)) .nil))) (.cons (.lst (.cons (.c (.int 1)) .nil)) (.cons (.tup (.cons (.c (.int 2)) (.cons (.c (.int 1)) .nil))) (.cons (.lst (.cons (.c (.int 1)) .nil)) (.cons (.tup (.cons (.c (.int 1)) (.cons (.c (.int 1)) .nil))) (.cons (.lst (.cons (.c (.int 1)) (.cons (.c (.int 2)) .nil))) .nil))))))))) (.cons (.c (.int 2)) .nil)))) .nil)))
 (.cons (.ex (.me .append (.v 1) (.cons (.tup (.cons (.tup (.cons (.c (.int 0)) (.cons (.c (.int 1)) (.cons (.c (.int 2)) .nil)))) (.cons (.disp (.cons (.tup (.cons (.c (.int 0)) (.cons (.c (.int 0)) .nil))) (.cons (.lst (.cons (.c (.int 0)) (.cons (.c (.int 1)) .nil))) .nil))) (.cons (.c (.int 2)) .nil)))) .nil)))
 (.cons (.ret (.ix (.v 1) (.own "_law_pick" 2 (.cons (.v 0) (.cons (.c (.int 9)) .nil)))))
 .nil))))))))
noncomputable def ej:Ss:=
 (.cons (.set 5 (.disp (.cons (.tup (.cons (.c (.int 1)) (.cons (.c (.int 0)) .nil))) (.cons (.v 2) (.cons (.tup (.cons (.c (.int 2)) (.cons (.c (.int 0)) .nil))) (.cons (.v 3) (.cons (.tup (.cons (.c (.int 2)) (.cons (.c (.int 1)) .nil))) (.cons (.v 4) .nil))))))))
 (.cons (.loop (.nm 6) (.seq (.bi .list (.cons (.v 5) .nil))) (.cons (.put (.v 5) (.tup (.cons (.ix (.v 6) (.c (.int 1))) (.cons (.ix (.v 6) (.c (.int 0))) .nil))) (.ix (.v 0) (.ix (.v 5) (.v 6))))
 .nil))
 (.cons (.loop (.tp [7,8,9]) (.seq (.own "_law_turns" 0 .nil)) (.cons (.ite (.cmp .notin (.ix (.v 5) (.tup (.cons (.v 7) (.cons (.v 9) .nil)))) (.me .get (.v 1) (.cons (.tup (.cons (.ix (.v 5) (.tup (.cons (.v 7) (.cons (.v 8) .nil)))) (.cons (.ix (.v 5) (.tup (.cons (.v 8) (.cons (.v 9) .nil)))) .nil))) (.cons (.lst (.cons (.ix (.v 5) (.tup (.cons (.v 7) (.cons (.v 9) .nil)))) .nil)) .nil)))) (.cons (.ret (.c (.bl true)))
 .nil) .nil)
 .nil))
 (.cons (.ret (.c (.bl false)))
 .nil))))
noncomputable def bM:Ss:=
 (.cons (.set 3 (.bi .len (.cons (.v 1) .nil)))
 (.cons (.set 4 (.lst (.cons (.lst (.cons (.tup (.cons (.c (.int 0)) .nil)) .nil)) (.cons (.lst (.cons (.tup (.cons (.c (.int 0)) (.cons (.c (.int 1)) .nil))) (.cons (.tup (.cons (.c (.int 1)) (.cons (.c (.int 0)) .nil))) .nil))) .nil))))
 (.cons (.ex (.me .append (.v 4) (.cons (.lst (.cons (.tup (.cons (.c (.int 0)) (.cons (.c (.int 1)) (.cons (.c (.int 2)) .nil)))) (.cons (.tup (.cons (.c (.int 0)) (.cons (.c (.int 2)) (.cons (.c (.int 1)) .nil)))) (.cons (.tup (.cons (.c (.int 2)) (.cons (.c (.int 0)) (.cons (.c (.int 1)) .nil)))) (.cons (.tup (.cons (.c (.int 2)) (.cons (.c (.int 1)) (.cons (.c (.int 0)) .nil)))) .nil))))) .nil)))
 (.cons (.set 5 (.ix (.v 4) (.op .sub (.v 3) (.c (.int 1)))))
 (.cons (.ite (.cmp .eq (.v 1) (.tup (.cons (.c (.int 0)) (.cons (.c (.int 1)) (.cons (.c (.int 2)) .nil))))) (.cons (.set 5 (.own "_law_turns" 0 .nil))
 .nil) .nil)
 (.cons (.set 6 (.ix (.v 5) (.own "_law_pick" 2 (.cons (.v 0) (.cons (.bi .len (.cons (.v 5) .nil)) .nil)))))
 (.cons (.set 7 (.op .mul (.lst (.cons (.c (.int 0)) .nil)) (.v 3)))
 (.cons (.loop (.nm 8) (.rng (.cons (.v 3) .nil)) (.cons (.put (.v 7) (.ix (.v 6) (.v 8)) (.ix (.v 6) (.ix (.v 1) (.v 8))))
 .nil))
 (.cons (.set 9 .dnew)
 (.cons (.loop (.tp [10,11]) (.seq (.v 2)) (.cons (.put (.v 9) (.tup (.cons (.ix (.v 6) (.v 10)) (.cons (.ix (.v 6) (.v 11)) .nil))) (.comp (.ix (.v 2) (.v 1)) (.nm 1) (.seq (.ix (.v 2) (.tup (.cons (.v 10) (.cons (.v 11) .nil))))) .nil [gV,gV,ba 6]))
 .nil))
 (.cons (.ret (.tup (.cons (.bi .tuple (.cons (.v 7) .nil)) (.cons (.v 9) .nil))))
 .nil)))))))))))
noncomputable def cr:Ss:=
 (.cons (.set 1 (.own "_law_pick" 2 (.cons (.v 0) (.cons (.c (.int 7)) .nil))))
 (.cons (.ite (.cmp .eq (.v 1) (.c (.int 0))) (.cons (.ret (.own "_law_free_rule" 1 (.cons (.v 0) .nil)))
 .nil) .nil)
 (.cons (.ite (.cmp .eq (.v 1) (.c (.int 1))) (.cons (.ret (.own "_law_one_way_rule" 1 (.cons (.v 0) .nil)))
 .nil) .nil)
 (.cons (.asg [2,3,4] (.own "_law_laying_kind" 1 (.cons (.v 0) .nil)))
 (.cons (.set 5 (.op .add (.c (.int 1)) (.own "_law_pick" 2 (.cons (.v 0) (.cons (.v 4) .nil)))))
 (.cons (.asg [2,3] (.own "_law_numbered" 3 (.cons (.v 0) (.cons (.v 2) (.cons (.v 3) .nil)))))
 (.cons (.set 6 (.own "_law_rule_of" 4 (.cons (.v 0) (.cons (.v 5) (.cons (.v 2) (.cons (.tup .nil) .nil))))))
 (.cons (.set 7 .dnew)
 (.cons (.set 8 (.bi .len (.cons (.v 2) .nil)))
 (.cons (.loop (.nm 9) (.rng (.cons (.op .mul (.op .mul (.v 8) (.v 8)) (.v 8)) .nil)) (.cons (.par 10 11 (.cons (.op .mod (.v 9) (.v 8)) (.cons (.op .mod (.op .fdiv (.v 9) (.v 8)) (.v 8)) .nil)))
 (.cons (.set 12 (.op .fdiv (.op .fdiv (.v 9) (.v 8)) (.v 8)))
 (.cons (.ite (.own "_law_breaks" 5 (.cons (.v 2) (.cons (.v 3) (.cons (.v 10) (.cons (.v 11) (.cons (.v 12) .nil)))))) (.cons (.loop (.nm 13) (.seq (.own "_law_rising" 1 (.cons (.v 5) .nil))) (.cons (.set 14 (.tup (.cons (.tup (.cons (.ix (.v 13) (.c (.int 0))) (.cons (.tup .nil) .nil))) (.cons (.tup (.cons (.ix (.v 13) (.c (.int 1))) (.cons (.tup (.cons (.v 10) .nil)) .nil))) .nil))))
 (.cons (.put (.v 7) (.own "_law_figure" 2 (.cons (.v 6) (.cons (.op .add (.v 14) (.tup (.cons (.tup (.cons (.ix (.v 13) (.c (.int 2))) (.cons (.tup (.cons (.v 11) (.cons (.v 12) .nil))) .nil))) .nil))) .nil))) (.c (.bl true)))
 .nil)))
 .nil) .nil)
 .nil))))
 (.cons (.ret (.tup (.cons (.ix (.v 6) (.c (.int 0))) (.cons (.ix (.v 6) (.c (.int 1))) (.cons (.bi .tuple (.cons (.bi .sorted (.cons (.v 7) .nil)) .nil)) .nil)))))
 .nil)))))))))))
noncomputable def en:Ss:=
 (.cons (.set 1 (.lst .nil))
 (.cons (.loop (.nm 2) (.rng (.cons (.v 0) .nil)) (.cons (.loop (.nm 3) (.rng2 (.cons (.v 2) (.cons (.v 0) .nil))) (.cons (.set 1 (.op .add (.v 1) (.comp (.tup (.cons (.v 2) (.cons (.v 3) (.cons (.v 1) .nil)))) (.nm 1) (.rng2 (.cons (.v 3) (.cons (.v 0) .nil))) .nil [gV,gV,ba 2,ba 3])))
 .nil))
 .nil))
 (.cons (.ret (.v 1))
 .nil)))
noncomputable def cR:Ss:=
 (.cons (.asg [1,2] (.own "_law_sizes" 1 (.cons (.v 0) .nil)))
 (.cons (.set 3 (.own "_law_rule_of" 4 (.cons (.v 0) (.cons (.v 1) (.cons (.own "_law_backs" 2 (.cons (.v 0) (.cons (.v 2) .nil))) (.cons (.tup .nil) .nil))))))
 (.cons (.set 5 (.comp (.v 1) (.nm 1) (.rng (.cons (.v 2) .nil)) (.cons (.cmp .eq (.ix (.ix (.ix (.v 2) (.c (.int 1))) (.v 1)) (.c (.int 1))) (.v 1)) .nil) [gV,gV,ba 3]))
 (.cons (.ite (.or (.cmp .eq (.v 5) (.lst .nil)) (.cmp .eq (.v 2) (.c (.int 1)))) (.cons (.ret (.v 3))
 .nil) .nil)
 (.cons (.set 6 (.ix (.v 5) (.own "_law_pick" 2 (.cons (.v 0) (.cons (.bi .len (.cons (.v 5) .nil)) .nil)))))
 (.cons (.set 7 .dnew)
 (.cons (.loop (.nm 4) (.rng (.cons (.own "_law_pick" 2 (.cons (.v 0) (.cons (.c (.int 9)) .nil))) .nil)) (.cons (.set 8 (.own "_law_free_three" 3 (.cons (.v 0) (.cons (.v 1) (.cons (.v 2) .nil)))))
 (.cons (.ite (.and (.cmp .ne (.ix (.ix (.ix (.v 8) (.c (.int 1))) (.c (.int 1))) (.c (.int 0))) (.v 6)) (.cmp .notin (.v 6) (.ix (.ix (.v 8) (.c (.int 2))) (.c (.int 1))))) (.cons (.put (.v 7) (.own "_law_figure" 2 (.cons (.v 3) (.cons (.v 8) .nil))) (.c (.bl true)))
 .nil) .nil)
 .nil)))
 (.cons (.ret (.tup (.cons (.ix (.v 3) (.c (.int 0))) (.cons (.ix (.v 3) (.c (.int 1))) (.cons (.bi .tuple (.cons (.bi .sorted (.cons (.v 7) .nil)) .nil)) .nil)))))
 .nil))))))))
noncomputable def b7:Ss:=
 (.cons (.set 1 (.op .add (.c (.int 1)) (.own "_law_pick" 2 (.cons (.v 0) (.cons (.c (.int 3)) .nil)))))
 (.cons (.set 2 (.comp (.tup (.cons (.tup (.cons (.v 1) (.cons (.tup .nil) .nil))) (.cons (.tup (.cons (.v 1) (.cons (.tup (.cons (.c (.int 0)) .nil)) .nil))) (.cons (.tup (.cons (.v 1) (.cons (.tup (.cons (.c (.int 0)) (.cons (.c (.int 0)) .nil))) .nil))) .nil)))) (.nm 1) (.rng (.cons (.v 1) .nil)) (.cons (.cmp .eq (.own "_law_pick" 2 (.cons (.v 2) (.cons (.c (.int 2)) .nil))) (.c (.int 0))) .nil) [gV,gV,ba 0]))
 (.cons (.ret (.own "_law_rule_of" 4 (.cons (.v 0) (.cons (.v 1) (.cons (.tup (.cons (.c (.int 0)) .nil)) (.cons (.v 2) .nil))))))
 .nil)))
noncomputable def bH:Ss:=
 (.cons (.ite (.cmp .is (.v 1) (.c .non)) (.cons (.ret (.cmp .is (.v 0) (.c .non)))
 .nil) .nil)
 (.cons (.ite (.or (.isi "bool" (.v 1)) (.isi "bool" (.v 0))) (.cons (.ret (.and (.isi "bool" (.v 1)) (.and (.isi "bool" (.v 0)) (.cmp .eq (.v 0) (.v 1)))))
 .nil) .nil)
 (.cons (.ite (.isi "int" (.v 1)) (.cons (.ret (.and (.isi "int" (.v 0)) (.cmp .eq (.v 0) (.v 1))))
 .nil) .nil)
 (.cons (.ite (.isi "str" (.v 1)) (.cons (.ret (.and (.isi "str" (.v 0)) (.cmp .eq (.v 0) (.v 1))))
 .nil) .nil)
 (.cons (.ite (.or (.cmp .ne (.isi "tuple" (.v 1)) (.isi "tuple" (.v 0))) (.cmp .ne (.isi "list" (.v 1)) (.isi "list" (.v 0)))) (.cons (.ret (.c (.bl false)))
 .nil) .nil)
 (.cons (.ret (.and (.cmp .eq (.bi .len (.cons (.v 0) .nil)) (.bi .len (.cons (.v 1) .nil))) (.bi .all (.cons (.comp (.own "_law_alike" 2 (.cons (.ix (.v 3) (.v 1)) (.cons (.ix (.v 2) (.v 1)) .nil))) (.nm 1) (.rng (.cons (.bi .len (.cons (.v 1) .nil)) .nil)) .nil [gV,gV,ba 1,ba 0]) .nil))))
 .nil))))))
noncomputable def Is (defs:J9 (KF×Df))(f:KF)(np nn:Kk)(b:Ss):Prop:=∃df:Df,defs.lookup f=ba df/\df.ps.length=np/\df.N.length=nn/\df.body=b
theorem aF {defs:J9 (KF×Df)}{fuel d:Kk}{f:KF}{np nn:Kk}{b:Ss}{ws:J9 W}{S:aa}{Q:QW}(h:Is defs f np nn b)(hl:ws.length=np)(ok:iP b=true)
  (hb:∀Q':QO,(∀w S',Q (w,S')->Q' (.rt w,S'))->wZ (aq defs fuel d) fuel b (ws.map ba++K7 (nn - np) gV) S Q'):wO (bN (aq defs fuel (d+1)) f np ws S) Q:=by
 obtain⟨df,h1,h2,h3,h4⟩:=h;subst h4;refine Fk h1 hl (hl.trans h2.symm) ok λQ' hR=>?_
 have:=hb Q' hR;unfold fO;rw[h3,hl];exact this
structure Gen (defs:J9 (KF×Df)):Prop where
 pick:Is defs ("_law_pick" : KF) 2 4 cW
 letters:Is defs ("_law_letters" : KF) 2 2 dI
 name:Is defs ("_law_name" : KF) 2 3 fP
 names:Is defs ("_law_names" : KF) 2 7 cZ
 between:Is defs ("_law_between" : KF) 4 4 dJ
 part:Is defs ("_law_part" : KF) 3 6 fQ
 turns:Is defs ("_law_turns" : KF) 0 0 gw
 figure:Is defs ("_law_figure" : KF) 2 2 eh
 backs:Is defs ("_law_backs" : KF) 2 3 eZ
 rule_of:Is defs ("_law_rule_of" : KF) 4 6 dL
 free_three:Is defs ("_law_free_three" : KF) 3 5 cz
 sizes:Is defs ("_law_sizes" : KF) 1 2 ff
 any_rule:Is defs ("_law_any_rule" : KF) 1 6 dh
 laying_kind:Is defs ("_law_laying_kind" : KF) 1 2 cq
 breaks:Is defs ("_law_breaks" : KF) 5 10 ej
 numbered:Is defs ("_law_numbered" : KF) 3 12 bM
 laying_rule:Is defs ("_law_laying_rule" : KF) 1 15 cr
 rising:Is defs ("_law_rising" : KF) 1 4 en
 free_rule:Is defs ("_law_free_rule" : KF) 1 9 cR
 one_way_rule:Is defs ("_law_one_way_rule" : KF) 1 3 b7
structure FlA (S:aa)(r q:Kk)(ns:J9 Ky)(i c x n:Ky):Prop where
 at_r:S[r]?=ba (.lst [.ref q,.int i,.int c,.int x,.int n])
 at_q:S[q]?=ba (.lst (ns.map W.int))
 lt:q < r
 i0:0<=i
 c0:0<=c
 x0:0<=x
 x1:x < 2147483647
theorem FlA.ne {S:aa}{r q:Kk}{ns:J9 Ky}{i c x n:Ky}(h:FlA S r q ns i c x n):q≠r:=KM h.lt
noncomputable def Fl (S:aa)(r:Kk):Prop:=∃(q:Kk) (ns:J9 Ky) (i c x n:Ky),FlA S r q ns i c x n
theorem FlA.put {S:aa}{r q:Kk}{ns:J9 Ky}{i c x n i' c' x' n':Ky}(h:FlA S r q ns i c x n)(h1:0<=i')(h2:0<=c')(h3:0<=x')(h4:x' < 2147483647):FlA (S.set r (.lst [.ref q,.int i',.int c',.int x',.int n'])) r q ns i' c' x' n':=
 ⟨bX h.at_r,by rw[bY (Ne.symm h.ne)]; exact h.at_q,h.lt,h1,h2,h3,h4⟩
theorem Fl.keep {S S':aa}{r:Kk}(h:Fl S r)(h1:S'[r]?=S[r]?)(k:Kp r S S'):Fl S' r:=
 let ⟨q,ns,i,c,x,n,f⟩:=h; ⟨q,ns,i,c,x,n,by rw[h1]; exact f.at_r,k.get _ _ f.ne f.at_q,f.lt,f.i0,f.c0,f.x0,f.x1⟩
theorem Fl.lt {S:aa}{r:Kk}(h:Fl S r):r < S.length:=let ⟨_,_,_,_,_,_,f⟩:=h; dR f.at_r
structure Ka (S S':aa):Prop where
 get:∀(j:Kk) (o:O),S[j]?=ba o->S'[j]?=ba o
 len:S.length<=S'.length
theorem Ka.refl {S:aa}:Ka S S:=⟨λ_ _ h=>h,Kn _⟩
theorem Ka.trans {S S' S'':aa}(a:Ka S S')(b:Ka S' S''):Ka S S'':=⟨λj o h=>b.get j o (a.get j o h),KT a.len b.len⟩
theorem Ka.push {S:aa}{o:O}:Ka S (S++[o]):=⟨λj u h=>ap h,by simp⟩
theorem Ka.late {t:Kk}{S0 S:aa}{o:O}(a:Ka S0 S)(h:S0.length<=t):Ka S0 (S.set t o):=
 ⟨λj u e=>by have:=dR e; rw[bY (by omega)]; exact a.get j u e,by simpa using a.len⟩
theorem Ka.kp {S S':aa}(a:Ka S S')(r:Kk):Kp r S S':=⟨λj o _ h=>a.get j o h,a.len⟩
theorem Fl.ka {S S':aa}{r:Kk}(h:Fl S r)(k:Ka S S'):Fl S' r:=h.keep (by obtain⟨q,ns,i,c,x,n,f⟩:=h; rw[k.get _ _ f.at_r,f.at_r]) (k.kp r)
theorem Fl.own {S:aa}{r t:Kk}{o:O}(h:Fl S r)(ht:r < t):Fl (S.set t o) r:=by
 obtain⟨q,ns,i,c,x,n,f⟩:=h;have:=f.lt;exact⟨q,ns,i,c,x,n,by rw[bY (by omega)]; exact f.at_r,by rw[bY (by omega)]; exact f.at_q,f.lt,f.i0,f.c0,f.x0,f.x1⟩
theorem eT {S:aa}{r:Kk}{xs:J9 W}{i:Kk}{w:W}{Q:QW}(h:S[r]?=ba (.lst xs))(hw:xs[i]?=ba w)(q:Q (w,S)):wO (qQ (.ref r) (.int (i:Ky)) S) Q:=ae (zO h (KY i) (by rw[KC]; exact hw)) q
theorem oN {S:aa}{r:Kk}{xs:J9 W}{i:Kk}{w:W}{Q:aa->Prop}(h:S[r]?=ba (.lst xs))(hi:Uw (i+1) xs.length=true)(q:Q (S.set r (.lst (xs.set i w)))):wO (ja (.ref r) (.int (i:Ky)) w S) Q:=ae (DC h (KY i) (by rw[KC]; exact Ny hi)) (by rw[KC]; exact q)
section
variable{defs:J9 (KF×Df)}{fuel d:Kk}{S:aa}{r:Kk}{Q:QW}
theorem bR (hd:Is defs ("_law_pick" : KF) 2 4 cW){m:Ky}(hf:Fl S r)(h0:0 < m)(h1:m < 1073741824)(k:∀v S',0<=v->v < m->Fl S' r->Kp r S S'->Q (.int v,S')) :
  wO (bN (aq defs fuel (d+1)) "_law_pick" 2 [.ref r,.int m] S) Q:=by
 obtain⟨q,ns,i,c,x,n,f⟩:=hf;refine aF hd rfl rfl λQ' hR=>?_
 replace k:∀v S',0<=v->v < m->Fl S' r->Kp r S S'->Q' (.rt (.int v),S'):=λv S' a b c e=>hR _ _ (k v S' a b c e)
 clear hR;show wZ _ _ cW [ba (.ref r),ba (.int m),gV,gV] S Q';have bV:∀(S1:aa) (w2:Ki W) (i1 c1 x1 n1:Ky),FlA S1 r q ns i1 c1 x1 n1->Kp r S S1->wZ (aq defs fuel d) fuel (match cW with|.cons _ ss=>ss|.nil=>.nil) [ba (.ref r),ba (.int m),w2,gV] S1 Q':=by
  intro S1 w2 i1 c1 x1 n1 f1 k1;dsimp only[cW];refine st ?_;dsimp only[wS,wT,wE,wV,wG];refine eT (i:=2) f1.at_r rfl ?_;dsimp only[Hw,wO,wB];refine aS (Q0:=Q') (λhg Q2 hn hr=>?_) (λhg Q2 hn hr=>?_)
  ·clear hn;refine st ?_;dsimp only[wS,wE,wV,wG];refine eT (i:=2) f1.at_r rfl (ae (jf h0) ?_);refine st ?_;dsimp only[wS,wE,wV,wG,KD];refine eT (i:=2) f1.at_r rfl (ae (iM h0 h1) (oN (i:=2) f1.at_r rfl ?_));refine st ?_;dsimp only[wS,wE,wV,wG,KD];exact hr _ _ (k _ _ (MW _ (by omega)) (MR _ h0) ⟨q,ns,i1,c1 / m,x1,n1,f1.put f1.i0 (OG f1.c0 (by omega)) f1.x0 f1.x1⟩ (k1.trans .set))
  ·refine dS (hn _ _ ?_);clear hn hr;have f2:FlA (S1.set r (.lst [.ref q,.int i1,.int c1,.int x1,.int (n1+1)])) r q ns i1 c1 x1 (n1+1):=f1.put f1.i0 f1.c0 f1.x0 f1.x1;refine st ?_;dsimp only[wS,wE,wV,wG];refine eT (i:=4) f1.at_r rfl ?_;dsimp only[d6,wO];refine oN (i:=4) f1.at_r rfl ?_;refine st ?_;dsimp only[wS,wE,wV,wG,KD];refine eT (i:=3) f2.at_r rfl (ae (sh (by decide) (by decide)) ?_)
   dsimp only[d6,wO];refine eT (i:=4) f2.at_r rfl ?_;dsimp only[d6,wO];refine(oN (i:=3) f2.at_r rfl ?_);have f3:FlA ((S1.set r (.lst [.ref q,.int i1,.int c1,.int x1,.int (n1+1)])).set r (.lst [.ref q,.int i1,.int c1,.int ((x1*48271+12820163+(n1+1)) % 2147483647),.int (n1+1)])) r q ns i1 c1 ((x1*48271+12820163+(n1+1)) % 2147483647) (n1+1):=f2.put f1.i0 f1.c0 (MW _ (by decide)) (MR _ (by decide))
   dsimp only[KD];generalize(x1*48271+12820163+(n1+1)) % 2147483647=y at f3 ⊢;have b1:y / 65521+7919 < 2 ^ 64:=by
    have:=f3.x1;have:=Int.ediv_le_self 65521 f3.x0;omega
   have b2 : -(2 ^ 64) < y / 65521+7919:=by
    have:=OG f3.x0 (show(0:Ky)<=65521 by decide)
    omega
   refine st ?_;dsimp only[wS,wE,wV,wG,KD];refine eT (i:=3) f3.at_r rfl (ae (jf (by decide)) ?_)
   dsimp only[d6,wO];refine eT (i:=3) f3.at_r rfl ?_;dsimp only[d6,wO];refine ae (sh b2 b1) ?_;refine ae (jf h0) ?_;exact k _ _ (MW _ (by omega)) (MR _ h0) ⟨q,ns,_,_,_,_,f3⟩ (k1.trans (Kp.set.trans .set))
 dsimp only[cW]at bV ⊢;refine st ?_;dsimp only[wS,wT,wE,wV,wG,wA];refine eT (i:=2) f.at_r rfl ?_;dsimp only[iO,wO,wB];have skip:∀Q2:QO,(∀ρ' S',wZ (aq defs fuel d) fuel _ ρ' S' Q'->Q2 (.nx ρ',S'))->Q2 (.nx [ba (.ref r),ba (.int m),gV,gV],S):=λQ2 hn=>hn _ _ (bV S gV i c x n f .refl)
 refine⟨λ_=>?_,λ_ Q2 hn hr=>⟨λz=>(by cases z),λ_=>(dS (skip Q2 hn)).out⟩⟩
 refine eT (i:=1) f.at_r rfl (eT (i:=0) f.at_r rfl (ae (DD f.at_q) ?_));dsimp only[CH,wO,wB];refine aS (Q0:=Q') (λhl Q2 hn _=>?_) (λhg Q2 hn hr=>dS (skip Q2 hn))
 clear skip;have hl':i.toNat < ns.length:=by
  have:=Lm hl;rw[Kc]at this;have:=f.i0;omega
 have hcell:(ns.map W.int)[i.toNat]?=ba (.int ns[i.toNat]):=by simp[hl']
 generalize ns[i.toNat]=cell at hcell;have f1:FlA (S.set r (.lst [.ref q,.int (i+1),.int c,.int x,.int n])) r q ns (i+1) c x n:=f.put (by have:=f.i0; omega) f.c0 f.x0 f.x1
 refine st ?_;dsimp only[wS,wE,wV,wG];refine eT (i:=0) f.at_r rfl (eT (i:=1) f.at_r rfl (ae (zO f.at_q f.i0 hcell) ?_));refine st ?_;dsimp only[wS,wE,wV,wG,KD];refine eT (i:=1) f.at_r rfl ?_;dsimp only[d6,wO];refine oN (i:=1) f.at_r rfl ?_;refine st ?_;dsimp only[wS,wT,wE,wV,wG,Fi,Jt,wO,wB];refine aS (Q0:=Q') (λhg Q3 hn3 _=>?_) (λhg Q3 hn3 _=>?_)
 ·refine st ?_;dsimp only[wS,wE,wV,wG];refine oN (i:=2) f1.at_r rfl (dS (hn3 _ _ (dS (hn _ _ ?_))));exact bV _ _ (i+1) cell x n (f1.put f1.i0 (by have:=Lm hg; omega) f.x0 f.x1) (Kp.set.trans .set)
 ·refine st ?_;dsimp only[wS,wE,wV,wG];refine eT (i:=3) f1.at_r rfl (ae (sh (by decide) (by decide)) (ae (jf (by decide)) ?_))
  dsimp only[d6,wO];refine oN (i:=3) f1.at_r rfl (dS (hn3 _ _ (dS (hn _ _ ?_))));exact bV _ _ (i+1) c _ n (f1.put f1.i0 f.c0 (MW _ (by decide)) (MR _ (by decide))) (Kp.set.trans .set)
end
noncomputable def dr:Kk->Ss->Ss
 | 0,ss=>ss
 | n+1,.cons _ ss=>dr n ss
 | _,.nil=>.nil
theorem aX {α:Type}{a:α}{Q:α->Prop}:wO (ba a) Q=Q a:=rfl
theorem bm {Φ:KF->FF}{fuel:Kk}{ρ:Fm}{S:aa}{Q:QO}{s:Sm}{ss:Ss}(h:∀K:Fm->aa->Prop,(∀ρ' S',wZ Φ fuel ss ρ' S' Q->K ρ' S')->wS Φ fuel s ρ S K Q):wZ Φ fuel (.cons s ss) ρ S Q:=st (h _ λ_ _ h=>h)
theorem HF {Φ:KF->FF}{fuel:Kk}{ρ:Fm}{S:aa}{i:Kk}{e:E}{K:Fm->aa->Prop}{Q:QO}(h:wE Φ e ρ S λp=>K (ρ.set i (ba p.1)) p.2):wS Φ fuel (.set i e) ρ S K Q:=h
theorem ji {n:Kk}(h:Uw n 1000=true):n<=sizeLine:=KT (Ny h) (by rw[Lo]; decide)
theorem kG {n:Kk}(h:n<=1000):n<=sizeLine:=KT h (by rw[Lo]; decide)
theorem gx {S:aa}{r:Kk}{xs:J9 W}{i:Ky}{w:W}{Q:QW}(h:S[r]?=ba (.lst xs))(h0:0<=i)(hw:xs[i.toNat]?=ba w)(q:Q (w,S)):wO (qQ (.ref r) (.int i) S) Q:=ae (zO h h0 hw) q
theorem aC {S:aa}{xs:J9 W}{i:Ky}{w:W}{Q:QW}(h0:0<=i)(hw:xs[i.toNat]?=ba w)(q:Q (w,S)):wO (qQ (.tup xs) (.int i) S) Q:=ae (Hy h0 hw) q
theorem si {S:aa}{r:Kk}{xs:J9 W}{y:W}{Q:QW}(h:S[r]?=ba (.lst xs))(hl:xs.length < 1000)(q:Q (.non,S.set r (.lst (xs++[y])))):wO (Me.append.fn (.ref r) [y] S) Q:=ae (vE h (KR hl (ji rfl))) q
theorem fW {S:aa}{r:Kk}{xs:J9 W}{Q:QW}(h:S[r]?=ba (.lst xs))(q:Q (.int xs.length,S)):wO (Bi.len.fn [.ref r] S) Q:=ae (DD h) q
theorem di {S:aa}{xs:J9 W}{Q:QW}(q:Q (.int xs.length,S)):wO (Bi.len.fn [.tup xs] S) Q:=q
theorem fX {S:aa}{r:Kk}{xs:J9 W}{Q:QW}(h:S[r]?=ba (.lst xs))(q:Q (.tup xs,S)):wO (Bi.tuple.fn [.ref r] S) Q:=ae (Hz h) q
section
variable{Φ:KF->FF}{fuel:Kk}{ρ:Fm}{S S1:aa}{K:Fm->aa->Prop}
theorem cw {t:E}{a:Ss}{Q:QO}(ht:∀Q:QB,Q (false,S1)->wT Φ t ρ S Q)(h:K ρ S1):wS Φ fuel (.ite t a .nil) ρ S K Q:=by
 dsimp only[wS];exact ht _ λQ' h1 h2=>⟨λz=>(by cases z),λ_=>(dS (h1 _ _ h)).out⟩
theorem lW {t:E}{a b:Ss}{Q:QO}(ht:∀Q:QB,Q (true,S1)->wT Φ t ρ S Q)(h:∀Q':QO,(∀ρ' S',K ρ' S'->Q' (.nx ρ',S'))->(∀w S',Q (.rt w,S')->Q' (.rt w,S'))->wZ Φ fuel a ρ S1 Q'):wS Φ fuel (.ite t a b) ρ S K Q:=by
 dsimp only[wS];exact ht _ λQ' h1 h2=>⟨λ_=>(h Q' h1 λw S' q=>h2 (.rt w) S' (λ_ z=>nomatch z) q).out,λz=>(by cases z)⟩
end
theorem zU:∀k:Fin 26,("abcdefghijklmnopqrstuvwxyz" : KF).cps.toList[k.val]?=ba (97+k.val):=by decide
theorem vJ:("abcdefghijklmnopqrstuvwxyz" : KF).length<=sizeLine:=by decide
theorem lX:∀cs:J9 Kk,jF (cs.map λc=>W.str ⟨[c].toArray⟩)=ba (cs.map λc=>(⟨[c].toArray⟩ : KF))
 | []=>rfl
 | c::cs=>by simp[jF,lX cs]
theorem oO:∀cs:J9 Kk,((cs.map λc=>(⟨[c].toArray⟩ : KF)).map (·.length)).sum=cs.length
 | []=>rfl
 | c::cs=>by
  have:=oO cs;simp only[LF,List.sum_cons,Li];rw[this];show 1+cs.length=_;omega
theorem fR (a b:KF):(a++b).cps.toList=a.cps.toList++b.cps.toList:=OJ
theorem lY:∀cs:J9 Kk,(Uo "" (cs.map λc=>(⟨[c].toArray⟩ : KF))).cps.toList=cs
 | []=>rfl
 | [c]=>rfl
 | c::d::cs=>by
  have ih:=lY (d::cs);show(((⟨[c].toArray⟩ : KF)++("" : KF)++Uo "" ((d::cs).map λc=>(⟨[c].toArray⟩ : KF))).cps).toList=_
  rw[fR,fR,ih];rfl
theorem sj (cs:J9 Kk):(Tx "" (cs.map λc=>(⟨[c].toArray⟩ : KF))).cps.toList=cs:=by
 show(T7 "" _).cps.toList=_;rw[StrLaws.glued_eq_join];exact lY cs
noncomputable def vK (y:KF):Prop:=∀c∈y.cps.toList,97<=c/\c<=122
noncomputable def Name (y:KF):Prop:=1<=y.cps.toList.length/\y.cps.toList.length<=8/\vK y
theorem vL (y:KF):y.length=y.cps.toList.length:=by simp[TX]
noncomputable def zW:J9 KF:=["markss","mark","way","wayss","bars","ba","somex","eachx","note","no","ands","ors","o","iss"]
theorem xo:∀y∈zW,Name y:=by
 have h:zW.all (λy=>decide (1<=y.cps.toList.length/\y.cps.toList.length<=8)&&y.cps.toList.all λc=>decide (97<=c/\c<=122))=true:=by decide
 intro y hy;have:=KH.mp h y hy;rw[Kj]at this;obtain⟨a,b⟩:=this;exact⟨(Lm a).1,(Lm a).2,λc hc=>Lm (KH.mp b c hc)⟩
theorem lZ {α:Type}{f:α->W}{xs:J9 α}{i:Kk}(h:i < xs.length):∃x∈xs,(xs.map f)[i]?=ba (f x):=⟨xs[i],Lf _,by rw[Km,Ko h]; rfl⟩
section
variable{defs:J9 (KF×Df)}{fuel d:Kk}{S:aa}{r:Kk}{Q:QW}
theorem jR (G:Gen defs){m:Ky}(hf:Fl S r)(h0:0<=m)(h1:m<=1000)(k:∀y S',y.cps.toList.length=m.toNat->vK y->Fl S' r->Kp r S S'->Q (.str y,S')) :
  wO (bN (aq defs fuel (d+2)) "_law_letters" 2 [.ref r,.int m] S) Q:=by
 refine aF G.letters rfl rfl λQ' hR=>?_
 show wZ _ _ dI [ba (.ref r),ba (.int m)] S Q';dsimp only[dI];refine st ?_;dsimp only[wS,wE,wA];refine⟨rfl,dH m (λi ys ρ S'=>(∃a,ρ=[gV,a,ba (.ref r)])/\Fl S' r/\Kp r S S'/\∃cs:J9 Kk,ys=cs.map (λc=>W.str ⟨[c].toArray⟩)/\cs.length=i/\∀c∈cs,97<=c/\c<=122) rfl rfl rfl ⟨by omega,by omega⟩ ⟨rfl,⟨gV,rfl⟩,hf,.refl,[],rfl,rfl,λ_ h=>nomatch h⟩ ?_ ?_⟩
 ·rintro i ys ρ S1 hi ⟨⟨a,rfl⟩,f1,k1,cs,rfl,hl,hc⟩;dsimp only[iQ,wC,wE,wA,wV,wG,KD];refine⟨λ_=>bR (d:=d) G.pick f1 (by decide) (by decide) λv S2 h2 h3 f2 k2=>?_,λz=>by cases z⟩
  have ha:=zU ⟨v.toNat,by omega⟩
  refine ae (DB vJ h2 ha) ⟨⟨_,rfl⟩,f2,k1.trans k2,cs++[97+v.toNat],by simp,by simp[hl],λc hx=>?_⟩
  rcases Ln.mp hx with h|h
  ·exact hc c h
  ·rw[Kx.mp h]; omega
 ·rintro ys ρ S1 ⟨_,f1,k1,cs,rfl,hl,hc⟩;refine⟨by rw[Kc,hl,Lo]; omega,?_⟩
  have hz:((cs.map λc=>(⟨[c].toArray⟩ : KF)).map (·.length)).sum+(cs.map λc=>(⟨[c].toArray⟩ : KF)).length*("" : KF).length<=16777216:=by
   rw[oO,show("" : KF).length=0 from rfl,PX]
   omega
  refine ae (a:=(.str (Tx "" (cs.map λc=>(⟨[c].toArray⟩ : KF))),S1++[.lst (cs.map λc=>W.str ⟨[c].toArray⟩)])) ?_ (hR _ _ (k _ _ (by rw[sj,hl]) (λc h=>hc c (by rw[sj]at h; exact h)) (f1.ka .push) (k1.trans .push)))
  simp only[Me.fn,uT,fD,aw ah,lX];rw[KJ hz]
theorem Fn (G:Gen defs){y:KF}(hf:Fl S r)(h0:y.cps.toList.length<=6)(h1:vK y)(k:∀z S',Name z->Fl S' r->Kp r S S'->Q (.str z,S')) :
  wO (bN (aq defs fuel (d+3)) "_law_name" 2 [.ref r,.str y] S) Q:=by
 refine aF G.name rfl rfl λQ' hR=>?_
 replace k:∀z S',Name z->Fl S' r->Kp r S S'->Q' (.rt (.str z),S'):=λz S' a b c=>hR _ _ (k z S' a b c)
 clear hR;show wZ _ _ fP [ba (.ref r),ba (.str y),gV] S Q';dsimp only[fP];refine bm λK hK=>?_
 dsimp only[wS,wT,wE,wV,wG,Hx,wO,wB];refine aS (Q0:=Q') (λ_ Q2 _ hr=>?_) (λ_ Q2 hn _=>?_)
 ·refine st ?_;dsimp only[wS,wE,wA,wV,wG];refine bR (d:=d+1) G.pick hf (by decide) (by decide) λv S1 v0 v1 f1 k1=>?_
  dsimp only[d6,wO];refine jR (d:=d) G f1 (by omega) (by omega) λz S2 hz hs f2 k2=>?_
  have hl:(y++z).cps.toList.length=y.cps.toList.length+z.cps.toList.length:=by rw[fR,Ks]
  refine ae (Fj (by rw[vL,vL,Lo]; omega)) (hr _ _ (k _ _ ⟨by omega,by omega,λc hc=>?_⟩ f2 (k1.trans k2)))
  rw[fR]at hc;exact(Ln.mp hc).elim (h1 c) (hs c)
 ·refine dS (hn _ _ (hK _ _ ?_));clear hn hK;refine bm λK hK=>?_
  dsimp only[wS,wT,wE,wA,wV,wG];refine bR (d:=d+1) G.pick hf (by decide) (by decide) λv S1 v0 v1 f1 k1=>?_
  dsimp only[iO,wO,wB];refine aS (Q0:=Q') (λ_ Q2 _ hr=>?_) (λ_ Q2 hn _=>?_)
  ·refine st ?_;dsimp only[wS,wE,wA,wV,wG,KD];refine st ?_;dsimp only[wS,wE,wA,wV,wG,KD];refine ae (zN (i:=S1.length) (j:=(S1++[_]).length) (ap ah) ah (ji rfl)) ?_;dsimp only;refine st ?_;dsimp only[wS,wE,wA,wV,wG,KD];refine bR (d:=d+1) G.pick (((f1.ka .push).ka .push).ka .push) (by decide) (by decide) λv S2 v0 v1 f2 k2=>?_
   have e:=k2.get _ _ (by have:=f1.lt; simp only[Ks]; omega) ah
   obtain⟨z,hz,ez⟩:=lZ (f:=W.str) (xs:=zW) (i:=v.toNat) (by show v.toNat < 14; omega)
   exact gx e v0 ez (hr _ _ (k _ _ (xo z hz) f2 (k1.trans (Kp.push.trans (Kp.push.trans (Kp.push.trans k2))))))
  ·refine dS (hn _ _ (hK _ _ ?_));clear hn hK;refine st ?_;dsimp only[wS,wE,wA,wV,wG];refine bR (d:=d+1) G.pick f1 (by decide) (by decide) λv S2 v0 v1 f2 k2=>?_
   dsimp only[d6,wO];exact jR (d:=d) G f2 (by omega) (by omega) λz S3 hz hs f3 k3=>k _ _ ⟨by omega,by omega,hs⟩ f3 (k1.trans (k2.trans k3))
end
theorem gy {α:Type}[ND α]:∀(l m:J9 α),l.Nodup->(∀x∈l,x∈m)->l.length<=m.length
 | [],_,_,_=>L1 _
 | x::l,m,hn,hs=>by
  rw[Mb]at hn;have hx:x∈m:=hs x (.head _);have h1:=gy l (m.erase x) hn.2 λy hy=>(List.mem_erase_of_ne (λ(e:y=x)=>hn.1 (by rw[<- e]; exact hy))).mpr (hs y (.tail _ hy))
  rw[List.length_erase_of_mem hx]at h1;have:=List.length_pos_of_mem hx;rw[Li]; omega
noncomputable def mX (k:Kk):KF:=⟨[97+k].toArray⟩
theorem zX {a b:Kk}(h:mX a=mX b):a=b:=by
 unfold mX at h;injection h with h
 injection h with h
 injection h with h
 omega
theorem sn (s:Kk):((KS s).map mX).Nodup:=by
 unfold T3;rw[M2];exact List.nodup_range.imp λh e=>h (zX e)
theorem xp {k:Kk}(h:k < 26):Name (mX k):=⟨Kn 1,(by decide:1<=8),λc hc=>by
 cases Kx.mp (show c∈[97+k]from hc)
 omega⟩
noncomputable def iR:J9 KF:=["marks","ways","bar","some","each","not","and","or","is"]
theorem zY (zs:J9 KF):(zs.map W.str).all cG=true:=by
 rw[KH];intro x hx;obtain⟨z,_,rfl⟩:=Kw.mp hx;rfl
theorem CL (zs:J9 KF)(y:KF):((zs.map W.str).any λz=>AZ z (.str y))=decide (y∈zs):=by
 induction zs with
 | nil=>rfl
 | cons z zs ih=>
  rw[LF,MO,ih];show((z==y)||_)=_
  by_cases h:z=y
  ·subst h; simp
  ·have:(z==y)=false:=by simpa using h
   rw[this,Po];have h2:(y∈z::zs)=(y∈zs):=by simp[Ne.symm h]
   simp only[h2]
theorem xq {S:aa}{t:Kk}{zs:J9 KF}{y:KF}(h:S[t]?=ba (.lst (zs.map W.str))):dz .isin (.str y) (.ref t) S=ba (.bl (decide (y∈zs)),S):=by
 simp only[dz,qc h,iY,F1,Dl,fD,aw h];rw[KJ (by rw[zY]; rfl),CL]
 rfl
theorem Fo {S:aa}{k:Kk}:gf .mul (.str ⟨[k].toArray⟩) (.int 1) S=ba (.str ⟨[k].toArray⟩,S):=by
 simp only[gf,yj];rw[KJ ⟨by decide,by decide,by show 1*1<=sizeLine; rw[Lo]; decide⟩]
 rfl
theorem sr {xs:J9 W}{k:Kk}:jE xs gV (ba (k:Ky))=xs.take k:=by
 unfold jE;rw[HT.lm,HT.uI,Qn,Tk]
 by_cases h:k<=xs.length
 ·rw[R7 h]
 ·rw[RN (by omega),On (Kn _),On (by omega)]
theorem zZ {xs:J9 W}{k:Kk}:jE xs (ba (k:Ky)) gV=xs.drop k:=by
 unfold jE;rw[HT.lm,HT.uI]
 by_cases h:k<=xs.length
 ·rw[R7 h,On (by rw[NM]; exact Kn _)]
 ·rw[RN (by omega),Ol (Kn _),Ol (by omega)]; exact List.take_nil
section
variable{defs:J9 (KF×Df)}{fuel d:Kk}{S:aa}{r:Kk}{Q:QW}
theorem CM {Φ:KF->FF}{m z w:W}{t:Kk}{y:KF}{zs:J9 KF}{K:Fm->aa->Prop}{Q:QO}(hfu:20 < fuel)(hy:Name y)(e:S[t]?=ba (.lst (zs.map W.str)))(hl:zs.length<=15)
  (k:∀y s,Name y->y∉zs->K [ba (.ref r),ba m,ba z,ba (.ref t),ba w,ba (.str y),ba s] S) :
  wS Φ fuel (.whl (.cmp .isin (.v 5) (.v 3)) (.cons (.set 5 (.op .mul (.ix (.c (.str "abcdefghijklmnopqrstuvwxyz")) (.op .mod (.v 6) (.c (.int 26)))) (.op .add (.c (.int 1)) (.op .fdiv (.v 6) (.c (.int 26)))))) (.cons (.set 6 (.op .add (.v 6) (.c (.int 1)))) .nil)))
   [ba (.ref r),ba m,ba z,ba (.ref t),ba w,ba (.str y),ba (.int 0)] S K Q:=by
 dsimp only[wS];refine DG (λmm ρ S'=>∃(s:Kk) (y:KF),ρ=[ba (.ref r),ba m,ba z,ba (.ref t),ba w,ba (.str y),ba (.int s)]/\S'=S/\mm+s=18/\s<=16/\Name y/\(0 < s->y=mX (s - 1))/\∀k,k+1 < s->mX k∈zs) 18 rfl rfl (by omega) ⟨0,y,rfl,rfl,rfl,by omega,hy,λh=>absurd h (by omega),λk h=>absurd h (by omega)⟩ ?_
 rintro mm ρ S' ⟨s,y',rfl,rfl,hm,hs,hy',hc1,hc2⟩;dsimp only[wT,wE,wV,wG];refine ae (xq e) ⟨λhin=>?_,λhout=>k _ _ hy' (Nr hout)⟩
 have all:∀k,k < s->mX k∈zs:=λk hk=>by
  by_cases h:k+1 < s
  ·exact hc2 k h
  ·have e:k=s - 1:=by omega
   rw[e,<- hc1 (by omega)]; exact Lm hin
 have hs15:s<=15:=by
  have h7:=gy ((KS s).map mX) zs (sn s) λx hx=>by
   obtain⟨k,hk,rfl⟩:=Kw.mp hx;exact all k (K6.mp hk)
  rw[Kc,KU]at h7;omega
 refine⟨mm - 1,by omega,λQ2 hn _=>?_⟩
 have em:((s:Ky) % 26)=s:=Int.emod_eq_of_lt (by omega) (by omega)
 have ed:((s:Ky) / 26)=0:=Int.ediv_eq_zero_of_lt (by omega) (by omega)
 refine st ?_;dsimp only[wS,wE,wV,wG,KD];refine ae (jf (by decide)) ?_
 rw[em];refine ae (DB (i:=(s:Ky)) vJ (KY s) (zU ⟨s,by omega⟩)) ?_
 have e2:gf .fdiv (.int s) (.int 26) S'=ba (.int 0,S'):=by rw[iM (by omega) (by omega),ed]
 dsimp only;rw[e2];dsimp only[d6,aX];rw[show(1:Ky)+0=1 from rfl]
 refine ae Fo ?_;refine st ?_;dsimp only[wS,wE,wV,wG,KD,d6,aX];exact dS (hn _ _ ⟨s+1,mX s,rfl,rfl,by omega,by omega,xp (by omega),λ_=>rfl,λk hk=>all k (by omega)⟩)
theorem CN (hfu:20 < fuel)(G:Gen defs){m:Kk}(hf:Fl S r)(h1:m<=6)(k:∀(ys:J9 KF) S',ys.length=m->(∀y∈ys,Name y)->(iR++ys).Nodup->Fl S' r->Kp r S S'->Q (.tup (ys.map W.str),S')) :
  wO (bN (aq defs fuel (d+4)) "_law_names" 2 [.ref r,.int m] S) Q:=by
 refine aF G.names rfl rfl λQ' hR=>?_
 replace k:∀(ys:J9 KF) S',ys.length=m->(∀y∈ys,Name y)->(iR++ys).Nodup->Fl S' r->Kp r S S'->Q' (.rt (.tup (ys.map W.str)),S'):=λz S' a b c e f=>hR _ _ (k z S' a b c e f)
 clear hR;show wZ _ _ cZ [ba (.ref r),ba (.int m),gV,gV,gV,gV,gV] S Q';have bV:∀(z:KF) (S2:aa),z.cps.toList.length<=6->vK z->Fl S2 r->Kp r S S2->wZ (aq defs fuel (d+3)) fuel (dr 2 cZ) [ba (.ref r),ba (.int m),ba (.str z),gV,gV,gV,gV] S2 Q':=by
  intro z S2 hz1 hz2 f2 k2;dsimp only[dr,cZ];have hrt:=f2.lt;have hSt:=k2.len;refine st ?_;dsimp only[wS,wE,wA,wV,wG,KD];refine bm λK hK=>?_
  refine eg (m:Ky) (λi ρ S'=>∃a4 a5 a6 ys,ρ=[ba (.ref r),ba (.int m),ba (.str z),ba (.ref S2.length),a4,a5,a6]/\S'[S2.length]?=ba (.lst ((iR++ys).map W.str))/\ys.length=i/\(∀y∈ys,Name y)/\(iR++ys).Nodup/\Fl S' r/\Kp r S S') rfl rfl (by omega) ?_ ?_ ?_
  ·dsimp only[wE,wV,wG];exact⟨rfl,gV,gV,gV,[],rfl,ah,rfl,λ_ h=>(nomatch h),by decide,f2.ka .push,k2.trans .push⟩
  ·rintro i ρ S3 hi ⟨a4,a5,a6,ys,rfl,e3,hy1,hy2,hy3,f3,k3⟩ Q2 hn _;clear hK;refine st ?_;dsimp only[wS,wE,wA,wV,wG,KD];refine Fn (d:=d) G f3 hz1 hz2 λy S4 hy f4 k4=>?_
   have e4:=k4.get _ _ (by omega) e3
   refine st ?_;dsimp only[wS,wE,wA,wV,wG,KD];refine st (CM hfu hy e4 (by rw[Ks,hy1]; show 9+i<=15; omega) λy' s hy' hnot=>?_)
   refine st ?_;dsimp only[wS,wE,wA,wV,wG,KD];refine⟨dg e4,si e4 (by rw[Kc,Ks,hy1]; show 9+i < 1000; omega) ?_⟩
   refine dS (hn _ _ ⟨_,_,_,ys++[y'],rfl,?_,by rw[Ks,hy1]; rfl,λx hx=>?_,?_,f4.own hrt,(k3.trans k4).late hSt⟩)
   ·rw[bX e4,<- MZ,Le (l₁:=iR++ys)]; rfl
   ·rcases Ln.mp hx with h|h
    ·exact hy2 x h
    ·rw[Kx.mp h]; exact hy'
   ·rw[<- MZ,Oo];refine⟨hy3,by simp,λa ha b hb e=>?_⟩
    rw[Kx.mp hb]at e;exact hnot (e ▸ ha)
  ·rintro ρ S3 ⟨a4,a5,a6,ys,rfl,e3,hy1,hy2,hy3,f3,k3⟩;refine hK _ _ (st ?_);dsimp only[wS,wE,wA,wV,wG,wP,wN];have hs:ww (.ref S2.length) (ba 9) gV S3=ba (.ref S3.length,S3++[.lst (ys.map W.str)]):=by
    have:jE ((iR++ys).map W.str) (ba ((9:Kk):Ky)) gV=ys.map W.str:=by
     rw[zZ,Le];exact R8 rfl
    simp only[ww,aw e3];rw[show(ba 9:Ki Ky)=ba ((9:Kk):Ky)from rfl,this]
   refine ae hs (fX ah (k _ _ ?_ hy2 hy3 (f3.ka .push) (k3.trans .push)));rw[hy1]; exact KC m
 dsimp only[cZ];refine st ?_;dsimp only[wS,wE,KD];refine bm λK hK=>?_
 dsimp only[wS,wT,wE,wA,wV,wG];refine bR (d:=d+2) G.pick hf (by decide) (by decide) λv S1 v0 v1 f1 k1=>?_
 dsimp only[iO,wO,wB];refine aS (Q0:=Q') (λ_ Q2 hn _=>?_) (λ_ Q2 hn _=>?_)
 ·refine st ?_;dsimp only[wS,wE,wA,wV,wG,KD];refine bR (d:=d+2) G.pick f1 (by decide) (by decide) λv S2 v0 v1 f2 k2=>?_
  dsimp only[d6,wO];exact jR (d:=d+1) G f2 (by omega) (by omega) λz S3 hz hs f3 k3=>dS (hn _ _ (hK _ _ (bV z S3 (by omega) hs f3 (k1.trans (k2.trans k3)))))
 ·exact dS (hn _ _ (hK _ _ (bV "" S1 (by decide) (λc hc=>nomatch hc) f1 k1)))
end
noncomputable abbrev Pt:=Ky×J9 Ky
noncomputable abbrev Wd:=J9 Pt
noncomputable def cM (p:Pt):W:=.tup [.int p.1,.tup (p.2.map W.int)]
noncomputable def bA (u:Wd):W:=.tup (u.map cM)
noncomputable def g9 (p:Pt):T:=.tup [.int p.1,.tup (p.2.map T.int)]
noncomputable def bU (u:Wd):T:=.tup (u.map g9)
theorem vM:∀xs:J9 Ky,T.ws (xs.map T.int)=xs.map W.int
 | []=>rfl
 | x::xs=>by simp[T.ws,T.w,vM xs]
theorem HG (p:Pt):(g9 p).w=cM p:=by simp[g9,cM,T.w,T.ws,vM]
theorem ur:∀u:Wd,T.ws (u.map g9)=u.map cM
 | []=>rfl
 | p::u=>by simp[T.ws,HG,ur u]
theorem Aa (u:Wd):(bU u).w=bA u:=by simp[bU,bA,T.w,ur]
theorem HH (u:Wd):W.t (bA u)=ba (bU u):=by rw[<- Aa]; exact T.w_t _
theorem ut:∀us:J9 Wd,T.ws (us.map bU)=us.map bA
 | []=>rfl
 | u::us=>by simp[T.ws,Aa,ut us]
theorem Ab (us:J9 Wd):W.ts (us.map bA)=ba (us.map bU):=by rw[<- ut]; exact T.ws_ts _
theorem l8:∀xs:J9 Ky,T.depths (xs.map T.int)=0
 | []=>rfl
 | x::xs=>by simp[T.depths,T.depth,l8 xs]
theorem Ac (p:Pt):(g9 p).depth=2:=by simp[g9,T.depth,T.depths,l8]
theorem jS:∀u:Wd,T.depths (u.map g9)<=2
 | []=>by simp[T.depths]
 | p::u=>by
  have:=jS u;simp only[LF,T.depths,Ac]; omega
theorem l9 (u:Wd):(bU u).depth<=3:=by
 have:=jS u;simp only[bU,T.depth]; omega
theorem gQ:∀us:J9 Wd,T.depths (us.map bU)<=3
 | []=>by simp[T.depths]
 | u::us=>by
  have:=gQ us;have:=l9 u;simp only[LF,T.depths]; omega
theorem Fp (u:Wd):gX (bA u)=ba (bU u):=by
 unfold gX;rw[HH];show(if (bU u).isTup=true/\(bU u).depth<=az then _ else _)=_
 rw[KJ ⟨rfl,by have:=l9 u; unfold az; omega⟩]
mutual
noncomputable def su:T->T->KP
 | .int _,.int _=>true
 | .str _,.str _=>true
 | .tup xs,.tup ys=>jj xs ys
 | _,_=>false
noncomputable def jj:J9 T->J9 T->KP
 | [],_=>true
 | _,[]=>true
 | x::xs,y::ys=>su x y&&jj xs ys
end
mutual
theorem uu:∀x y:T,su x y=true->(gM x y).isSome=true
 | .int _,.int _,_=>rfl
 | .str _,.str _,_=>rfl
 | .tup xs,.tup ys,h=>by
  dsimp only[su]at h;dsimp only[gM];exact vN xs ys h
 | .int _,.str _,h|.int _,.tup _,h|.str _,.int _,h|.str _,.tup _,h|.tup _,.int _,h|.tup _,.str _,h=>by cases h
theorem vN:∀xs ys:J9 T,jj xs ys=true->(dq xs ys).isSome=true
 | [],[],_=>rfl
 | [],_::_,_=>rfl
 | _::_,[],_=>rfl
 | x::xs,y::ys,h=>by
  dsimp only[jj]at h; simp only[Kj]at h
  dsimp only[dq];split
  ·exact vN xs ys h.2
  ·exact uu x y h.1
end
theorem sv:∀xs ys:J9 Ky,jj (xs.map T.int) (ys.map T.int)=true
 | [],_=>rfl
 | _::_,[]=>rfl
 | x::xs,y::ys=>by dsimp only[TC,jj,su]; simp[sv xs ys]
theorem Ad (p q:Pt):su (g9 p) (g9 q)=true:=by dsimp only[g9,su,jj]; simp[sv]
theorem vO:∀u v:Wd,jj (u.map g9) (v.map g9)=true
 | [],_=>rfl
 | _::_,[]=>rfl
 | p::u,q::v=>by dsimp only[TC,jj]; simp[Ad,vO u v]
theorem Fq (u v:Wd):su (bU u) (bU v)=true:=by dsimp only[bU,su]; exact vO _ _
theorem fF (us:J9 Wd):eY (us.map bU)=true:=by
 unfold eY;rw[KH];intro x hx;obtain⟨u,_,rfl⟩:=Kw.mp hx;rw[KH];intro y hy;obtain⟨v,_,rfl⟩:=Kw.mp hy;exact uu _ _ (Fq u v)
theorem Ae (us:J9 Wd)(h:∀u∈us,u≠[]):(tQ (us.map bU)).isSome=true:=by
 unfold tQ;split
 ·rfl
 ·split
  ·rfl
  ·split
   ·rfl
   ·split
    ·rfl
    ·split
     ·rfl
     ·rename_i h5;exfalso;apply h5;rw[KH];intro x hx;obtain⟨u,hu,rfl⟩:=Kw.mp hx;cases u with
      | nil=>exact absurd rfl (h [] hu)
      | cons p u=>rfl
noncomputable def dw (bs:J9 Ky)(u:Wd)(i j:Kk):Ky:=if j < i then((u.getD i (0,[])).2).getD j 0 else bs.getD (((u.getD j (0,[])).2).getD i 0).toNat 0
noncomputable def au (bs:J9 Ky)(u:Wd)(ps:J9 Kk):Wd:=(KS ps.length).map λk=>((u.getD (ps.getD k 0) (0,[])).1,(ps.take k).map λj=>dw bs u (ps.getD k 0) j)
noncomputable def aJ:J9 (J9 Kk):=[[0,1,2],[0,2,1],[1,0,2],[1,2,0],[2,0,1],[2,1,0]]
noncomputable def fZ (bs:J9 Ky)(u:Wd):Wd:=(aJ.map (au bs u)).getD (iG ((aJ.map (au bs u)).map bU)) []
noncomputable def cu (n:KF)(b:Ky):W:=.tup [.str n,.int b]
structure GoodW (a n:Kk)(u:Wd):Prop where
 mark:∀(k:Kk) (p:Pt),u[k]?=ba p->0<=p.1/\p.1 < a
 len:∀(k:Kk) (p:Pt),u[k]?=ba p->p.2.length=k
 way:∀(k:Kk) (p:Pt),u[k]?=ba p->∀w∈p.2,0<=w/\w < n
noncomputable def GoodB (bs:J9 Ky):Prop:=bs=[0]\/bs=[0,1]\/bs=[1,0]\/bs=[0,1,2]\/bs=[1,0,2]\/bs=[0,2,1]
theorem GoodB.rng {bs:J9 Ky}(h:GoodB bs):∀k:Kk,k < bs.length->∃b:Ky,bs[k]?=ba b/\0<=b/\b < bs.length:=by
 rcases h with rfl|rfl|rfl|rfl|rfl|rfl <;> intro k hk
 ·match k,hk with
  | 0,_=>exact⟨0,rfl,by decide,by decide⟩
 ·match k,hk with
  | 0,_=>exact⟨0,rfl,by decide,by decide⟩
  | 1,_=>exact⟨1,rfl,by decide,by decide⟩
 ·match k,hk with
  | 0,_=>exact⟨1,rfl,by decide,by decide⟩
  | 1,_=>exact⟨0,rfl,by decide,by decide⟩
 ·match k,hk with
  | 0,_=>exact⟨0,rfl,by decide,by decide⟩
  | 1,_=>exact⟨1,rfl,by decide,by decide⟩
  | 2,_=>exact⟨2,rfl,by decide,by decide⟩
 ·match k,hk with
  | 0,_=>exact⟨1,rfl,by decide,by decide⟩
  | 1,_=>exact⟨0,rfl,by decide,by decide⟩
  | 2,_=>exact⟨2,rfl,by decide,by decide⟩
 ·match k,hk with
  | 0,_=>exact⟨0,rfl,by decide,by decide⟩
  | 1,_=>exact⟨2,rfl,by decide,by decide⟩
  | 2,_=>exact⟨1,rfl,by decide,by decide⟩
theorem getD_some {α:Type}{xs:J9 α}{i:Kk}{x d:α}(h:xs[i]?=ba x):xs.getD i d=x:=by simp[h]
theorem ay {α:Type}{xs:J9 α}{i:Kk}{d:α}(h:i < xs.length):xs[i]?=ba (xs.getD i d):=by simp[h]
theorem qh {ns:J9 KF}{bs:J9 Ky}{k:Kk}{n:KF}{b:Ky}(h1:ns[k]?=ba n)(h2:bs[k]?=ba b):(KZ cu ns bs)[k]?=ba (cu n b):=by
 rw[Qf,h1,h2]
noncomputable def aI (ps:J9 Kk):J9 W:=ps.map λ(p:Kk)=>W.int (p:Ky)
theorem qk {ps:J9 Kk}{k p:Kk}(h:ps[k]?=ba p):(aI ps)[k]?=ba (.int p):=by simp[aI,h]
theorem cg (bs:J9 Ky)(u:Wd)(ps:J9 Kk):(au bs u ps).length=ps.length:=by unfold au; rw[Kc,KU]
theorem oP {u:Wd}{i:Kk}(hi:i < u.length):(u.map cM)[((i:Kk):Ky).toNat]?=ba (cM (u.getD i (0,[]))):=by
 rw[KC,Km,ay hi]; rfl
section
variable{defs:J9 (KF×Df)}{fuel d:Kk}{S:aa}{r:Kk}{Q:QW}
theorem Ag {Φ:KF->FF}{m0 b0:W}{ns:J9 KF}{bs:J9 Ky}{a:Kk}{u:Wd}{i j:Kk}{Q:QO}(hb:GoodB bs)(hl:ns.length=bs.length)(hu:GoodW a bs.length u)(hi:i < u.length)(hj:j < u.length)(hij:i≠j)(k:Q (.rt (.int (dw bs u i j)),S)) :
  wZ Φ fuel dJ [ba (.tup [m0,.tup (KZ cu ns bs),b0]),ba (bA u),ba (.int i),ba (.int j)] S Q:=by
 have hpi:=ay (d:=(0,[])) hi;have hpj:=ay (d:=(0,[])) hj;unfold dw at k;dsimp only[dJ];refine bm λK hK=>?_
 dsimp only[wS,wT,wE,wV,wG,CH,wO,wB,bA];refine aS (Q0:=Q) (λh Q2 _ hr=>?_) (λh Q2 hn _=>?_)
 ·have hji:j < i:=by have:=Lm h; omega
  rw[KJ hji]at k;have hw:j < (u.getD i (0,[])).2.length:=by rw[hu.len i _ hpi]; exact hji
  refine st ?_;dsimp only[wS,wE,wV,wG];refine aC (KY i) (oP hi) (aC (by decide) rfl (aC (KY j) ?_ (hr _ _ k)))
  rw[KC,Km,ay (d:=0) hw]; rfl
 ·have hji:¬ j < i:=by have:=Nr h; omega
  rw[KW hji]at k;refine dS (hn _ _ (hK _ _ ?_));clear hn hK;have hw:i < (u.getD j (0,[])).2.length:=by rw[hu.len j _ hpj]; omega
  have hg:=ay (d:=0) hw;obtain⟨g1,g2⟩:=hu.way j _ hpj _ (Kt hg);obtain⟨b,hb1,hb2,hb3⟩:=hb.rng ((u.getD j (0,[])).2.getD i 0).toNat (by omega)
  have hn:((u.getD j (0,[])).2.getD i 0).toNat < ns.length:=by omega
  rw[getD_some hb1]at k;refine st ?_;dsimp only[wS,wE,wV,wG];refine aC (by decide) rfl (aC (KY j) (oP hj) (aC (by decide) rfl (aC (KY i) ?_ (aC g1 (qh (Ko hn) hb1) (aC (by decide) rfl k)))))
  rw[KC,Km,hg]; rfl
theorem xr (G:Gen defs){m0 b0:W}{ns:J9 KF}{bs:J9 Ky}{a:Kk}{u:Wd}{i j:Kk}(hb:GoodB bs)(hl:ns.length=bs.length)(hu:GoodW a bs.length u)(hi:i < u.length)(hj:j < u.length)(hij:i≠j)(k:Q (.int (dw bs u i j),S)) :
  wO (bN (aq defs fuel (d+1)) "_law_between" 4 [.tup [m0,.tup (KZ cu ns bs),b0],bA u,.int i,.int j] S) Q:=
 aF G.between rfl rfl λQ' hR=>Ag hb hl hu hi hj hij (hR _ _ k)
theorem Fs (G:Gen defs){m0 b0:W}{ns:J9 KF}{bs:J9 Ky}{a:Kk}{u:Wd}{ps:J9 Kk}(hb:GoodB bs)(hl:ns.length=bs.length)(hu:GoodW a bs.length u)(hps:∀p∈ps,p < u.length)(hnd:ps.Nodup)(hsz:ps.length < 1000)(k:∀S',Ka S S'->Q (bA (au bs u ps),S')) :
  wO (bN (aq defs fuel (d+2)) "_law_part" 3 [.tup [m0,.tup (KZ cu ns bs),b0],bA u,.tup (aI ps)] S) Q:=by
 refine aF G.part rfl rfl λQ' hR=>?_
 replace k:∀S',Ka S S'->Q' (.rt (bA (au bs u ps)),S'):=λS' a=>hR _ _ (k S' a)
 clear hR;show wZ _ _ fQ [ba (.tup [m0,.tup (KZ cu ns bs),b0]),ba (bA u),ba (.tup (aI ps)),gV,gV,gV] S Q';generalize hR0:W.tup [m0,.tup (KZ cu ns bs),b0]=R;dsimp only[fQ];refine st ?_;dsimp only[wS,wE,wA,KD];refine bm λK hK=>?_
 have nl:(aI ps).length=ps.length:=Kc ..;refine eg (ps.length:Ky) (λk ρ S'=>∃a4 a5,ρ=[ba R,ba (bA u),ba (.tup (aI ps)),ba (.ref S.length),a4,a5]/\S'[S.length]?=ba (.lst (((au bs u ps).take k).map cM))/\Ka S S') rfl rfl (by omega) ?_ ?_ ?_
 ·dsimp only[wE,wA,wV,wG];refine di ?_;rw[nl];exact⟨rfl,gV,gV,rfl,ah,.push⟩
 ·rintro i ρ S1 hi ⟨a4,a5,rfl,e1,k1⟩ Q2 hn _;clear hK;have hi':i < ps.length:=by omega
  have hp:ps[i]?=ba ps[i]:=Ko hi';have hpu:ps[i] < u.length:=hps _ (Lf hi');refine st ?_;dsimp only[wS,wE,wV,wG,KD];refine aC (KY i) (by rw[KC]; exact qk hp) ?_
  refine st ?_;dsimp only[wS,wE,wA,wV,wG,KD];refine⟨dg e1,aC (KY _) (oP hpu) (aC (by decide) rfl ?_)⟩
  refine vH (aI (ps.take i)) (λj ys ρ2 S2=>(∃a1,ρ2=[gV,a1,ba (.int ps[i]),ba R,ba (bA u)])/\ys=((ps.take i).take j).map (λq=>W.int (dw bs u ps[i] q))/\Ka S1 S2) rfl rfl rfl ?_ ?_ ?_
  ·dsimp only[wE,wP,wV,wG,wN];refine ae (a:=(.tup (aI (ps.take i)),S1)) ?_ ⟨rfl,⟨gV,rfl⟩,rfl,.refl⟩;simp only[ww,sr];unfold aI;rw[QL]
  ·rintro j w ys ρ2 S2 hw ⟨⟨a1,rfl⟩,rfl,k2⟩;have hjl:j < (ps.take i).length:=by
    have:=(Kq.mp hw).1;unfold aI at this
    rwa [Kc]at this
   have hq:(ps.take i)[j]?=ba (ps.take i)[j]:=Ko hjl;cases(qk hq).symm.trans hw;have hj:j < i:=by rw[LJ]at hjl; omega
   have eq:(ps.take i)[j]=ps[j]'(by omega):=Pi
   generalize(ps.take i)[j]=q at hq eq ⊢;refine ae (show ik (.nm 1) (.int (q:Ky)) [gV,a1,ba (.int ps[i]),ba R,ba (bA u)] S2=ba ([gV,ba (.int (q:Ky)),ba (.int ps[i]),ba R,ba (bA u)],S2)from rfl) ?_
   dsimp only[iQ,wC,wE,wA,wV,wG];subst hR0;refine⟨λ_=>xr (d:=d) G hb hl hu hpu (by rw[eq]; exact hps _ (Lf _)) ?_ ⟨⟨_,rfl⟩,?_,k2⟩,λz=>by cases z⟩
   ·rw[eq];intro h;have:=(Nf hnd).mp h;omega
   ·rw[Lg,hq];simp
  ·rintro ys ρ2 S2 ⟨_,rfl,k2⟩;rw[show(aI (ps.take i)).length=(ps.take i).length from Kc ..,Lw]
   refine⟨kG (by rw[Kc,LJ]; omega),fX ah ?_⟩
   have e2:=ap (u:=O.lst ((ps.take i).map λq=>W.int (dw bs u ps[i] q))) (k2.get _ _ e1)
   refine si e2 (by rw[Kc,LJ]; omega) (dS (hn _ _ ⟨_,_,rfl,?_,((k1.trans k2).trans .push).late (Kn _)⟩))
   rw[bX e2];have ep:(au bs u ps)[i]?=ba ((u.getD ps[i] (0,[])).1,(ps.take i).map λq=>dw bs u ps[i] q):=by
    unfold au;rw[Km,MK hi',Ld,getD_some hp]
   rw[Lg,ep];simp[cM,NC]
 ·rintro ρ S1 ⟨a4,a5,rfl,e1,k1⟩;rw[KC,<- cg bs u ps,Lw]at e1;refine hK _ _ (st ?_);dsimp only[wS,wE,wA,wV,wG];exact fX e1 (k _ k1)
theorem ql (G:Gen defs)(k:Q (.ref S.length,S++[.lst (aJ.map λt=>W.tup (aI t))])):wO (bN (aq defs fuel (d+1)) "_law_turns" 0 [] S) Q:=by
 refine aF G.turns rfl rfl λQ' hR=>?_
 dsimp only[gw];refine st ?_;dsimp only[wS,wE,wA];exact hR _ _ k
theorem dD (bt:Kk->Kk->KP):∀n:Kk,argBest bt n<=n
 | 0=>Kn _
 | n+1=>by have:=dD bt n; simp only[argBest]; split <;> omega
theorem jk (G:Gen defs){m0 b0:W}{ns:J9 KF}{bs:J9 Ky}{a:Kk}{u:Wd}(hb:GoodB bs)(hl:ns.length=bs.length)(hu:GoodW a bs.length u)(h3:u.length=3)(k:∀S',Ka S S'->Q (bA (fZ bs u),S')) :
  wO (bN (aq defs fuel (d+3)) "_law_figure" 2 [.tup [m0,.tup (KZ cu ns bs),b0],bA u] S) Q:=by
 refine aF G.figure rfl rfl λQ' hR=>?_
 replace k:∀S',Ka S S'->Q' (.rt (bA (fZ bs u)),S'):=λS' a=>hR _ _ (k S' a)
 clear hR;show wZ _ _ eh [ba (.tup [m0,.tup (KZ cu ns bs),b0]),ba (bA u)] S Q';generalize hR0:W.tup [m0,.tup (KZ cu ns bs),b0]=R;dsimp only[eh];refine st ?_;dsimp only[wS,wE,wA];refine vI S.length (aJ.map λt=>W.tup (aI t)) (λi ys ρ2 S2=>(∃a1,ρ2=[gV,a1,ba R,ba (bA u)])/\ys=((aJ.take i).map λt=>bA (au bs u t))/\Ka (S++[.lst (aJ.map λt=>W.tup (aI t))]) S2) rfl rfl rfl ?_ ?_ ?_ ?_
 ·dsimp only[wE,wA];exact ql (d:=d+1) G ⟨rfl,⟨gV,rfl⟩,rfl,.refl⟩
 ·rintro i ys ρ2 S2 ⟨_,_,k2⟩;exact k2.get _ _ ah
 ·rintro i w ys ρ2 S2 hw ⟨⟨a1,rfl⟩,rfl,k2⟩;rw[Km,Kf]at hw;obtain⟨t,ht,rfl⟩:=hw;have ht3:(∀p∈t,p < 3)/\t.Nodup/\t.length < 1000:=by
   have:∀t∈aJ,(∀p∈t,p < 3)/\t.Nodup/\t.length < 1000:=by decide
   exact this t (Kt ht)
  refine ae (show ik (.nm 1) (.tup (aI t)) [gV,a1,ba R,ba (bA u)] S2=ba ([gV,ba (.tup (aI t)),ba R,ba (bA u)],S2)from rfl) ?_
  dsimp only[iQ,wC,wE,wA,wV,wG];subst hR0;refine⟨λ_=>Fs (d:=d) G hb hl hu (λp hp=>by rw[h3]; exact ht3.1 p hp) ht3.2.1 ht3.2.2 λS3 k3=>⟨⟨_,rfl⟩,?_,k2.trans k3⟩,λz=>by cases z⟩
  rw[Lg,ht];simp
 ·rintro ys ρ2 S2 ⟨_,rfl,k2⟩;have e:((aJ.take (aJ.map λt=>W.tup (aI t)).length).map λt=>bA (au bs u t))=(aJ.map (au bs u)).map bA:=by
   rw[Kc,Lw,Mg]; rfl
  rw[e];refine⟨ji rfl,ae (a:=(bA (fZ bs u),S2++[.lst ((aJ.map (au bs u)).map bA)])) ?_ (k _ ((Ka.push.trans k2).trans .push))⟩;simp only[Bi.fn,yK,aw ah,Ab];rw[KJ ⟨by have:=gQ (aJ.map (au bs u)); unfold cy; omega,fF _⟩]
  unfold fZ;have hlt:iG ((aJ.map (au bs u)).map bU) < (aJ.map (au bs u)).length:=O2 (dD _ _) (by decide:5 < 6)
  rw[Km,ay (d:=[]) hlt];rfl
end
noncomputable def af (xs:J9 Ky):J9 W:=xs.map W.int
noncomputable def c7 (us:J9 Wd):J9 Wd:=dP (mQ (us.map bU)) [] us
theorem sw {α β:Type}{lt:Kk->Kk->KP}{d:α}{d':β}{f:α->β}{us:J9 α}:dP lt d' (us.map f)=(dP lt d us).map f:=by
 unfold dP;rw[Kc];split
 ·rfl
 ·rw[Mg];refine LO λi hi=>?_
  have hl:i < us.length:=kZ (by omega) i hi
  simp[hl]
theorem uw {S:aa}{x:W}{us:J9 Wd}(h:eH S x=ba (us.map bA))(h64:us.length < 64)(hne:∀u∈us,u≠[]):fM [x] S=ba (.ref S.length,S++[.lst ((c7 us).map bA)]):=by
 have ok:iF (us.map bU)=true:=by
  unfold iF;simp only[Kj,Mc,KG,Kc];exact⟨⟨h64,by have:=gQ us; unfold cy; omega⟩,.inr ⟨Ae us hne,fF us⟩⟩
 simp only[fM,h,Ab];rw[KJ ok,sw (d:=[])];rfl
noncomputable def d7 (ms ns:J9 KF)(bs:J9 Ky)(us:J9 Wd):W:=.tup [.tup (ms.map W.str),.tup (KZ cu ns bs),.tup (us.map bA)]
structure GoodN (ms ns:J9 KF):Prop where
 name:∀y∈ms++ns,Name y
 nd:(iR++(ms++ns)).Nodup
theorem GoodW.nil {a n:Kk}:GoodW a n []:=⟨λk p h=>(by simp at h),λk p h=>(by simp at h),λk p h=>(by simp at h)⟩
theorem GoodW.snoc {a n:Kk}{u:Wd}{m:Ky}{ws:J9 Ky}(h:GoodW a n u)(h1:0<=m/\m < a)(h2:ws.length=u.length)(h3:∀w∈ws,0<=w/\w < (n:Ky)):GoodW a n (u++[(m,ws)]):=by
 have key:∀(k:Kk) (p:Pt),(u++[(m,ws)])[k]?=ba p->u[k]?=ba p\/(k=u.length/\p=(m,ws)):=λk p e=>by
  rcases Nat.lt_or_ge k u.length with hk|hk
  ·rw[Lk hk]at e; exact .inl e
  ·rw[Ms hk]at e;have:k - u.length=0:=by
    have:=(Kq.mp e).1;simp at this; omega
   rw[this]at e;cases e;exact .inr ⟨by omega,rfl⟩
 refine⟨λk p e=>?_,λk p e=>?_,λk p e=>?_⟩ <;> rcases key k p e with e|⟨rfl,rfl⟩
 ·exact h.mark k p e
 ·exact h1
 ·exact h.len k p e
 ·exact h2
 ·exact h.way k p e
 ·exact h3
theorem GoodB.inv {bs:J9 Ky}(h:GoodB bs):∀k:Kk,k < bs.length->bs.getD (bs.getD k 0).toNat 0=k:=by
 rcases h with rfl|rfl|rfl|rfl|rfl|rfl <;> decide
theorem GoodB.at {bs:J9 Ky}(h:GoodB bs){x:Ky}(h0:0<=x)(h1:x < bs.length):bs[x.toNat]?=ba (bs.getD x.toNat 0)/\0<=bs.getD x.toNat 0/\bs.getD x.toNat 0 < bs.length:=by
 obtain⟨b,h2,h3⟩:=h.rng x.toNat (by omega)
 rw[getD_some h2];exact⟨h2,h3⟩
theorem CO {S:aa}{x:W}{xs:J9 W}(h:eH S x=ba xs):dc [x] S=gV:=by
 cases x with
 | ref i=>
  have e2:F2 S i=gV:=by
   unfold F2;cases e:S[i]? with
   | none=>rfl
   | some o=>
    cases o with
    | stt ss=>simp[eH,gc,kn,e]at h
    | _=>rfl
  simp only[dc,e2]
 | _=>rfl
theorem Ah {S:aa}{x:W}{us:J9 Wd}{Q:QW}(h:eH S x=ba (us.map bA))(h64:us.length < 64)(hne:∀u∈us,u≠[])(q:Q (.ref S.length,S++[.lst ((c7 us).map bA)])):wO (Bi.sorted.fn [x] S) Q:=by
 refine ae ?_ q;show(match dc [x] S with
  | some r=>ba r
  | none=>fM [x] S)=_
 rw[CO h];exact uw h h64 hne
noncomputable def Ai:J9 (Kk×Kk):=[(1,1),(2,1),(3,1),(1,2),(1,2),(2,2),(2,2),(3,2),(1,3),(1,3),(2,3)]
theorem Aj:∀p∈Ai,1<=p.1/\p.1<=3/\1<=p.2/\p.2<=3/\p.1*p.2<=6:=by decide
noncomputable def ma:Kk->J9 (J9 Ky)
 | 1=>[[0]]
 | 2=>[[0,1],[1,0]]
 | _=>[[0,1,2],[1,0,2],[0,2,1]]
theorem Ak:∀n:Kk,1<=n->n<=3->(∀b∈ma n,GoodB b/\b.length=n)/\0 < (ma n).length/\(ma n).length<=3
 | 1,_,_=>⟨λb h=>by cases Kx.mp h; exact⟨.inl rfl,rfl⟩,by decide,by decide⟩
 | 2,_,_=>⟨λb h=>by
   rcases KL.mp h with rfl|h
   ·exact⟨.inr (.inl rfl),rfl⟩
   ·cases Kx.mp h; exact⟨.inr (.inr (.inl rfl)),rfl⟩,by decide,by decide⟩
 | 3,_,_=>⟨λb h=>by
   rcases KL.mp h with rfl|h
   ·exact⟨.inr (.inr (.inr (.inl rfl))),rfl⟩
   ·rcases KL.mp h with rfl|h
    ·exact⟨.inr (.inr (.inr (.inr (.inl rfl)))),rfl⟩
    ·cases Kx.mp h; exact⟨.inr (.inr (.inr (.inr (.inr rfl)))),rfl⟩,by decide,by decide⟩
 | 0,h,_=>absurd h (by decide)
 | n+4,_,h=>absurd h (by omega)
section
variable{defs:J9 (KF×Df)}{fuel d:Kk}{S:aa}{r:Kk}{Q:QW}
theorem qm (G:Gen defs)(hf:Fl S r)(k:∀(a n:Kk) S',1<=a->a<=3->1<=n->n<=3->a*n<=6->Fl S' r->Kp r S S'->Q (.tup [.int a,.int n],S')) :
  wO (bN (aq defs fuel (d+2)) "_law_sizes" 1 [.ref r] S) Q:=by
 refine aF G.sizes rfl rfl λQ' hR=>?_
 show wZ _ _ ff [ba (.ref r),gV] S Q';dsimp only[ff];refine st ?_;dsimp only[wS,wE,wA,KD];refine st ?_;dsimp only[wS,wE,wA,wV,wG];refine bR (d:=d) G.pick (hf.ka .push) (by decide) (by decide) λv S1 v0 v1 f1 k1=>?_
 have e:=k1.get _ _ (Mr hf.lt) ah;obtain⟨p,hp,ep⟩:=lZ (f:=λp:Kk×Kk=>W.tup [.int p.1,.int p.2]) (xs:=Ai) (i:=v.toNat) (by show v.toNat < 11; omega)
 obtain⟨a1,a3,n1,n3,an⟩:=Aj p hp;exact gx e v0 ep (hR _ _ (k _ _ _ a1 a3 n1 n3 an f1 (Kp.push.trans k1)))
theorem qo (G:Gen defs){n:Kk}(hf:Fl S r)(h1:1<=n)(h3:n<=3)(k:∀(bs:J9 Ky) S',GoodB bs->bs.length=n->Fl S' r->Kp r S S'->Q (.tup (af bs),S')) :
  wO (bN (aq defs fuel (d+2)) "_law_backs" 2 [.ref r,.int n] S) Q:=by
 refine aF G.backs rfl rfl λQ' hR=>?_
 replace k:∀(bs:J9 Ky) S',GoodB bs->bs.length=n->Fl S' r->Kp r S S'->Q' (.rt (.tup (af bs)),S'):=λz S' a b c e=>hR _ _ (k z S' a b c e)
 clear hR;show wZ _ _ eZ [ba (.ref r),ba (.int n),gV] S Q';dsimp only[eZ];refine bm λK hK=>?_
 dsimp only[wS,wE,wA,wV,wG,KD];dsimp only[zM,aX];obtain⟨hg,g0,g3⟩:=Ak n h1 h3;have fin:∀(t:Kk) (S1:aa),S.length<=t->S1[t]?=ba (.lst ((ma n).map λb=>.tup (af b)))->Ka S S1->K [ba (.ref r),ba (.int n),ba (.ref t)] S1:=by
  intro t S1 ht et ka;refine hK _ _ (st ?_);dsimp only[wS,wE,wA,wV,wG];refine fW et ?_;rw[Kc];refine bR (d:=d) G.pick (hf.ka ka) (by omega) (by omega) λv S2 v0 v1 f2 k2=>?_
  have e2:=k2.get _ _ (by have:=hf.lt; omega) et
  obtain⟨b,hb,eb⟩:=lZ (f:=λb:J9 Ky=>W.tup (af b)) (xs:=ma n) (i:=v.toNat) (by omega)
  exact gx e2 v0 eb (k b S2 (hg b hb).1 (hg b hb).2 f2 ((ka.kp r).trans k2))
 clear hK g0 g3 hg;rcases(show n=1\/n=2\/n=3 by omega)with rfl|rfl|rfl
 ·exact eT (i:=0) ah rfl (fin _ _ (Kn _) (ap (ap (ap ah))) (Ka.push.trans (Ka.push.trans (Ka.push.trans .push))))
 ·exact eT (i:=1) ah rfl (fin _ _ (by simp) (ap (ap ah)) (Ka.push.trans (Ka.push.trans (Ka.push.trans .push))))
 ·exact eT (i:=2) ah rfl (fin _ _ (by simp only[Ks]; omega) (ap ah) (Ka.push.trans (Ka.push.trans (Ka.push.trans .push))))
theorem oQ (hfu:20 < fuel)(G:Gen defs){a:Kk}{bs:J9 Ky}{x:W}{us:J9 Wd}(hf:Fl S r)(ha:a<=3)(hb:bs.length<=3)(hx:∀S',Kp r S S'->eH S' x=ba (us.map bA))(h64:us.length < 64)(hne:∀u∈us,u≠[])
  (k:∀(ms ns:J9 KF) S',ms.length=a->ns.length=bs.length->GoodN ms ns->Fl S' r->Kp r S S'->Q (d7 ms ns bs (c7 us),S')) :
  wO (bN (aq defs fuel (d+5)) "_law_rule_of" 4 [.ref r,.int a,.tup (af bs),x] S) Q:=by
 refine aF G.rule_of rfl rfl λQ' hR=>?_
 replace k:∀(ms ns:J9 KF) S',ms.length=a->ns.length=bs.length->GoodN ms ns->Fl S' r->Kp r S S'->Q' (.rt (d7 ms ns bs (c7 us)),S'):=λz y S' a b c e f=>hR _ _ (k z y S' a b c e f)
 clear hR;show wZ _ _ dL [ba (.ref r),ba (.int a),ba (.tup (af bs)),ba x,gV,gV] S Q';have hbl:(af bs).length=bs.length:=Kc ..;dsimp only[dL];refine bm λK hK=>?_
 dsimp only[wS,wE,wA,wV,wG,KD];refine di ?_;rw[hbl];dsimp only[d6,aX];refine CN (d:=d) (m:=a+bs.length) hfu G hf (by omega) λys S1 q2 q3 q4 f1 k1=>hK _ _ ?_
 clear hK K;have hzl:(KZ cu (ys.drop a) bs).length=bs.length:=by
  rw[Nb,NM]; omega
 refine bm λK hK=>?_
 dsimp only[wS,wE,wA,KD];refine dH (bs.length:Ky) (λk zs ρ2 S2=>(∃a1,ρ2=[gV,a1,ba (.tup (af bs)),ba (.int a),ba (.tup (ys.map W.str))])/\zs=((KZ cu (ys.drop a) bs).take k)/\S2=S1) rfl rfl rfl (by omega) ?_ ?_ ?_
 ·dsimp only[wE,wA,wV,wG];refine di ?_;rw[hbl];exact⟨rfl,⟨gV,rfl⟩,rfl,rfl⟩
 ·rintro i zs ρ2 S2 hi ⟨⟨a1,rfl⟩,rfl,rfl⟩;clear hK;have hi':i < bs.length:=by omega
  have h1:a+i < ys.length:=by omega
  dsimp only[iQ,wC,wE,wA,wV,wG,KD,d6,aX];refine⟨λ_=>aC (by omega) (w:=.str ys[a+i]) ?_ (aC (by omega) (w:=.int bs[i]) ?_ ⟨⟨_,rfl⟩,?_,rfl⟩),λz=>by cases z⟩
  ·rw[show((a:Ky)+(i:Ky)).toNat=a+i by omega,Km,Ko h1]; rfl
  ·unfold af;rw[KC,Km,Ko hi']; rfl
  ·have ez:(KZ cu (ys.drop a) bs)[i]?=ba (cu ys[a+i] bs[i]):=qh (by rw[List.getElem?_drop]; exact Ko h1) (Ko hi')
   rw[Lg,ez];rfl
 ·rintro zs ρ2 S2 ⟨_,rfl,rfl⟩;rw[KC,<- hzl,Lw];refine⟨kG (by omega),fX ah (hK _ _ ?_)⟩
  clear hK K;refine st ?_;dsimp only[wS,wE,wA,wP,wV,wG,wN];have hs:ww (.tup (ys.map W.str)) gV (ba (a:Ky)) (S2++[O.lst (KZ cu (ys.drop a) bs)])=ba (.tup ((ys.take a).map W.str),S2++[O.lst (KZ cu (ys.drop a) bs)]):=by
   simp only[ww,sr];rw[QL]
  refine ae hs (Ah (hx _ (k1.trans .push)) h64 hne (fX ah ?_));refine k (ys.take a) (ys.drop a) _ ?_ ?_ ⟨?_,?_⟩ ((f1.ka .push).ka .push) (k1.trans (Kp.push.trans .push))
  ·rw[LJ]; omega
  ·rw[NM]; omega
  ·rw[Os]; exact q3
  ·rw[Os]; exact q4
theorem fS (hfu:20 < fuel)(G:Gen defs){a:Kk}{bs:J9 Ky}(hf:Fl S r)(ha:a<=3)(hb:bs.length<=3)
  (k:∀(ms ns:J9 KF) S',ms.length=a->ns.length=bs.length->GoodN ms ns->Fl S' r->Kp r S S'->Q (d7 ms ns bs [],S')) :
  wO (bN (aq defs fuel (d+5)) "_law_rule_of" 4 [.ref r,.int a,.tup (af bs),.tup []] S) Q:=
 oQ hfu G hf ha hb (us:=[]) (λ_ _=>rfl) (by decide) (λ_ h=>nomatch h) k
theorem draws {Φ:KF->FF}{ρ:Fm}{elt e:E}{cap:J9 (Ki Kk)}{n i:Kk}{R:Fm}(oe:eC elt=true)(oi:eC e=true)(h1:i<=1000)(hc:fN cap ρ=gV::gV::R)(hf:Fl S r)(he:∀Q:QW,Q (.int i,S)->wE Φ e ρ S Q)
  (hp:∀(a:Ki W) (S1:aa) (Q:QW),Fl S1 r->(∀v S',0<=v->v < (n:Ky)->Fl S' r->Kp r S1 S'->Q (.int v,S'))->wE Φ elt (gV::a::R) S1 Q)
  (k:∀(vs:J9 Ky) S',vs.length=i->(∀w∈vs,0<=w/\w < (n:Ky))->Fl S' r->Kp r S S'->Q (.ref S'.length,S'++[.lst (af vs)])) :
  Wp (aE Φ (.comp elt (.nm 1) (.rng (.cons e .nil)) .nil cap) ρ S) Q:=by
 refine dH (i:Ky) (λj ys ρ2 S3=>(∃a1,ρ2=gV::a1::R)/\(∃vs:J9 Ky,ys=af vs/\vs.length=j/\∀w∈vs,0<=w/\w < (n:Ky))/\Fl S3 r/\Kp r S S3) oi oe rfl (by omega) (he _ ⟨rfl,⟨gV,hc⟩,⟨[],rfl,rfl,λ_ h=>nomatch h⟩,hf,.refl⟩) ?_ ?_
 ·rintro j ys ρ2 S3 hj ⟨⟨a1,rfl⟩,⟨vs,rfl,hvl,hv⟩,f3,k3⟩;refine⟨λ_=>hp _ _ _ f3 λv S4 v0 v1 f4 k4=>⟨⟨_,rfl⟩,⟨vs++[v],(Le (l₁:=vs) (l₂:=[v])).symm,by rw[Ks,hvl]; rfl,λw hw=>?_⟩,f4,k3.trans k4⟩,λz=>by cases z⟩
  rcases Ln.mp hw with h|h
  ·exact hv w h
  ·rw[Kx.mp h]; exact⟨v0,v1⟩
 ·rintro ys ρ2 S3 ⟨_,⟨vs,rfl,hvl,hv⟩,f3,k3⟩;rw[KC]at hvl;exact⟨kG (by rw[show(af vs).length=vs.length from Kc ..]; omega),k vs S3 hvl hv f3 k3⟩
theorem jl (G:Gen defs){a n:Kk}(hf:Fl S r)(ha:0 < a)(ha3:a<=3)(hn:0 < n)(hn3:n<=3)(k:∀(u:Wd) S',u.length=3->GoodW a n u->Fl S' r->Kp r S S'->Q (bA u,S')) :
  wO (bN (aq defs fuel (d+2)) "_law_free_three" 3 [.ref r,.int a,.int n] S) Q:=by
 refine aF G.free_three rfl rfl λQ' hR=>?_
 replace k:∀(u:Wd) S',u.length=3->GoodW a n u->Fl S' r->Kp r S S'->Q' (.rt (bA u),S'):=λz S' a b c e=>hR _ _ (k z S' a b c e)
 clear hR;show wZ _ _ cz [ba (.ref r),ba (.int a),ba (.int n),gV,gV] S Q';dsimp only[cz];have hrt:=hf.lt;refine st ?_;dsimp only[wS,wE,wA,KD];refine bm λK hK=>?_
 refine eg 3 (λk ρ S'=>∃a4 u,ρ=[ba (.ref r),ba (.int a),ba (.int n),ba (.ref S.length),a4]/\S'[S.length]?=ba (.lst (u.map cM))/\u.length=k/\GoodW a n u/\Fl S' r/\Kp r S S') rfl rfl (by decide) ⟨rfl,gV,[],rfl,ah,rfl,.nil,hf.ka .push,.push⟩ ?_ ?_
 ·rintro i ρ S1 hi ⟨a4,u,rfl,e1,hul,hu,f1,k1⟩ Q2 hn' _;clear hK;refine st ?_;dsimp only[wS,wE,wA,wV,wG,KD];refine⟨dg e1,bR (d:=d) G.pick f1 (by omega) (by omega) λv S2 v0 v1 f2 k2=>?_⟩
  have e2:=k2.get _ _ (by omega) e1
  refine draws (n:=n) (i:=i) (R:=[ba (.ref r),ba (.int n)]) rfl rfl (by omega) rfl f2 (λQ q=>q) (λa S1 Q f q=>bR (d:=d) G.pick f (by omega) (by omega) q) λvs S3 hvl hv f3 k3=>?_
  have e3:=ap (u:=O.lst (af vs)) (k3.get _ _ (by omega) e2)
  refine fX ah (si e3 (by rw[Kc]; omega) (dS (hn' _ _ ⟨_,u++[(v,vs)],rfl,?_,by rw[Ks,hul]; rfl,hu.snoc ⟨v0,v1⟩ (hvl.trans hul.symm) hv,(f3.ka .push).own hrt,(k1.trans (k2.trans (k3.trans .push))).late (Kn _)⟩)))
  rw[bX e3,Le]; rfl
 ·rintro ρ S1 ⟨a4,u,rfl,e1,hul,hu,f1,k1⟩;refine hK _ _ (st ?_);dsimp only[wS,wE,wA,wV,wG];exact fX e1 (k u _ hul hu f1 k1)
end
noncomputable def md (n:Kk):J9 Ky:=(KS n).map λ(k:Kk)=>(k:Ky)
noncomputable def sx (a n:Kk):J9 Wd:=(md a).flatMap λm0=>(md a).flatMap λm1=>(md a).flatMap λm2=>(md n).flatMap λw1=>(md n).flatMap λw2=>(md n).map λw3=>[(m0,[]),(m1,[w1]),(m2,[w2,w3])]
noncomputable def aP (a:Kk)(bs:J9 Ky):J9 Wd:=((sx a bs.length).map (fZ bs)).eraseDups
theorem dj {n:Kk}{x:Ky}(h0:0<=x)(h1:x < n):x∈md n:=Kw.mpr ⟨x.toNat,K6.mpr (by omega),by omega⟩
theorem xt {a n:Kk}{u:Wd}(h:GoodW a n u)(h3:u.length=3):u∈sx a n:=by
 match u,h3 with
 | [(m0,w0),(m1,w1),(m2,w2)],_=>
  have l0:=h.len 0 _ rfl;have l1:=h.len 1 _ rfl;have l2:=h.len 2 _ rfl;simp only at l0 l1 l2
  match w0,l0 with
  | [],_=>
   match w1,l1 with
   | [x],_=>
    match w2,l2 with
    | [y,z],_=>
     have a0:=h.mark 0 _ rfl;have a1:=h.mark 1 _ rfl;have a2:=h.mark 2 _ rfl;have b1:=h.way 1 _ rfl x (by simp)
     have b2:=h.way 2 _ rfl y (by simp)
     have b3:=h.way 2 _ rfl z (by simp)
     unfold sx;simp only[My,Kw];exact⟨m0,dj a0.1 a0.2,m1,dj a1.1 a1.2,m2,dj a2.1 a2.2,x,dj b1.1 b1.2,y,dj b2.1 b2.2,z,dj b3.1 b3.2,rfl⟩
theorem qp {a:Kk}{bs:J9 Ky}{u:Wd}(h:GoodW a bs.length u)(h3:u.length=3):fZ bs u∈aP a bs:=by
 unfold aP;rw[Oa];exact Kw.mpr ⟨u,xt h h3,rfl⟩
structure SizeOk (a:Kk)(bs:J9 Ky):Prop where
 pos:0 < a
 good:GoodB bs
 most:a*bs.length<=6
 a3:a<=3
theorem SizeOk.n3 {a:Kk}{bs:J9 Ky}(h:SizeOk a bs):0 < bs.length/\bs.length<=3:=by
 rcases h.good with rfl|rfl|rfl|rfl|rfl|rfl <;> decide
theorem Jv:(aP 1 [0]).length < 64/\(aP 2 [0]).length < 64/\(aP 3 [0]).length < 64:=by decide +kernel
theorem Im:(aP 1 [0,1]).length < 64/\(aP 2 [0,1]).length < 64/\(aP 1 [1,0]).length < 64/\(aP 2 [1,0]).length < 64:=by decide +kernel
theorem Jw:(aP 1 [0,1,2]).length < 64/\(aP 1 [1,0,2]).length < 64/\(aP 1 [0,2,1]).length < 64:=by decide +kernel
theorem Jx:(aP 3 [0,1]).length < 64:=by decide +kernel
theorem Jy:(aP 3 [1,0]).length < 64:=by decide +kernel
theorem Jz:(aP 2 [0,1,2]).length < 64:=by decide +kernel
theorem JA:(aP 2 [1,0,2]).length < 64:=by decide +kernel
theorem JB:(aP 2 [0,2,1]).length < 64:=by decide +kernel
theorem qr {a:Kk}{bs:J9 Ky}(h:SizeOk a bs):(aP a bs).length < 64:=by
 obtain⟨h0,hb,hm,h3⟩:=h;have ha:a=1\/a=2\/a=3:=by omega
 rcases hb with rfl|rfl|rfl|rfl|rfl|rfl <;> rcases ha with rfl|rfl|rfl
 ·exact Jv.1
 ·exact Jv.2.1
 ·exact Jv.2.2
 ·exact Im.1
 ·exact Im.2.1
 ·exact Jx
 ·exact Im.2.2.1
 ·exact Im.2.2.2
 ·exact Jy
 ·exact Jw.1
 ·exact Jz
 ·simp at hm
 ·exact Jw.2.1
 ·exact JA
 ·simp at hm
 ·exact Jw.2.2
 ·exact JB
 ·simp at hm
theorem Al (bs:J9 Ky)(u:Wd):∃t∈aJ,fZ bs u=au bs u t:=by
 have h7:(aJ.map (au bs u)).length=6:=by rw[Kc]; rfl
 have h8:((aJ.map (au bs u)).map bU).length=6:=by rw[Kc,h7]
 have hlt:iG ((aJ.map (au bs u)).map bU) < (aJ.map (au bs u)).length:=by
  unfold iG;have h6:=dD (mQ ((aJ.map (au bs u)).map bU)) (((aJ.map (au bs u)).map bU).length - 1);rw[h7]; omega
 unfold fZ;rw[getD_some (Ko hlt)];obtain⟨t,ht,e⟩:=Kw.mp (Lf hlt);exact⟨t,ht,e.symm⟩
theorem CP (bs:J9 Ky)(u:Wd):fZ bs u≠[]:=by
 obtain⟨t,ht,e⟩:=Al bs u;rw[e];have:∀t∈aJ,t≠[]:=by decide
 have h:=this t ht;intro z;have hl:(au bs u t).length=t.length:=by simp[au]
 rw[z]at hl;exact h (LY.mp hl.symm)
theorem sy:∀ {xs ys:J9 Ky},xs.map T.int=ys.map T.int->xs=ys
 | [],[],_=>rfl
 | [],_::_,h=>by cases h
 | _::_,[],h=>by cases h
 | x::xs,y::ys,h=>by
  rw[LF,LF]at h;injection h with h1 h2
  injection h1 with h1
  rw[h1,sy h2]
theorem CQ {p q:Pt}(h:g9 p=g9 q):p=q:=by
 unfold g9 at h;injection h with h
 injection h with h1 h2
 injection h1 with h1
 injection h2 with h2 _
 injection h2 with h2
 exact Uk h1 (sy h2)
theorem gR {u v:Wd}(h:bU u=bU v):u=v:=by
 unfold bU at h;injection h with h
 have inj:∀ {u v:Wd},u.map g9=v.map g9->u=v:=by
  intro u
  induction u with
  | nil=>intro v h; cases v with
   | nil=>rfl
   | cons _ _=>cases h
  | cons p u ih=>intro v h; cases v with
   | nil=>cases h
   | cons q v=>
    rw[LF,LF]at h;injection h with h1 h2
    rw[CQ h1,ih h2]
 exact inj h
theorem oR {kvs:J9 (T×W)}{k:T}{v:W}:(ft kvs k v).map (·.1)=if k∈kvs.map (·.1)then kvs.map (·.1)else kvs.map (·.1)++[k]:=by
 have hany:(kvs.any λp=>decide (p.1=k))=decide (k∈kvs.map (·.1)):=by
  induction kvs with
  | nil=>rfl
  | cons p kvs ih=>
   rw[MO,ih,LF]
   by_cases e:p.1=k
   ·subst e; simp
   ·rw[K5 e,Po];have:(k∈p.1::kvs.map (·.1))=(k∈kvs.map (·.1)):=by simp[Ne.symm e]
    simp only[this]
 unfold ft;rw[hany]
 by_cases h:k∈kvs.map (·.1)
 ·rw[KJ h,KJ (L3 h),Mg];refine LO λp _=>?_
  show(if p.1=k then(p.1,v)else p).1=p.1
  split <;> rfl
 ·rw[KW h,KW (by simpa using h),Le]
  rfl
structure FigD (L:J9 Wd)(kvs:J9 (T×W))(fs:J9 Wd):Prop where
 keys:kvs.map (·.1)=fs.map bU
 nd:fs.Nodup
 mem:∀f∈fs,f∈L
theorem FigD.nil {L:J9 Wd}:FigD L [] []:=⟨rfl,Qr,λ_ h=>nomatch h⟩
theorem FigD.len {L:J9 Wd}{kvs:J9 (T×W)}{fs:J9 Wd}(h:FigD L kvs fs):kvs.length=fs.length/\fs.length<=L.length:=by
 have:=congrArg Ts h.keys;rw[Kc,Kc]at this;exact⟨this,gy fs L h.nd h.mem⟩
theorem FigD.put {L:J9 Wd}{kvs:J9 (T×W)}{fs:J9 Wd}{f:Wd}{v:W}(h:FigD L kvs fs)(hf:f∈L):∃fs',FigD L (ft kvs (bU f) v) fs':=by
 by_cases hm:f∈fs
 ·refine⟨fs,?_,h.nd,h.mem⟩;rw[oR,KJ (by rw[h.keys]; exact Kw.mpr ⟨f,hm,rfl⟩),h.keys]
 ·refine⟨fs++[f],?_,?_,λg hg=>?_⟩
  ·rw[oR,KW,h.keys,Le]
   ·rfl
   ·rw[h.keys];intro z;obtain⟨g,hg,e⟩:=Kw.mp z;exact hm (gR e ▸ hg)
  ·rw[Oo];refine⟨h.nd,by simp,λa ha b hb e=>?_⟩
   rw[Kx.mp hb]at e;exact hm (e ▸ ha)
  ·rcases Ln.mp hg with h'|h'
   ·exact h.mem g h'
   ·rw[Kx.mp h']; exact hf
theorem FigD.items {S:aa}{t:Kk}{L:J9 Wd}{kvs:J9 (T×W)}{fs:J9 Wd}(h:FigD L kvs fs)(e:S[t]?=ba (.dic kvs)):eH S (.ref t)=ba (fs.map bA):=by
 simp only[eH,qd e,dG e,Ld];congr 1;have:(kvs.map (·.1)).map T.w=(fs.map bU).map T.w:=by rw[h.keys]
 rw[Mg,Mg]at this
 calc kvs.map (λp=>p.1.w)=kvs.map (T.w∘λx=>x.1):=rfl
  _=fs.map (T.w∘bU):=this
  _=fs.map bA:=by
   refine LO λf _=>?_
   exact Aa f
theorem sA {a:Kk}{bs:J9 Ky}{f:Wd}(h:f∈aP a bs):f≠[]:=by
 unfold aP at h;rw[Oa]at h;obtain⟨u,_,rfl⟩:=Kw.mp h;exact CP bs u
theorem HI {S:aa}{t:Kk}{kvs:J9 (T×W)}{u:Wd}{v:W}(h:S[t]?=ba (.dic kvs))(hl:kvs.length < sizeLine):ja (.ref t) (bA u) v S=ba (S.set t (.dic (ft kvs (bU u) v))):=by
 have hk:=Fp u;unfold bA at hk ⊢;simp only[ja,pO,h,hk];rw[KJ hl]
structure RuleAt (a:Kk)(bs:J9 Ky)(ms ns:J9 KF)(gs:J9 Wd):Prop where
 size:SizeOk a bs
 ml:ms.length=a
 nl:ns.length=bs.length
 nm:GoodN ms ns
 nd:gs.Nodup
 mem:∀g∈gs,g∈aP a bs
noncomputable def eS (w:W):Prop:=∃a bs ms ns gs,w=d7 ms ns bs (c7 gs)/\RuleAt a bs ms ns gs
section
variable{Φ:KF->FF}{fuel:Kk}{ρ:Fm}{S:aa}{K:Fm->aa->Prop}{Q:QO}
theorem jm {i0:Kk}{e:E}{b:Ss}(oe:eC e=true)(ok:iP b=true)(he:wE Φ e ρ S λp=>∃(j:Ky) (I:Kk->Fm->aa->Prop),p.1=.int j/\(-(2 ^ 62)<=j/\j < 2 ^ 62)/\I 0 ρ p.2/\
  (∀(i:Kk) (ρ:Fm) (S:aa),(i:Ky) < j->I i ρ S->zR Φ fuel b (ρ.set i0 (ba (.int i))) S (I (i+1)) Q)/\∀ρ S,I j.toNat ρ S->K ρ S):Wp (gN Φ fuel (.loop (.nm i0) (.rng (.cons e .nil)) b) ρ S) (uq K Q):=by
 obtain⟨w,S1,e1,j,I,rfl,hj,h0,hs,hend⟩:=cv oe he;have hl:(dt 0 j.toNat).length=j.toNat:=by simp[dt]
 refine jQ (mi:=.its (dt 0 j.toNat)) (S1:=S1) (xs:=dt 0 j.toNat) I ok ?_ (λ_ _ _ _=>rfl) rfl h0 (λi w ρ S hw hI=>?_) λρ S hI=>hend ρ S (hl ▸ hI)
 ·simp only[la,dy,eN,iI,uc,e1];rw[KJ hj]
 ·rw[eO]at hw;split at hw
  ·rename_i hk;cases hw;rw[PV];exact hs i ρ S (by omega) hI
  ·cases hw
theorem jn {tg:Tg}{e:E}{b:Ss}(oe:eC e=true)(ok:iP b=true)(he:wE Φ e ρ S λp=>∃(t:Kk) (xs:J9 W) (I:Kk->Fm->aa->Prop),p.1=.ref t/\I 0 ρ p.2/\(∀i ρ S,I i ρ S->S[t]?=ba (.lst xs))/\
  (∀(i:Kk) (w:W) (ρ:Fm) (S:aa),xs[i]?=ba w->I i ρ S->wO (ik tg w ρ S) λq=>zR Φ fuel b q.1 q.2 (I (i+1)) Q)/\∀ρ S,I xs.length ρ S->K ρ S):Wp (gN Φ fuel (.loop tg (.seq e) b) ρ S) (uq K Q):=by
 obtain⟨w,S1,e1,t,xs,I,rfl,h0,hat,hs,hend⟩:=cv oe he;exact jQ (mi:=.live t) (S1:=S1) I ok (by simp only[la,fU,e1,aw (hat _ _ _ h0)]) (λi ρ S h=>by simp only[MI.at,aw (hat _ _ _ h)]) (by simp only[MI.len,aw (hat _ _ _ h0),Ld]) h0 hs hend
end
section
variable{defs:J9 (KF×Df)}{fuel d:Kk}{S:aa}{r:Kk}{Q:QW}
theorem Am {q:Kk}{a:Kk}{bs:J9 Ky}{ms ns:J9 KF}{fs0:J9 Wd}{kvs:J9 (T×W)}{fs:J9 Wd}(h3:S[q]?=ba (.dic kvs))(h4:FigD (aP a bs) kvs fs)(hs:SizeOk a bs)(hml:ms.length=a)(hnl:ns.length=bs.length)(hnm:GoodN ms ns)(k:∀w S',eS w->Ka S S'->Q (w,S')) :
  wO (qQ (d7 ms ns bs fs0) (.int 0) S) λp=>wO (qQ (d7 ms ns bs fs0) (.int 1) p.2) λq'=>wO (Bi.sorted.fn [.ref q] q'.2) λs=>wO (Bi.tuple.fn [s.1] s.2) λz=>Q (.tup [p.1,q'.1,z.1],z.2):=by
 refine aC (by decide) rfl (aC (by decide) rfl ?_)
 have hl:=h4.len;exact Ah (h4.items h3) (by have:=qr hs; omega) (λf hf=>sA (h4.mem f hf)) (fX ah (k _ _ ⟨a,bs,ms,ns,fs,rfl,hs,hml,hnl,hnm,h4.nd,h4.mem⟩ .push))
theorem An {q:Kk}{a:Kk}{bs:J9 Ky}{u:Wd}{kvs:J9 (T×W)}{fs:J9 Wd}{Q:aa->Prop}(h3:S[q]?=ba (.dic kvs))(h4:FigD (aP a bs) kvs fs)(hs:SizeOk a bs)(hu:GoodW a bs.length u)(hu3:u.length=3)
  (k:∀o,(∃kvs fs,(S.set q o)[q]?=ba (.dic kvs)/\FigD (aP a bs) kvs fs)->Q (S.set q o)):wO (ja (.ref q) (bA (fZ bs u)) (.bl true) S) Q:=by
 have hl:=h4.len;have:=qr hs;obtain⟨fs',h5⟩:=h4.put (v:=.bl true) (qp hu hu3);exact ae (HI h3 (by rw[Lo]; omega)) (k _ ⟨_,fs',bX h3,h5⟩)
theorem uy (hfu:20 < fuel)(G:Gen defs)(hf:Fl S r)(k:∀w S',eS w->Fl S' r->Kp r S S'->Q (w,S')):wO (bN (aq defs fuel (d+6)) "_law_any_rule" 1 [.ref r] S) Q:=by
 refine aF G.any_rule rfl rfl λQ' hR=>?_
 replace k:∀w S',eS w->Fl S' r->Kp r S S'->Q' (.rt w,S'):=λz S' a b c=>hR _ _ (k z S' a b c)
 clear hR;show wZ _ _ dh [ba (.ref r),gV,gV,gV,gV,gV] S Q';dsimp only[dh];refine bm λK hK=>?_
 dsimp only[wS,wE,wA,wV,wG];refine qm (d:=d+3) G hf λa n S1 a1 a3 n1 n3 an f1 k1=>?_
 dsimp only[wU];refine ae (show dA [1,2] [.int a,.int n] [ba (.ref r),gV,gV,gV,gV,gV]=ba [ba (.ref r),ba (.int a),ba (.int n),gV,gV,gV]from rfl) (hK _ _ ?_)
 clear hK K;refine bm λK hK=>?_
 dsimp only[wS,wE,wA,wV,wG,KD];refine qo (d:=d+3) G f1 n1 n3 λbs S2 hb hbl f2 k2=>?_
 have hsz:SizeOk a bs:=⟨by omega,hb,by rw[hbl]; exact an,a3⟩
 refine fS (d:=d) hfu G f2 a3 (by omega) λms ns S3 hml hnl hnm f3 k3=>hK _ _ ?_
 clear hK K;have hrt:=f3.lt;replace k3:Kp r S S3:=k1.trans (k2.trans k3);clear k1 k2 f1 f2;refine st ?_;dsimp only[wS,wE,KD];refine bm λK hK=>?_
 refine jm rfl rfl ?_;dsimp only[wE,wA,wV,wG];refine bR (d:=d+4) G.pick (f3.ka .push) (by decide) (by decide) λv S4 v0 v9 f4 k4=>?_
 refine⟨v,λk ρ S'=>(∃a5,ρ=[ba (.ref r),ba (.int a),ba (.int n),ba (d7 ms ns bs []),ba (.ref S3.length),a5])/\(∃kvs fs,S'[S3.length]?=ba (.dic kvs)/\FigD (aP a bs) kvs fs)/\Fl S' r/\Kp r S S',rfl,by omega,⟨⟨gV,rfl⟩,⟨[],[],k4.get _ _ (by omega) ah,.nil⟩,f4,(k3.trans .push).trans k4⟩,?_,?_⟩
 ·rintro i ρ S5 hi ⟨⟨a5,rfl⟩,⟨kvs,fs,e5,hd⟩,f5,k5⟩ Q2 hn _;clear hK;refine st ?_;dsimp only[wS,wE,wA,wV,wG,KD];refine jl (d:=d+3) G f5 (by omega) a3 (by omega) n3 λu S6 hu3 hu f6 k6=>?_
  have hu:GoodW a bs.length u:=hbl.symm ▸ hu;refine jk (d:=d+2) G hb hnl hu hu3 λS7 k7=>?_
  have e7:=k7.get _ _ (k6.get _ _ (by omega) e5)
  exact An e7 hd hsz hu hu3 λo ho=>dS (hn _ _ ⟨⟨_,rfl⟩,ho,(f6.ka k7).own hrt,((k5.trans k6).trans (k7.kp r)).late k3.len⟩)
 ·rintro ρ S5 ⟨⟨a5,rfl⟩,⟨kvs,fs,e5,hd⟩,f5,k5⟩;refine hK _ _ (st ?_);dsimp only[wS,wE,wA,wV,wG];exact Am (Q:=λp=>Q' (.rt p.1,p.2)) e5 hd hsz hml hnl hnm λw S6 hw k6=>k w S6 hw (f5.ka k6) (k5.trans (k6.kp r))
end
noncomputable def qt (t:Ky×Ky×Ky):W:=.tup [.int t.1,.int t.2.1,.int t.2.2]
noncomputable def sB (a:Kk)(t:Ky×Ky×Ky):Prop:=(0<=t.1/\t.1 < a)/\(0<=t.2.1/\t.2.1 < a)/\(0<=t.2.2/\t.2.2 < a)
noncomputable def Ao (k:Ky):Wd:=[(k,[]),(k,[0]),(k,[0,0])]
theorem JC:∀k∈md 1,Ao k∈aP 1 [0]:=by decide +kernel
theorem JD:∀k∈md 2,Ao k∈aP 2 [0]:=by decide +kernel
theorem JE:∀k∈md 3,Ao k∈aP 3 [0]:=by decide +kernel
theorem CS {a:Kk}{k:Ky}(h0:1<=a)(h3:a<=3)(hk:0<=k)(hk2:k < a):Ao k∈aP a [0]:=by
 have ha:a=1\/a=2\/a=3:=by omega
 rcases ha with rfl|rfl|rfl
 ·exact JC k (dj hk hk2)
 ·exact JD k (dj hk hk2)
 ·exact JE k (dj hk hk2)
theorem CT {a b:Ky}(h:Ao a=Ao b):a=b:=by
 unfold Ao at h;injection h with h1 h2
 injection h1
theorem qu:GoodB [0]:=.inl rfl
theorem HJ {S:aa}{i j:Kk}{xs:J9 W}(h1:S[i]?=ba (.lst xs))(h2:S[j]?=ba (.lst [])):dz .eq (.ref i) (.ref j) S=ba (.bl xs.isEmpty,S):=by
 show(kh S (19+1) (.ref i) (.ref j)).map _=_;simp only[kh,dF h1,dF h2];cases xs with
 | nil=>rfl
 | cons x xs=>rfl
theorem CU {S:aa}{f:Ky}{ws:J9 Ky}:∃b,dz .notin (.int f) (.tup (af ws)) S=ba (.bl b,S):=by
 have hf:(cG (.int f)&&(af ws).all cG)=true:=by
  simp only[cG,OB,KH];intro x hx;obtain⟨z,_,rfl⟩:=Kw.mp hx;rfl
 refine⟨!(af ws).any λz=>AZ z (.int f),?_⟩
 show iY .notin (.int f) (.tup (af ws)) S=_;simp only[iY,F1,Dl,fD,hf,L7,Ld]
section
variable{Φ:KF->FF}{fuel:Kk}{ρ:Fm}{S:aa}{K:Fm->aa->Prop}{Q:QO}
theorem Ap {i0:Kk}{a b:E}{bd:Ss}(i j:Ky)(I:Kk->Fm->aa->Prop)(oa:eC a=true)(ob:eC b=true)(ok:iP bd=true)(hj : -(2 ^ 62)<=i/\i < 2 ^ 62/\-(2 ^ 62)<=j/\j < 2 ^ 62)(he:wE Φ a ρ S λp=>p.1=.int i/\wE Φ b ρ p.2 λq=>q.1=.int j/\I 0 ρ q.2)
  (hstep:∀(k:Kk) (ρ:Fm) (S:aa),(k:Ky) < j - i->I k ρ S->zR Φ fuel bd (ρ.set i0 (ba (.int (i+k)))) S (I (k+1)) Q) (hend:∀ρ S,I (j - i).toNat ρ S->K ρ S):Wp (gN Φ fuel (.loop (.nm i0) (.rng2 (.cons a (.cons b .nil))) bd) ρ S) (uq K Q):=by
 obtain⟨w,S1,e1,rfl,h1⟩:=cv oa he;obtain⟨w,S2,e2,rfl,h0⟩:=cv ob h1;have hl:(dt i (j - i).toNat).length=(j - i).toNat:=by simp[dt]
 refine jQ (mi:=.its (dt i (j - i).toNat)) (S1:=S2) (xs:=dt i (j - i).toNat) I ok ?_ (λ_ _ _ _=>rfl) rfl h0 (λk w ρ S hw hI=>?_) λρ S hI=>hend ρ S (hl ▸ hI)
 ·simp only[la,dy,eN,iI,iRng2,e1,e2];rw[KJ hj]
 ·rw[eO]at hw;split at hw
  ·rename_i hk;cases hw;exact hstep k ρ S (by omega) hI
  ·cases hw
theorem Aq {elt a b:E}{i0:Kk}{cs:Es}{cap:J9 (Ki Kk)}{Q:QW}(i j:Ky)(I:Kk->J9 W->Fm->aa->Prop)(oa:eC a=true)(ob:eC b=true)(oe:eC elt=true)(oc:qR cs=true)(hj : -(2 ^ 62)<=i/\i < 2 ^ 62/\-(2 ^ 62)<=j/\j < 2 ^ 62)(he:wE Φ a ρ S λp=>p.1=.int i/\wE Φ b ρ p.2 λq=>q.1=.int j/\I 0 [] (fN cap ρ) q.2)
  (hstep:∀(k:Kk) (ys:J9 W) (ρ:Fm) (S:aa),(k:Ky) < j - i->I k ys ρ S->iQ Φ elt cs (ρ.set i0 (ba (.int (i+k)))) S (λy=>I (k+1) (ys++[y])) (I (k+1) ys))
  (hend:∀ys ρ S,I (j - i).toNat ys ρ S->ys.length<=sizeLine/\Q (.ref S.length,S++[.lst ys])):Wp (aE Φ (.comp elt (.nm i0) (.rng2 (.cons a (.cons b .nil))) cs cap) ρ S) Q:=by
 obtain⟨w,S1,e1,rfl,h1⟩:=cv oa he;obtain⟨w,S2,e2,rfl,h0⟩:=cv ob h1;have hl:(dt i (j - i).toNat).length=(j - i).toNat:=by simp[dt]
 refine lV (mi:=.its (dt i (j - i).toNat)) (S1:=S2) (xs:=dt i (j - i).toNat) I oe oc ?_ (λ_ _ _ _ _=>rfl) rfl h0 (λk w ys ρ S hw hI=>?_) λys ρ S hI=>hend ys ρ S (hl ▸ hI)
 ·simp only[la,dy,eN,iI,iRng2,e1,e2];rw[KJ hj]
 ·rw[eO]at hw;split at hw
  ·rename_i hk;cases hw;exact hstep k ys ρ S (by omega) hI
  ·cases hw
end
section
variable{defs:J9 (KF×Df)}{fuel d:Kk}{S:aa}{r:Kk}{Q:QW}
theorem Ar (G:Gen defs){a:Kk}(ha:a<=3)(k:∀(q:Kk) (ts:J9 (Ky×Ky×Ky)) (S':aa),S'[q]?=ba (.lst (ts.map qt))->(∀t∈ts,sB a t)->S.length<=q->Ka S S'->Q (.ref q,S')) :
  wO (bN (aq defs fuel (d+1)) "_law_rising" 1 [.int a] S) Q:=by
 refine aF G.rising rfl rfl λQ' hR=>?_
 replace k:∀(q:Kk) (ts:J9 (Ky×Ky×Ky)) (S':aa),S'[q]?=ba (.lst (ts.map qt))->(∀t∈ts,sB a t)->S.length<=q->Ka S S'->Q' (.rt (.ref q),S'):=λq ts S' a b c e=>hR _ _ (k q ts S' a b c e)
 clear hR;show wZ _ _ en [ba (.int a),gV,gV,gV] S Q';dsimp only[en];refine st ?_;dsimp only[wS,wE,wA,KD];refine bm λK hK=>?_
 refine eg (a:Ky) (λi ρ S'=>∃(q:Kk) (ts:J9 (Ky×Ky×Ky)) (a2 a3:Ki W),ρ=[ba (.int a),ba (.ref q),a2,a3]/\S'[q]?=ba (.lst (ts.map qt))/\(∀t∈ts,sB a t)/\S.length<=q/\ts.length<=9*i/\Ka S S') rfl rfl (by omega) ⟨rfl,_,[],_,_,rfl,ah,λ_ h=>(nomatch h),Kn _,L1 _,.push⟩ ?_ ?_
 ·rintro i ρ S1 hi ⟨q,ts,a2,a3,rfl,e1,ht,hq,hl,k1⟩ Q2 hn _;clear hK k;refine bm λK hK=>?_
  refine Ap (i:Ky) (a:Ky) (λj ρ S'=>∃(q:Kk) (ts:J9 (Ky×Ky×Ky)) (a3:Ki W),ρ=[ba (.int a),ba (.ref q),ba (.int i),a3]/\S'[q]?=ba (.lst (ts.map qt))/\(∀t∈ts,sB a t)/\S.length<=q/\ts.length<=9*i+3*j/\Ka S S') rfl rfl rfl (by omega) ⟨rfl,rfl,q,ts,a3,rfl,e1,ht,hq,by omega,k1⟩ ?_ ?_
  ·rintro j ρ S2 hj ⟨q,ts,a3,rfl,e2,ht,hq,hl,k2⟩ Q3 hn3 _;clear hK hn;refine st ?_;dsimp only[wS,wE,wV,wG,KD];refine Aq ((i:Ky)+j) (a:Ky) (λm ys ρ2 S3=>(∃a1,ρ2=[gV,a1,ba (.int i),ba (.int ((i:Ky)+j))])/\(∃us:J9 (Ky×Ky×Ky),ys=us.map qt/\us.length=m/\∀t∈us,sB a t)/\S3=S2) rfl rfl rfl rfl (by omega) ⟨rfl,rfl,⟨gV,rfl⟩,⟨[],rfl,rfl,λ_ h=>nomatch h⟩,rfl⟩ ?_ ?_
   ·rintro m ys ρ2 S3 hm ⟨⟨a1,rfl⟩,⟨us,rfl,hul,hu⟩,rfl⟩;refine⟨λ_=>⟨⟨_,rfl⟩,⟨us++[((i:Ky),(i:Ky)+j,(i:Ky)+j+m)],by rw[Le]; rfl,by rw[Ks,hul]; rfl,λt h=>?_⟩,rfl⟩,λz=>by cases z⟩
    rcases Ln.mp h with h|h
    ·exact hu t h
    ·rw[Kx.mp h];exact⟨⟨by omega,by omega⟩,⟨by dsimp only; omega,by dsimp only; omega⟩,⟨by dsimp only; omega,by dsimp only; omega⟩⟩
   ·rintro ys ρ2 S3 ⟨_,⟨us,rfl,hul,hu⟩,rfl⟩;refine⟨kG (by rw[Kc]; omega),ae (zN (ap e2) ah ?_) (dS (hn3 _ _ ⟨_,ts++us,_,rfl,?_,λt h=>(Ln.mp h).elim (ht t) (hu t),?_,?_,k2.trans (Ka.push.trans .push)⟩))⟩
    ·refine kG ?_;rw[Ks,Kc,Kc];omega
    ·rw[Le]; exact ah
    ·have:=k2.len;simp only[Ks]; omega
    ·rw[Ks]; omega
  ·rintro ρ S2 ⟨q,ts,a3,rfl,e2,ht,hq,hl,k2⟩;exact hK _ _ (dS (hn _ _ ⟨q,ts,_,_,rfl,e2,ht,hq,by omega,k2⟩))
 ·rintro ρ S1 ⟨q,ts,a2,a3,rfl,e1,ht,hq,hl,k1⟩;refine hK _ _ (st ?_);exact k q ts S1 e1 ht hq k1
theorem xu (hfu:20 < fuel)(G:Gen defs)(hf:Fl S r)(k:∀w S',eS w->Fl S' r->Kp r S S'->Q (w,S')):wO (bN (aq defs fuel (d+6)) "_law_one_way_rule" 1 [.ref r] S) Q:=by
 refine aF G.one_way_rule rfl rfl λQ' hR=>?_
 replace k:∀w S',eS w->Fl S' r->Kp r S S'->Q' (.rt w,S'):=λz S' a b c=>hR _ _ (k z S' a b c)
 clear hR;show wZ _ _ b7 [ba (.ref r),gV,gV] S Q';dsimp only[b7];refine bm λK hK=>?_
 dsimp only[wS,wE,wA,wV,wG,KD];refine bR (d:=d+4) G.pick hf (by decide) (by decide) λv S1 v0 v3 f1 k1=>?_
 dsimp only[d6,aX];obtain⟨a,ea⟩ : ∃a:Kk,1+v=a:=⟨(1+v).toNat,by omega⟩
 rw[ea];refine hK _ _ ?_;clear hK K;refine bm λK hK=>?_
 dsimp only[wS,wE,KD];refine dH (a:Ky) (λk zs ρ2 S2=>(∃a1,ρ2=[gV,a1,ba (.ref r)])/\(∃ks:J9 Ky,zs=(ks.map Ao).map bA/\ks.Pairwise (·≠·)/\ks.length<=k/\∀x∈ks,0<=x/\x < k)/\Fl S2 r/\Kp r S1 S2) rfl rfl rfl (by omega) ⟨rfl,⟨gV,rfl⟩,⟨[],rfl,.nil,Kn _,λ_ h=>(nomatch h)⟩,f1,.refl⟩ ?_ ?_
 ·rintro i zs ρ2 S2 hi ⟨⟨a1,rfl⟩,⟨ks,rfl,hkp,hkl,hks⟩,f2,k2⟩;clear hK k;dsimp only[iQ,wC,wT,wE,wA,wV,wG,KD];refine bR (d:=d+4) G.pick f2 (by decide) (by decide) λv S3 _ _ f3 k3=>?_
  dsimp only[iO,aX,wB];refine⟨λ_=>⟨⟨_,rfl⟩,⟨ks++[(i:Ky)],by simp[Ao,bA,cM],?_,by rw[Ks]; exact Ov hkl,λx hx=>?_⟩,f3,k2.trans k3⟩,λ_=>⟨⟨_,rfl⟩,⟨ks,rfl,hkp,by omega,λx hx=>⟨(hks x hx).1,by have:=(hks x hx).2; omega⟩⟩,f3,k2.trans k3⟩⟩
  ·rw[List.pairwise_append];refine⟨hkp,by simp,λx hx y hy e=>?_⟩
   have:=(hks x hx).2;rw[Kx.mp hy]at e;omega
  ·rcases Ln.mp hx with h|h
   ·exact⟨(hks x h).1,by have:=(hks x h).2; omega⟩
   ·rw[Kx.mp h]; omega
 ·rintro zs ρ2 S2 ⟨_,⟨ks,rfl,hkp,hkl,hks⟩,f2,k2⟩;rw[KC]at hkl hks;refine⟨kG (by rw[Kc,Kc]; omega),hK _ _ (st ?_)⟩
  clear hK K;dsimp only[wS,wE,wA,wV,wG,KD];have hlt:=f2.lt;refine oQ (d:=d) (a:=a) (bs:=[0]) (us:=ks.map Ao) hfu G (f2.ka .push) (by omega) (by decide) (λS' kk=>?_) (by rw[Kc]; omega) (λu hu=>by obtain⟨x,_,rfl⟩:=Kw.mp hu; exact RO _ _) λms ns S3 hml hnl hnm f3 k3=>?_
  ·simp only[eH,aw (kk.get _ _ (by omega) ah)]
  refine k _ _ ⟨a,[0],ms,ns,ks.map Ao,rfl,⟨⟨by omega,qu,by simp; omega,by omega⟩,hml,hnl,hnm,?_,λg hg=>?_⟩⟩ f3 (k1.trans (k2.trans (Kp.push.trans k3)))
  ·unfold T3;rw[M2];exact hkp.imp λh e=>h (CT e)
  ·obtain⟨x,hx,rfl⟩:=Kw.mp hg;exact CS (by omega) (by omega) (hks x hx).1 (hks x hx).2
theorem sC (hfu:20 < fuel)(G:Gen defs)(hf:Fl S r)(k:∀w S',eS w->Fl S' r->Kp r S S'->Q (w,S')):wO (bN (aq defs fuel (d+6)) "_law_free_rule" 1 [.ref r] S) Q:=by
 refine aF G.free_rule rfl rfl λQ' hR=>?_
 replace k:∀w S',eS w->Fl S' r->Kp r S S'->Q' (.rt w,S'):=λz S' a b c=>hR _ _ (k z S' a b c)
 clear hR;show wZ _ _ cR [ba (.ref r),gV,gV,gV,gV,gV,gV,gV,gV] S Q';dsimp only[cR];refine bm λK hK=>?_
 dsimp only[wS,wE,wA,wV,wG];refine qm (d:=d+3) G hf λa n S1 a1 a3 n1 n3 an f1 k1=>?_
 dsimp only[wU];refine ae (show dA [1,2] [.int a,.int n] [ba (.ref r),gV,gV,gV,gV,gV,gV,gV,gV]=ba [ba (.ref r),ba (.int a),ba (.int n),gV,gV,gV,gV,gV,gV]from rfl) (hK _ _ ?_)
 clear hK K;refine bm λK hK=>?_
 dsimp only[wS,wE,wA,wV,wG,KD];refine qo (d:=d+3) G f1 n1 n3 λbs S2 hb hbl f2 k2=>?_
 have hsz:SizeOk a bs:=⟨by omega,hb,by rw[hbl]; exact an,a3⟩
 refine fS (d:=d) hfu G f2 a3 (by omega) λms ns S3 hml hnl hnm f3 k3=>hK _ _ ?_
 clear hK K;have hrt:=f3.lt;replace k3:Kp r S S3:=k1.trans (k2.trans k3);clear k1 k2 f1 f2;refine bm λK hK=>?_
 dsimp only[wS,wE,KD];refine dH (n:Ky) (λi zs ρ2 S2=>(∃a1,ρ2=[gV,a1,ba (d7 ms ns bs [])])/\(∃ks:J9 Ky,zs=af ks/\ks.length<=i)/\S2=S3) rfl rfl rfl (by omega) ⟨rfl,⟨gV,rfl⟩,⟨[],rfl,Kn _⟩,rfl⟩ ?_ ?_
 ·rintro i zs ρ2 S2 hi ⟨⟨a1,rfl⟩,⟨ks,rfl,hkl⟩,rfl⟩;clear hK k;have hi':i < bs.length:=by omega
  dsimp only[iQ,wC,wT,wE,wA,wV,wG,KD];refine aC (by decide) rfl (aC (KY i) (by rw[KC]; exact qh (Ko (by omega)) (Ko hi')) (aC (by decide) rfl ?_))
  dsimp only[iO,aX,wB];exact⟨λ_=>⟨⟨_,rfl⟩,⟨ks++[(i:Ky)],by unfold af; rw[Le]; rfl,by rw[Ks]; exact Ov hkl⟩,rfl⟩,λ_=>⟨⟨_,rfl⟩,⟨ks,rfl,by omega⟩,rfl⟩⟩
 ·rintro zs ρ2 S2 ⟨_,⟨ks,rfl,hkl⟩,rfl⟩;rw[KC]at hkl;have il:(af ks).length=ks.length:=Kc ..;refine⟨kG (by omega),hK _ _ ?_⟩
  clear hK K;refine bm λK hK=>?_
  dsimp only[wS,wT,wE,wA,wV,wG,KD];refine ae (HJ (ap ah) ah) ?_;dsimp only[wB];have f4:=(f3.ka (Ka.push (o:=O.lst (af ks)))).ka (Ka.push (o:=O.lst []));have k4:=k3.trans ((Kp.push (o:=O.lst (af ks))).trans (Kp.push (o:=O.lst [])));have e4:=ap (u:=O.lst []) (ah (S:=S2) (o:=O.lst (af ks)));have hl4:S2.length < (S2++[O.lst (af ks)]++[O.lst []]).length:=by simp
  generalize hS4:S2++[O.lst (af ks)]++[O.lst []]=S4 at f4 k4 e4 hl4;clear hS4;have ret:∀Q2:QO,(∀w S',Q' (.rt w,S')->Q2 (.rt w,S'))->wZ (aq defs fuel (d+5)) fuel (.cons (.ret (.v 3)) .nil) [ba (.ref r),ba (.int a),ba (.int n),ba (d7 ms ns bs []),gV,ba (.ref S2.length),gV,gV,gV] S4 Q2:=λQ2 hr=>st (hr _ _ (k _ _ ⟨a,bs,ms,ns,[],rfl,hsz,hml,hnl,hnm,.nil,λ_ h=>(nomatch h)⟩ f4 k4))
  refine⟨λ_=>aS (Q0:=Q') (λ_ Q2 _ hr=>ret Q2 hr) (λz=>by cases z),λhne=>?_⟩
  dsimp only[iO,aX,wB];refine aS (Q0:=Q') (λ_ Q2 _ hr=>ret Q2 hr) (λ_ Q2 hn _=>dS (hn _ _ (hK _ _ ?_)))
  clear hK ret hn;have hk0:0 < ks.length:=by
   cases ks with
   | nil=>cases hne
   | cons x ks=>exact Nat.succ_pos _
  refine bm λK hK=>?_
  dsimp only[wS,wE,wA,wV,wG,KD];refine fW e4 ?_;rw[il];refine bR (d:=d+4) G.pick f4 (by omega) (by omega) λv S5 v0 v1 f5 k5=>?_
  have e5:=k5.get _ _ (by omega) e4
  obtain⟨x,_,ex⟩:=lZ (f:=W.int) (xs:=ks) (i:=v.toNat) (by omega)
  refine gx e5 v0 ex (hK _ _ ?_);clear hK K;replace k5:Kp r S S5:=k4.trans k5;have hrt5:=f5.lt;refine st ?_;dsimp only[wS,wE,KD];refine bm λK hK=>?_
  refine jm rfl rfl ?_;dsimp only[wE,wA,wV,wG];refine bR (d:=d+4) G.pick (f5.ka .push) (by decide) (by decide) λv S6 v0 v9 f6 k6=>?_
  refine⟨v,λ_ ρ S'=>(∃a4 a8,ρ=[ba (.ref r),ba (.int a),ba (.int n),ba (d7 ms ns bs []),a4,ba (.ref S2.length),ba (.int x),ba (.ref S5.length),a8])/\(∃kvs fs,S'[S5.length]?=ba (.dic kvs)/\FigD (aP a bs) kvs fs)/\Fl S' r/\Kp r S S',rfl,by omega,⟨⟨gV,gV,rfl⟩,⟨[],[],k6.get _ _ (by omega) ah,.nil⟩,f6,(k5.trans .push).trans k6⟩,?_,?_⟩
  ·rintro i ρ S7 hi ⟨⟨a4,a8,rfl⟩,⟨kvs,fs,e7,hd⟩,f7,k7⟩ Q2 hn _;clear hK k;refine st ?_;dsimp only[wS,wE,wA,wV,wG,KD];refine jl (d:=d+3) G f7 (by omega) a3 (by omega) n3 λu S8 hu3 hu f8 k8=>?_
   have hu:GoodW a bs.length u:=hbl.symm ▸ hu;have e8:=k8.get _ _ (by omega) e7
   obtain⟨p0,p1,p2,rfl⟩ : ∃p0 p1 p2,u=[p0,p1,p2]:=by
    match u,hu3 with
    | [p0,p1,p2],_=>exact⟨p0,p1,p2,rfl⟩
   have l1:=hu.len 1 p1 rfl;obtain⟨m1,ws1⟩:=p1;obtain⟨w1,rfl⟩ : ∃w1,ws1=[w1]:=by
    match ws1,l1 with
    | [w1],_=>exact⟨w1,rfl⟩
   obtain⟨b,hb2⟩:=CU (S:=S8) (f:=x) (ws:=p2.2);have kk:=k7.trans k8;refine bm λK hK=>?_
   dsimp only[wS,wT,wE,wA,wV,wG];refine aC (by decide) rfl (aC (by decide) rfl (aC (by decide) rfl ?_))
   dsimp only[Js,aX,wB];have skip:K [ba (.ref r),ba (.int a),ba (.int n),ba (d7 ms ns bs []),ba (.int i),ba (.ref S2.length),ba (.int x),ba (.ref S5.length),ba (bA [p0,(m1,[w1]),p2])] S8:=hK _ _ (dS (hn _ _ ⟨⟨_,_,rfl⟩,⟨kvs,fs,e8,hd⟩,f8,kk⟩));refine⟨λ_=>?_,λ_=>aS (Q0:=Q2) (λz=>by cases z) λ_ Q3 hn3 _=>dS (hn3 _ _ skip)⟩
   refine aC (by decide) rfl (aC (by decide) rfl (ae hb2 ?_))
   dsimp only[wB];refine aS (Q0:=Q2) (λ_ Q3 hn3 _=>?_) λ_ Q3 hn3 _=>dS (hn3 _ _ skip)
   clear skip;refine st ?_;dsimp only[wS,wE,wA,wV,wG];refine jk (d:=d+2) G hb hnl hu hu3 λS9 k9=>?_
   exact An (k9.get _ _ e8) hd hsz hu hu3 λo ho=>dS (hn3 _ _ (hK _ _ (dS (hn _ _ ⟨⟨_,_,rfl⟩,ho,(f8.ka k9).own hrt5,(kk.trans (k9.kp r)).late k5.len⟩))))
  ·rintro ρ S7 ⟨⟨a4,a8,rfl⟩,⟨kvs,fs,e7,hd⟩,f7,k7⟩;refine hK _ _ (st ?_);dsimp only[wS,wE,wA,wV,wG];exact Am (Q:=λp=>Q' (.rt p.1,p.2)) e7 hd hsz hml hnl hnm λw S8 hw k8=>k w S8 hw (f7.ka k8) (k7.trans (k8.kp r))
end
noncomputable def b6 (u v:Ky):T:=.tup [.int u,.int v]
noncomputable def dU (u v:Ky):W:=.tup [.int u,.int v]
theorem jo {u v:Ky}:gX (dU u v)=ba (b6 u v):=rfl
theorem As {kvs:J9 (T×W)}{k:T}{v:W}{p:T×W}(h:p∈ft kvs k v):p∈kvs\/p=(k,v):=by
 unfold ft at h;split at h
 ·obtain⟨q,hq,rfl⟩:=Kw.mp h;split
  ·rename_i e; exact .inr (by rw[e])
  ·exact .inl hq
 ·rcases Ln.mp h with h|h
  ·exact .inl h
  ·exact .inr (Kx.mp h)
theorem sD {kvs:J9 (T×W)}{k:T}{v:W}(h:cV kvs k=ba v):(k,v)∈kvs:=by
 unfold cV at h;rw[Kf]at h;obtain⟨p,h1,rfl⟩:=h;have:=P7 h1;rw[<- Lm this];exact List.mem_of_find?_eq_some h1
theorem CV {kvs:J9 (T×W)}{p:T×W}(h:p∈kvs):∃v,cV kvs p.1=ba v:=by
 unfold cV;cases e:kvs.find? λq=>decide (q.1=p.1)with
 | some q=>exact⟨q.2,rfl⟩
 | none=>exact absurd (List.find?_eq_none.mp e p h) (by simp)
noncomputable def MustE (S:aa)(n b:Kk)(kvs:J9 (T×W)):Prop:=∀p∈kvs,∃(u v:Ky) (l:Kk) (ws:J9 Ky),p=(b6 u v,W.ref l)/\(0<=u/\u < n)/\(0<=v/\v < n)/\b<=l/\S[l]?=ba (.lst (af ws))/\ws.length<=3/\∀w∈ws,0<=w/\w < (n:Ky)
theorem MustE.mono {S S':aa}{n b:Kk}{kvs:J9 (T×W)}(h:MustE S n b kvs)(k:∀(l:Kk) (ws:J9 Ky),b<=l->S[l]?=ba (.lst (af ws))->S'[l]?=ba (.lst (af ws))):MustE S' n b kvs:=λp hp=>
 let ⟨u,v,l,ws,h1,h2,h3,h4,h5,h6⟩:=h p hp
 ⟨u,v,l,ws,h1,h2,h3,h4,k l ws h4 h5,h6⟩
theorem MustE.ka {S S':aa}{n b:Kk}{kvs:J9 (T×W)}(h:MustE S n b kvs)(k:Ka S S'):MustE S' n b kvs:=h.mono λl ws _ e=>k.get _ _ e
theorem MustE.kp {S S':aa}{n b r:Kk}{kvs:J9 (T×W)}(h:MustE S n b kvs)(hr:r < b)(k:Kp r S S'):MustE S' n b kvs:=h.mono λl ws hl e=>k.get _ _ (by omega) e
theorem MustE.set {S:aa}{n b t:Kk}{kvs k:J9 (T×W)}{o:O}(h:MustE S n b kvs)(ht:S[t]?=ba (.dic k)):MustE (S.set t o) n b kvs:=h.mono λl ws hl e=>by
 rw[bY (by rintro rfl; rw[ht]at e; cases e)]; exact e
theorem MustE.put {S:aa}{n b:Kk}{kvs:J9 (T×W)}{u v:Ky}{l:Kk}{ws:J9 Ky}(h:MustE S n b kvs)(h2:0<=u/\u < n)(h3:0<=v/\v < n)(h4:b<=l)(h5:S[l]?=ba (.lst (af ws)))(h6:ws.length<=3)(h7:∀w∈ws,0<=w/\w < (n:Ky)):MustE S n b (ft kvs (b6 u v) (.ref l)):=λp hp=>by
 rcases As hp with hp|rfl
 ·exact h p hp
 ·exact⟨u,v,l,ws,rfl,h2,h3,h4,h5,h6,h7⟩
noncomputable abbrev CW:=Ky×Ky×J9 Ky
noncomputable def sE (ws:J9 Ky):Es:=ws.foldr (λw es=>.cons (.c (.int w)) es) .nil
noncomputable def vP:J9 CW->Es
 | []=>.nil
 | e::L=>.cons (.tup (.cons (.c (.int e.1)) (.cons (.c (.int e.2.1)) .nil))) (.cons (.lst (sE e.2.2)) (vP L))
noncomputable def xv:J9 CW->Kk->J9 W
 | [],_=>[]
 | e::L,s=>dU e.1 e.2.1::.ref s::xv L (s+1)
noncomputable def xw (L:J9 CW):aa:=L.map λe=>O.lst (af e.2.2)
noncomputable def vQ (n:Kk)(e:CW):KP:=decide ((0<=e.1/\e.1 < n)/\(0<=e.2.1/\e.2.1 < n)/\e.2.2.length<=3)&&e.2.2.all λw=>decide (0<=w/\w < (n:Ky))
section
variable{Φ:KF->FF}{ρ:Fm}
theorem uz {S:aa}:∀ {ws:J9 Ky} {Q:J9 W×aa->Prop},Q (af ws,S)->wA Φ (sE ws) ρ S Q
 | [],Q,q=>by show wA Φ .nil ρ S Q; exact q
 | w::ws,Q,q=>by show wA Φ (.cons (.c (.int w)) (sE ws)) ρ S Q; dsimp only[wA,wE]; exact uz q
theorem At:∀ {L:J9 CW} {S:aa} {Q:J9 W×aa->Prop},Q (xv L S.length,S++xw L)->wA Φ (vP L) ρ S Q
 | [],S,Q,q=>by
  show wA Φ .nil ρ S Q;dsimp only[wA]
  rwa [show S++xw []=S from MH S]at q
 | e::L,S,Q,q=>by
  show wA Φ (.cons (.tup (.cons (.c (.int e.1)) (.cons (.c (.int e.2.1)) .nil))) (.cons (.lst (sE e.2.2)) (vP L))) ρ S Q;dsimp only[wA,wE];refine uz (At ?_);rw[Ks,MZ];exact q
end
theorem oT {S:aa}{n b:Kk}:∀(L:J9 CW) (s:Kk) (kvs:J9 (T×W)),MustE S n b kvs->b<=s->(∀e∈L,vQ n e=true)->(∀i e,L[i]?=ba e->S[s+i]?=ba (.lst (af e.2.2)))->∃kvs',dY kvs (xv L s)=ba kvs'/\MustE S n b kvs'/\kvs'.length<=kvs.length+L.length
 | [],s,kvs,hm,hb,hL,hS=>⟨kvs,by simp[xv,dY],hm,by simp⟩
 | e::L,s,kvs,hm,hb,hL,hS=>by
  have h1:=hL e (by simp)
  unfold vQ at h1;rw[Kj,KH]at h1;obtain⟨h2,h3,h4⟩:=Lm h1.1;obtain⟨kvs',k1,k2,k3⟩:=oT L (s+1) (ft kvs (b6 e.1 e.2.1) (.ref s)) (hm.put h2 h3 hb (by have:=hS 0 e rfl; simpa using this) h4 (λw hw=>Lm (h1.2 w hw))) (by omega) (λx hx=>hL x (by simp[hx])) (λi x hx=>by have:=hS (i+1) x (by simpa using hx); rw[show s+1+i=s+(i+1) by omega]; exact this)
  refine⟨kvs',?_,k2,?_⟩
  ·simp only[xv,dY,jo]; exact k1
  ·have:=dO kvs (b6 e.1 e.2.1) (.ref s);rw[Li]; omega
noncomputable def KB:J9 (J9 Ky):=[[1,0],[0,2,1],[0,1],[0,1,2]]
noncomputable def KindOk (S:aa)(b:Kk)(w:W):Prop:=∃(bs:J9 Ky) (q:Kk) (kvs:J9 (T×W)) (most:Ky),w=.tup [.tup (af bs),.ref q,.int most]/\bs∈KB/\1<=most/\most<=3/\most*bs.length<=6/\S[q]?=ba (.dic kvs)/\b<=q/\kvs.length<=4/\MustE S bs.length b kvs
theorem KindOk.mono {S S':aa}{b:Kk}{w:W}(h:KindOk S b w)(k1:∀(l:Kk) (ws:J9 Ky),b<=l->S[l]?=ba (.lst (af ws))->S'[l]?=ba (.lst (af ws)))(k2:∀(l:Kk) (kvs:J9 (T×W)),b<=l->S[l]?=ba (.dic kvs)->S'[l]?=ba (.dic kvs)):KindOk S' b w:=
 let ⟨bs,q,kvs,most,h1,h2,h3,h4,h5,h6,h7,h8,h9⟩:=h
 ⟨bs,q,kvs,most,h1,h2,h3,h4,h5,k2 _ _ h7 h6,h7,h8,h9.mono k1⟩
theorem KindOk.ka {S S':aa}{b:Kk}{w:W}(h:KindOk S b w)(k:Ka S S'):KindOk S' b w:=h.mono (λl ws _ e=>k.get _ _ e) (λl ws _ e=>k.get _ _ e)
noncomputable def Au (bs:J9 Ky)(L:J9 CW)(most:Ky):E:=.tup (.cons (.tup (sE bs)) (.cons (.disp (vP L)) (.cons (.c (.int most)) .nil)))
section
variable{Φ:KF->FF}{ρ:Fm}{S:aa}
theorem qv (bs:J9 Ky)(L:J9 CW)(most:Ky){b:Kk}{Q:QW}(hb:b<=S.length)(h1:bs∈KB)(h2:1<=most/\most<=3/\most*bs.length<=6)(hL:∀e∈L,vQ bs.length e=true)(h4:L.length<=4)(k:∀w S',KindOk S' b w->Ka S S'->Q (w,S')) :
  wE Φ (Au bs L most) ρ S Q:=by
 unfold Au;dsimp only[wE,wA];refine uz (At ?_);obtain⟨kvs,k1,k2,k3⟩:=oT (S:=S++[O.dic []]++xw L) (n:=bs.length) (b:=b) L (S.length+1) [] (λ_ h=>nomatch h) (by omega) hL (λi e he=>by
  rw[Ms (by simp),show S.length+1+i - (S++[O.dic []]).length=i by simp]
  simp[xw,he])
 have hat:(S++[O.dic []]++xw L)[S.length]?=ba (.dic []):=by
  rw[Lk (by simp)]; exact ah
 refine⟨hat,ae (show dY [] (xv L (S++[O.dic []]).length)=ba kvs by rw[Ks]; exact k1) (k _ _ ⟨bs,S.length,kvs,most,rfl,h1,h2.1,h2.2.1,h2.2.2,bX hat,hb,?_,k2.set hat⟩ ⟨λj o h=>?_,by simp⟩)⟩
 ·simp only[Mu]at k3; omega
 ·have:j < S.length:=dR h;show((S++[O.dic []]++xw L).set S.length (O.dic kvs))[j]?=ba o;rw[bY (by omega),Lk (by simp; omega)]
  exact ap h
structure Menu (S0 S:aa)(r t m:Kk):Prop where
 at_t:∃xs:J9 W,S[t]?=ba (.lst xs)/\xs.length=m/\∀x∈xs,KindOk S S0.length x
 pos:0 < m
 kG:m<=9
 fl:Fl S r
 kp:Kp r S0 S
 lt:S0.length<=t
 rlt:r < S0.length
theorem sF {S0 S S':aa}{r t m:Kk}{w:W}(h:Menu S0 S r t m)(hw:KindOk S' S0.length w)(k:Ka S S')(hm:m < 9):∃xs,S'[t]?=ba (.lst xs)/\xs.length < sizeLine/\Menu S0 (S'.set t (.lst (xs++[w]))) r t (m+1):=by
 obtain⟨⟨xs,h1,h2,h3⟩,hp,hf,fl,kp,lt,rlt⟩:=h;have e:S'[t]?=ba (.lst xs):=k.get _ _ h1;have stay:∀x,KindOk S' S0.length x->KindOk (S'.set t (.lst (xs++[w]))) S0.length x:=λx hx=>hx.mono (λl ws hl el=>by
  by_cases hlt:t=l
  ·exfalso;subst hlt;rw[e]at el;injection el with el
   injection el with el
   match xs,h2,h3 with
   | [],h2,_=>simp at h2; omega
   | x::xs,_,h3=>
    obtain⟨bs,q,kvs,most,hx,_⟩:=h3 x (by simp)
    subst hx
    match ws with
    | []=>simp[af]at el
    | w::ws=>simp[af]at el
  ·rw[bY hlt]; exact el) (λl kvs hl el=>by
  rw[bY (by rintro rfl; rw[e]at el; cases el)]; exact el)
 refine⟨xs,e,(by rw[Lo]; omega),⟨xs++[w],bX e,by simp; omega,λx hx=>?_⟩,by omega,by omega,(fl.ka k).own (by omega),(kp.trans (k.kp r)).late lt,lt,rlt⟩
 rcases Ln.mp hx with hx|hx
 ·exact stay x ((h3 x hx).ka k)
 ·rw[Kx.mp hx]; exact stay w hw
theorem sG (bs:J9 Ky)(L:J9 CW)(most:Ky){fuel:Kk}{S0:aa}{r t m:Kk}{x0:Ki W}{K:Fm->aa->Prop}{Q:QO}(h:Menu S0 S r t m)(hm:m < 9)(h1:bs∈KB)(h2:1<=most/\most<=3/\most*bs.length<=6)(hL:∀e∈L,vQ bs.length e=true)(h4:L.length<=4)(k:∀S',Menu S0 S' r t (m+1)->K [x0,ba (.ref t)] S') :
  wS Φ fuel (.ex (.me .append (.v 1) (.cons (Au bs L most) .nil))) [x0,ba (.ref t)] S K Q:=by
 dsimp only[wS,wE,wA,wV,wG];obtain⟨xs,e1,e2,e3⟩:=h.at_t;refine⟨dg e1,qv bs L most (KT h.lt (NL (dR e1))) h1 h2 hL h4 λw S' k1 k2=>?_⟩
 obtain⟨xs',f1,f2,f3⟩:=sF h k1 k2 hm;exact ae (vE f1 f2) (k _ f3)
theorem mY {defs:J9 (KF×Df)}{fuel d:Kk}{r:Kk}{Q:QW}(G:Gen defs)(hf:Fl S r)(k:∀w S',KindOk S' S.length w->Fl S' r->Kp r S S'->Q (w,S')):wO (bN (aq defs fuel (d+2)) "_law_laying_kind" 1 [.ref r] S) Q:=by
 refine aF G.laying_kind rfl rfl λQ' hR=>?_
 replace k:∀w S',KindOk S' S.length w->Fl S' r->Kp r S S'->Q' (.rt w,S'):=λz S' a b c=>hR _ _ (k z S' a b c)
 clear hR;show wZ _ _ cq [ba (.ref r),gV] S Q';have hrt:=hf.lt;unfold cq;refine bm λK hK=>?_
 refine HF ?_;change wA _ _ _ _ _; change wE _ _ _ _ _
 refine qv [1,0] [(0,0,[0])] 3 (b:=S.length) (Kn _) (by decide) (by decide) (by decide) (by decide) λw1 S1 k1 a1=>?_
 change wE _ _ _ _ _;refine qv [0,2,1] [(1,1,[1])] 2 (b:=S.length) a1.len (by decide) (by decide) (by decide) (by decide) λw2 S2 k2 a2=>?_
 have a12:=a1.trans a2;change wE _ _ _ _ _;refine qv [0,1] [(1,1,[1])] 3 (b:=S.length) a12.len (by decide) (by decide) (by decide) (by decide) λw3 S3 k3 a3=>?_
 have a13:=a12.trans a3;dsimp only[wA];refine hK _ _ ?_;clear hK K;have m3:Menu S (S3++[O.lst [w1,w2,w3]]) r S3.length 3:=by
  refine⟨⟨[w1,w2,w3],ah,rfl,λx hx=>?_⟩,by decide,by decide,(hf.ka a13).ka .push,(a13.trans .push).kp r,a13.len,hrt⟩
  rcases KL.mp hx with rfl|hx
  ·exact(k1.ka (a2.trans a3)).ka .push
  ·rcases KL.mp hx with rfl|hx
   ·exact(k2.ka a3).ka .push
   ·rw[Kx.mp hx];exact k3.ka .push
 dsimp only[KD];clear k1 k2 k3 a1 a2 a3 a12 a13;generalize S3.length=t at m3;generalize S3++[O.lst [w1,w2,w3]]=S3' at m3;refine bm λK hK=>sG [0,1] [(1,1,[1]),(0,0,[1])] 3 m3 (by decide) (by decide) (by decide) (by decide) (by decide) λS4 m4=>hK _ _ ?_
 refine bm λK hK=>sG [0,1] [(1,1,[])] 1 m4 (by decide) (by decide) (by decide) (by decide) (by decide) λS5 m5=>hK _ _ ?_
 refine bm λK hK=>sG [0,2,1] [(0,0,[0]),(0,1,[1]),(1,0,[1]),(1,1,[1])] 2 m5 (by decide) (by decide) (by decide) (by decide) (by decide) λS6 m6=>hK _ _ ?_
 refine bm λK hK=>?_
 dsimp only[wS,wE,wA,wV,wG];obtain⟨xs,e1,e2,e3⟩:=m6.at_t;obtain⟨xs',f1,f2,m7⟩:=sF (S':=S6++[O.dic []]) (w:=.tup [.tup (af [1,0]),.ref S6.length,.int 3]) m6 ⟨[1,0],S6.length,[],3,rfl,by decide,by decide,by decide,by decide,ah,m6.kp.len,by decide,λ_ h=>(nomatch h)⟩ .push (by decide)
 refine⟨dg e1,ae (vE f1 f2) (hK _ _ ?_)⟩;refine bm λK hK=>sG [0,1,2] [(2,2,[2]),(1,2,[1]),(2,1,[1]),(1,1,[1,2])] 2 m7 (by decide) (by decide) (by decide) (by decide) (by decide) λS8 m8=>hK _ _ ?_
 refine bm λK hK=>sG [0,1,2] [(0,0,[0,1])] 2 m8 (by decide) (by decide) (by decide) (by decide) (by decide) λS9 m9=>hK _ _ ?_
 refine st ?_;dsimp only[wS,wE,wA,wV,wG];refine bR (d:=d) G.pick m9.fl (by decide) (by decide) λv S10 v0 v9 f10 k10=>?_
 obtain⟨xs,g1,g2,g3⟩:=m9.at_t;have hlt:=m9.lt;have hv:v.toNat < xs.length:=by omega
 exact gx (k10.get _ _ (by omega) g1) v0 (Ko hv) (k _ _ ((g3 _ (Lf hv)).mono (λl ws hl e=>k10.get _ _ (by omega) e) (λl ws hl e=>k10.get _ _ (by omega) e)) f10 (m9.kp.trans k10))
end
noncomputable def sH (bs:J9 Ky):J9 (J9 Ky):=if bs=[0,1,2]then[[0,1,2],[0,2,1],[1,0,2],[1,2,0],[2,0,1],[2,1,0]]else if bs.length=2 then[[0,1],[1,0]]else[[0,1,2],[0,2,1],[2,0,1],[2,1,0]]
noncomputable def iq (bs nm:J9 Ky):Kk->J9 Ky
 | 0=>K7 bs.length 0
 | k+1=>(iq bs nm k).set (nm.getD k 0).toNat (nm.getD (bs.getD k 0).toNat 0)
theorem jT (bs nm:J9 Ky):∀k,(iq bs nm k).length=bs.length
 | 0=>by simp[iq]
 | k+1=>by simp[iq,jT bs nm k]
theorem CY:∀bs∈KB,∀nm∈sH bs,nm.length=bs.length/\(∀x∈nm,0<=x/\x < (bs.length:Ky))/\(∀x∈bs,0<=x/\x < (bs.length:Ky))/\GoodB (iq bs nm bs.length):=by
 unfold GoodB;decide +kernel
theorem Av:∀bs∈KB,(bs.length=2\/bs.length=3)/\0 < (sH bs).length/\(sH bs).length < 10:=by decide
section
variable{Φ:KF->FF}{fuel:Kk}{ρ:Fm}{S:aa}{K:Fm->aa->Prop}{Q:QO}
theorem CZ {tg:Tg}{e:E}{b:Ss}(r:Kk)(kvs:J9 (T×W))(I:Kk->Fm->aa->Prop)(oe:eC e=true)(ok:iP b=true)(he:wE Φ e ρ S λp=>p.1=.ref r/\p.2[r]?=ba (.dic kvs)/\I 0 ρ (p.2.set r (.frd kvs)))
  (hstep:∀(i:Kk) (p:T×W) (ρ:Fm) (S:aa),kvs[i]?=ba p->I i ρ S->wO (ik tg p.1.w ρ S) λq=>zR Φ fuel b q.1 q.2 (I (i+1)) Q) (hend:∀ρ S,I kvs.length ρ S->K ρ S):Wp (gN Φ fuel (.loop tg (.seq e) b) ρ S) (uq K Q):=by
 obtain⟨w,S1,e1,rfl,e2,h0⟩:=cv oe he;refine jQ (mi:=.its (kvs.map λp=>p.1.w)) (S1:=S1.set r (.frd kvs)) (xs:=kvs.map λp=>p.1.w) I ok (by simp only[la,fU,e1,qd e2,dG e2]) (λ_ _ _ _=>rfl) rfl h0 (λi w ρ S hw hI=>?_) λρ S hI=>hend ρ S (by rwa [Kc]at hI)
 rw[Km,Kf]at hw;obtain⟨p,hp,rfl⟩:=hw;exact hstep i p ρ S hp hI
end
section
variable{defs:J9 (KF×Df)}{fuel d:Kk}{S:aa}{r:Kk}{Q:QW}
theorem HK {i n:Kk}{x:W}(h:S[i]?=ba (.lst [x]))(hn:n<=1000)(q:Q (.ref S.length,S++[.lst (K7 n x)])):wO (gf .mul (.ref i) (.int (n:Ky)) S) Q:=by
 refine ae ?_ q;have:n<=sizeLine:=kG hn;simp only[gf,yj,dF h];rw[KJ ⟨by omega,by omega,by simpa using this⟩]
 unfold mT;simp[this]
theorem oU {q:Kk}{kvs:J9 (T×W)}{u v:Ky}{w:W}(h:kn S q=ba kvs)(hg:cV kvs (b6 u v)=ba w):qQ (.ref q) (.tup [.int u,.int v]) S=ba (w,S):=by
 have hk:gX (.tup [.int u,.int v])=ba (b6 u v):=jo;simp only[qQ,h,hk,hg,Ld]
theorem Aw {q:Kk}{kvs:J9 (T×W)}{u v:Ky}{w:W}(h:S[q]?=ba (.dic kvs))(hl:kvs.length < sizeLine):ja (.ref q) (.tup [.int u,.int v]) w S=ba (S.set q (.dic (ft kvs (b6 u v) w))):=by
 have hk:gX (.tup [.int u,.int v])=ba (b6 u v):=jo;simp only[ja,pO,h,hk];rw[KJ hl]
theorem jU {xs:J9 Ky}{x:Ky}(h0:0<=x)(h1:x.toNat < xs.length):(af xs)[x.toNat]?=ba (.int (xs.getD x.toNat 0)):=by
 unfold af;rw[Km,ay (d:=0) h1]; rfl
theorem gA {xs:J9 Ky}{i:Kk}(h:i < xs.length):xs.getD i 0∈xs:=Kt (ay (d:=0) h)
theorem mZ (G:Gen defs){Q:QO}{bs:J9 Ky}{x0 x2:Ki W}(hb:bs∈KB)
  (hk:∀(m s:Kk) (S':aa),Ka S S'->S'[s]?=ba (.lst ((sH bs).map λnm=>W.tup (af nm)))->S.length<=s->wZ (aq defs fuel (d+1)) fuel (dr 5 bM) [x0,ba (.tup (af bs)),x2,ba (.int bs.length),ba (.ref m),ba (.ref s),gV,gV,gV,gV,gV,gV] S' Q) :
  wZ (aq defs fuel (d+1)) fuel bM [x0,ba (.tup (af bs)),x2,gV,gV,gV,gV,gV,gV,gV,gV,gV] S Q:=by
 generalize hd5:dr 5 bM=bV at hk;unfold bM at hd5 ⊢;dsimp only[dr]at hd5;rw[hd5];clear hd5;refine bm λK hK=>?_
 dsimp only[wS,wE,wA,wV,wG,KD];refine di ?_;rw[show(af bs).length=bs.length from Kc ..]
 refine hK _ _ ?_;clear hK K;refine bm λK hK=>?_
 dsimp only[wS,wE,wA,wV,wG,KD];have hm:(((S++[O.lst [.tup [.int 0]]])++[O.lst [.tup [.int 0,.int 1],.tup [.int 1,.int 0]]])++[O.lst [.ref S.length,.ref (S++[O.lst [.tup [.int 0]]]).length]])[((S++[O.lst [.tup [.int 0]]])++[O.lst [.tup [.int 0,.int 1],.tup [.int 1,.int 0]]]).length]?=ba (.lst [.ref S.length,.ref (S++[O.lst [.tup [.int 0]]]).length]):=ah;refine hK _ _ ?_;clear hK K;generalize hS1:S++[O.lst [.tup [.int 0]]]=S1 at hm ⊢;generalize hS2:S1++[O.lst [.tup [.int 0,.int 1],.tup [.int 1,.int 0]]]=S2 at hm ⊢;generalize hS3:S2++[O.lst [.ref S.length,.ref S1.length]]=S3 at hm ⊢;have l1:S1.length=S.length+1:=by rw[<- hS1]; simp
 have l2:S2.length=S1.length+1:=by rw[<- hS2]; simp
 have l3:S3.length=S2.length+1:=by rw[<- hS3]; simp
 have kS2:Ka S S2:=by rw[<- hS2,<- hS1]; exact Ka.push.trans .push
 refine bm λK hK=>?_
 dsimp only[wS,wE,wA,wV,wG,KD];refine⟨dg hm,si (ap hm) (by decide:2 < 1000) (hK _ _ ?_)⟩
 clear hK K;generalize hS5:(S3++[O.lst [.tup [.int 0,.int 1,.int 2],.tup [.int 0,.int 2,.int 1],.tup [.int 2,.int 0,.int 1],.tup [.int 2,.int 1,.int 0]]]).set S2.length (.lst ([.ref S.length,.ref S1.length]++[.ref S3.length]))=S5;have k5:Ka S S5:=by
  rw[<- hS5,<- hS3];exact Ka.late (kS2.trans (Ka.push.trans .push)) (by omega)
 have m5:S5[S2.length]?=ba (.lst [.ref S.length,.ref S1.length,.ref S3.length]):=by
  rw[<- hS5]; exact bX (ap hm)
 have p5:S5[S1.length]?=ba (.lst [.tup [.int 0,.int 1],.tup [.int 1,.int 0]]):=by
  rw[<- hS5,bY (by omega),<- hS3,<- hS2]
  exact ap (ap ah)
 have t5:S5[S3.length]?=ba (.lst [.tup [.int 0,.int 1,.int 2],.tup [.int 0,.int 2,.int 1],.tup [.int 2,.int 0,.int 1],.tup [.int 2,.int 1,.int 0]]):=by
  rw[<- hS5,bY (by omega)]
  exact ah
 have h1:S.length<=S1.length:=by omega
 have h3:S.length<=S3.length:=by omega
 clear hS1 hS2 hS3 hS5 hm l1 l2 l3 kS2;refine bm λK hK=>?_
 dsimp only[wS,wE,wA,wV,wG,KD,zM,aX];have hb':bs=[1,0]\/bs=[0,2,1]\/bs=[0,1]\/bs=[0,1,2]:=by simpa [KB]using hb
 rcases hb' with rfl|rfl|rfl|rfl
 ·refine eT (i:=1) m5 rfl (hK _ _ (bm λK hK=>cw (λQ q=>q) (hK _ _ (hk _ _ _ k5 p5 h1))))
 ·refine eT (i:=2) m5 rfl (hK _ _ (bm λK hK=>cw (λQ q=>q) (hK _ _ (hk _ _ _ k5 t5 h3))))
 ·refine eT (i:=1) m5 rfl (hK _ _ (bm λK hK=>cw (λQ q=>q) (hK _ _ (hk _ _ _ k5 p5 h1))))
 ·refine eT (i:=2) m5 rfl (hK _ _ (bm λK hK=>lW (λQ q=>q) λQ2 hn _=>?_))
  refine st ?_;dsimp only[wS,wE,wA,wV,wG,KD];exact ql (d:=d) G (dS (hn _ _ (hK _ _ (hk _ _ _ (k5.trans .push) ah k5.len))))
theorem uA (G:Gen defs){S0:aa}{bs:J9 Ky}{q:Kk}{kvs:J9 (T×W)}(hb:bs∈KB)(hf:Fl S r)(hr:r < S0.length)(kp:Kp r S0 S)(hq:S[q]?=ba (.dic kvs))(hq0:S0.length<=q)(h4:kvs.length<=4)(hm:MustE S bs.length S0.length kvs)
  (k:∀(bs':J9 Ky) (q':Kk) (kvs':J9 (T×W)) S',GoodB bs'->bs'.length=bs.length->S'[q']?=ba (.dic kvs')->S0.length<=q'->MustE S' bs.length S0.length kvs'->Fl S' r->Kp r S0 S'->Q (.tup [.tup (af bs'),.ref q'],S')) :
  wO (bN (aq defs fuel (d+2)) "_law_numbered" 3 [.ref r,.tup (af bs),.ref q] S) Q:=by
 refine aF G.numbered rfl rfl λQ' hR=>?_
 replace k:∀(bs':J9 Ky) (q':Kk) (kvs':J9 (T×W)) S',GoodB bs'->bs'.length=bs.length->S'[q']?=ba (.dic kvs')->S0.length<=q'->MustE S' bs.length S0.length kvs'->Fl S' r->Kp r S0 S'->Q' (.rt (.tup [.tup (af bs'),.ref q']),S'):=λa b c e f g h i j l m=>hR _ _ (k a b c e f g h i j l m)
 clear hR;refine mZ (d:=d) G hb ?_;intro m s S1 k1 e1 hs;dsimp only[dr,bM];have hrt:=hf.lt;obtain⟨hb1,hb2,hb3⟩:=Av bs hb;refine bm λK hK=>?_
 dsimp only[wS,wE,wA,wV,wG,KD];refine fW e1 ?_;rw[Kc];refine bR (d:=d) G.pick (hf.ka k1) (by omega) (by omega) λv S2 v0 v1 f2 k2=>?_
 obtain⟨nm,hnmm,enm⟩:=lZ (f:=λnm=>W.tup (af nm)) (xs:=sH bs) (i:=v.toNat) (by omega)
 obtain⟨n1,n2,n3,n4⟩:=CY bs hb nm hnmm;refine gx (k2.get _ _ (by omega) e1) v0 enm (hK _ _ ?_)
 clear hK K;refine bm λK hK=>?_
 dsimp only[wS,wE,wA,wV,wG,KD];refine HK ah (by omega) (hK _ _ ?_)
 clear hK K;generalize hS4:S2++[O.lst [.int 0]]=S4;have k24:Ka S2 S4:=hS4 ▸ .push;have f4:Fl S4 r:=f2.ka k24;have kp4:Kp r S0 S4:=(kp.trans (k1.kp r)).trans (k2.trans (k24.kp r));have q4:S4[q]?=ba (.dic kvs):=k24.get _ _ (k2.get _ _ (by omega) (k1.get _ _ hq))
 have m4:MustE S4 bs.length S0.length kvs:=((hm.ka k1).kp hr k2).ka k24;clear hS4 k24 hm hq f2 k2 k1 e1 enm hf;refine bm λK hK=>?_
 refine eg (bs.length:Ky) (λk ρ S'=>(∃x8,ρ=[ba (.ref r),ba (.tup (af bs)),ba (.ref q),ba (.int bs.length),ba (.ref m),ba (.ref s),ba (.tup (af nm)),ba (.ref S4.length),x8,gV,gV,gV])/\S'[S4.length]?=ba (.lst (af (iq bs nm k)))/\Ka S4 S') rfl rfl (by omega) ⟨rfl,⟨_,rfl⟩,?_,.push⟩ ?_ ?_
 ·rw[ah]; simp[iq,af]
 ·rintro i ρ S5 hi ⟨⟨x8,rfl⟩,e5,k5⟩ Q2 hn _;clear hK k;have hi':i < bs.length:=by omega
  have hi1:i < nm.length:=by omega
  have c:=n3 _ (gA hi');have c2:=n2 _ (gA hi1);refine st ?_;dsimp only[wS,wE,wA,wV,wG,KD];refine aC (KY i) (jU (KY i) hi') (aC c.1 (jU c.1 (by rw[KC]; omega)) (aC (KY i) (jU (KY i) hi1) ?_))
  rw[KC];refine ae (DC e5 c2.1 (by rw[show(af (iq bs nm i)).length=_ from Kc ..,jT]; omega)) (dS (hn _ _ ⟨⟨_,rfl⟩,?_,k5.late (Kn _)⟩))
  rw[bX e5];unfold af;rw[iq,List.map_set]
 ·rintro ρ S5 ⟨⟨x8,rfl⟩,e5,k5⟩;rw[KC]at e5;refine hK _ _ (st ?_);clear hK K;dsimp only[wS,wE,KD];have f5:Fl S5 r:=f4.ka k5;have q5:S5[q]?=ba (.dic kvs):=k5.get _ _ q4;have m5:MustE S5 bs.length S0.length kvs:=m4.ka k5;have kp5:Kp r S0 S5:=kp4.trans (k5.kp r);have hq5:=dR q5;have ht5:=dR e5;have hqt:q≠S4.length:=by rintro rfl; rw[e5]at q5; cases q5
  have hn9:(bs.length:Ky)<=3:=by omega
  have hr5:=f5.lt;clear k5 m4 q4 f4;refine bm λK hK=>?_
  refine CZ q kvs (λk ρ S'=>(∃x10 x11,ρ=[ba (.ref r),ba (.tup (af bs)),ba (.ref q),ba (.int bs.length),ba (.ref m),ba (.ref s),ba (.tup (af nm)),ba (.ref S4.length),x8,ba (.ref S5.length),x10,x11])/\S'[q]?=ba (.frd kvs)/\MustE S' bs.length S0.length kvs/\S'[S4.length]?=ba (.lst (af (iq bs nm bs.length)))/\(∃kvs',S'[S5.length]?=ba (.dic kvs')/\kvs'.length<=k/\MustE S' bs.length S0.length kvs')/\Fl S' r/\Kp r S0 S') rfl rfl ⟨rfl,ap q5,⟨gV,gV,rfl⟩,bX (ap q5),(m5.ka .push).set (ap q5),?_,⟨[],?_,Kn _,λ_ h=>(nomatch h)⟩,(f5.ka .push).own (by omega),(kp5.trans .push).late hq0⟩ ?_ ?_
  ·rw[bY hqt]; exact ap e5
  ·rw[bY (by omega)]; exact ah
  ·rintro i p ρ S6 hp ⟨⟨x10,x11,rfl⟩,q6,m6,t6,⟨kvs',o6,l6,mm6⟩,f6,kp6⟩;clear hK k;have hpm:=Kt hp;have hil:=(Kq.mp hp).1;obtain⟨u,v',l,ws,rfl,hu,hv',hl,hws,hl3,hw3⟩:=m6 p hpm;obtain⟨g,hg⟩:=CV hpm;obtain⟨u2,v2,l2,ws2,he2,_,_,hl2,hws2,hl32,hw32⟩:=m6 _ (sD hg);injection he2 with _ he2
   subst he2;have hul:u.toNat < nm.length:=by omega
   have hvl:v'.toNat < nm.length:=by omega
   refine ae (show ik (.tp [10,11]) (b6 u v',W.ref l).1.w [ba (.ref r),ba (.tup (af bs)),ba (.ref q),ba (.int bs.length),ba (.ref m),ba (.ref s),ba (.tup (af nm)),ba (.ref S4.length),x8,ba (.ref S5.length),x10,x11] S6=ba ([ba (.ref r),ba (.tup (af bs)),ba (.ref q),ba (.int bs.length),ba (.ref m),ba (.ref s),ba (.tup (af nm)),ba (.ref S4.length),x8,ba (.ref S5.length),ba (.int u),ba (.int v')],S6)from rfl) λQ2 hn _=>?_
   refine st ?_;dsimp only[wS,wE,wA,wV,wG,KD];refine vI l2 (af ws2) (λi zs ρ2 S7=>(∃a1,ρ2=[gV,a1,ba (.tup (af nm))])/\zs=af ((ws2.take i).map λw=>nm.getD w.toNat 0)/\S7=S6) rfl rfl rfl ?_ ?_ ?_ ?_
   ·dsimp only[wE,wA,wV,wG];exact ae (oU (CJ q6) hg) ⟨rfl,⟨_,rfl⟩,rfl,rfl⟩
   ·rintro i zs ρ2 S7 ⟨_,_,rfl⟩;exact hws2
   ·rintro i w zs ρ2 S7 hw ⟨⟨a1,rfl⟩,rfl,rfl⟩;unfold af at hw;rw[Km,Kf]at hw;obtain⟨x,hx,rfl⟩:=hw;obtain⟨x0,x1⟩:=hw32 x (Kt hx);have hxl:x.toNat < nm.length:=by omega
    refine ae (show ik (.nm 1) (.int x) [gV,a1,ba (.tup (af nm))] S7=ba ([gV,ba (.int x),ba (.tup (af nm))],S7)from rfl) ?_
    dsimp only[iQ,wC,wE,wA,wV,wG];refine⟨λ_=>aC x0 (jU x0 hxl) ⟨⟨_,rfl⟩,?_,rfl⟩,λz=>by cases z⟩
    rw[Lg,hx];simp[af]
   ·rintro zs ρ2 S7 ⟨_,rfl,rfl⟩;rw[show(af ws2).length=ws2.length from Kc ..,Lw]
    refine⟨kG (by simp[af]; omega),aC hu.1 (jU hu.1 hul) (aC hv'.1 (jU hv'.1 hvl) ?_)⟩
    refine ae (Aw (ap o6) (by rw[Lo]; omega)) (dS (hn _ _ ⟨⟨_,_,rfl⟩,?_,(m6.ka .push).set (ap o6),?_,⟨_,bX (ap o6),?_,?_⟩,(f6.ka .push).own (by omega),(kp6.trans .push).late kp5.len⟩))
    ·rw[bY (by omega)]; exact ap q6
    ·rw[bY (by omega)]; exact ap t6
    ·exact KT (dO ..) (Ov l6)
    ·refine((mm6.ka .push).put (n2 _ (gA hul)) (n2 _ (gA hvl)) kp6.len ah (by simp; omega) ?_).set (ap o6)
     intro w hw;obtain⟨x,hx,rfl⟩:=Kw.mp hw;obtain⟨x0,x1⟩:=hw32 x hx;exact n2 _ (gA (by omega))
  ·rintro ρ S6 ⟨⟨x10,x11,rfl⟩,q6,m6,t6,⟨kvs',o6,l6,mm6⟩,f6,kp6⟩;refine hK _ _ (st ?_);dsimp only[wS,wE,wA,wV,wG];exact fX t6 (k _ _ kvs' _ n4 (jT _ _ _) o6 kp5.len mm6 f6 kp6)
end
noncomputable def xx (x y z:Ky):J9 (T×W):=[(b6 1 0,.int x),(b6 2 0,.int y),(b6 2 1,.int z)]
noncomputable def C0 (x y z a b c:Ky):Kk->J9 (T×W)
 | 0=>xx x y z
 | 1=>xx x y z++[(b6 0 1,.int a)]
 | 2=>xx x y z++[(b6 0 1,.int a),(b6 0 2,.int b)]
 | _=>xx x y z++[(b6 0 1,.int a),(b6 0 2,.int b),(b6 1 2,.int c)]
theorem Ft {n x y z a b c:Ky}(hx:0<=x/\x < n)(hy:0<=y/\y < n)(hz:0<=z/\z < n)(ha:0<=a/\a < n)(hb:0<=b/\b < n)(hc:0<=c/\c < n):∀i j:Kk,i < 3->j < 3->i≠j->∃p:Ky,cV (C0 x y z a b c 3) (b6 i j)=ba (.int p)/\0<=p/\p < n:=by
 intro i j hi hj hij
 match i,j,hi,hj,hij with
 | 0,0,_,_,h=>exact absurd rfl h
 | 0,1,_,_,_=>exact⟨a,by rfl,ha⟩
 | 0,2,_,_,_=>exact⟨b,by rfl,hb⟩
 | 1,0,_,_,_=>exact⟨x,by rfl,hx⟩
 | 1,1,_,_,h=>exact absurd rfl h
 | 1,2,_,_,_=>exact⟨c,by rfl,hc⟩
 | 2,0,_,_,_=>exact⟨y,by rfl,hy⟩
 | 2,1,_,_,_=>exact⟨z,by rfl,hz⟩
 | 2,2,_,_,h=>exact absurd rfl h
theorem sI:∀t∈aJ,t.length=3/\t.getD 0 0 < 3/\t.getD 1 0 < 3/\t.getD 2 0 < 3/\t.getD 0 0≠t.getD 1 0/\t.getD 1 0≠t.getD 2 0/\t.getD 0 0≠t.getD 2 0:=by decide
theorem Ax {t:J9 Kk}(h:t∈aJ):∃i j k:Kk,t=[i,j,k]/\i < 3/\j < 3/\k < 3/\i≠j/\j≠k/\i≠k:=by
 obtain⟨h1,h2⟩:=sI t h
 match t,h1,h2 with
 | [i,j,k],_,h2=>exact⟨i,j,k,rfl,h2⟩
section
variable{defs:J9 (KF×Df)}{fuel d:Kk}{S:aa}{r:Kk}{Q:QW}
theorem Ay {l:Kk}{f:Ky}{ws:J9 Ky}(h:S[l]?=ba (.lst (af ws))):∃b,dz .notin (.int f) (.ref l) S=ba (.bl b,S):=by
 have hf:(cG (.int f)&&(af ws).all cG)=true:=by
  simp only[cG,OB,KH];intro x hx;obtain⟨z,_,rfl⟩:=Kw.mp hx;rfl
 refine⟨!(af ws).any λz=>AZ z (.int f),?_⟩
 simp only[dz,qc h,iY,F1,Dl,fD,aw h,hf,L7,Ld]
theorem Fu {q:Kk}{kvs:J9 (T×W)}(h:S[q]?=ba (.dic kvs)):tyOk "dict" S (.ref q)=true:=by simp[tyOk,dG h]
theorem C3 {q:Kk}{kvs:J9 (T×W)}(h:S[q]?=ba (.dic kvs))(k:Q (.ref S.length,S++[.lst (kvs.map λp=>p.1.w)])):wO (Bi.list.fn [.ref q] S) Q:=by
 refine ae ?_ k;have h1:BS S q=gV:=by simp[BS,h]
 have h2:oh [.ref q] S=gV:=by simp[oh,h1,iZ,fD,qd h]
 simp only[Bi.fn,Ds,h2,ou,dG h]
theorem Az (G:Gen defs){bs:J9 Ky}{q b0:Kk}{kvs:J9 (T×W)}{x y z:Ky}(hb:GoodB bs)(hx:0<=x/\x < bs.length)(hy:0<=y/\y < bs.length)(hz:0<=z/\z < bs.length)(hq:S[q]?=ba (.dic kvs))(hm:MustE S bs.length b0 kvs)
  (k:∀b S',Ka S S'->Q (.bl b,S')):wO (bN (aq defs fuel (d+2)) "_law_breaks" 5 [.tup (af bs),.ref q,.int x,.int y,.int z] S) Q:=by
 refine aF G.breaks rfl rfl λQ' hR=>?_
 replace k:∀b S',Ka S S'->Q' (.rt (.bl b),S'):=λa b c=>hR _ _ (k a b c)
 clear hR;show wZ _ _ ej [ba (.tup (af bs)),ba (.ref q),ba (.int x),ba (.int y),ba (.int z),gV,gV,gV,gV,gV] S Q';obtain⟨a,ha1,ha⟩:=hb.rng x.toNat (by omega)
 obtain⟨b,hb1,hb2⟩:=hb.rng y.toNat (by omega)
 obtain⟨c,hc1,hc⟩:=hb.rng z.toNat (by omega)
 have hqt:=dR hq;unfold ej;refine bm λK hK=>?_
 dsimp only[wS,wE,wA,wV,wG,KD];refine⟨ah,ae (show dY [] [.tup [.int 1,.int 0],.int x,.tup [.int 2,.int 0],.int y,.tup [.int 2,.int 1],.int z]=ba (xx x y z)from rfl) (hK _ _ ?_)⟩
 clear hK K;have e1:((S++[O.dic []]).set S.length (.dic (xx x y z)))[S.length]?=ba (.dic (xx x y z)):=bX ah;have k1:Ka S ((S++[O.dic []]).set S.length (.dic (xx x y z))):=Ka.push.late (Kn _);have l1:((S++[O.dic []]).set S.length (.dic (xx x y z))).length=S.length+1:=by simp
 generalize(S++[O.dic []]).set S.length (.dic (xx x y z))=S1 at e1 k1 l1 ⊢;refine bm λK hK=>?_
 refine jn rfl rfl ?_;dsimp only[wE,wA,wV,wG];refine C3 e1 ⟨S1.length,[dU 1 0,dU 2 0,dU 2 1],(λk ρ S'=>(∃x6,ρ=[ba (.tup (af bs)),ba (.ref q),ba (.int x),ba (.int y),ba (.int z),ba (.ref S.length),x6,gV,gV,gV])/\S'[S.length]?=ba (.dic (C0 x y z a b c k))/\S'[S1.length]?=ba (.lst [dU 1 0,dU 2 0,dU 2 1])/\Ka S S'),rfl,⟨⟨_,rfl⟩,ap e1,ah,k1.trans .push⟩,λi ρ S' h=>h.2.2.1,?_,?_⟩
 ·have step:∀(u v f g:Ky) (kv kv':J9 (T×W)) (S':aa) (i:Kk),cV kv (b6 u v)=ba (.int f)->0<=f->bs[f.toNat]?=ba g->kv.length < 10->ft kv (b6 v u) (.int g)=kv'->C0 x y z a b c (i+1)=kv'->∀x6:Ki W,S'[S.length]?=ba (.dic kv)->S'[S1.length]?=ba (.lst [dU 1 0,dU 2 0,dU 2 1])->Ka S S'->
    wO (ik (.nm 6) (dU u v) [ba (.tup (af bs)),ba (.ref q),ba (.int x),ba (.int y),ba (.int z),ba (.ref S.length),x6,gV,gV,gV] S') λp=>zR (aq defs fuel (d+1)) fuel (.cons (.put (.v 5) (.tup (.cons (.ix (.v 6) (.c (.int 1))) (.cons (.ix (.v 6) (.c (.int 0))) .nil))) (.ix (.v 0) (.ix (.v 5) (.v 6)))) .nil) p.1 p.2 (λρ S'=>(∃x6,ρ=[ba (.tup (af bs)),ba (.ref q),ba (.int x),ba (.int y),ba (.int z),ba (.ref S.length),x6,gV,gV,gV])/\S'[S.length]?=ba (.dic (C0 x y z a b c (i+1)))/\S'[S1.length]?=ba (.lst [dU 1 0,dU 2 0,dU 2 1])/\Ka S S') Q':=by
   clear hK k;intro u v f g kv kv' S' i h1 h2 h3 h4 h5 h6 x6 e e' k;refine ae (show ik (.nm 6) (dU u v) [ba (.tup (af bs)),ba (.ref q),ba (.int x),ba (.int y),ba (.int z),ba (.ref S.length),x6,gV,gV,gV] S'=ba ([ba (.tup (af bs)),ba (.ref q),ba (.int x),ba (.int y),ba (.int z),ba (.ref S.length),ba (dU u v),gV,gV,gV],S')from rfl) λQ2 hn _=>?_
   refine st ?_;dsimp only[wS,wE,wA,wV,wG];refine ae (oU (dG e) h1) (aC h2 (w:=.int g) (by unfold af; rw[Km,h3]; rfl) (aC (by decide) rfl (aC (by decide) rfl ?_)))
   refine ae (Aw e (by rw[Lo]; omega)) (dS (hn _ _ ⟨⟨_,rfl⟩,?_,?_,k.late (Kn _)⟩))
   ·rw[bX e,h5,h6]
   ·rw[bY (by omega)]; exact e'
  rintro i w ρ S2 hw ⟨⟨x6,rfl⟩,e2,l2,k2⟩
  match i,hw,e2 with
  | 0,hw,e2=>cases hw; exact step 1 0 x a _ _ S2 0 (by rfl) hx.1 ha1 (by simp[C0,xx]) (by rfl) (by rfl) x6 e2 l2 k2
  | 1,hw,e2=>cases hw; exact step 2 0 y b _ _ S2 1 (by rfl) hy.1 hb1 (by simp[C0,xx]) (by rfl) (by rfl) x6 e2 l2 k2
  | 2,hw,e2=>cases hw; exact step 2 1 z c _ _ S2 2 (by rfl) hz.1 hc1 (by simp[C0,xx]) (by rfl) (by rfl) x6 e2 l2 k2
  | n+3,hw,_=>simp at hw
 ·rintro ρ S2 ⟨⟨x6,rfl⟩,e2,l2,k2⟩;have hv:=Ft hx hy hz ha hb2 hc;have e2:S2[S.length]?=ba (.dic (C0 x y z a b c 3)):=e2;refine hK _ _ ?_;clear hK K;have hlt2:=dR e2;refine bm λK hK=>?_
  refine jn rfl rfl ?_;dsimp only[wE,wA,wV,wG];refine ql (d:=d) G ⟨S2.length,aJ.map (λt=>W.tup (aI t)),(λk ρ S'=>(∃x7 x8 x9,ρ=[ba (.tup (af bs)),ba (.ref q),ba (.int x),ba (.int y),ba (.int z),ba (.ref S.length),x6,x7,x8,x9])/\S'[S.length]?=ba (.dic (C0 x y z a b c 3))/\S'[S2.length]?=ba (.lst (aJ.map (λt=>W.tup (aI t))))/\Ka S S'),rfl,⟨⟨_,_,_,rfl⟩,ap e2,ah,k2.trans .push⟩,λi ρ S' h=>h.2.2.1,?_,?_⟩
  ·rintro i w ρ S3 hw ⟨⟨x7,x8,x9,rfl⟩,e3,l3,k3⟩;clear hK;rw[Km,Kf]at hw;obtain⟨t,ht,rfl⟩:=hw;obtain⟨i1,j1,h1,rfl,hi1,hj1,hh1,n1,n2,n3⟩:=Ax (Kt ht);obtain⟨p1,g1,r1⟩:=hv i1 j1 hi1 hj1 n1;obtain⟨p2,g2,r2⟩:=hv j1 h1 hj1 hh1 n2;obtain⟨p3,g3,r3⟩:=hv i1 h1 hi1 hh1 n3;have q3:=k3.get _ _ hq;refine ae (show ik (.tp [7,8,9]) (W.tup (aI [i1,j1,h1])) [ba (.tup (af bs)),ba (.ref q),ba (.int x),ba (.int y),ba (.int z),ba (.ref S.length),x6,x7,x8,x9] S3=ba ([ba (.tup (af bs)),ba (.ref q),ba (.int x),ba (.int y),ba (.int z),ba (.ref S.length),x6,ba (.int i1),ba (.int j1),ba (.int h1)],S3)from rfl) λQ2 hn hr=>?_
   refine bm λK hK=>?_
   dsimp only[wS,wT,wE,wA,wV,wG];refine ae (oU (dG e3) g3) ⟨Fu q3,ae (oU (dG e3) g1) (ae (oU (dG e3) g2) (ae (oU (dG e3) g3) ?_))⟩;have hget:Me.get.fn (.ref q) [.tup [.int p1,.int p2],.ref S3.length] (S3++[O.lst [.int p3]])=ba ((cV kvs (b6 p1 p2)).getD (.ref S3.length),S3++[O.lst [.int p3]]):=by
    have hk:gX (.tup [.int p1,.int p2])=ba (b6 p1 p2):=jo;simp only[Me.fn,uX,dG (ap q3),hk]
   refine ae hget ?_;have hres:∃(l:Kk) (ws:J9 Ky),(cV kvs (b6 p1 p2)).getD (.ref S3.length)=.ref l/\(S3++[O.lst [.int p3]])[l]?=ba (.lst (af ws)):=by
    cases hg:cV kvs (b6 p1 p2)with
    | none=>exact⟨S3.length,[p3],rfl,ah⟩
    | some g=>
     obtain⟨u,v,l,ws,he,_,_,_,hl,_⟩:=(hm.ka k3) _ (sD hg);injection he with _ he
     subst he;exact⟨l,ws,rfl,ap hl⟩
   obtain⟨l,ws,hl1,hl2⟩:=hres;dsimp only;rw[hl1];obtain⟨kb,hkb⟩:=Ay (f:=p3) hl2;refine ae hkb ?_;dsimp only[wB];refine aS (Q0:=Q2) (λ_ Q3 _ hr3=>st (hr3 _ _ (hr _ _ (k _ _ (k3.trans .push))))) λ_ Q3 hn3 _=>dS (hn3 _ _ (hK _ _ (dS (hn _ _ ⟨⟨_,_,_,rfl⟩,ap e3,ap l3,k3.trans .push⟩))))
  ·rintro ρ S3 ⟨⟨x7,x8,x9,rfl⟩,e3,l3,k3⟩;exact hK _ _ (st (k _ _ k3))
end
theorem HL {a n:Kk}{m0 m1 m2 x y z:Ky}(h0:0<=m0/\m0 < a)(h1:0<=m1/\m1 < a)(h2:0<=m2/\m2 < a)(hx:0<=x/\x < n)(hy:0<=y/\y < n)(hz:0<=z/\z < n):GoodW a n [(m0,[]),(m1,[x]),(m2,[y,z])]:=by
 refine⟨λk p h=>?_,λk p h=>?_,λk p h=>?_⟩ <;> match k,h with
 | 0,h=>cases h; first|exact h0|rfl|(intro w hw; cases hw)
 | 1,h=>cases h; first|exact h1|rfl|(intro w hw; rw[Kx.mp hw]; exact hx)
 | 2,h=>cases h; first|exact h2|rfl|(intro w hw; rcases KL.mp hw with e|hw <;> first|exact e ▸ hy|(rw[Kx.mp hw]; exact hz))
 | n+3,h=>simp at h
theorem Fv {Φ:KF->FF}{ρ:Fm}{S:aa}{i n:Kk}{Q:QW}(hv:∀Q:W->Prop,Q (.int n)->wV ρ i Q)(hn:n<=3)(k:∀j:Ky,0<=j->j<=27->j=(n:Ky)*n*n->Q (.int j,S)):wE Φ (.op .mul (.op .mul (.v i) (.v i)) (.v i)) ρ S Q:=by
 have b1 : -(2 ^ 64) < (n:Ky):=by omega
 have b2:(n:Ky) < 2 ^ 64:=by omega
 have hc:(n:Ky)*n*n<=27/\0<=(n:Ky)*n*n:=by rcases(show n=0\/n=1\/n=2\/n=3 by omega)with h|h|h|h <;> rw[h] <;> decide
 dsimp only[wE];have em:∀m:Ky,gf .mul (.int m) (.int n) S=ba (.int (m*n),S):=λm=>sh b1 b2
 generalize gf .mul=B at em ⊢;refine hv _ ?_;refine hv _ ?_;refine ae (em _) ?_;refine hv _ ?_;refine ae (em _) ?_;have:=k _ hc.2 hc.1 rfl;exact this
theorem AA {Φ:KF->FF}{fuel:Kk}{ρ:Fm}{S:aa}{K:Fm->aa->Prop}{Q:QO}{i0 i n:Kk}{b:Ss}(hv:∀Q:W->Prop,Q (.int n)->wV ρ i Q)(hn:n<=3)(ok:iP b=true)
  (h:∀j:Ky,0<=j->j<=27->j=(n:Ky)*n*n->∃I:Kk->Fm->aa->Prop,I 0 ρ S/\(∀(i:Kk) (ρ:Fm) (S:aa),(i:Ky) < j->I i ρ S->zR Φ fuel b (ρ.set i0 (ba (.int i))) S (I (i+1)) Q)/\∀ρ S,I j.toNat ρ S->K ρ S) :
  Wp (gN Φ fuel (.loop (.nm i0) (.rng (.cons (.op .mul (.op .mul (.v i) (.v i)) (.v i)) .nil)) b) ρ S) (uq K Q):=
 have hw:=Fv (Φ:=Φ) (S:=S) (Q:=λp=>∃(j:Ky) (I:Kk->Fm->aa->Prop),p.1=.int j/\(-(2 ^ 62)<=j/\j < 2 ^ 62)/\I 0 ρ p.2/\(∀(i:Kk) (ρ:Fm) (S:aa),(i:Ky) < j->I i ρ S->zR Φ fuel b (ρ.set i0 (ba (.int i))) S (I (i+1)) Q)/\∀ρ S,I j.toNat ρ S->K ρ S) hv hn λj j0 j27 e=>let ⟨I,h0,h1,h2⟩:=h j j0 j27 e; ⟨j,I,rfl,by omega,h0,h1,h2⟩
 jm rfl ok hw
section
variable{defs:J9 (KF×Df)}{fuel d:Kk}{S:aa}{r:Kk}{Q:QW}
theorem AB (hfu:20 < fuel)(G:Gen defs)(hf:Fl S r)(k:∀w S',eS w->Fl S' r->Kp r S S'->Q (w,S')):wO (bN (aq defs fuel (d+7)) "_law_laying_rule" 1 [.ref r] S) Q:=by
 refine aF G.laying_rule rfl rfl λQ' hR=>?_
 replace k:∀w S',eS w->Fl S' r->Kp r S S'->Q' (.rt w,S'):=λz S' a b c=>hR _ _ (k z S' a b c)
 clear hR;show wZ _ _ cr [ba (.ref r),gV,gV,gV,gV,gV,gV,gV,gV,gV,gV,gV,gV,gV,gV] S Q';unfold cr;refine bm λK hK=>?_
 dsimp only[wS,wE,wA,wV,wG,KD];refine bR (d:=d+5) G.pick hf (by decide) (by decide) λv S1 v0 v7 f1 k1=>hK _ _ ?_
 clear hK K;refine bm λK hK=>?_
 dsimp only[wS,wT,wE,wV,wG,iO,aX,wB];refine aS (Q0:=Q') (λ_ Q2 _ hr=>?_) (λ_ Q2 hn _=>dS (hn _ _ (hK _ _ ?_)))
 ·refine st ?_;dsimp only[wS,wE,wA,wV,wG];exact sC (d:=d) hfu G f1 λw S2 a b c=>hr _ _ (k w S2 a b (k1.trans c))
 clear hK K hn;refine bm λK hK=>?_
 dsimp only[wS,wT,wE,wV,wG,iO,aX,wB];refine aS (Q0:=Q') (λ_ Q2 _ hr=>?_) (λ_ Q2 hn _=>dS (hn _ _ (hK _ _ ?_)))
 ·refine st ?_;dsimp only[wS,wE,wA,wV,wG];exact xu (d:=d) hfu G f1 λw S2 a b c=>hr _ _ (k w S2 a b (k1.trans c))
 clear hK K hn;have hr1:=f1.lt;refine bm λK hK=>?_
 dsimp only[wS,wE,wA,wV,wG];refine mY (d:=d+4) G f1 λw2 S2 hw2 f2 k2=>?_
 obtain⟨bs0,q0,kvs0,most,rfl,hbs0,m1,m3,m6,hq0,hq0l,h40,hm0⟩:=hw2;dsimp only[wU];refine ae (show dA [2,3,4] [.tup (af bs0),.ref q0,.int most] [ba (.ref r),ba (.int v),gV,gV,gV,gV,gV,gV,gV,gV,gV,gV,gV,gV,gV]=ba [ba (.ref r),ba (.int v),ba (.tup (af bs0)),ba (.ref q0),ba (.int most),gV,gV,gV,gV,gV,gV,gV,gV,gV,gV]from rfl) (hK _ _ ?_)
 clear hK K;refine bm λK hK=>?_
 dsimp only[wS,wE,wA,wV,wG,KD];refine bR (d:=d+5) G.pick f2 (by omega) (by omega) λv3 S3 v30 v3m f3 k3=>?_
 dsimp only[d6,aX];obtain⟨a,ea⟩ : ∃a:Kk,1+v3=a:=⟨(1+v3).toNat,by omega⟩
 rw[ea];refine hK _ _ ?_;clear hK K;refine bm λK hK=>?_
 dsimp only[wS,wE,wA,wV,wG];refine uA (d:=d+4) G (S0:=S1) hbs0 f3 hr1 (k2.trans k3) (k3.get _ _ (by omega) hq0) hq0l h40 (hm0.kp hr1 k3) λbs q kvs S4 hb hbl hq hql hm f4 k4=>?_
 dsimp only[wU];refine ae (show dA [2,3] [.tup (af bs),.ref q] [ba (.ref r),ba (.int v),ba (.tup (af bs0)),ba (.ref q0),ba (.int most),ba (.int a),gV,gV,gV,gV,gV,gV,gV,gV,gV]=ba [ba (.ref r),ba (.int v),ba (.tup (af bs)),ba (.ref q),ba (.int most),ba (.int a),gV,gV,gV,gV,gV,gV,gV,gV,gV]from rfl) (hK _ _ ?_)
 clear hK K;rw[<- hbl]at hm m6;have hn:bs.length=2\/bs.length=3:=by rw[hbl]; exact(Av bs0 hbs0).1
 have hsz:SizeOk a bs:=⟨by omega,hb,by
  have h1:(a:Ky)*bs.length<=most*bs.length:=Int.mul_le_mul_of_nonneg_right (by omega) (by omega)
  exact_mod_cast Int.le_trans h1 m6,by omega⟩
 clear m6 hm0 hq0 hq0l h40 hbl hbs0 k2 k3 f2 f3;refine bm λK hK=>?_
 dsimp only[wS,wE,wA,wV,wG,KD];refine fS (d:=d+1) hfu G f4 (by omega) (by omega) λms ns S5 hml hnl hnm f5 k5=>hK _ _ ?_
 clear hK K;have kk:Kp r S S5:=k1.trans (k4.trans k5);have hrt:=f5.lt;have hq5:S5[q]?=ba (.dic kvs):=k5.get _ _ (by omega) hq
 have hm5:MustE S5 bs.length S1.length kvs:=hm.kp hr1 k5;have hqn:q < S5.length:=dR hq5;clear k1 k4 k5 f4 hm hq hql f1;refine st ?_;dsimp only[wS,wE,KD];refine bm λK hK=>?_
 dsimp only[wS,wE,wA,wV,wG,KD];refine di ?_;rw[show(af bs).length=bs.length from Kc ..]
 refine hK _ _ ?_;clear hK K;refine bm λK hK=>?_
 refine AA (n:=bs.length) (λQ q=>q) (by omega) rfl λj j0 j27 hj=>?_
 refine⟨(λ_ ρ S'=>(∃x9 x10 x11 x12 x13 x14,ρ=[ba (.ref r),ba (.int v),ba (.tup (af bs)),ba (.ref q),ba (.int most),ba (.int a),ba (d7 ms ns bs []),ba (.ref S5.length),ba (.int bs.length),x9,x10,x11,x12,x13,x14])/\(∃kvs fs,S'[S5.length]?=ba (.dic kvs)/\FigD (aP a bs) kvs fs)/\S'[q]?=ba (.dic kvs)/\MustE S' bs.length S1.length kvs/\Fl S' r/\Kp r S S'),⟨⟨_,_,_,_,_,_,rfl⟩,⟨[],[],ah,.nil⟩,ap hq5,hm5.ka .push,f5.ka .push,kk.trans .push⟩,?_,?_⟩
 ·rintro i ρ S6 hi ⟨⟨x9,x10,x11,x12,x13,x14,rfl⟩,⟨kvd,fs,e6,hd⟩,hq6,hm6,f6,k6⟩ Q2 hn2 _;clear hK k;have hnp:(0:Ky) < bs.length:=by omega
  have hnb:(bs.length:Ky) < 1073741824:=by omega
  have y1:0<=(i:Ky) % bs.length/\(i:Ky) % bs.length < bs.length:=⟨MW _ (by omega),MR _ hnp⟩
  have y2:0<=(i:Ky) / bs.length % bs.length/\(i:Ky) / bs.length % bs.length < bs.length:=⟨MW _ (by omega),MR _ hnp⟩
  have y3:0<=(i:Ky) / bs.length / bs.length/\(i:Ky) / bs.length / bs.length < bs.length:=by
   rcases hn with h|h <;> rw[h]at hj ⊢ <;> omega
  refine bm λK hK=>?_
  dsimp only[wS,wE,wA,wV,wG,KD];refine ae (jf hnp) (ae (iM hnp hnb) (ae (jf hnp) ?_));dsimp only[w2];refine hK _ _ ?_;clear hK K;refine bm λK hK=>?_
  dsimp only[wS,wE,wA,wV,wG,KD];refine ae (iM hnp hnb) (ae (iM hnp hnb) (hK _ _ ?_));clear hK K;dsimp only;generalize(i:Ky) % bs.length=z1 at y1 ⊢;generalize(i:Ky) / bs.length % bs.length=z2 at y2 ⊢;generalize(i:Ky) / bs.length / bs.length=z3 at y3 ⊢;refine bm λK hK=>?_
  dsimp only[wS,wT,wA,wE,wV,wG];refine Az (d:=d+4) G hb y1 y2 y3 hq6 hm6 λb S7 k7=>?_
  dsimp only[iE,aX];refine aS (Q0:=Q2) (λ_ Q3 hn3 _=>?_) (λ_ Q3 hn3 _=>dS (hn3 _ _ (hK _ _ (dS (hn2 _ _ ⟨⟨_,_,_,_,_,_,rfl⟩,⟨kvd,fs,k7.get _ _ e6,hd⟩,k7.get _ _ hq6,hm6.ka k7,f6.ka k7,k6.trans (k7.kp r)⟩)))))
  refine bm λK3 hK3=>?_
  refine jn rfl rfl ?_;dsimp only[wE,wA,wV,wG];have h56:S5.length < S6.length:=dR e6;have h67:=k7.len;refine Ar (d:=d+5) G (a:=a) (by omega) λt ts S8 e8 ht ht7 k8=>?_
  refine⟨t,ts.map qt,(λ_ ρ S'=>(∃x9 x13 x14,ρ=[ba (.ref r),ba (.int v),ba (.tup (af bs)),ba (.ref q),ba (.int most),ba (.int a),ba (d7 ms ns bs []),ba (.ref S5.length),ba (.int bs.length),x9,ba (.int z1),ba (.int z2),ba (.int z3),x13,x14])/\(∃kvs fs,S'[S5.length]?=ba (.dic kvs)/\FigD (aP a bs) kvs fs)/\S'[q]?=ba (.dic kvs)/\MustE S' bs.length S1.length kvs/\S'[t]?=ba (.lst (ts.map qt))/\Fl S' r/\Kp r S S'),rfl,⟨⟨_,_,_,rfl⟩,⟨kvd,fs,k8.get _ _ (k7.get _ _ e6),hd⟩,k8.get _ _ (k7.get _ _ hq6),(hm6.ka k7).ka k8,e8,(f6.ka k7).ka k8,k6.trans ((k7.trans k8).kp r)⟩,λi ρ S' h=>h.2.2.2.2.1,?_,?_⟩
  ·rintro j w ρ S9 hw ⟨⟨x9,x13,x14,rfl⟩,⟨kvd,fs,e9,hd⟩,hq9,hm9,ht9,f9,k9⟩;clear hK3 hn3 hK hn2;rw[Km,Kf]at hw;obtain⟨⟨tr1,tr2,tr3⟩,htr,rfl⟩:=hw;obtain⟨t1,t2,t3⟩:=ht _ (Kt htr);refine ae (show ik (.nm 13) (qt (tr1,tr2,tr3)) [ba (.ref r),ba (.int v),ba (.tup (af bs)),ba (.ref q),ba (.int most),ba (.int a),ba (d7 ms ns bs []),ba (.ref S5.length),ba (.int bs.length),x9,ba (.int z1),ba (.int z2),ba (.int z3),x13,x14] S9=ba ([ba (.ref r),ba (.int v),ba (.tup (af bs)),ba (.ref q),ba (.int most),ba (.int a),ba (d7 ms ns bs []),ba (.ref S5.length),ba (.int bs.length),x9,ba (.int z1),ba (.int z2),ba (.int z3),ba (qt (tr1,tr2,tr3)),x14],S9)from rfl) λQ4 hn4 _=>?_
   have hu:GoodW a bs.length [(tr1,[]),(tr2,[z1]),(tr3,[z2,z3])]:=HL t1 t2 t3 y1 y2 y3;refine bm λK hK=>?_
   dsimp only[wS,wE,wA,wV,wG,KD];refine aC (by decide) rfl (aC (by decide) rfl (hK _ _ ?_))
   clear hK K;refine st ?_;dsimp only[wS,wE,wA,wV,wG];refine aC (by decide) rfl (ae (iN (ji rfl)) ?_)
   refine jk (d:=d+3) (m0:=.tup (ms.map W.str)) (b0:=.tup []) (u:=[(tr1,[]),(tr2,[z1]),(tr3,[z2,z3])]) G hb hnl hu rfl λS10 k10=>?_
   have e10:=k10.get _ _ e9;exact An e10 hd hsz hu rfl λo ho=>dS (hn4 _ _ ⟨⟨_,_,_,rfl⟩,ho,by rw[bY (by omega)]; exact k10.get _ _ hq9,(hm9.ka k10).set e10,by rw[bY (by omega)]; exact k10.get _ _ ht9,(f9.ka k10).own hrt,(k9.trans (k10.kp r)).late kk.len⟩)
  ·rintro ρ S9 ⟨⟨x9,x13,x14,rfl⟩,hdd,hq9,hm9,ht9,f9,k9⟩;exact hK3 _ _ (dS (hn3 _ _ (hK _ _ (dS (hn2 _ _ ⟨⟨_,_,_,_,_,_,rfl⟩,hdd,hq9,hm9,f9,k9⟩)))))
 ·rintro ρ S6 ⟨⟨x9,x10,x11,x12,x13,x14,rfl⟩,⟨kvd,fs,e6,hd⟩,hq6,hm6,f6,k6⟩;refine hK _ _ (st ?_);dsimp only[wS,wE,wA,wV,wG];exact Am (Q:=λp=>Q' (.rt p.1,p.2)) e6 hd hsz hml hnl hnm λw S8 hw k8=>k w S8 hw (f6.ka k8) (k6.trans (k8.kp r))
end
noncomputable def Tr:Kk->W->Prop
 | _,.int _=>QP
 | _,.str _=>QP
 | _,.non=>QP
 | n+1,.tup xs=>xs.length<=1000/\∀x∈xs,Tr n x
 | _,_=>LL
theorem jV:∀n:Kk,iH (K7 n (.bl true))=ba (K7 n true)
 | 0=>rfl
 | n+1=>by rw[L6,iH,jV n]; rfl
theorem vR (n:Kk):(K7 n true).all id=true:=by
 rw[KH];intro x hx;rw[(List.mem_replicate.mp hx).2]; rfl
section
variable{defs:J9 (KF×Df)}{fuel:Kk}
theorem C4 (hg:Is defs ("_law_alike" : KF) 2 2 bH):∀(n d:Kk) (w:W) (S:aa) (Q:QW),Tr n w->(∀S',Ka S S'->Q (.bl true,S'))->wO (bN (aq defs fuel (d+n+1)) "_law_alike" 2 [w,w] S) Q:=by
 intro n
 induction n with
 | zero=>
  intro d w S Q hw k;refine aF hg rfl rfl λQ' hR=>?_
  replace k:=hR _ _ (k S .refl);clear hR;show wZ _ _ bH [ba w,ba w] S Q';dsimp only[bH];cases w with
  | int x=>
   refine bm λK hK=>cw (λQ q=>q) (hK _ _ ?_)
   refine bm λK hK=>cw (λQ q=>⟨λz=>(by cases z),λ_=>q⟩) (hK _ _ ?_)
   refine bm λK hK=>lW (λQ q=>q) λQ2 _ hr=>st ?_
   dsimp only[wS,wE,wV,wG];refine ae (show xh S (.int x) "int" = ba true from rfl) ⟨λ_=>?_,λz=>by cases z⟩
   dsimp only[iO,aX];rw[Lp];exact hr _ _ k
  | str x=>
   refine bm λK hK=>cw (λQ q=>q) (hK _ _ ?_)
   refine bm λK hK=>cw (λQ q=>⟨λz=>(by cases z),λ_=>q⟩) (hK _ _ ?_)
   refine bm λK hK=>cw (λQ q=>q) (hK _ _ ?_)
   refine bm λK hK=>lW (λQ q=>q) λQ2 _ hr=>st ?_
   dsimp only[wS,wE,wV,wG];refine ae (show xh S (.str x) "str" = ba true from rfl) ⟨λ_=>?_,λz=>by cases z⟩
   dsimp only[DA,aX];rw[Lp];exact hr _ _ k
  | non=>
   refine bm λK hK=>lW (λQ q=>q) λQ2 _ hr=>st ?_
   dsimp only[wS,wE,wV,wG];exact ae (show dz .is .non .non S=ba (.bl true,S)from rfl) (hr _ _ k)
  | _=>exact hw.elim
 | succ n ih=>
  intro d w S Q hw k;refine aF hg rfl rfl λQ' hR=>?_
  replace k:∀S',Ka S S'->Q' (.rt (.bl true),S'):=λS' a=>hR _ _ (k S' a)
  clear hR;show wZ _ _ bH [ba w,ba w] S Q';dsimp only[bH];cases w with
  | int x=>
   refine bm λK hK=>cw (λQ q=>q) (hK _ _ ?_)
   refine bm λK hK=>cw (λQ q=>⟨λz=>(by cases z),λ_=>q⟩) (hK _ _ ?_)
   refine bm λK hK=>lW (λQ q=>q) λQ2 _ hr=>st ?_
   dsimp only[wS,wE,wV,wG];refine ae (show xh S (.int x) "int" = ba true from rfl) ⟨λ_=>?_,λz=>by cases z⟩
   dsimp only[iO,aX];rw[Lp];exact hr _ _ (k _ .refl)
  | str x=>
   refine bm λK hK=>cw (λQ q=>q) (hK _ _ ?_)
   refine bm λK hK=>cw (λQ q=>⟨λz=>(by cases z),λ_=>q⟩) (hK _ _ ?_)
   refine bm λK hK=>cw (λQ q=>q) (hK _ _ ?_)
   refine bm λK hK=>lW (λQ q=>q) λQ2 _ hr=>st ?_
   dsimp only[wS,wE,wV,wG];refine ae (show xh S (.str x) "str" = ba true from rfl) ⟨λ_=>?_,λz=>by cases z⟩
   dsimp only[DA,aX];rw[Lp];exact hr _ _ (k _ .refl)
  | tup xs=>
   obtain⟨hl,hx⟩:=hw;refine bm λK hK=>cw (λQ q=>q) (hK _ _ ?_)
   refine bm λK hK=>cw (λQ q=>⟨λz=>(by cases z),λ_=>q⟩) (hK _ _ ?_)
   refine bm λK hK=>cw (λQ q=>q) (hK _ _ ?_)
   refine bm λK hK=>cw (λQ q=>q) (hK _ _ ?_)
   refine bm λK hK=>cw (λQ q=>⟨λz=>(by cases z),λ_=>q⟩) (hK _ _ ?_)
   refine st ?_;dsimp only[wS,wE,wA,wV,wG];refine di (di ?_);dsimp only[iO,aX,wB];rw[Lp];refine⟨λ_=>?_,λz=>by cases z⟩
   refine dH (xs.length:Ky) (λi ys ρ2 S2=>(∃a1,ρ2=[gV,a1,ba (.tup xs),ba (.tup xs)])/\ys=K7 i (.bl true)/\Ka S S2) rfl rfl rfl (by omega) ?_ ?_ ?_
   ·dsimp only[wE,wA,wV,wG];exact di ⟨rfl,⟨gV,rfl⟩,rfl,.refl⟩
   ·rintro i ys ρ2 S2 hi ⟨⟨a1,rfl⟩,rfl,k2⟩;have hi':i < xs.length:=by omega
    dsimp only[iQ,wC,wE,wA,wV,wG,KD];refine⟨λ_=>aC (KY i) (by rw[KC]; exact Ko hi') (aC (KY i) (by rw[KC]; exact Ko hi') (ih d _ _ _ (hx _ (Lf hi')) λS3 k3=>⟨⟨_,rfl⟩,?_,k2.trans k3⟩)),λz=>by cases z⟩
    rw[Qt]
   ·rintro ys ρ2 S2 ⟨_,rfl,k2⟩;rw[KC];refine⟨kG (by rw[Op]; exact hl),ae (a:=(.bl true,S2++[.lst (K7 xs.length (.bl true))])) ?_ (k _ (k2.trans .push))⟩
    simp only[Bi.fn,BV,aw ah,jV,Ld,vR]
  | non=>
   refine bm λK hK=>lW (λQ q=>q) λQ2 _ hr=>st ?_
   dsimp only[wS,wE,wV,wG];exact ae (show dz .is .non .non S=ba (.bl true,S)from rfl) (hr _ _ (k _ .refl))
  | _=>exact hw.elim
end
noncomputable def vS:Ss:=
 (.cons (.ite (.cmp .gt (.v 2) (.v 3)) (.cons (.ret (.ix (.ix (.ix (.v 1) (.v 2)) (.c (.int 1))) (.v 3)))
 .nil) .nil)
 (.cons (.ret (.ix (.ix (.ix (.v 0) (.c (.int 1))) (.ix (.ix (.ix (.v 1) (.v 3)) (.c (.int 1))) (.v 2))) (.c (.int 1))))
 .nil))
noncomputable def eu:Ss:=
 (.cons (.ret (.tup (.cons (.ix (.ix (.v 1) (.v 3)) (.c (.int 0))) (.cons (.bi .tuple (.cons (.comp (.own "way" 4 (.cons (.v 3) (.cons (.v 4) (.cons (.v 2) (.cons (.v 1) .nil))))) (.nm 1) (.seq (.v 2)) .nil [gV,gV,ba 3,ba 0,ba 1]) .nil)) .nil))))
 .nil)
noncomputable def cC:Ss:=
 (.cons (.set 2 (.lst (.cons (.tup .nil) .nil)))
 (.cons (.loop (.nm 3) (.rng (.cons (.v 1) .nil)) (.cons (.set 2 (.comp (.op .add (.ix (.v 3) (.op .fdiv (.v 1) (.v 2))) (.tup (.cons (.op .mod (.v 1) (.v 2)) .nil))) (.nm 1) (.rng (.cons (.op .mul (.bi .len (.cons (.v 2) .nil)) (.v 0)) .nil)) .nil [gV,gV,ba 0,ba 2]))
 .nil))
 (.cons (.ret (.v 2))
 .nil)))
noncomputable def dk:Ss:=
 (.cons (.set 2 (.lst (.cons (.tup .nil) .nil)))
 (.cons (.loop (.nm 3) (.rng (.cons (.v 1) .nil)) (.cons (.set 4 (.lst .nil))
 (.cons (.loop (.nm 5) (.rng (.cons (.bi .len (.cons (.ix (.v 0) (.c (.int 0))) .nil)) .nil)) (.cons (.ex (.me .extend (.v 4) (.cons (.comp (.tup (.cons (.v 2) (.cons (.v 1) .nil))) (.nm 1) (.seq (.own "_law_digits" 2 (.cons (.bi .len (.cons (.ix (.v 0) (.c (.int 1))) .nil)) (.cons (.v 3) .nil)))) .nil [gV,gV,ba 5]) .nil)))
 .nil))
 (.cons (.set 2 (.comp (.op .add (.ix (.v 3) (.op .fdiv (.v 1) (.bi .len (.cons (.v 2) .nil)))) (.tup (.cons (.ix (.v 2) (.op .mod (.v 1) (.bi .len (.cons (.v 2) .nil)))) .nil))) (.nm 1) (.rng (.cons (.op .mul (.bi .len (.cons (.v 2) .nil)) (.bi .len (.cons (.v 4) .nil))) .nil)) .nil [gV,gV,ba 4,ba 2]))
 .nil))))
 (.cons (.ret (.v 2))
 .nil)))
section
variable{defs:J9 (KF×Df)}{fuel d:Kk}{S:aa}{r:Kk}{Q:QW}
theorem AC {Φ:KF->FF}{m0 b0:W}{ns:J9 KF}{bs:J9 Ky}{a:Kk}{u:Wd}{i j:Kk}{Q:QO}(hb:GoodB bs)(hl:ns.length=bs.length)(hu:GoodW a bs.length u)(hi:i < u.length)(hj:j < u.length)(hij:i≠j)(k:Q (.rt (.int (dw bs u i j)),S)) :
  wZ Φ fuel vS [ba (.tup [m0,.tup (KZ cu ns bs),b0]),ba (bA u),ba (.int i),ba (.int j)] S Q:=by
 have hpi:=ay (d:=(0,[])) hi;have hpj:=ay (d:=(0,[])) hj;unfold dw at k;dsimp only[vS];refine bm λK hK=>?_
 dsimp only[wS,wT,wE,wV,wG,Hw,wO,wB,bA];refine aS (Q0:=Q) (λh Q2 _ hr=>?_) (λh Q2 hn _=>?_)
 ·have hji:j < i:=by have:=Lm h; omega
  rw[KJ hji]at k;have hw:j < (u.getD i (0,[])).2.length:=by rw[hu.len i _ hpi]; exact hji
  refine st ?_;dsimp only[wS,wE,wV,wG];refine aC (KY i) (oP hi) (aC (by decide) rfl (aC (KY j) ?_ (hr _ _ k)))
  rw[KC,Km,ay (d:=0) hw]; rfl
 ·have hji:¬ j < i:=by have:=Nr h; omega
  rw[KW hji]at k;refine dS (hn _ _ (hK _ _ ?_));clear hn hK;have hw:i < (u.getD j (0,[])).2.length:=by rw[hu.len j _ hpj]; omega
  have hg:=ay (d:=0) hw;obtain⟨g1,g2⟩:=hu.way j _ hpj _ (Kt hg);obtain⟨b,hb1,hb2,hb3⟩:=hb.rng ((u.getD j (0,[])).2.getD i 0).toNat (by omega)
  have hn:((u.getD j (0,[])).2.getD i 0).toNat < ns.length:=by omega
  rw[getD_some hb1]at k;refine st ?_;dsimp only[wS,wE,wV,wG];refine aC (by decide) rfl (aC (KY j) (oP hj) (aC (by decide) rfl (aC (KY i) ?_ (aC g1 (qh (Ko hn) hb1) (aC (by decide) rfl k)))))
  rw[KC,Km,hg]; rfl
structure Parts (defs:J9 (KF×Df)):Prop where
 way:Is defs ("way" : KF) 4 4 vS
 over:Is defs ("point_over" : KF) 4 4 eu
theorem HM (P:Parts defs){m0 b0:W}{ns:J9 KF}{bs:J9 Ky}{a:Kk}{u:Wd}{i j:Kk}(hb:GoodB bs)(hl:ns.length=bs.length)(hu:GoodW a bs.length u)(hi:i < u.length)(hj:j < u.length)(hij:i≠j)(k:Q (.int (dw bs u i j),S)) :
  wO (bN (aq defs fuel (d+1)) "way" 4 [.tup [m0,.tup (KZ cu ns bs),b0],bA u,.int i,.int j] S) Q:=
 aF P.way rfl rfl λQ' hR=>AC hb hl hu hi hj hij (hR _ _ k)
theorem Fw (P:Parts defs){m0 b0:W}{ns:J9 KF}{bs:J9 Ky}{a:Kk}{u:Wd}{ps:J9 Kk}{i:Kk}(hb:GoodB bs)(hl:ns.length=bs.length)(hu:GoodW a bs.length u)(hps:∀p∈ps,p < u.length/\i≠p)(hi:i < u.length)(hsz:ps.length<=1000)(k:∀S',Ka S S'->Q (cM ((u.getD i (0,[])).1,ps.map λq=>dw bs u i q),S')) :
  wO (bN (aq defs fuel (d+2)) "point_over" 4 [.tup [m0,.tup (KZ cu ns bs),b0],bA u,.tup (aI ps),.int i] S) Q:=by
 refine aF P.over rfl rfl λQ' hR=>?_
 replace k:∀S',Ka S S'->Q' (.rt (cM ((u.getD i (0,[])).1,ps.map λq=>dw bs u i q)),S'):=λS' a=>hR _ _ (k S' a)
 clear hR;show wZ _ _ eu [ba (.tup [m0,.tup (KZ cu ns bs),b0]),ba (bA u),ba (.tup (aI ps)),ba (.int i)] S Q';generalize hR0:W.tup [m0,.tup (KZ cu ns bs),b0]=R;dsimp only[eu];refine st ?_;dsimp only[wS,wE,wA,wV,wG];refine aC (KY i) (oP hi) (aC (by decide) rfl ?_)
 refine vH (aI ps) (λj ys ρ2 S2=>(∃a1,ρ2=[gV,a1,ba (.int i),ba R,ba (bA u)])/\ys=(ps.take j).map (λq=>W.int (dw bs u i q))/\Ka S S2) rfl rfl rfl ⟨rfl,⟨gV,rfl⟩,rfl,.refl⟩ ?_ ?_
 ·rintro j w ys ρ2 S2 hw ⟨⟨a1,rfl⟩,rfl,k2⟩;unfold aI at hw;rw[Km,Kf]at hw;obtain⟨q,hq,rfl⟩:=hw;obtain⟨hqu,hqi⟩:=hps q (Kt hq);refine ae (show ik (.nm 1) (.int (q:Ky)) [gV,a1,ba (.int i),ba R,ba (bA u)] S2=ba ([gV,ba (.int (q:Ky)),ba (.int i),ba R,ba (bA u)],S2)from rfl) ?_
  dsimp only[iQ,wC,wE,wA,wV,wG];subst hR0;refine⟨λ_=>HM (d:=d) P hb hl hu hi hqu hqi ⟨⟨_,rfl⟩,?_,k2⟩,λz=>by cases z⟩
  rw[Lg,hq];simp
 ·rintro ys ρ2 S2 ⟨_,rfl,k2⟩;rw[show(aI ps).length=ps.length from Kc ..,Lw]
  refine⟨kG (by rw[Kc]; exact hsz),fX ah ?_⟩
  have:=k _ (k2.trans (Ka.push (o:=O.lst (ps.map λq=>W.int (dw bs u i q)))))
  unfold cM at this;rw[Mg]at this;exact this
end
noncomputable def bn (n:Kk):Kk->J9 (J9 Ky)
 | 0=>[[]]
 | k+1=>(KS ((bn n k).length*n)).map λi=>(bn n k).getD (i / n) []++[((i % n:Kk):Ky)]
noncomputable def bC (a n k:Kk):J9 Pt:=(KS a).flatMap λ(m:Kk)=>(bn n k).map λds=>(((m:Kk):Ky),ds)
noncomputable def aY (a n:Kk):Kk->J9 Wd
 | 0=>[[]]
 | k+1=>(KS ((aY a n k).length*(bC a n k).length)).map λi=>(aY a n k).getD (i / (bC a n k).length) []++[(bC a n k).getD (i % (bC a n k).length) (0,[])]
theorem vT {n k:Kk}{ds:J9 Ky}:ds∈bn n k->ds.length<=k:=by
 induction k generalizing ds with
 | zero=>intro h; cases Kx.mp h; exact Kn _
 | succ k ih=>
  intro h;obtain⟨i,hi,rfl⟩:=Kw.mp h;have hi:=K6.mp hi;have hn:0 < n:=by
   rcases O3 n with h|h
   ·rw[h,PX]at hi; omega
   ·exact h
  have hlt:i / n < (bn n k).length:=MD (by rw[NN]; exact hi)
  have:=ih (Kt (ay (d:=[]) hlt));rw[Ks,LW]; omega
theorem DH {Φ:KF->FF}{ρ:Fm}{S:aa}{a b:E}{x y:Ky}{Q:QW}(ha:∀Q:QW,Q (.int x,S)->wE Φ a ρ S Q)(hb:∀Q:QW,Q (.int y,S)->wE Φ b ρ S Q)(h1 : -(2 ^ 64) < y)(h2:y < 2 ^ 64)(q:Q (.int (x*y),S)):wE Φ (.op .mul a b) ρ S Q:=by
 have em:gf .mul (.int x) (.int y) S=ba (.int (x*y),S):=sh h1 h2;dsimp only[wE];refine ha _ ?_;refine hb _ ?_;dsimp only;rw[em];exact q
theorem dE {n:Kk}:∀k:Kk,(bn n k).length=n ^ k
 | 0=>rfl
 | k+1=>by rw[bn,Kc,KU,dE k,Tl]
theorem AD {n k:Kk}(hn:n<=3)(hk:k<=5):(bn n k).length<=243/\(k<=4->(bn n k).length<=81):=by
 rw[dE];exact⟨KT (Nc hn k) (M3 (n:=3) (by decide) hk),λh=>KT (Nc hn k) (M3 (n:=3) (by decide) h)⟩
section
variable{defs:J9 (KF×Df)}{fuel d:Kk}{S:aa}{r:Kk}{Q:QW}
theorem AE (hg:Is defs ("_law_digits" : KF) 2 4 cC){n k:Kk}(hn1:1<=n)(hn3:n<=3)(hk5:k<=5)(kk:∀(q:Kk) (S':aa),S'[q]?=ba (.lst ((bn n k).map λds=>.tup (af ds)))->S.length<=q->Ka S S'->Q (.ref q,S')) :
  wO (bN (aq defs fuel (d+1)) "_law_digits" 2 [.int n,.int k] S) Q:=by
 refine aF hg rfl rfl λQ' hR=>?_
 replace kk:∀(q:Kk) (S':aa),S'[q]?=ba (.lst ((bn n k).map λds=>.tup (af ds)))->S.length<=q->Ka S S'->Q' (.rt (.ref q),S'):=λa b c e f=>hR _ _ (kk a b c e f)
 clear hR;show wZ _ _ cC [ba (.int n),ba (.int k),gV,gV] S Q';dsimp only[cC];refine st ?_;dsimp only[wS,wE,wA,KD];refine bm λK hK=>?_
 refine eg (k:Ky) (λi ρ S'=>∃(q:Kk) (a3:Ki W),ρ=[ba (.int n),ba (.int k),ba (.ref q),a3]/\S'[q]?=ba (.lst ((bn n i).map λds=>.tup (af ds)))/\S.length<=q/\Ka S S') rfl rfl (by omega) ⟨rfl,_,_,rfl,ah,Kn _,.push⟩ ?_ ?_
 ·rintro i ρ S1 hi ⟨q,a3,rfl,e1,hq,k1⟩ Q2 hn _;clear hK kk;obtain⟨b9,b3⟩:=AD (n:=n) (k:=i) hn3 (by omega)
  have b3:=b3 (by omega)
  have hP:(bn n i).length*n<=243:=O4 b3 hn3;have hPz:(((bn n i).length:Ky)*(n:Ky))=(((bn n i).length*n:Kk):Ky):=(P1 ..).symm;refine st ?_;dsimp only[wS,wE,KD];refine dH ((((bn n i).length*n:Kk)):Ky) (λj ys ρ2 S2=>(∃a1,ρ2=[gV,a1,ba (.int n),ba (.ref q)])/\ys=((bn n (i+1)).take j).map (λds=>.tup (af ds))/\S2=S1) rfl rfl rfl (by omega) ?_ ?_ ?_
  ·refine DH (x:=(bn n i).length) (y:=n) (λQ q=>?_) (λQ q=>q) (by omega) (by omega) ⟨by rw[hPz],⟨gV,rfl⟩,rfl,rfl⟩
   dsimp only[wE,wA,wV,wG];refine fW e1 ?_;rw[Kc];exact q
  ·rintro j ys ρ2 S2 hj ⟨⟨a1,rfl⟩,rfl,rfl⟩;have hj':j < (bn n i).length*n:=by omega
   have hlt:j / n < (bn n i).length:=MD (by rw[NN]; exact hj')
   have hg:=ay (d:=[]) hlt;have hdl:=vT (Kt hg);dsimp only[iQ,wC,wE,wA,wV,wG,KD];refine⟨λ_=>ae (iM (by omega) (by omega)) ?_,λz=>by cases z⟩
   refine gx e1 (w:=.tup (af ((bn n i).getD (j / n) []))) (OG (by omega) (by omega)) (by rw[show((j:Ky) / (n:Ky)).toNat=j / n from rfl,Km,hg]; rfl) ?_
   refine ae (jf (by omega)) (ae (iN (kG (by rw[Ks,show(af ((bn n i).getD (j / n) [])).length=((bn n i).getD (j / n) []).length from Kc ..]; show _+1<=1000; omega))) ⟨⟨_,rfl⟩,?_,rfl⟩)
   have ed:(bn n (i+1))[j]?=ba ((bn n i).getD (j / n) []++[((j % n:Kk):Ky)]):=by
    rw[bn,Km,MK hj']; rfl
   rw[Lg,ed];simp[af]
  ·rintro ys ρ2 S2 ⟨_,rfl,rfl⟩;have hl:(bn n (i+1)).length=(bn n i).length*n:=by rw[bn,Kc,KU]
   rw[KC,<- hl,Lw];refine⟨kG (by rw[Kc,hl]; omega),dS (hn _ _ ⟨_,_,rfl,ah,k1.len,k1.trans .push⟩)⟩
 ·rintro ρ S1 ⟨q,a3,rfl,e1,hq,k1⟩;exact hK _ _ (st (kk q S1 (by rw[KC]at e1; exact e1) hq k1))
end
theorem vU {a n k:Kk}{u:Wd}:u∈aY a n k->u.length<=k:=by
 induction k generalizing u with
 | zero=>intro h; cases Kx.mp h; exact Kn _
 | succ k ih=>
  intro h;obtain⟨i,hi,rfl⟩:=Kw.mp h;have hi:=K6.mp hi;have hlt:i / (bC a n k).length < (aY a n k).length:=MD (by rw[NN]; exact hi)
  have:=ih (Kt (ay (d:=[]) hlt));rw[Ks,LW]; omega
theorem mf {a n k:Kk}:(bC a n k).length=a*n ^ k:=by
 unfold bC
 induction a with
 | zero=>simp
 | succ a ih=>rw[N5,Nd,Ks,ih]; simp[dE,Rk]
theorem cX {a n:Kk}(k:Kk):(aY a n (k+1)).length=(aY a n k).length*(bC a n k).length:=by rw[aY,Kc,KU]
theorem gB {a n k:Kk}(ha1:1<=a)(ha:a<=3)(hn1:1<=n)(hn:n<=3)(han:a*n<=6)(hk:k<=2):1<=(bC a n k).length/\(bC a n k).length<=27/\(aY a n k).length*(bC a n k).length<=216:=by
 have w0:(aY a n 0).length=1:=rfl;have w1:=cX (a:=a) (n:=n) 0;have w2:=cX (a:=a) (n:=n) 1;simp only[mf]at w1 w2 ⊢;rcases(show k=0\/k=1\/k=2 by omega)with rfl|rfl|rfl <;> rcases(show a=1\/a=2\/a=3 by omega)with rfl|rfl|rfl <;> rcases(show n=1\/n=2\/n=3 by omega)with rfl|rfl|rfl <;> simp_all
theorem mh {Φ:KF->FF}{ρ:Fm}{S:aa}{elt e:E}{tg:Tg}{cs:Es}{cap:J9 (Ki Kk)}{Q:QW}(oi:eC e=true)(oe:eC elt=true)(oc:qR cs=true)(he:wE Φ e ρ S λp=>∃(t:Kk) (xs:J9 W) (I:Kk->J9 W->Fm->aa->Prop),p.1=.ref t/\I 0 [] (fN cap ρ) p.2/\(∀i ys ρ S,I i ys ρ S->S[t]?=ba (.lst xs))/\
  (∀(i:Kk) (w:W) (ys:J9 W) (ρ:Fm) (S:aa),xs[i]?=ba w->I i ys ρ S->wO (ik tg w ρ S) λq=>iQ Φ elt cs q.1 q.2 (λy=>I (i+1) (ys++[y])) (I (i+1) ys))/\
  ∀ys ρ S,I xs.length ys ρ S->ys.length<=sizeLine/\Q (.ref S.length,S++[.lst ys])):Wp (aE Φ (.comp elt tg (.seq e) cs cap) ρ S) Q:=by
 obtain⟨w,S1,e1,t,xs,I,rfl,h0,hat,hstep,hend⟩:=cv oi he;exact lV (mi:=.live t) (S1:=S1) I oe oc (by simp only[la,fU,e1,aw (hat _ _ _ _ h0)]) (λi ys ρ S h=>by simp only[MI.at,aw (hat _ _ _ _ h)]) (by simp only[MI.len,aw (hat _ _ _ _ h0),Ld]) h0 hstep hend
section
variable{defs:J9 (KF×Df)}{fuel d:Kk}{S:aa}{r:Kk}{Q:QW}
theorem vV {t l:Kk}{xs ys:J9 W}(h:S[t]?=ba (.lst xs))(h2:S[l]?=ba (.lst ys))(hl:xs.length+ys.length<=1000)(q:Q (.non,S.set t (.lst (xs++ys)))):wO (Me.extend.fn (.ref t) [.ref l] S) Q:=by
 refine ae ?_ q;simp only[Me.fn,i4,dF h,dF h2];rw[KJ (kG hl)]
theorem AF (hd:Is defs ("_law_digits" : KF) 2 4 cC)(hg:Is defs ("_law_worlds" : KF) 2 6 dk){a n:Kk}{M N:J9 W}{b0:W}(hM:M.length=a)(hN:N.length=n)(ha1:1<=a)(ha3:a<=3)(hn1:1<=n)(hn3:n<=3)(han:a*n<=6)
  (kk:∀(q:Kk) (S':aa),S'[q]?=ba (.lst ((aY a n 3).map bA))->S.length<=q->Ka S S'->Q (.ref q,S')) :
  wO (bN (aq defs fuel (d+2)) "_law_worlds" 2 [.tup [.tup M,.tup N,b0],.int 3] S) Q:=by
 refine aF hg rfl rfl λQ' hR=>?_
 replace kk:∀(q:Kk) (S':aa),S'[q]?=ba (.lst ((aY a n 3).map bA))->S.length<=q->Ka S S'->Q' (.rt (.ref q),S'):=λa b c e f=>hR _ _ (kk a b c e f)
 clear hR;show wZ _ _ dk [ba (.tup [.tup M,.tup N,b0]),ba (.int 3),gV,gV,gV,gV] S Q';generalize hR0:W.tup [.tup M,.tup N,b0]=R;dsimp only[dk];refine st ?_;dsimp only[wS,wE,wA,KD];refine bm λK hK=>?_
 refine eg 3 (λi ρ S'=>∃(q:Kk) (a3 a4 a5:Ki W),ρ=[ba R,ba (.int 3),ba (.ref q),a3,a4,a5]/\S'[q]?=ba (.lst ((aY a n i).map bA))/\S.length<=q/\Ka S S') rfl rfl (by decide) ⟨rfl,_,_,_,_,rfl,ah,Kn _,.push⟩ ?_ ?_
 ·rintro i ρ S1 hi ⟨q,a3,a4,a5,rfl,e1,hq,k1⟩ Q2 hn _;clear hK kk;have hi2:i<=2:=by omega
  obtain⟨p1,p27,hP⟩:=gB (k:=i) ha1 ha3 hn1 hn3 han hi2;have hq1:=dR e1;refine st ?_;dsimp only[wS,wE,wA,KD];refine bm λK hK=>?_
  refine jm rfl rfl ?_;dsimp only[wE,wA,wV,wG];subst hR0;refine aC (by decide) rfl (di ?_)
  rw[hM];refine⟨(a:Ky),λm ρ S'=>∃a5,ρ=[ba (.tup [.tup M,.tup N,b0]),ba (.int 3),ba (.ref q),ba (.int i),ba (.ref S1.length),a5]/\S'[S1.length]?=ba (.lst ((bC m n i).map cM))/\S'[q]?=ba (.lst ((aY a n i).map bA))/\Ka S S',rfl,by omega,⟨a5,rfl,ah,ap e1,k1.trans .push⟩,?_,?_⟩
  ·rintro m ρ S2 hm ⟨a5,rfl,e2,e2q,k2⟩ Q3 hn3' _;clear hK hn;have hS12:=dR e2;refine st ?_;dsimp only[wS,wE,wA,wV,wG,KD];refine⟨dg e2,?_⟩;refine mh rfl rfl rfl ?_;dsimp only[wE,wA,wV,wG];refine aC (by decide) rfl (di ?_)
   rw[hN];refine AE (d:=d) hd hn1 hn3 (by omega) λl S3 e3 hl k3=>?_
   refine⟨l,(bn n i).map λds=>.tup (af ds),λj ys ρ2 S4=>(∃a1,ρ2=[gV,a1,ba (.int m)])/\ys=((bn n i).take j).map (λds=>cM ((m:Ky),ds))/\S4=S3,rfl,⟨⟨gV,rfl⟩,rfl,rfl⟩,λj ys ρ2 S4 h=>by rw[h.2.2]; exact e3,?_,?_⟩
   ·rintro j w ys ρ2 S4 hw ⟨⟨a1,rfl⟩,rfl,rfl⟩;rw[Km,Kf]at hw;obtain⟨ds,hds,rfl⟩:=hw;refine ae (show ik (.nm 1) (.tup (af ds)) [gV,a1,ba (.int m)] S4=ba ([gV,ba (.tup (af ds)),ba (.int m)],S4)from rfl) ?_
    refine⟨λ_=>⟨⟨_,rfl⟩,?_,rfl⟩,λz=>by cases z⟩
    rw[Lg,hds];simp[cM,af]
   ·rintro ys ρ2 S4 ⟨_,rfl,rfl⟩;rw[show((bn n i).map λds=>W.tup (af ds)).length=(bn n i).length from Kc ..,Lw]
    have hdl:=(AD (n:=n) (k:=i) hn3 (by omega)).1
    have e2':=ap (u:=O.lst ((bn n i).map λds=>cM ((m:Ky),ds))) (k3.get _ _ e2)
    have hpm:(bC m n i).length<=27:=by
     rw[mf]at p27 ⊢;exact KT (NK _ (by omega)) p27
    refine⟨kG (by rw[Kc]; omega),vV e2' ah (by rw[Kc,Kc]; omega) (dS (hn3' _ _ ⟨_,rfl,?_,?_,((k2.trans k3).trans .push).late k1.len⟩))⟩
    ·rw[bX e2'];unfold bC;rw[N5,Nd,Le];simp
    ·rw[bY (by omega)]; exact ap (k3.get _ _ e2q)
  ·rintro ρ S2 ⟨a5,rfl,e2,e2q,k2⟩;rw[KC]at e2;refine hK _ _ ?_;clear hK K;have hPz:(((aY a n i).length:Ky)*((bC a n i).length:Ky))=(((aY a n i).length*(bC a n i).length:Kk):Ky):=(P1 ..).symm;refine st ?_;dsimp only[wS,wE,KD];refine dH (((aY a n i).length*(bC a n i).length:Kk):Ky) (λj ys ρ2 S3=>(∃a1,ρ2=[gV,a1,ba (.ref S1.length),ba (.ref q)])/\ys=((aY a n (i+1)).take j).map bA/\S3=S2) rfl rfl rfl (by omega) ?_ ?_ ?_
   ·refine DH (x:=(aY a n i).length) (y:=(bC a n i).length) (λQ q'=>?_) (λQ q'=>?_) (by omega) (by omega) ⟨by rw[hPz],⟨gV,rfl⟩,rfl,rfl⟩
    ·dsimp only[wE,wA,wV,wG];refine fW e2q ?_;rw[Kc];exact q'
    ·dsimp only[wE,wA,wV,wG];refine fW e2 ?_;rw[Kc];exact q'
   ·rintro j ys ρ2 S3 hj ⟨⟨a1,rfl⟩,rfl,rfl⟩;have hj':j < (aY a n i).length*(bC a n i).length:=by omega
    have hlt:j / (bC a n i).length < (aY a n i).length:=MD (by rw[NN]; exact hj')
    have hg:=ay (d:=[]) hlt;have hwl:=vU (Kt hg);have hmod:j % (bC a n i).length < (bC a n i).length:=PP _ p1;have hp:=ay (d:=(0,[])) hmod;dsimp only[iQ,wC,wE,wA,wV,wG,KD];refine⟨λ_=>fW e2 ?_,λz=>by cases z⟩
    rw[Kc];refine ae (iM (by omega) (by omega)) ?_
    refine gx e2q (w:=bA ((aY a n i).getD (j / (bC a n i).length) [])) (OG (by omega) (by omega)) (by rw[show((j:Ky) / ((bC a n i).length:Ky)).toNat=j / (bC a n i).length from rfl,Km,hg]; rfl) (fW e2 ?_)
    rw[Kc];refine ae (jf (by omega)) (gx e2 (w:=cM ((bC a n i).getD (j % (bC a n i).length) (0,[]))) (MW _ (by omega)) (by rw[show((j:Ky) % ((bC a n i).length:Ky)).toNat=j % (bC a n i).length from rfl,Km,hp]; rfl) ?_)
    refine ae (iN (kG (by rw[Ks,Kc]; show _+1<=1000; omega))) ⟨⟨_,rfl⟩,?_,rfl⟩
    have ed:(aY a n (i+1))[j]?=ba ((aY a n i).getD (j / (bC a n i).length) []++[(bC a n i).getD (j % (bC a n i).length) (0,[])]):=by
     rw[aY,Km,MK hj']; rfl
    rw[Lg,ed];simp[bA]
   ·rintro ys ρ2 S3 ⟨_,rfl,rfl⟩;rw[KC,<- cX,Lw];exact⟨kG (by rw[Kc,cX]; omega),dS (hn _ _ ⟨_,_,_,_,rfl,ah,k2.len,k2.trans .push⟩)⟩
 ·rintro ρ S1 ⟨q,a3,a4,a5,rfl,e1,hq,k1⟩;exact hK _ _ (st (kk q S1 e1 hq k1))
end
noncomputable def d0 (a:Kk)(bs:J9 Ky):J9 Wd:=(aY a bs.length 3).map (fZ bs)
noncomputable def cx (a:Kk)(bs:J9 Ky):KP:=match kq ((d0 a bs).map bU)with
 | some ks=>decide ks.Nodup && !ks.isEmpty&&decide (ks.length=(aP a bs).length)
 | none=>false
theorem JF:cx 1 [0]=true/\cx 2 [0]=true/\cx 3 [0]=true:=by decide +kernel
theorem Io:cx 1 [0,1]=true/\cx 2 [0,1]=true/\cx 1 [1,0]=true/\cx 2 [1,0]=true:=by decide +kernel
theorem JG:cx 1 [0,1,2]=true/\cx 1 [1,0,2]=true/\cx 1 [0,2,1]=true:=by decide +kernel
theorem JH:cx 3 [0,1]=true:=by decide +kernel
theorem JI:cx 3 [1,0]=true:=by decide +kernel
theorem JJ:cx 2 [0,1,2]=true:=by decide +kernel
theorem JK:cx 2 [1,0,2]=true:=by decide +kernel
theorem JL:cx 2 [0,2,1]=true:=by decide +kernel
noncomputable def oV (bs:J9 Ky)(v:Wd)(ps:J9 Kk)(i:Kk):Pt:=((v.getD i (0,[])).1,ps.map λq=>dw bs v i q)
noncomputable def aL (n:Kk)(os:J9 (J9 Kk)):J9 (J9 Kk):=os.flatMap λo=>((KS n).filter λp=>decide (p∉o)).map λp=>o++[p]
theorem jW (bs:J9 Ky)(v:Wd)(o:J9 Kk)(p:Kk):au bs v (o++[p])=au bs v o++[oV bs v o p]:=by
 unfold au oV;rw[Ks,LW,N5,Le];congr 1
 ·refine LO λk hk=>?_
  have hk:=K6.mp hk;rw[show(o++[p]).getD k 0=o.getD k 0 by simp[Lk hk],List.take_append_of_le_length (by omega)]
 ·simp
theorem jp {n:Kk}:∀os:J9 (J9 Kk),(aL n os).length<=os.length*n
 | []=>by simp[aL]
 | o::os=>by
  have ih:=jp (n:=n) os;unfold aL at ih ⊢;rw[Pj,Ks,Kc,Li,Rk];have:=Mx (λp=>decide (p∉o)) (KS n)
  rw[KU]at this;omega
theorem xy {n:Kk}{os:J9 (J9 Kk)}{i:Kk}:(aL n (os.take i)).length<=os.length*n:=by
 refine KT (jp _) (NK _ ?_);rw[LJ]; omega
theorem oW {S:aa}{d:Kk}:∀xs ys:J9 Ky,iB (kh S d) (xs.map W.int) (ys.map W.int)=ba (decide (xs=ys))
 | [],[]=>rfl
 | [],_::_=>rfl
 | _::_,[]=>rfl
 | x::xs,y::ys=>by
  have e:kh S d (.int x) (.int y)=ba (x==y):=by cases d <;> rfl
  simp only[LF,iB,e,oW xs ys]
  by_cases h:x=y
  ·subst h; by_cases h2:xs=ys <;> simp[h2]
  ·have h':(x==y)=false:=by simpa using h
   simp[h,h']
theorem AG {S:aa}{d:Kk}(p q:Pt):kh S (d+2) (cM p) (cM q)=ba (decide (p=q)):=by
 obtain⟨m,ws⟩:=p;obtain⟨m',ws'⟩:=q;show iB (kh S (d+1)) [.int m,.tup (ws.map W.int)] [.int m',.tup (ws'.map W.int)]=_;have e:kh S (d+1) (.int m) (.int m')=ba (m==m'):=rfl;have e2:kh S (d+1) (.tup (ws.map W.int)) (.tup (ws'.map W.int))=ba (decide (ws=ws')):=oW ws ws';simp only[iB,e,e2]
 by_cases h:m=m'
 ·subst h; by_cases h2:ws=ws' <;> simp[h2]
 ·have h':(m==m')=false:=by simpa using h
  simp[h,h']
theorem sJ {S:aa}{d:Kk}:∀u v:Wd,iB (kh S (d+2)) (u.map cM) (v.map cM)=ba (decide (u=v))
 | [],[]=>rfl
 | [],_::_=>rfl
 | _::_,[]=>rfl
 | x::xs,y::ys=>by
  simp only[LF,iB,AG,sJ xs ys]
  by_cases h:x=y
  ·subst h; by_cases h2:xs=ys <;> simp[h2]
  ·simp[h]
theorem HN {S:aa}{p q:Pt}:dz .eq (cM p) (cM q) S=ba (.bl (decide (p=q)),S):=by
 show(kh S (18+2) (cM p) (cM q)).map _=_;rw[AG]; rfl
theorem Fx {S:aa}{u v:Wd}:dz .eq (bA u) (bA v) S=ba (.bl (decide (u=v)),S):=by
 show(iB (kh S (17+2)) (u.map cM) (v.map cM)).map _=_;rw[sJ]; rfl
theorem sK {p:Kk}:∀ps:J9 Kk,((aI ps).any λz=>AZ z (.int p))=decide (p∈ps)
 | []=>rfl
 | q::ps=>by
  show((q:Ky)==(p:Ky)||(aI ps).any _)=_
  rw[sK ps]
  by_cases h:q=p
  ·subst h; simp
  ·have h1:((q:Ky)==(p:Ky))=false:=by simp; omega
   have h2:¬ p=q:=λe=>h e.symm
   rw[h1]; simp[h2]
theorem xz (ps:J9 Kk):(aI ps).all cG=true:=by
 rw[KH];intro x hx;obtain⟨p,_,rfl⟩:=Kw.mp hx;rfl
theorem AH {S:aa}{p:Kk}{ps:J9 Kk}:dz .notin (.int p) (.tup (aI ps)) S=ba (.bl (decide (p∉ps)),S):=by
 show iY .notin (.int p) (.tup (aI ps)) S=_;have hf:(cG (.int p)&&(aI ps).all cG)=true:=by rw[xz]; rfl
 simp only[iY,F1,Dl,fD,hf,L7,Ld,sK];congr 3
 by_cases h:p∈ps <;> simp[h]
theorem AI {xs:J9 W}:jE xs gV (ba (-1))=xs.dropLast:=by
 unfold jE;rw[HT.lm,Qn,Tk,List.dropLast_eq_take];congr 1;show(if (-1:Ky) < 0 then((-1:Ky)+(xs.length:Ky)).toNat else min (-1:Ky).toNat xs.length)=_
 rw[KJ (by decide)]; omega
theorem xA (ps:J9 Kk):(aI ps).dropLast=aI ps.dropLast:=by unfold aI; rw[List.map_dropLast]
theorem C5 {S:aa}{ps:J9 Kk}(h:ps≠[]):qQ (.tup (aI ps)) (.int (-1)) S=ba (.int (ps.getLastD 0:Kk),S):=by
 have hl:(aI ps).length=ps.length:=Kc ..;have hp:0 < ps.length:=QF.mpr h;have hs:uK (aI ps).length (-1)=ba (ps.length - 1):=by
  rw[hl];unfold uK;rw[KW (by decide)]
  exact(KJ (by omega)).trans (by congr 1; omega)
 have hg:(aI ps)[ps.length - 1]?=ba (.int (ps.getLastD 0:Kk)):=by
  refine qk ?_;rw[List.getLastD_eq_getLast?,List.getLast?_eq_getElem?];have:ps.length - 1 < ps.length:=by omega
  simp[this]
 simp only[qQ,wu,qX,hs,hg,Option.bind_some,Ld]
noncomputable def bE:Ss:=
 (.cons (.set 2 (.lst .nil))
 (.cons (.loop (.nm 3) (.seq (.v 0)) (.cons (.ex (.me .extend (.v 2) (.cons (.comp (.op .add (.v 2) (.tup (.cons (.v 1) .nil))) (.nm 1) (.rng (.cons (.v 1) .nil)) (.cons (.cmp .notin (.v 1) (.v 2)) .nil) [gV,gV,ba 3]) .nil)))
 .nil))
 (.cons (.ret (.v 2))
 .nil)))
noncomputable def dW (os:J9 (J9 Kk)):J9 W:=os.map λo=>.tup (aI o)
section
variable{defs:J9 (KF×Df)}{fuel d:Kk}{S:aa}{Q:QW}
theorem Fy {t l:Kk}{xs ys:J9 W}(h:S[t]?=ba (.lst xs))(h2:S[l]?=ba (.lst ys))(hl:xs.length+ys.length<=1000000)(q:Q (.non,S.set t (.lst (xs++ys)))):wO (Me.extend.fn (.ref t) [.ref l] S) Q:=by
 refine ae ?_ q;simp only[Me.fn,i4,dF h,dF h2];rw[KJ (by rw[Lo]; omega)]
theorem nh {n:Kk}(h:n<=1000000):n<=sizeLine:=by rw[Lo]; omega
theorem AJ (hg:Is defs ("longer_orders" : KF) 2 4 bE){n l:Kk}{os:J9 (J9 Kk)}(e:S[l]?=ba (.lst (dW os)))(hn:n<=100)(hol:∀o∈os,o.length<=100)(hos:os.length*n<=100000)
  (k:∀(q:Kk) (S':aa),S'[q]?=ba (.lst (dW (aL n os)))->S.length<=q->Ka S S'->Q (.ref q,S')) :
  wO (bN (aq defs fuel (d+1)) "longer_orders" 2 [.ref l,.int n] S) Q:=by
 refine aF hg rfl rfl λQ' hR=>?_
 replace k:∀(q:Kk) (S':aa),S'[q]?=ba (.lst (dW (aL n os)))->S.length<=q->Ka S S'->Q' (.rt (.ref q),S'):=λa b c e f=>hR _ _ (k a b c e f)
 clear hR;show wZ _ _ bE [ba (.ref l),ba (.int n),gV,gV] S Q';have hlS:=dR e;dsimp only[bE];refine st ?_;dsimp only[wS,wE,wA,KD];refine bm λK hK=>?_
 refine vG l (dW os) (λi ρ S'=>(∃a3,ρ=[ba (.ref l),ba (.int n),ba (.ref S.length),a3])/\S'[l]?=ba (.lst (dW os))/\S'[S.length]?=ba (.lst (dW (aL n (os.take i))))/\Ka S S') rfl rfl ⟨rfl,⟨gV,rfl⟩,ap e,ah,.push⟩ (λi ρ S' h=>h.2.1) ?_ ?_
 ·rintro i w ρ S1 hw ⟨⟨a3,rfl⟩,e0,e1,k1⟩;clear hK k;unfold dW at hw;rw[Km,Kf]at hw;obtain⟨o,ho,rfl⟩:=hw;have hol:=hol o (Kt ho);refine ae (show ik (.nm 3) (.tup (aI o)) [ba (.ref l),ba (.int n),ba (.ref S.length),a3] S1=ba ([ba (.ref l),ba (.int n),ba (.ref S.length),ba (.tup (aI o))],S1)from rfl) ?_
  intro Q2 hn _;refine st ?_;dsimp only[wS,wE,wA,wV,wG];refine⟨dg e1,?_⟩;refine dH (n:Ky) (λj ys ρ2 S2=>(∃a1,ρ2=[gV,a1,ba (.tup (aI o))])/\ys=dW (((KS j).filter λp=>decide (p∉o)).map λp=>o++[p])/\S2=S1) rfl rfl rfl (by omega) ⟨rfl,⟨gV,rfl⟩,rfl,rfl⟩ ?_ ?_
  ·rintro j ys ρ2 S2 hj ⟨⟨a1,rfl⟩,rfl,rfl⟩;dsimp only[iQ,wC,wE,wA,wV,wG,KD];refine ae AH ?_;dsimp only[wB];have er:(KS (j+1)).filter (λp=>decide (p∉o))=(KS j).filter (λp=>decide (p∉o))++(if j∉o then[j]else[]):=by
    rw[N5,Nt];congr 1
    by_cases h:j∈o <;> simp[h]
   refine⟨λh=>?_,λh=>⟨⟨_,rfl⟩,?_,rfl⟩⟩
   ·have h:j∉o:=Lm h;refine ae (iN (nh (by rw[Ks,show(aI o).length=o.length from Kc ..]; show _+1<=_; omega))) ⟨⟨_,rfl⟩,?_,rfl⟩
    rw[er,KJ h,Le];unfold dW;rw[Le];simp[aI]
   ·have h:¬ j∉o:=Nr h;rw[er,KW h,MH]
  ·rintro ys ρ2 S2 ⟨_,rfl,rfl⟩;rw[KC];have hlen:(dW (((KS n).filter λp=>decide (p∉o)).map λp=>o++[p])).length<=n:=by
    unfold dW;rw[Kc,Kc];exact KT (Mx _ _) (by rw[KU]; exact Kn _)
   have e1':=ap (u:=O.lst (dW (((KS n).filter λp=>decide (p∉o)).map λp=>o++[p]))) e1
   have hlt:=xy (n:=n) (os:=os) (i:=i);have hlw:(dW (aL n (os.take i))).length=(aL n (os.take i)).length:=Kc ..;refine⟨nh (by omega),Fy e1' ah (by omega) (dS (hn _ _ ⟨⟨_,rfl⟩,?_,?_,(k1.trans .push).late (Kn _)⟩))⟩
   ·rw[bY (by omega)]; exact ap e0
   ·rw[bX e1'];unfold aL dW;rw[Lg,ho];simp
 ·rintro ρ S1 ⟨⟨a3,rfl⟩,e0,e1,k1⟩;rw[show(dW os).length=os.length from Kc ..,Lw]at e1
  exact hK _ _ (st (k _ _ e1 (Kn _) k1))
end
section
variable{defs:J9 (KF×Df)}{fuel d:Kk}{S:aa}{Q:QW}
theorem Fz {t:Kk}{xs:J9 W}{y:W}(h:S[t]?=ba (.lst xs))(hl:xs.length < 1000000)(q:Q (.non,S.set t (.lst (xs++[y])))):wO (Me.append.fn (.ref t) [y] S) Q:=ae (vE h (by rw[Lo]; omega)) q
end
section
variable{defs:J9 (KF×Df)}{fuel d:Kk}{S:aa}{Q:QW}
theorem fj {i:Kk}{xs:J9 W}{c:LN}(h:S[i]?=ba (.lst xs))(hc:rZ.contains c=true):xh S (.ref i) c=ba ("list" == c||("list" == "bool" && c == "int")):=by
 have:Ii S (.ref i)=ba "list":=by simp[Ii,aw h]
 unfold xh;rw[this];exact KJ hc
theorem oX (hg:Is defs ("_law_alike" : KF) 2 2 bH){n i j:Kk}{xs:J9 W}(hi:S[i]?=ba (.lst xs))(hj:S[j]?=ba (.lst xs))(hl:xs.length<=100000)(hx:∀x∈xs,Tr n x)(k:∀S',Ka S S'->Q (.bl true,S')) :
  wO (bN (aq defs fuel (d+n+2)) "_law_alike" 2 [.ref i,.ref j] S) Q:=by
 refine aF hg rfl rfl λQ' hR=>?_
 replace k:∀S',Ka S S'->Q' (.rt (.bl true),S'):=λS' a=>hR _ _ (k S' a)
 clear hR;show wZ _ _ bH [ba (.ref i),ba (.ref j)] S Q';dsimp only[bH];refine bm λK hK=>cw (S1:=S) (λQ q=>q) (hK _ _ ?_)
 clear hK K;refine bm λK hK=>cw (S1:=S) (λQ q=>?_) (hK _ _ ?_)
 ·dsimp only[wT,wE,wV,wG];refine ae (fj hj (by decide)) ⟨λz=>?_,λ_=>ae (fj hi (by decide)) q⟩
  exact absurd z (by decide)
 clear hK K;refine bm λK hK=>cw (S1:=S) (λQ q=>?_) (hK _ _ ?_)
 ·dsimp only[wT,wE,wV,wG];exact ae (fj hj (by decide)) q
 clear hK K;refine bm λK hK=>cw (S1:=S) (λQ q=>?_) (hK _ _ ?_)
 ·dsimp only[wT,wE,wV,wG];exact ae (fj hj (by decide)) q
 clear hK K;refine bm λK hK=>cw (S1:=S) (λQ q=>?_) (hK _ _ ?_)
 ·dsimp only[wT,wE,wV,wG];refine ae (fj hj (by decide)) (ae (fj hi (by decide)) ?_)
  refine ae (show dz .ne (.bl false) (.bl false) S=ba (.bl false,S)from rfl) ⟨λz=>(by cases z),λ_=>?_⟩
  dsimp only;refine ae (fj hj (by decide)) (ae (fj hi (by decide)) ?_)
  exact ae (show dz .ne (.bl true) (.bl true) S=ba (.bl false,S)from rfl) q
 clear hK K;refine st ?_;dsimp only[wS,wE,wA,wV,wG];refine fW hi (fW hj ?_);dsimp only[iO,aX,wB];rw[Lp];refine⟨λ_=>?_,λz=>by cases z⟩
 refine dH (xs.length:Ky) (λm ys ρ2 S2=>(∃a1,ρ2=[gV,a1,ba (.ref j),ba (.ref i)])/\ys=K7 m (.bl true)/\Ka S S2) rfl rfl rfl (by omega) ?_ ?_ ?_
 ·dsimp only[wE,wA,wV,wG];exact fW hj ⟨rfl,⟨gV,rfl⟩,rfl,.refl⟩
 ·rintro m ys ρ2 S2 hm ⟨⟨a1,rfl⟩,rfl,k2⟩;have hm':m < xs.length:=by omega
  dsimp only[iQ,wC,wE,wA,wV,wG,KD];refine⟨λ_=>gx (k2.get _ _ hi) (KY m) (by rw[KC]; exact Ko hm') (gx (k2.get _ _ hj) (KY m) (by rw[KC]; exact Ko hm') (C4 hg n d _ _ _ (hx _ (Lf hm')) λS3 k3=>⟨⟨_,rfl⟩,?_,k2.trans k3⟩)),λz=>by cases z⟩
  rw[Qt]
 ·rintro ys ρ2 S2 ⟨_,rfl,k2⟩;rw[KC];refine⟨nh (by rw[Op]; omega),ae (a:=(.bl true,S2++[.lst (K7 xs.length (.bl true))])) ?_ (k _ (k2.trans .push))⟩
  simp only[Bi.fn,BV,aw ah,jV,Ld,vR]
end
theorem C6 {a:Kk}{bs:J9 Ky}(h:SizeOk a bs):cx a bs=true:=by
 obtain⟨h0,hb,hm,h3⟩:=h;have ha:a=1\/a=2\/a=3:=by omega
 rcases hb with rfl|rfl|rfl|rfl|rfl|rfl <;> rcases ha with rfl|rfl|rfl
 ·exact JF.1
 ·exact JF.2.1
 ·exact JF.2.2
 ·exact Io.1
 ·exact Io.2.1
 ·exact JH
 ·exact Io.2.2.1
 ·exact Io.2.2.2
 ·exact JI
 ·exact JG.1
 ·exact JJ
 ·exact absurd hm (by decide)
 ·exact JG.2.1
 ·exact JK
 ·exact absurd hm (by decide)
 ·exact JG.2.2
 ·exact JL
 ·exact absurd hm (by decide)
theorem mj:∀ {us vs:J9 Wd},us.map bU=vs.map bU->us=vs
 | [],[],_=>rfl
 | [],_::_,h=>by cases h
 | _::_,[],h=>by cases h
 | x::xs,y::ys,h=>by
  simp only[LF,Uh]at h;rw[gR h.1,mj h.2]
theorem sL:∀xs:J9 Ky,db (xs.map T.int)=true
 | []=>rfl
 | _::xs=>sL xs
theorem lc:∀u:Wd,db (u.map g9)=true
 | []=>rfl
 | p::u=>by
  simp only[LF,db,Kj];refine⟨?_,lc u⟩;simp[g9,eG,db,sL]
theorem gC (u:Wd):eG (bU u)=true:=lc u
theorem DI:∀ {ks:J9 T} {L:J9 Wd},(∀k∈ks,k∈L.map bU)->∃us:J9 Wd,ks=us.map bU/\∀u∈us,u∈L
 | [],_,_=>⟨[],rfl,λ_ h=>nomatch h⟩
 | k::ks,L,h=>by
  obtain⟨u,hu,rfl⟩:=Kw.mp (h k (.head _));obtain⟨us,rfl,h2⟩:=DI λk hk=>h k (.tail _ hk)
  exact⟨u::us,rfl,λv hv=>(KL.mp hv).elim (λe=>e ▸ hu) (h2 v)⟩
theorem kB:∀ {us:J9 Wd},(us.map bU).Nodup->us.Nodup
 | [],_=>.nil
 | u::us,h=>by
  rw[LF,Mb]at h;exact Mb.mpr ⟨λz=>h.1 (Kw.mpr ⟨u,z,rfl⟩),kB h.2⟩
theorem FB {n k:Kk}{ds:J9 Ky}:ds∈bn n k->ds.length=k/\∀w∈ds,0<=w/\w < (n:Ky):=by
 induction k generalizing ds with
 | zero=>intro h; cases Kx.mp h; exact⟨rfl,λw hw=>nomatch hw⟩
 | succ k ih=>
  intro h;obtain⟨i,hi,rfl⟩:=Kw.mp h;have hi:=K6.mp hi;have hn:0 < n:=by
   rcases O3 n with h|h
   ·rw[h,PX]at hi; omega
   ·exact h
  have hlt:i / n < (bn n k).length:=MD (by rw[NN]; exact hi)
  obtain⟨h1,h2⟩:=ih (Kt (ay (d:=[]) hlt));refine⟨by rw[Ks,h1]; rfl,λw hw=>?_⟩
  rcases Ln.mp hw with h|h
  ·exact h2 w h
  ·rw[Kx.mp h];have:=PP i hn;omega
theorem gD {a n k:Kk}{u:Wd}:u∈aY a n k->GoodW a n u/\u.length=k:=by
 induction k generalizing u with
 | zero=>intro h; cases Kx.mp h; exact⟨.nil,rfl⟩
 | succ k ih=>
  intro h;obtain⟨i,hi,rfl⟩:=Kw.mp h;have hi:=K6.mp hi;have hpos:0 < (bC a n k).length:=by
   rcases O3 (bC a n k).length with h|h
   ·rw[h,PX]at hi; omega
   ·exact h
  have hlt:i / (bC a n k).length < (aY a n k).length:=MD (by rw[NN]; exact hi)
  obtain⟨h1,h2⟩:=ih (Kt (ay (d:=[]) hlt));have hp:=Kt (ay (d:=(0,[])) (PP i hpos));obtain⟨m,hm,hp⟩:=My.mp hp;obtain⟨ds,hds,e⟩:=Kw.mp hp;obtain⟨g1,g2⟩:=FB hds;have hm:=K6.mp hm;rw[<- e];exact⟨h1.snoc ⟨by omega,by omega⟩ (by rw[g1,h2]) g2,by rw[Ks,h2]; rfl⟩
theorem C7 {a:Kk}{bs:J9 Ky}(h:SizeOk a bs):∃us:J9 Wd,kq ((d0 a bs).map bU)=ba (us.map bU)/\us.Nodup/\us.length < 64/\(∀u∈us,u∈aP a bs)/\d0 a bs≠[]/\∀u∈aP a bs,u∈us:=by
 have p:=C6 h;unfold cx at p;split at p
 ·rename_i ks hk;simp only[Kj,KG]at p;have hm0:=yP hk;obtain⟨us,rfl,hm⟩:=DI (L:=aP a bs) λk hk=>by
   obtain⟨f,hf,rfl⟩:=Kw.mp (hm0 k hk);obtain⟨u,hu,rfl⟩:=Kw.mp hf;obtain⟨g1,g2⟩:=gD hu;exact Kw.mpr ⟨_,qp g1 g2,rfl⟩
  have nd:=kB p.1.1;have hlen:us.length=(aP a bs).length:=by
   have:=p.2
   rwa [Kc]at this
  refine⟨us,hk,nd,O2 (gy us _ nd hm) (qr h),hm,λz=>?_,λf hf=>?_⟩
  ·rw[z]at hk;have e:ba (us.map bU)=ba []:=hk.symm;rw[Lx e]at p;exact absurd p.1.2 (by decide)
  ·by_cases hu:f∈us
   ·exact hu
   ·have:=gy (f::us) _ (Mb.mpr ⟨hu,nd⟩) λx hx=>by
     rcases KL.mp hx with rfl|hx
     ·exact hf
     ·exact hm x hx
    rw[Li]at this; omega
 ·cases p
theorem mo {us:J9 Wd}(h:us.Nodup):Nice (us.map bU):=by
 refine⟨λx hx=>?_,fF us,?_⟩
 ·obtain⟨u,_,rfl⟩:=Kw.mp hx;exact gC u
 ·rw[MS,M2];exact h.imp λhne e=>hne (gR e)
theorem gS {us:J9 Wd}:(c7 us).map bU=eJ (us.map bU):=by
 unfold c7 eJ;rw[sw (d:=[])]
theorem xB {us vs:J9 Wd}(h:us.Nodup)(hs:vs.Sublist (c7 us)):c7 vs=vs:=by
 apply mj;rw[gS];refine yO (mo h) ?_;rw[<- gS];exact hs.map _
noncomputable def dM:Ss:=
 (.cons (.ret (.bi .sorted (.cons (.bi .set (.cons (.comp (.own "_law_figure" 2 (.cons (.v 2) (.cons (.v 1) .nil))) (.nm 1) (.seq (.own "_law_worlds" 2 (.cons (.v 0) (.cons (.c (.int 3)) .nil)))) .nil [gV,gV,ba 0]) .nil)) .nil)))
 .nil)
noncomputable def cU:Ss:=
 (.cons (.set 1 (.own "_law_pick" 2 (.cons (.v 0) (.cons (.c (.int 4)) .nil))))
 (.cons (.ite (.cmp .eq (.v 1) (.c (.int 0))) (.cons (.ret (.own "_law_laying_rule" 1 (.cons (.v 0) .nil)))
 .nil) .nil)
 (.cons (.ite (.cmp .lt (.v 1) (.c (.int 3))) (.cons (.ret (.own "_law_any_rule" 1 (.cons (.v 0) .nil)))
 .nil) .nil)
 (.cons (.asg [2,3] (.own "_law_sizes" 1 (.cons (.v 0) .nil)))
 (.cons (.set 4 (.own "_law_rule_of" 4 (.cons (.v 0) (.cons (.v 2) (.cons (.own "_law_backs" 2 (.cons (.v 0) (.cons (.v 3) .nil))) (.cons (.tup .nil) .nil))))))
 (.cons (.ret (.tup (.cons (.ix (.v 4) (.c (.int 0))) (.cons (.ix (.v 4) (.c (.int 1))) (.cons (.bi .tuple (.cons (.comp (.v 1) (.nm 1) (.seq (.own "_law_figures" 1 (.cons (.v 4) .nil))) (.cons (.cmp .eq (.own "_law_pick" 2 (.cons (.v 2) (.cons (.c (.int 3)) .nil))) (.c (.int 0))) .nil) [gV,gV,ba 0]) .nil)) .nil)))))
 .nil))))))
section
variable{defs:J9 (KF×Df)}{fuel d:Kk}{S:aa}{r:Kk}{Q:QW}
theorem FC {l:Kk}{us ks:J9 Wd}(h:S[l]?=ba (.lst (us.map bA)))(hne:us≠[])(hk:kq (us.map bU)=ba (ks.map bU))(q:Q (.ref S.length,S++[.stt (ks.map bU)])):wO (Bi.set.fn [.ref l] S) Q:=by
 refine ae ?_ q;have e2:lJ [.ref l] S=ba (.ref S.length,S++[.stt (ks.map bU)]):=by
  simp only[lJ,aw h,Ab];rw[KJ,hk]
  ·rfl
  ·rw[KH];intro x hx;obtain⟨u,_,rfl⟩:=Kw.mp hx;have:=l9 u;have kl:az=6:=rfl;simp only[yQ,gC,OB,Kj,KG];exact⟨rfl,by omega⟩
 exact e2
theorem C8 {l:Kk}{us:J9 Wd}(h:S[l]?=ba (.stt (us.map bU)))(h64:us.length < 64)(hnd:us.Nodup)(hne:∀u∈us,u≠[])(q:Q (.ref S.length,S++[.lst ((c7 us).map bA)])):wO (Bi.sorted.fn [.ref l] S) Q:=by
 refine ae ?_ q;have hr:F2 S l=ba (us.map bU):=by simp[F2,h]
 have N:=mo hnd;have ok:lK (us.map bU)=true:=by
  simp only[lK,iF,Kj,KG,Mc,Kc];refine⟨⟨⟨KH.mpr N.num,N.lt⟩,N.nd⟩,⟨⟨h64,by have:=gQ us; unfold cy; omega⟩,.inr ⟨Ae us hne,N.lt⟩⟩⟩
 have e1:dc [.ref l] S=ba (.ref S.length,S++[.lst ((c7 us).map bA)]):=by
  simp only[dc,hr];rw[KJ ok,<- gS,ut]
 show Ds dc fM [.ref l] S=_;unfold Ds;simp only[e1]
structure Full (defs:J9 (KF×Df)):Prop where
 digits:Is defs ("_law_digits" : KF) 2 4 cC
 worlds:Is defs ("_law_worlds" : KF) 2 6 dk
 figures:Is defs ("_law_figures" : KF) 1 1 dM
 full:Is defs ("_law_full_rule" : KF) 1 5 cU
theorem oY (G:Gen defs)(F:Full defs){ms ns:J9 KF}{a:Kk}{bs:J9 Ky}{b0:W}(hs:SizeOk a bs)(hml:ms.length=a)(hnl:ns.length=bs.length)
  (k:∀(us:J9 Wd) (q:Kk) (S':aa),us.Nodup->us.length < 64->(∀u∈us,u∈aP a bs)->(∀u∈aP a bs,u∈us)->S'[q]?=ba (.lst ((c7 us).map bA))->S.length<=q->Ka S S'->Q (.ref q,S')) :
  wO (bN (aq defs fuel (d+4)) "_law_figures" 1 [.tup [.tup (ms.map W.str),.tup (KZ cu ns bs),b0]] S) Q:=by
 refine aF F.figures rfl rfl λQ' hR=>?_
 replace k:∀(us:J9 Wd) (q:Kk) (S':aa),us.Nodup->us.length < 64->(∀u∈us,u∈aP a bs)->(∀u∈aP a bs,u∈us)->S'[q]?=ba (.lst ((c7 us).map bA))->S.length<=q->Ka S S'->Q' (.rt (.ref q),S'):=λa b c e f g h i j l=>hR _ _ (k a b c e f g h i j l)
 clear hR;obtain⟨us,hk,hnd,h64,hmem,hne,hall⟩:=C7 hs;have hb3:=hs.n3;have hpos:=hs.pos;have h3:=hs.a3;have hmost:=hs.most;show wZ _ _ dM [ba (.tup [.tup (ms.map W.str),.tup (KZ cu ns bs),b0])] S Q';generalize hB:W.tup [.tup (ms.map W.str),.tup (KZ cu ns bs),b0]=R;dsimp only[dM];refine st ?_;dsimp only[wS,wE,wA,wV,wG];refine mh rfl rfl rfl ?_;dsimp only[wE,wA,wV,wG];subst hB;refine AF (d:=d+1) F.digits F.worlds (a:=a) (n:=bs.length) (by rw[Kc,hml]) (by rw[Nb,hnl]; omega) hpos h3 hb3.1 hb3.2 hmost λl S1 e1 hl k1=>?_
 generalize hB:W.tup [.tup (ms.map W.str),.tup (KZ cu ns bs),b0]=R;refine⟨l,(aY a bs.length 3).map bA,λj ys ρ2 S2=>(∃a1,ρ2=[gV,a1,ba R])/\ys=((d0 a bs).take j).map bA/\S2[l]?=ba (.lst ((aY a bs.length 3).map bA))/\Ka S S2,rfl,⟨⟨gV,rfl⟩,rfl,e1,k1⟩,λj ys ρ2 S2 h=>h.2.2.1,?_,?_⟩
 ·rintro j w ys ρ2 S2 hw ⟨⟨a1,rfl⟩,rfl,e2,k2⟩;rw[Km,Kf]at hw;obtain⟨u,hu,rfl⟩:=hw;obtain⟨gu,hu3⟩:=gD (Kt hu);refine ae (show ik (.nm 1) (bA u) [gV,a1,ba R] S2=ba ([gV,ba (bA u),ba R],S2)from rfl) ?_
  dsimp only[iQ,wC,wE,wA,wV,wG];subst hB;refine⟨λ_=>jk (d:=d) G hs.good hnl gu hu3 λS3 k3=>⟨⟨_,rfl⟩,?_,k3.get _ _ e2,k2.trans k3⟩,λz=>by cases z⟩
  have:(d0 a bs)[j]?=ba (fZ bs u):=by unfold d0; rw[Km,hu]; rfl
  rw[Lg,this];simp
 ·rintro ys ρ2 S2 ⟨_,rfl,e2,k2⟩;have hfl:(d0 a bs).length=((aY a bs.length 3).map bA).length:=by unfold d0; rw[Kc,Kc]
  rw[<- hfl,Lw];have hl216:(d0 a bs).length<=216:=by
   unfold d0;rw[Kc,cX];exact(gB (k:=2) hpos h3 hb3.1 hb3.2 hmost (by decide)).2.2
  refine⟨nh (by rw[Kc]; omega),FC ah hne hk (C8 ah h64 hnd (λu hu=>sA (hmem u hu)) ?_)⟩
  have kk:=((k2.trans (Ka.push (o:=O.lst ((d0 a bs).map bA)))).trans (Ka.push (o:=O.stt (us.map bU)))).trans (Ka.push (o:=O.lst ((c7 us).map bA)));exact k us _ _ hnd h64 hmem hall ah (((k2.trans (Ka.push (o:=O.lst ((d0 a bs).map bA)))).trans (Ka.push (o:=O.stt (us.map bU)))).len) kk
theorem FD (hfu:20 < fuel)(G:Gen defs)(F:Full defs)(hf:Fl S r)(k:∀w S',eS w->Fl S' r->Kp r S S'->Q (w,S')):wO (bN (aq defs fuel (d+8)) "_law_full_rule" 1 [.ref r] S) Q:=by
 refine aF F.full rfl rfl λQ' hR=>?_
 replace k:∀w S',eS w->Fl S' r->Kp r S S'->Q' (.rt w,S'):=λz S' a b c=>hR _ _ (k z S' a b c)
 clear hR;show wZ _ _ cU [ba (.ref r),gV,gV,gV,gV] S Q';dsimp only[cU];refine bm λK hK=>?_
 dsimp only[wS,wE,wA,wV,wG,KD];refine bR (d:=d+6) G.pick hf (by decide) (by decide) λv S1 v0 v7 f1 k1=>hK _ _ ?_
 clear hK K;refine bm λK hK=>?_
 dsimp only[wS,wT,wE,wV,wG,iO,aX,wB];refine aS (Q0:=Q') (λ_ Q2 _ hr=>?_) (λ_ Q2 hn _=>dS (hn _ _ (hK _ _ ?_)))
 ·refine st ?_;dsimp only[wS,wE,wA,wV,wG];exact AB (d:=d) hfu G f1 λw S2 hw f2 k2=>hr _ _ (k w S2 hw f2 (k1.trans k2))
 clear hK K hn;refine bm λK hK=>?_
 dsimp only[wS,wT,wE,wV,wG,CH,aX,wB];refine aS (Q0:=Q') (λ_ Q2 _ hr=>?_) (λ_ Q2 hn _=>dS (hn _ _ (hK _ _ ?_)))
 ·refine st ?_;dsimp only[wS,wE,wA,wV,wG];exact uy (d:=d+1) hfu G f1 λw S2 hw f2 k2=>hr _ _ (k w S2 hw f2 (k1.trans k2))
 clear hK K hn;refine bm λK hK=>?_
 dsimp only[wS,wE,wA,wV,wG];refine qm (d:=d+5) G f1 λa n S2 a1 a3 n1 n3 an f2 k2=>?_
 dsimp only[wU];refine ae (show dA [2,3] [.int a,.int n] [ba (.ref r),ba (.int v),gV,gV,gV]=ba [ba (.ref r),ba (.int v),ba (.int a),ba (.int n),gV]from rfl) (hK _ _ ?_)
 clear hK K;refine bm λK hK=>?_
 dsimp only[wS,wE,wA,wV,wG,KD];refine qo (d:=d+5) G f2 n1 n3 λbs S3 hb hbl f3 k3=>?_
 have hsz:SizeOk a bs:=⟨by omega,hb,by rw[hbl]; exact an,a3⟩
 refine fS (d:=d+2) hfu G f3 a3 (by omega) λms ns S4 hml hnl hnm f4 k4=>hK _ _ ?_
 clear hK K;have k14:Kp r S S4:=k1.trans (k2.trans (k3.trans k4));clear k1 k2 k3 k4;refine st ?_;dsimp only[wS,wE,wA,wV,wG];refine aC (by decide) rfl (aC (by decide) rfl ?_)
 refine mh rfl rfl rfl ?_;dsimp only[wE,wA,wV,wG];refine oY (d:=d+3) G F hsz hml hnl λus q S5 hnd h64 hmem _ e5 hq k5=>?_
 have f5:=f4.ka k5;have hrq:r < q:=KR f4.lt hq;refine⟨q,(c7 us).map bA,λj ys ρ2 S6=>(∃a1,ρ2=[gV,a1,ba (.ref r)])/\(∃vs:J9 Wd,ys=vs.map bA/\vs.Sublist ((c7 us).take j))/\S6[q]?=ba (.lst ((c7 us).map bA))/\Fl S6 r/\Kp r S S6,rfl,⟨⟨gV,rfl⟩,⟨[],rfl,by simp⟩,e5,f5,k14.trans (k5.kp r)⟩,λj ys ρ2 S6 h=>h.2.2.1,?_,?_⟩
 ·rintro j w ys ρ2 S6 hw ⟨⟨a1,rfl⟩,⟨vs,rfl,hsub⟩,e6,f6,k6⟩;rw[Km,Kf]at hw;obtain⟨u,hu,rfl⟩:=hw;refine ae (show ik (.nm 1) (bA u) [gV,a1,ba (.ref r)] S6=ba ([gV,ba (bA u),ba (.ref r)],S6)from rfl) ?_
  dsimp only[iQ,wC,wE,wA,wV,wG];refine bR (d:=d+6) G.pick f6 (by decide) (by decide) λv S7 _ _ f7 k7=>?_
  dsimp only[iO,aX,wB];have e7:=k7.get _ _ (by omega) e6
  refine⟨λ_=>⟨⟨_,rfl⟩,⟨vs++[u],by rw[Le]; rfl,?_⟩,e7,f7,k6.trans k7⟩,λ_=>⟨⟨_,rfl⟩,⟨vs,rfl,?_⟩,e7,f7,k6.trans k7⟩⟩
  ·rw[Lg,hu];exact hsub.append (T8 _)
  ·rw[Lg];exact hsub.trans (List.sublist_append_left _ _)
 ·rintro ys ρ2 S6 ⟨_,⟨vs,rfl,hsub⟩,e6,f6,k6⟩;rw[Kc,Lw]at hsub;have pu:(c7 us).Perm us:=eM;have hvl:vs.length<=us.length:=by rw[<- pu.length_eq]; exact hsub.length_le
  have hvs:=xB hnd hsub;refine⟨nh (by rw[Kc]; omega),fX ah (k _ _ ⟨a,bs,ms,ns,vs,by rw[hvs]; rfl,hsz,hml,hnl,hnm,hsub.nodup (pu.nodup_iff.mpr hnd),λg hg=>hmem g (pu.mem_iff.mp (hsub.subset hg))⟩ (f6.ka .push) (k6.trans .push))⟩
end
section
variable{Φ:KF->FF}{ρ:Fm}{S:aa}
theorem AK {α:Type}{elt:E}{it:Ie}{cs:Es}{cap:J9 (Ki Kk)}{mi:MI}{S1:aa}{Q:QW}(L:J9 α)(f:α->W)(p:α->KP)(g:α->W)(R:Fm)(oe:eC elt=true)(oc:qR cs=true)(hc:fN cap ρ=gV::gV::R)(hl:L.length<=1000000)(hi:la Φ it ρ S=ba (mi,S1))(k1:Ka S S1)(hat:∀i S',Ka S1 S'->mi.at S' i=ba (L.map f)[i]?)(hn:mi.len S1=ba (L.map f).length)
  (hstep:∀x∈L,∀S',Ka S S'->iQ Φ elt cs (gV::ba (f x)::R) S' (λy _ S2=>p x=true/\y=g x/\Ka S' S2) (λ_ S2=>p x=false/\Ka S' S2))
  (k:∀S',Ka S S'->Q (.ref S'.length,S'++[.lst ((L.filter p).map g)])):Wp (aE Φ (.comp elt (.nm 1) it cs cap) ρ S) Q:=by
 rw[um];refine⟨_,hi,_,hn,?_⟩;refine(de (xs:=L.map f) (Q:=λq=>q.1.length<=sizeLine/\Q (.ref q.2.length,q.2++[.lst q.1])) (λi ys ρ' S'=>(∃a1,ρ'=gV::a1::R)/\ys=((L.take i).filter p).map g/\Ka S1 S') (λi ys ρ' S' h=>hat i S' h.2.2) (λi w ys ρ' S' hw h=>?_) (λys ρ' S' h=>?_) (L.map f).length 0 [] _ S1 (by omega) ⟨⟨gV,hc⟩,rfl,.refl⟩).mono λq hq=>by simpa using hq
 ·obtain⟨⟨a1,rfl⟩,rfl,k2⟩:=h;rw[Km,Kf]at hw;obtain⟨x,hx,rfl⟩:=hw;refine Jq.mpr ?_;refine(zS oc (hstep x (Kt hx) S' (k1.trans k2))).mono λc hc=>⟨λz=>(bG elt oe (hc.1 z)).mono λy hy=>⟨⟨_,rfl⟩,?_,k2.trans hy.2.2⟩,λz=>⟨⟨_,rfl⟩,?_,k2.trans (hc.2 z).2⟩⟩
  ·rw[Lg,hx,Nt,show(Ps (ba x)).filter p=[x]from PC hy.1,Le,hy.2.1]; rfl
  ·rw[Lg,hx,Nt,show(Ps (ba x)).filter p=[]from PD (by rw[(hc.2 z).1]; exact KI),MH]
 ·obtain⟨_,rfl,k2⟩:=h;dsimp only;rw[show(L.map f).length=L.length from Kc ..,Lw]
  refine⟨nh ?_,k S' (k1.trans k2)⟩;rw[Kc];exact KT (Mx _ _) hl
theorem qw {α:Type}{elt e:E}{cs:Es}{cap:J9 (Ki Kk)}{Q:QW}(L:J9 α)(f:α->W)(p:α->KP)(g:α->W)(R:Fm)(oi:eC e=true)(oe:eC elt=true)(oc:qR cs=true)(hc:fN cap ρ=gV::gV::R)(hl:L.length<=1000000)
  (he:wE Φ e ρ S λq=>∃t,q.1=.ref t/\q.2[t]?=ba (.lst (L.map f))/\Ka S q.2)
  (hstep:∀x∈L,∀S',Ka S S'->iQ Φ elt cs (gV::ba (f x)::R) S' (λy _ S2=>p x=true/\y=g x/\Ka S' S2) (λ_ S2=>p x=false/\Ka S' S2))
  (k:∀S',Ka S S'->Q (.ref S'.length,S'++[.lst ((L.filter p).map g)])):Wp (aE Φ (.comp elt (.nm 1) (.seq e) cs cap) ρ S) Q:=by
 obtain⟨w,S1,e1,t,rfl,ht,k1⟩:=cv oi he;exact AK (mi:=.live t) L f p g R oe oc hc hl (by simp only[la,fU,e1,aw ht]) k1 (λi S' h=>by simp only[MI.at,aw (h.get _ _ ht)]) (by simp only[MI.len,aw ht,Ld]) hstep k
theorem sM (n:Kk):dt 0 n=(KS n).map λi=>W.int (i:Kk):=by
 unfold dt;refine LO λi _=>?_
 rw[PV]
theorem FH {elt e:E}{cs:Es}{cap:J9 (Ki Kk)}{Q:QW}(n:Kk)(p:Kk->KP)(g:Kk->W)(R:Fm)(oi:eC e=true)(oe:eC elt=true)(oc:qR cs=true)(hc:fN cap ρ=gV::gV::R)(hl:n<=1000000)
  (he:wE Φ e ρ S λq=>q.1=.int n/\Ka S q.2)
  (hstep:∀x < n,∀S',Ka S S'->iQ Φ elt cs (gV::ba (.int (x:Kk))::R) S' (λy _ S2=>p x=true/\y=g x/\Ka S' S2) (λ_ S2=>p x=false/\Ka S' S2))
  (k:∀S',Ka S S'->Q (.ref S'.length,S'++[.lst (((KS n).filter p).map g)])):Wp (aE Φ (.comp elt (.nm 1) (.rng (.cons e .nil)) cs cap) ρ S) Q:=by
 obtain⟨w,S1,e1,rfl,k1⟩:=cv oi he;refine AK (mi:=.its (dt 0 n)) (KS n) (λi=>W.int (i:Kk)) p g R oe oc hc (by rw[KU]; exact hl) ?_ k1 (λi S' _=>by rw[<- sM]; rfl) (by rw[<- sM]; rfl) (λx hx=>hstep x (K6.mp hx)) k
 simp only[la,dy,eN,iI,uc,e1];rw[KJ ⟨by omega,by omega⟩]; rfl
theorem jq {α:Type}(L:J9 α):L.filter (λ_=>true)=L:=List.filter_eq_self.mpr λ_ _=>rfl
end
theorem FJ {bs:J9 Ky}{a:Kk}{v:Wd}{i j:Kk}(hb:GoodB bs)(hv:GoodW a bs.length v)(hi:i < v.length)(hj:j < v.length)(hij:i≠j):0<=dw bs v i j/\dw bs v i j < (bs.length:Ky):=by
 unfold dw
 by_cases h:j < i
 ·rw[KJ h];have hp:=ay (d:=(0,[])) hi;have hw:j < (v.getD i (0,[])).2.length:=by rw[hv.len i _ hp]; exact h
  exact hv.way i _ hp _ (Kt (ay (d:=0) hw))
 ·rw[KW h];have hp:=ay (d:=(0,[])) hj;have hw:i < (v.getD j (0,[])).2.length:=by rw[hv.len j _ hp]; omega
  obtain⟨g1,g2⟩:=hv.way j _ hp _ (Kt (ay (d:=0) hw));exact(hb.at g1 g2).2
theorem xC {bs:J9 Ky}{a:Kk}{v:Wd}{ps:J9 Kk}(hb:GoodB bs)(hv:GoodW a bs.length v)(hps:∀p∈ps,p < v.length)(hnd:ps.Nodup):GoodW a bs.length (au bs v ps):=by
 have at':∀(k:Kk) (q:Pt),(au bs v ps)[k]?=ba q->∃hk:k < ps.length,q=((v.getD ps[k] (0,[])).1,(ps.take k).map λj=>dw bs v ps[k] j):=λk q e=>by
  have hk:k < ps.length:=by
   have:=(Kq.mp e).1;rw[cg]at this; exact this
  refine⟨hk,?_⟩;unfold au at e;rw[Km,MK hk,Ld,show ps.getD k 0=ps[k] by simp[hk]]at e
  exact(Lx e).symm
 refine⟨λk q e=>?_,λk q e=>?_,λk q e=>?_⟩
 ·obtain⟨hk,rfl⟩:=at' k q e;have:=hv.mark _ _ (ay (d:=(0,[])) (hps _ (Lf hk)));exact this
 ·obtain⟨hk,rfl⟩:=at' k q e;dsimp only;rw[Kc,LJ]; omega
 ·obtain⟨hk,rfl⟩:=at' k q e;intro w hw;obtain⟨j,hj,rfl⟩:=Kw.mp hw;have hjm:=M1 hj;refine FJ hb hv (hps _ (Lf hk)) (hps _ hjm) λe=>?_
  obtain⟨m,hm,e2⟩:=MB.mp hj;rw[LJ]at hm;rw[Pi]at e2;have:=(Nf hnd).mp (e.trans e2.symm);omega
section
variable{defs:J9 (KF×Df)}{fuel d:Kk}{S:aa}{Q:QW}
theorem FK (hd:Is defs ("_law_flow" : KF) 1 1 eR){ns:J9 Ky}{u:Kk}(hu:S[u]?=ba (.fro (ns.map W.int)))(k:∀r S',Ka S S'->Fl S' r->Q (.ref r,S')) :
  wO (bN (aq defs fuel (d+1)) "_law_flow" 1 [.ref u] S) Q:=by
 refine aF hd rfl rfl λQ' hR=>?_
 show wZ _ _ eR [ba (.ref u)] S Q';dsimp only[eR];refine st ?_;dsimp only[wS,wE,wA,wV,wG];have e:Bi.list.fn [.ref u] S=ba (.ref S.length,S++[.lst (ns.map W.int)]):=by
  have h1:BS S u=gV:=by simp[BS,hu]
  simp only[Bi.fn,Ds,oh,h1,iZ,fD,CI hu]
 refine ae e (hR _ _ (k _ _ (Ka.push.trans .push) ⟨S.length,ns,0,0,1,0,?_,?_,?_,by decide,by decide,by decide,by decide⟩))
 ·exact ah
 ·exact ap ah
 ·simp
end
theorem kC {bt:Kk->Kk->KP}{N:Kk}(ir:∀i < N,bt i i=false)(tr:∀i j k,i < N->j < N->k < N->bt i j=true->bt j k=true->bt i k=true):∀n,n < N->∀j≤n,bt j (argBest bt n)=false
 | 0,hn,j,hj=>by
  obtain rfl:j=0:=by omega
  exact ir 0 hn
 | n+1,hn,j,hj=>by
  have ih:=kC ir tr n (by omega)
  have hb:=dD bt n;simp only[argBest];cases c:bt (n+1) (argBest bt n)with
  | true=>
   rw[KJ rfl]
   by_cases e:j=n+1
   ·subst e; exact ir _ hn
   ·cases c2:bt j (n+1)with
    | false=>rfl
    | true=>
     have:=tr j (n+1) (argBest bt n) (by omega) hn (by omega) c2 c
     rw[ih j (by omega)]at this; cases this
  | false=>
   rw[KW (by exact KI)]
   by_cases e:j=n+1
   ·subst e; exact c
   ·exact ih j (by omega)
theorem sN {ks:J9 T}(hn:∀x∈ks,eG x=true)(hl:eY ks=true)(hne:ks≠[]):∃x,ks[iG ks]?=ba x/\x∈ks/\∀y∈ks,gM y x=ba false:=by
 have hp:0 < ks.length:=QF.mpr hne;have hm:iG ks < ks.length:=by
  unfold iG;have:=dD (mQ ks) (ks.length - 1);omega
 have ltk:∀i j (hi:i < ks.length) (hj:j < ks.length),gM ks[i] ks[j]=ba (mQ ks i j):=λi j hi hj=>dX hl hi hj
 have ir:∀i < ks.length,mQ ks i i=false:=λi hi=>by
  cases c:mQ ks i i with
  | false=>rfl
  | true=>
   have e:=ltk i i hi hi;rw[c]at e;have:=jI _ _ (hn _ (Lf hi)) e;rw[e]at this; cases this
 have mn:=kC (bt:=mQ ks) (N:=ks.length) ir (λi j k hi hj hk h1 h2=>by
  have e1:=ltk i j hi hj;have e2:=ltk j k hj hk;rw[h1]at e1;rw[h2]at e2;have:=tV _ _ _ (hn _ (Lf hi)) (hn _ (Lf hj)) e1 e2;rw[ltk i k hi hk]at this;exact Lx this) (ks.length - 1) (by omega)
 refine⟨ks[iG ks],Ko hm,Lf hm,λy hy=>?_⟩
 obtain⟨j,hj,rfl⟩:=MB.mp hy;rw[ltk j _ hj hm];congr 1;exact mn j (by omega)
theorem vW {x y:T}(hx:eG x=true)(h1:gM x y=ba false)(h2:gM y x=ba false):x=y:=by
 by_cases e:x=y
 ·exact e
 ·rw[pU x y hx e h2]at h1; cases h1
theorem sO:∀ {xs ys as bs:J9 T},xs.length=ys.length->dq xs ys=ba true->dq (xs++as) (ys++bs)=ba true
 | [],[],_,_,_,h=>by cases h
 | x::xs,y::ys,as,bs,hl,h=>by
  simp only[PF,dq]at h ⊢
  by_cases e:x=y
  ·rw[KJ e]at h ⊢;exact sO (by simpa using hl) h
  ·rw[KW e]at h ⊢;exact h
 | [],_::_,_,_,hl,_=>by simp at hl
 | _::_,[],_,_,hl,_=>by simp at hl
theorem sP {as bs:J9 T}:∀xs:J9 T,dq (xs++as) (xs++bs)=dq as bs
 | []=>rfl
 | x::xs=>by
  simp only[PF,dq,L7];exact sP xs
theorem FL {x y:T}(hx:eG x=true)(h:dq [x] [y]=ba true):gM x y=ba true:=by
 simp only[dq]at h;split at h
 ·cases h
 ·exact h
structure Ord (n:Kk)(o:J9 Kk):Prop where
 nd:o.Nodup
 lt:∀p∈o,p < n
noncomputable def AL:Kk->J9 (J9 Kk)
 | 0=>[[]]
 | k+1=>(AL k).flatMap λo=>(KS (k+1)).map λi=>o.take i++[k]++o.drop i
theorem qx:∀ {n:Kk} {o:J9 Kk},o∈AL n↔Ord n o/\o.length=n
 | 0,o=>by
  rw[AL,Kx];exact⟨λh=>by subst h; exact⟨⟨.nil,λp hp=>nomatch hp⟩,rfl⟩,λh=>Nn h.2⟩
 | n+1,o=>by
  rw[AL,My];constructor
  ·rintro⟨o',h1,h2⟩;obtain⟨i,hi,rfl⟩:=Kw.mp h2;obtain⟨⟨nd,lt⟩,hl⟩:=qx.mp h1;have hi:=K6.mp hi;have hp:(o'.take i++[n]++o'.drop i).Perm (n::o'):=by
    have e:o'.take i++[n]++o'.drop i=o'.take i++n::o'.drop i:=by simp
    rw[e];refine RP.trans ?_;rw[Os]
   refine⟨⟨hp.nodup_iff.mpr (Mb.mpr ⟨λz=>absurd (lt _ z) (LQ _),nd⟩),λp hpm=>?_⟩,by rw[hp.length_eq,Li,hl]⟩
   rcases KL.mp (hp.mem_iff.mp hpm)with z|z
   ·omega
   ·have:=lt p z; omega
  ·rintro⟨⟨nd,lt⟩,hl⟩;have hm:n∈o:=by
    by_cases z:n∈o
    ·exact z
    ·have h1:=gy o (KS n) nd λp hp=>K6.mpr (by
      have:=lt p hp;have:p≠n:=λe=>z (e ▸ hp)
      omega)
     rw[KU]at h1;omega
   obtain⟨a,b,rfl⟩:=List.append_of_mem hm;have hp:(a++n::b).Perm (n::(a++b)):=RP;have nd2:=hp.nodup_iff.mp nd;obtain⟨nn,nd3⟩:=Mb.mp nd2;refine⟨a++b,qx.mpr ⟨⟨nd3,λp hpm=>?_⟩,?_⟩,Kw.mpr ⟨a.length,K6.mpr ?_,?_⟩⟩
   ·have h1:=lt p (hp.mem_iff.mpr (LD _ hpm));have:p≠n:=λe=>nn (e ▸ hpm)
    omega
   ·have:=hp.length_eq;rw[hl,Li]at this;omega
   ·rw[Ks,Li]at hl;omega
   ·rw[List.take_left',R8] <;> simp
noncomputable def bD (bs:J9 Ky)(u:Wd)(o:J9 Kk):Pt:=oV bs u o.dropLast (o.getLastD 0)
noncomputable def cN (ps:J9 Pt):Pt:=ps.getD (iG (ps.map g9)) (0,[])
noncomputable def fq (bs:J9 Ky)(u:Wd):Kk->J9 (J9 Kk)
 | 0=>[[]]
 | k+1=>(aL u.length (fq bs u k)).filter λo=>decide (bD bs u o=cN ((aL u.length (fq bs u k)).map (bD bs u)))
noncomputable def qA (bs:J9 Ky)(u:Wd):Kk->Wd
 | 0=>[]
 | k+1=>qA bs u k++[cN ((aL u.length (fq bs u k)).map (bD bs u))]
theorem AM (p:Pt):eG (g9 p)=true:=by
 have:=lc [p]
 simpa [db]using this
theorem oZ (ps:J9 Pt):eY (ps.map g9)=true:=by
 unfold eY;rw[KH];intro x hx;rw[KH];intro y hy;obtain⟨p,_,rfl⟩:=Kw.mp hx;obtain⟨q,_,rfl⟩:=Kw.mp hy;exact uu _ _ (Ad p q)
theorem o4 {ps:J9 Pt}(h:ps≠[]):ps[iG (ps.map g9)]?=ba (cN ps)/\cN ps∈ps/\∀y∈ps,gM (g9 y) (g9 (cN ps))=ba false:=by
 obtain⟨x,h1,h2,h3⟩:=sN (ks:=ps.map g9) (λx hx=>by obtain⟨p,_,rfl⟩:=Kw.mp hx; exact AM p) (oZ ps) (by simpa using h)
 rw[Km,Kf]at h1;obtain⟨p,hp,rfl⟩:=h1;have e:cN ps=p:=by unfold cN; rw[L5,hp]; rfl
 rw[e];exact⟨hp,Kt hp,λy hy=>h3 _ (Kw.mpr ⟨y,hy,rfl⟩)⟩
theorem fG {n:Kk}{os:J9 (J9 Kk)}{o':J9 Kk}:o'∈aL n os↔∃o∈os,∃p,p < n/\p∉o/\o'=o++[p]:=by
 unfold aL;rw[My];constructor
 ·rintro⟨o,ho,h⟩;obtain⟨p,hp,rfl⟩:=Kw.mp h;obtain⟨h1,h2⟩:=Ma.mp hp;exact⟨o,ho,p,K6.mp h1,Lm h2,rfl⟩
 ·rintro⟨o,ho,p,h1,h2,rfl⟩;exact⟨o,ho,Kw.mpr ⟨p,Ma.mpr ⟨K6.mpr h1,L3 h2⟩,rfl⟩⟩
theorem gT {bs:J9 Ky}{u:Wd}{o:J9 Kk}{p:Kk}:bD bs u (o++[p])=oV bs u o p:=by
 unfold bD;rw[Qu,Qv]
theorem jr {n:Kk}{o:J9 Kk}{p:Kk}:Ord n (o++[p])↔Ord n o/\p < n/\p∉o:=by
 constructor
 ·rintro⟨nd,lt⟩;rw[Oo]at nd;exact⟨⟨nd.1,λq hq=>lt q (Mk _ hq)⟩,lt p (by simp),λz=>nd.2.2 p z p (by simp) rfl⟩
 ·rintro⟨⟨nd,lt⟩,h1,h2⟩;refine⟨Oo.mpr ⟨nd,by simp,λa ha b hb e=>?_⟩,λq hq=>?_⟩
  ·rw[Kx.mp hb]at e;exact h2 (e ▸ ha)
  ·rcases Ln.mp hq with z|z
   ·exact lt q z
   ·rw[Kx.mp z]; exact h1
theorem sQ {n:Kk}{o:J9 Kk}(h:Ord n o)(hl:o.length < n):∃p,p < n/\p∉o:=by
 by_cases z:∃p,p < n/\p∉o
 ·exact z
 ·have h1:=gy (KS n) o RJ λp hp=>by
   by_cases z2:p∈o
   ·exact z2
   ·exact absurd ⟨p,K6.mp hp,z2⟩ z
  rw[KU]at h1;omega
theorem HP (u v:Wd):(gM (bU u) (bU v)).isSome=true:=by
 have:=fF [u,v];unfold eY at this;rw[KH]at this;have:=this (bU u) (by simp)
 rw[KH]at this;exact this (bU v) (by simp)
theorem FM {u v:Wd}(h:gM (bU u) (bU v)≠ba true):gM (bU u) (bU v)=ba false:=by
 obtain⟨b,hb⟩:=Lq.mp (HP u v);cases b with
 | false=>exact hb
 | true=>exact absurd hb h
structure GrOk (bs:J9 Ky)(u:Wd)(k:Kk):Prop where
 mem:∀o,o∈fq bs u k↔Ord u.length o/\o.length=k/\au bs u o=qA bs u k
 least:∀o,Ord u.length o->o.length=k->gM (bU (au bs u o)) (bU (qA bs u k))=ba false
 ne:fq bs u k≠[]
 len:(qA bs u k).length=k
theorem vX {k:Kk}{o:J9 Kk}(h:o.length=k+1):∃o' p,o=o'++[p]/\o'.length=k:=by
 have hne:o≠[]:=λz=>by rw[z]at h; cases h
 exact⟨o.dropLast,o.getLast hne,(Nw hne).symm,by rw[List.length_dropLast]; omega⟩
theorem o5 {bs:J9 Ky}{u:Wd}:∀k,k<=u.length->GrOk bs u k
 | 0,_=>by
  refine⟨λo=>?_,λo _ hl=>?_,RO _ _,rfl⟩
  ·rw[fq,Kx];exact⟨λh=>by subst h; exact⟨⟨.nil,λp hp=>nomatch hp⟩,rfl,rfl⟩,λh=>Nn h.2.1⟩
  ·rw[Nn hl]; rfl
 | k+1,hk=>by
  have ih:=o5 (bs:=bs) (u:=u) k (by omega)
  have lne:aL u.length (fq bs u k)≠[]:=by
   obtain⟨o,ho⟩:=NU _ ih.ne;obtain⟨h1,h2,_⟩:=(ih.mem o).mp ho;obtain⟨p,hp,hpo⟩:=sQ h1 (by omega)
   exact O5 (fG.mpr ⟨o,ho,p,hp,hpo,rfl⟩)
  obtain⟨_,b2,b3⟩:=o4 (ps:=(aL u.length (fq bs u k)).map (bD bs u)) (by simpa using lne)
  have ef:qA bs u (k+1)=qA bs u k++[cN ((aL u.length (fq bs u k)).map (bD bs u))]:=rfl;have eo:fq bs u (k+1)=(aL u.length (fq bs u k)).filter λo=>decide (bD bs u o=cN ((aL u.length (fq bs u k)).map (bD bs u))):=rfl
  generalize cN ((aL u.length (fq bs u k)).map (bD bs u))=best at b2 b3 ef eo;refine⟨λo=>?_,λo hO hl=>?_,?_,by rw[ef,Ks,ih.len]; rfl⟩
  ·rw[eo,Ma,ef];constructor
   ·rintro⟨h1,h2⟩;obtain⟨o,ho,p,hp,hpo,rfl⟩:=fG.mp h1;obtain⟨g1,g2,g3⟩:=(ih.mem o).mp ho;have h2:=Lm h2;rw[gT]at h2;exact⟨jr.mpr ⟨g1,hp,hpo⟩,by rw[Ks,g2]; rfl,by rw[jW,g3,h2]⟩
   ·rintro⟨h1,h2,h3⟩;obtain⟨o,p,rfl,hl⟩:=vX h2;obtain⟨g1,g2,g3⟩:=jr.mp h1;rw[jW]at h3;obtain⟨e1,e2⟩:=List.append_inj h3 (by rw[cg,ih.len,hl])
    refine⟨fG.mpr ⟨o,(ih.mem o).mpr ⟨g1,hl,e1⟩,p,g2,g3,rfl⟩,L3 ?_⟩;rw[gT];exact List.singleton_inj.mp e2
  ·obtain⟨o,p,rfl,hl'⟩:=vX hl;clear hl;have hl:=hl';obtain⟨g1,g2,g3⟩:=jr.mp hO;refine FM λz=>?_
   rw[jW,ef]at z;have z:dq ((au bs u o++[oV bs u o p]).map g9) ((qA bs u k++[best]).map g9)=ba true:=z;rw[Le,Le]at z
   by_cases e:au bs u o=qA bs u k
   ·rw[e,sP]at z;have:=FL (AM _) z;rw[b3 _ (Kw.mpr ⟨o++[p],fG.mpr ⟨o,(ih.mem o).mpr ⟨g1,hl,e⟩,p,g2,g3,rfl⟩,gT⟩)]at this;cases this
   ·have h1:=pU (bU (qA bs u k)) (bU (au bs u o)) (gC _) (λh=>e (gR h).symm) (ih.least o g1 hl)
    have h1:dq ((qA bs u k).map g9) ((au bs u o).map g9)=ba true:=h1;have h2:=sO (as:=[best].map g9) (bs:=[oV bs u o p].map g9) (by rw[Kc,Kc,cg,ih.len,hl]) h1
    have h3:=pT _ _ (by rw[<- Le]; exact lc _) h2
    rw[z]at h3; cases h3
  ·obtain⟨o,ho,e⟩:=Kw.mp b2;rw[eo];exact O5 (Ma.mpr ⟨ho,L3 e⟩)
noncomputable def cj (bs:J9 Ky)(u:Wd):Wd:=qA bs u u.length
theorem mq {bs:J9 Ky}{u:Wd}:∃o,Ord u.length o/\o.length=u.length/\au bs u o=cj bs u:=by
 have h:=o5 (bs:=bs) (u:=u) u.length (Kn _);obtain⟨o,ho⟩:=NU _ h.ne;exact⟨o,(h.mem o).mp ho⟩
theorem gU {bs:J9 Ky}{u:Wd}{o:J9 Kk}{i:Kk}(hi:i < o.length):(au bs u o).getD i (0,[])=((u.getD (o.getD i 0) (0,[])).1,(o.take i).map λj=>dw bs u (o.getD i 0) j):=by
 unfold au;rw[L5,Km,MK hi]; rfl
theorem sR {bs:J9 Ky}{u:Wd}{o:J9 Kk}{i j:Kk}(hi:i < o.length)(hj:j < i):((au bs u o).getD i (0,[])).2.getD j 0=dw bs u (o.getD i 0) (o.getD j 0):=by
 rw[gU hi];dsimp only;rw[L5,Km,Pl hj,ay (d:=0) (show j < o.length by omega)]; rfl
theorem AN {bs:J9 Ky}{a:Kk}{u:Wd}{o:J9 Kk}{i j:Kk}(hb:GoodB bs)(hu:GoodW a bs.length u)(hO:Ord u.length o)(hi:i < o.length)(hj:j < o.length)(hij:i≠j):dw bs (au bs u o) i j=dw bs u (o.getD i 0) (o.getD j 0):=by
 have gi:=ay (d:=0) hi;have gj:=ay (d:=0) hj;have li:=hO.lt _ (Kt gi);have lj:=hO.lt _ (Kt gj);have ne:o.getD i 0≠o.getD j 0:=λe=>by
  have h1:o[i]=o.getD i 0:=by simp[hi]
  have h2:o[j]=o.getD j 0:=by simp[hj]
  exact hij ((Nf hO.nd).mp (by rw[h1,h2,e]))
 by_cases h:j < i
 ·have:dw bs (au bs u o) i j=((au bs u o).getD i (0,[])).2.getD j 0:=by unfold dw; rw[KJ h]
  rw[this,sR hi h]
 ·have:dw bs (au bs u o) i j=bs.getD (((au bs u o).getD j (0,[])).2.getD i 0).toNat 0:=by unfold dw; rw[KW h]
  rw[this,sR hj (by omega)]
  generalize o.getD i 0=x at *
  generalize o.getD j 0=y at *
  unfold dw
  by_cases h2:x < y
  ·rw[KJ h2,KW (by omega)]
  ·rw[KW h2,KJ (by omega)]
   have hp:=ay (d:=(0,[])) li;have hw:y < (u.getD x (0,[])).2.length:=by rw[hu.len x _ hp]; omega
   obtain⟨w0,w1⟩:=hu.way x _ hp _ (Kt (ay (d:=0) hw));have:=hb.inv ((u.getD x (0,[])).2.getD y 0).toNat (by omega)
   rw[this]; omega
theorem o7 {bs:J9 Ky}{a:Kk}{u:Wd}{o p:J9 Kk}(hb:GoodB bs)(hu:GoodW a bs.length u)(hO:Ord u.length o)(hP:Ord o.length p):au bs (au bs u o) p=au bs u (p.map λi=>o.getD i 0):=by
 refine Ni (by rw[cg,cg,Kc]) λk h1 h2=>?_
 rw[cg]at h1;have e1:=gU (bs:=bs) (u:=au bs u o) (o:=p) h1;have e2:=gU (bs:=bs) (u:=u) (o:=p.map λi=>o.getD i 0) (i:=k) (by rw[Kc]; exact h1)
 have hk:p.getD k 0 < o.length:=hP.lt _ (Kt (ay (d:=0) h1));have ek:(p.map λi=>o.getD i 0).getD k 0=o.getD (p.getD k 0) 0:=by
  rw[L5,Km,ay (d:=0) h1]; rfl
 rw[ek]at e2;rw[gU hk]at e1;have f:∀(v:Wd) (hv:k < v.length),v[k]=v.getD k (0,[]):=λv hv=>by simp[hv]
 rw[f _ (by rw[cg]; exact h1),f _ h2,e1,e2]
 congr 1;rw[<- QL,Mg];refine LO λj hj=>?_
 obtain⟨m,hm,rfl⟩:=MB.mp hj;rw[LJ]at hm;rw[Pi];have hpm:p[m]=p.getD m 0:=by simp[show m < p.length by omega]
 rw[hpm];refine AN hb hu hO hk (hP.lt _ (Kt (ay (d:=0) (show m < p.length by omega)))) λe=>?_
 have h3:p[k]=p.getD k 0:=by simp[h1]
 have:=(Nf hP.nd).mp (h3.trans (e.trans hpm.symm));omega
theorem lf {n:Kk}{o:J9 Kk}(h:Ord n o)(hl:o.length=n){p:Kk}(hp:p < n):p∈o:=by
 by_cases z:p∈o
 ·exact z
 ·have:=(jr (n:=n) (o:=o) (p:=p)).mpr ⟨h,hp,z⟩;have h1:=gy (o++[p]) (KS n) this.nd λq hq=>K6.mpr (this.lt q hq)
  rw[Ks,KU,LW]at h1;omega
theorem AO {n:Kk}{o p:J9 Kk}(h:Ord n o)(hp:Ord o.length p):Ord n (p.map λi=>o.getD i 0):=by
 have g:∀i,i < o.length->o[i]?=ba (o.getD i 0):=λi hi=>ay hi
 refine⟨?_,λq hq=>?_⟩
 ·rw[MS,M2];refine hp.nd.imp_of_mem λ{a b} ha hb hab e=>hab ?_
  have h1:=hp.lt a ha;have h2:=hp.lt b hb;have e1:o[a]=o.getD a 0:=by simp[h1]
  have e2:o[b]=o.getD b 0:=by simp[h2]
  exact(Nf h.nd).mp (by rw[e1,e2,e])
 ·obtain⟨i,hi,rfl⟩:=Kw.mp hq;exact h.lt _ (Kt (g i (hp.lt i hi)))
theorem uB {bs:J9 Ky}{a:Kk}{u:Wd}{o:J9 Kk}(hb:GoodB bs)(hu:GoodW a bs.length u)(hO:Ord u.length o)(hl:o.length=u.length):cj bs (au bs u o)=cj bs u:=by
 have pl:(au bs u o).length=u.length:=by rw[cg,hl]
 obtain⟨p,p1,p2,p3⟩:=mq (bs:=bs) (u:=au bs u o);obtain⟨q,q1,q2,q3⟩:=mq (bs:=bs) (u:=u);rw[pl]at p1 p2;have m1:=λo h1 h2=>(o5 (bs:=bs) (u:=u) _ (Kn _)).least o h1 h2
 have m2:=λo2 h1 h2=>(o5 (bs:=bs) (u:=au bs u o) _ (Kn _)).least o2 h1 h2
 refine gR (vW (gC _) ?_ ?_)
 ·rw[<- p3,o7 hb hu hO (by rw[hl]; exact p1)]
  exact m1 _ (AO hO (by rw[hl]; exact p1)) (by rw[Kc,p2])
 ·have e:q=(q.map λx=>o.idxOf x).map λi=>o.getD i 0:=by
   rw[Mg]
   conv=>lhs; rw[<- List.map_id q]
   refine LO λx hx=>?_
   have hm:=lf hO hl (q1.lt x hx);have hlt:=MM hm;show x=o.getD (o.idxOf x) 0;rw[L5,Ko hlt,O6]; rfl
  have hQ:Ord o.length (q.map λx=>o.idxOf x):=by
   refine⟨?_,λi hi=>?_⟩
   ·rw[MS,M2];refine q1.nd.imp_of_mem λ{x y} hx hy hxy e=>hxy ?_
    have h1:=MM (lf hO hl (q1.lt x hx));have h2:=MM (lf hO hl (q1.lt y hy));have e1:=O6 h1;have e2:=O6 h2;rw[<- e1,<- e2];congr 1
   ·obtain⟨x,hx,rfl⟩:=Kw.mp hi;exact MM (lf hO hl (q1.lt x hx))
  rw[<- q3,e,<- o7 hb hu hO hQ];exact m2 _ (by rw[pl,<- hl]; exact hQ) (by rw[Kc,pl,q2])
section
variable{Φ:KF->FF}{ρ:Fm}{S:aa}
theorem FN {α:Type}{elt a b:E}{cs:Es}{cap:J9 (Ki Kk)}{Q:QW}(L:J9 α)(f g:α->W)(p:α->KP)(h:α->W)(R:Fm)(oa:eC a=true)(ob:eC b=true)(oe:eC elt=true)(oc:qR cs=true)(hc:fN cap ρ=gV::gV::gV::R)(hl:L.length<=1000000)
  (he:wE Φ a ρ S λq=>wE Φ b ρ q.2 λq2=>∃r t,q.1=.ref r/\q2.1=.ref t/\q2.2[r]?=ba (.lst (L.map f))/\q2.2[t]?=ba (.lst (L.map g))/\Ka S q2.2)
  (hstep:∀x∈L,∀S',Ka S S'->iQ Φ elt cs (gV::ba (f x)::ba (g x)::R) S' (λy _ S2=>p x=true/\y=h x/\Ka S' S2) (λ_ S2=>p x=false/\Ka S' S2))
  (k:∀S',Ka S S'->Q (.ref S'.length,S'++[.lst ((L.filter p).map h)])):Wp (aE Φ (.comp elt (.tp [1,2]) (.zip (.cons a (.cons b .nil))) cs cap) ρ S) Q:=by
 obtain⟨w,S0,e1,h1⟩:=cv oa he;obtain⟨w2,S1,e2,r,t,rfl,rfl,hr,ht,k1⟩:=cv ob h1;have hr:=hr;have hz:mV (L.map f) (L.map g)=L.map λx=>W.tup [f x,g x]:=by
  unfold mV;rw[List.zipWith_map,List.zipWith_self]
 have hi:la Φ (.zip (.cons a (.cons b .nil))) ρ S=ba (.zl r t,S1):=by
  dsimp only at hr ht;simp only[la,dy,eN,iI,Cy,e1,e2,Ik,aw hr,aw ht]
 dsimp only at hr ht k1;rw[um];refine⟨_,hi,(L.map λx=>W.tup [f x,g x]).length,by simp only[MI.len,aw hr,aw ht,hz],?_⟩
 refine(de (xs:=L.map λx=>W.tup [f x,g x]) (Q:=λq=>q.1.length<=sizeLine/\Q (.ref q.2.length,q.2++[.lst q.1])) (λi ys ρ' S'=>(∃a1 a2,ρ'=gV::a1::a2::R)/\ys=((L.take i).filter p).map h/\Ka S1 S') (λi ys ρ' S' h=>by simp only[MI.at,aw (h.2.2.get _ _ hr),aw (h.2.2.get _ _ ht),hz]) (λi w ys ρ' S' hw h=>?_) (λys ρ' S' h=>?_) _ 0 [] _ S1 (by omega) ⟨⟨gV,gV,hc⟩,rfl,.refl⟩).mono λq hq=>by simpa using hq
 ·obtain⟨⟨a1,a2,rfl⟩,rfl,k2⟩:=h;rw[Km,Kf]at hw;obtain⟨x,hx,rfl⟩:=hw;refine Jr.mpr ⟨_,rfl,?_⟩;refine(zS oc (hstep x (Kt hx) S' (k1.trans k2))).mono λc hc=>⟨λz=>(bG elt oe (hc.1 z)).mono λy hy=>⟨⟨_,_,rfl⟩,?_,k2.trans hy.2.2⟩,λz=>⟨⟨_,_,rfl⟩,?_,k2.trans (hc.2 z).2⟩⟩
  ·rw[Lg,hx,Nt,show(Ps (ba x)).filter p=[x]from PC hy.1,Le,hy.2.1]; rfl
  ·rw[Lg,hx,Nt,show(Ps (ba x)).filter p=[]from PD (by rw[(hc.2 z).1]; exact KI),MH]
 ·obtain⟨_,rfl,k2⟩:=h;dsimp only;rw[show(L.map λx=>W.tup [f x,g x]).length=L.length from Kc ..,Lw]
  refine⟨nh ?_,k S' (k1.trans k2)⟩;rw[Kc];exact KT (Mx _ _) hl
end
theorem FP (L:J9 Pt):W.ts (L.map cM)=ba (L.map g9):=by rw[<- ur]; exact T.ws_ts _
noncomputable def cD:Ss:=
 (.cons (.set 2 (.lst .nil))
 (.cons (.set 3 (.lst (.cons (.tup .nil) .nil)))
 (.cons (.whl (.cmp .lt (.bi .len (.cons (.v 2) .nil)) (.bi .len (.cons (.v 1) .nil))) (.cons (.set 4 (.own "longer_orders" 2 (.cons (.v 3) (.cons (.bi .len (.cons (.v 1) .nil)) .nil))))
 (.cons (.set 5 (.comp (.own "point_over" 4 (.cons (.v 2) (.cons (.v 3) (.cons (.sl (.v 1) .no (.yes (.neg (.c (.int 1))))) (.cons (.ix (.v 1) (.neg (.c (.int 1)))) .nil))))) (.nm 1) (.seq (.v 4)) .nil [gV,gV,ba 0,ba 1]))
 (.cons (.set 6 (.bi .min (.cons (.v 5) .nil)))
 (.cons (.ex (.me .append (.v 2) (.cons (.v 6) .nil)))
 (.cons (.set 3 (.comp (.v 1) (.tp [1,2]) (.zip (.cons (.v 4) (.cons (.v 5) .nil))) (.cons (.cmp .eq (.v 2) (.v 3)) .nil) [gV,gV,gV,ba 6]))
 .nil))))))
 (.cons (.ret (.bi .tuple (.cons (.v 2) .nil)))
 .nil))))
section
variable{defs:J9 (KF×Df)}{fuel d:Kk}{S:aa}{Q:QW}
theorem FQ {l:Kk}{ps:J9 Pt}(h:S[l]?=ba (.lst (ps.map cM)))(hne:ps≠[])(q:Q (cM (cN ps),S)):wO (Bi.min.fn [.ref l] S) Q:=by
 refine ae ?_ q;simp only[Bi.fn,yK,aw h,FP];rw[KJ ⟨by have:=jS ps; unfold cy; omega,oZ _⟩,Km,(o4 hne).1]; rfl
theorem vY {bs:J9 Ky}{u:Wd}:∀k,(fq bs u k).length<=u.length ^ k
 | 0=>Kn _
 | k+1=>by
  have h1:=Mx (λo=>decide (bD bs u o=cN ((aL u.length (fq bs u k)).map (bD bs u)))) (aL u.length (fq bs u k))
  have h2:=jp (n:=u.length) (fq bs u k);have h3:=NK u.length (vY (bs:=bs) (u:=u) k);rw[Tl];exact KT h1 (KT h2 h3)
theorem qB (hfu:20 < fuel)(P:Parts defs)(hlo:Is defs ("longer_orders" : KF) 2 4 bE)(hg:Is defs ("least_form" : KF) 2 7 cD){m0 b0:W}{ns:J9 KF}{bs:J9 Ky}{a:Kk}{u:Wd}(hb:GoodB bs)(hnl:ns.length=bs.length)(hu:GoodW a bs.length u)(hu6:u.length<=6)
  (kk:∀S',Ka S S'->Q (bA (cj bs u),S')) :
  wO (bN (aq defs fuel (d+3)) "least_form" 2 [.tup [m0,.tup (KZ cu ns bs),b0],bA u] S) Q:=by
 refine aF hg rfl rfl λQ' hR=>?_
 replace kk:∀S',Ka S S'->Q' (.rt (bA (cj bs u)),S'):=λS' a=>hR _ _ (kk S' a)
 clear hR;show wZ _ _ cD [ba (.tup [m0,.tup (KZ cu ns bs),b0]),ba (bA u),gV,gV,gV,gV,gV] S Q';generalize hR0:W.tup [m0,.tup (KZ cu ns bs),b0]=R;have ul:(u.map cM).length=u.length:=Kc ..;dsimp only[cD];refine st ?_;dsimp only[wS,wE,wA,KD];refine st ?_;dsimp only[wS,wE,wA,KD];refine bm λK hK=>?_
 refine DG (λm ρ S'=>∃(k q:Kk) (a4 a5 a6:Ki W),k+m=u.length/\ρ=[ba R,ba (bA u),ba (.ref S.length),ba (.ref q),a4,a5,a6]/\S'[S.length]?=ba (.lst ((qA bs u k).map cM))/\S'[q]?=ba (.lst (dW (fq bs u k)))/\Ka S S') u.length rfl rfl (by omega) ⟨0,(S++[O.lst []]).length,gV,gV,gV,by omega,rfl,ap ah,ah,Ka.push.trans .push⟩ ?_
 rintro m ρ S1 ⟨k,q,a4,a5,a6,hkm,rfl,e1,e2,k1⟩;have ok:=o5 (bs:=bs) (u:=u) k (by omega)
 have hl1:=dR e1;dsimp only[wT,wE,wA,wV,wG];refine fW e1 (di ?_);rw[ul,Kc,ok.len];dsimp only[CH,aX,wB];refine⟨λh=>?_,λh=>?_⟩
 ·have h:(k:Ky) < u.length:=Lm h;have hkn:k < u.length:=by omega
  refine⟨m - 1,by omega,λQ2 hn _=>?_⟩
  clear hK kk;have hgl:(fq bs u k).length<=7776:=KT (vY k) (KT (Nc hu6 k) (M3 (n:=6) (by decide) (show k<=5 by omega)))
  have hmul:(fq bs u k).length*u.length<=46656:=O4 hgl hu6;have hll:(aL u.length (fq bs u k)).length<=46656:=KT (jp _) hmul;refine st ?_;dsimp only[wS,wE,wA,wV,wG,KD];refine di ?_;rw[ul];refine AJ (d:=d+1) hlo e2 (by omega) (λo ho=>by have:=((ok.mem o).mp ho).2.1; omega) (by omega) λl S2 e3 hl k2=>?_
  have hl:S1.length<=l:=hl;have lne:aL u.length (fq bs u k)≠[]:=by
   obtain⟨o,ho⟩:=NU _ ok.ne;obtain⟨h1,h2,_⟩:=(ok.mem o).mp ho;obtain⟨p,hp,hpo⟩:=sQ h1 (by omega)
   exact O5 (fG.mpr ⟨o,ho,p,hp,hpo,rfl⟩)
  refine st ?_;dsimp only[wS,wE,KD];refine qw (aL u.length (fq bs u k)) (λo=>.tup (aI o)) (λ_=>true) (λo=>cM (bD bs u o)) [ba R,ba (bA u)] rfl rfl rfl rfl (by omega) ⟨l,rfl,e3,.refl⟩ (λo ho S3 k3=>?_) λS3 k3=>?_
  ·obtain⟨o,ho',p,hp,hpo,rfl⟩:=fG.mp ho;obtain⟨⟨o1,o2⟩,o3,_⟩:=(ok.mem o).mp ho';dsimp only[iQ,wC,wE,wA,wP,wV,wG,wN];refine⟨λ_=>?_,λz=>by cases z⟩
   refine ae (show ww (.tup (aI (o++[p]))) gV (ba (-1)) S3=ba (.tup (aI o),S3) by simp only[ww,AI,xA,Qu]) ?_
   dsimp only;refine ae (C5 (by simp)) ?_
   dsimp only;subst hR0;rw[Qv,gT];exact Fw (d:=d) P hb hnl hu (λx hx=>⟨o2 x hx,λe=>hpo (e ▸ hx)⟩) hp (by omega) λS4 k4=>⟨rfl,rfl,k4⟩
  rw[jq];have em:(aL u.length (fq bs u k)).map (λo=>cM (bD bs u o))=((aL u.length (fq bs u k)).map (bD bs u)).map cM:=by rw[Mg]; rfl
  rw[em];have e4:(S3++[O.lst (((aL u.length (fq bs u k)).map (bD bs u)).map cM)])[S3.length]?=ba (.lst (((aL u.length (fq bs u k)).map (bD bs u)).map cM)):=ah;have e3':=ap (u:=O.lst (((aL u.length (fq bs u k)).map (bD bs u)).map cM)) (k3.get _ _ e3);have e1':=ap (u:=O.lst (((aL u.length (fq bs u k)).map (bD bs u)).map cM)) (k3.get _ _ (k2.get _ _ e1));have ls3:S.length < S3.length:=KR hl1 (KT k2.len k3.len);have k4:Ka S (S3++[O.lst (((aL u.length (fq bs u k)).map (bD bs u)).map cM)]):=((k1.trans k2).trans k3).trans .push;generalize S3++[O.lst (((aL u.length (fq bs u k)).map (bD bs u)).map cM)]=S4 at e4 e3' e1' k4;generalize hl5:S3.length=l5 at e4 ls3;clear e2 e3 k3 k2 hl5;refine st ?_;dsimp only[wS,wE,wA,wV,wG,KD];refine FQ e4 (by simpa using lne) ?_
  refine st ?_;dsimp only[wS,wE,wA,wV,wG];refine⟨dg e1',Fz e1' (by rw[Kc,ok.len]; omega) ?_⟩
  have s1:=bX (o':=O.lst ((qA bs u k).map cM++[cM (cN ((aL u.length (fq bs u k)).map (bD bs u)))])) e1';have s3:(S4.set S.length (O.lst ((qA bs u k).map cM++[cM (cN ((aL u.length (fq bs u k)).map (bD bs u)))])))[l]?=ba (.lst (dW (aL u.length (fq bs u k)))):=by rw[bY (by omega)]; exact e3'
  have s4:(S4.set S.length (O.lst ((qA bs u k).map cM++[cM (cN ((aL u.length (fq bs u k)).map (bD bs u)))])))[l5]?=ba (.lst (((aL u.length (fq bs u k)).map (bD bs u)).map cM)):=by rw[bY (by omega)]; exact e4
  have k5:=k4.late (o:=O.lst ((qA bs u k).map cM++[cM (cN ((aL u.length (fq bs u k)).map (bD bs u)))])) (Kn S.length);generalize S4.set S.length (O.lst ((qA bs u k).map cM++[cM (cN ((aL u.length (fq bs u k)).map (bD bs u)))]))=S5 at s1 s3 s4 k5;refine st ?_;dsimp only[wS,wE,KD];refine FN (aL u.length (fq bs u k)) (λo=>.tup (aI o)) (λo=>cM (bD bs u o)) (λo=>decide (bD bs u o=cN ((aL u.length (fq bs u k)).map (bD bs u)))) (λo=>.tup (aI o)) [ba (cM (cN ((aL u.length (fq bs u k)).map (bD bs u))))] rfl rfl rfl rfl rfl (by omega) ⟨l,l5,rfl,rfl,s3,by rw[em]; exact s4,.refl⟩ (λo ho S6 k6=>?_) λS6 k6=>?_
  ·dsimp only[iQ,wC,wT,wE,wV,wG];refine ae HN ?_;dsimp only[wB];exact⟨λz=>⟨z,rfl,.refl⟩,λz=>⟨z,.refl⟩⟩
  ·refine dS (hn _ _ ⟨k+1,S6.length,_,_,_,by omega,rfl,?_,ah,(k5.trans k6).trans .push⟩)
   have:=ap (u:=O.lst (((aL u.length (fq bs u k)).filter λo=>decide (bD bs u o=cN ((aL u.length (fq bs u k)).map (bD bs u)))).map λo=>W.tup (aI o))) (k6.get _ _ s1)
   rw[this,show qA bs u (k+1)=qA bs u k++[cN ((aL u.length (fq bs u k)).map (bD bs u))]from rfl,Le]; rfl
 ·have h:¬ (k:Ky) < u.length:=Nr h;obtain rfl:k=u.length:=by omega
  refine hK _ _ (st ?_);dsimp only[wS,wE,wA,wV,wG];exact fX e1 (kk _ k1)
end
noncomputable def fH:Ss:=
 (.cons (.ret (.comp (.v 1) (.nm 1) (.seq (.own "all_threes" 1 (.cons (.v 0) .nil))) (.cons (.cmp .eq (.own "least_form" 2 (.cons (.v 2) (.cons (.v 1) .nil))) (.v 1)) .nil) [gV,gV,ba 0]))
 .nil)
noncomputable def cF:Ss:=
 (.cons (.set 1 (.lst (.cons (.tup .nil) .nil)))
 (.cons (.loop (.nm 2) (.rng (.cons (.c (.int 3)) .nil)) (.cons (.set 3 (.lst .nil))
 (.cons (.loop (.nm 4) (.seq (.v 1)) (.cons (.ex (.me .extend (.v 3) (.cons (.comp (.op .add (.v 2) (.tup (.cons (.v 1) .nil))) (.nm 1) (.seq (.own "all_points" 2 (.cons (.v 0) (.cons (.v 2) .nil)))) .nil [gV,gV,ba 4]) .nil)))
 .nil))
 (.cons (.set 1 (.v 3))
 .nil))))
 (.cons (.ret (.v 1))
 .nil)))
noncomputable def b8:Ss:=
 (.cons (.set 2 (.lst .nil))
 (.cons (.loop (.nm 3) (.rng (.cons (.bi .len (.cons (.ix (.v 0) (.c (.int 0))) .nil)) .nil)) (.cons (.ex (.me .extend (.v 2) (.cons (.comp (.tup (.cons (.v 2) (.cons (.v 1) .nil))) (.nm 1) (.seq (.own "all_numbers" 2 (.cons (.bi .len (.cons (.ix (.v 0) (.c (.int 1))) .nil)) (.cons (.v 1) .nil)))) .nil [gV,gV,ba 3]) .nil)))
 .nil))
 (.cons (.ret (.v 2))
 .nil)))
noncomputable def aZ:Ss:=
 (.cons (.ite (.cmp .eq (.v 1) (.c (.int 0))) (.cons (.ret (.lst (.cons (.tup .nil) .nil)))
 .nil) .nil)
 (.cons (.set 2 (.lst .nil))
 (.cons (.loop (.nm 3) (.seq (.own "all_numbers" 2 (.cons (.v 0) (.cons (.op .sub (.v 1) (.c (.int 1))) .nil)))) (.cons (.ex (.me .extend (.v 2) (.cons (.comp (.op .add (.v 2) (.tup (.cons (.v 1) .nil))) (.nm 1) (.rng (.cons (.v 0) .nil)) .nil [gV,gV,ba 3]) .nil)))
 .nil))
 (.cons (.ret (.v 2))
 .nil))))
noncomputable def lg:Ss:=
 (.cons (.set 1 (.own "_law_flow" 1 (.cons (.v 0) .nil)))
 (.cons (.set 2 (.own "_law_full_rule" 1 (.cons (.v 1) .nil)))
 (.cons (.set 3 (.own "_law_figures" 1 (.cons (.v 2) .nil)))
 (.cons (.set 4 (.own "figures" 1 (.cons (.op .add (.sl (.v 2) .no (.yes (.c (.int 2)))) (.tup (.cons (.tup .nil) .nil))) .nil)))
 (.cons (.ite (.not (.own "_law_alike" 2 (.cons (.v 4) (.cons (.v 3) .nil)))) (.cons (.ret (.c (.bl false)))
 .nil) .nil)
 (.cons (.ex (.me .clear (.v 4) .nil))
 (.cons (.ex (.me .append (.v 4) (.cons (.c .non) .nil)))
 (.cons (.ret (.own "_law_alike" 2 (.cons (.own "figures" 1 (.cons (.v 2) .nil)) (.cons (.v 3) .nil))))
 .nil))))))))
theorem AQ {α β:Type}{d:α}(g:α->β)(xs:J9 α):(KS xs.length).map (λi=>g (xs.getD i d))=xs.map g:=by
 refine Ni (by simp) λi h1 h2=>?_
 simp only[Kc,KU]at h1;simp[h1]
theorem mr {α β:Type}{d:α}(n:Kk)(f:α->Kk->β)(h:0 < n):∀xs:J9 α,(KS (xs.length*n)).map (λi=>f (xs.getD (i / n) d) (i % n))=xs.flatMap λx=>(KS n).map (f x)
 | []=>by simp
 | x::xs=>by
  rw[Li,TF,TH,Rl,List.range_add,Le,Pj,<- mr n f h xs,Mg];congr 1
  ·refine LO λi hi=>?_
   have hi:=K6.mp hi;rw[Nat.div_eq_of_lt hi,Nat.mod_eq_of_lt hi]; rfl
  ·refine LO λi _=>?_
   simp only[Ut];rw[Nat.add_div_left _ h,Nat.add_mod_left]; rfl
theorem sS {n k:Kk}(h:0 < n):bn n (k+1)=(bn n k).flatMap λds=>(KS n).map λ(w:Kk)=>ds++[(w:Ky)]:=mr n (λ(ds:J9 Ky) (w:Kk)=>ds++[(w:Ky)]) h (bn n k)
theorem sT {a n k:Kk}(h:0 < (bC a n k).length):aY a n (k+1)=(aY a n k).flatMap λu=>(bC a n k).map λp=>u++[p]:=by
 have:=mr (d:=([]:Wd)) (bC a n k).length (λ(u:Wd) i=>u++[(bC a n k).getD i (0,[])]) h (aY a n k)
 refine Eq.trans this ?_;congr 1
 funext u
 exact AQ (λp=>u++[p]) (bC a n k)
theorem sU {α β:Type}{m:Kk}{F:α->J9 β}(h:∀x,(F x).length=m):∀xs:J9 α,(xs.flatMap F).length=xs.length*m
 | []=>by simp
 | x::xs=>by rw[Pj,Ks,Li,TF,TH,sU h xs,h x,Rl]
theorem C9 {a n k:Kk}:(bC a n k).length=a*n ^ k:=by
 unfold bC;rw[sU (m:=n ^ k) (λm=>by rw[Kc,dE]),KU]
theorem jX {t:J9 Kk}:t∈aJ↔Ord 3 t/\t.length=3:=by
 constructor
 ·intro h;have:∀t∈aJ,t.Nodup/\(∀p∈t,p < 3)/\t.length=3:=by decide
  obtain⟨h1,h2,h3⟩:=this t h;exact⟨⟨h1,h2⟩,h3⟩
 ·intro h;have h1:=qx.mpr h;have:∀t∈AL 3,t∈aJ:=by decide
  exact this t h1
theorem AR {bs:J9 Ky}{u:Wd}:∃t∈aJ,fZ bs u=au bs u t/\∀s∈aJ,gM (bU (au bs u s)) (bU (fZ bs u))=ba false:=by
 obtain⟨x,h1,h2,h3⟩:=sN (ks:=(aJ.map (au bs u)).map bU) (λx hx=>by obtain⟨p,_,rfl⟩:=Kw.mp hx; exact gC p) (fF _) (by simp[aJ])
 rw[Km,Kf]at h1;obtain⟨v,hv,rfl⟩:=h1;have e:fZ bs u=v:=by unfold fZ; rw[L5,hv]; rfl
 rw[e];obtain⟨t,ht,rfl⟩:=Kw.mp (Kt hv);exact⟨t,ht,rfl,λs hs=>h3 _ (Kw.mpr ⟨_,Kw.mpr ⟨s,hs,rfl⟩,rfl⟩)⟩
theorem o8 {bs:J9 Ky}{u:Wd}(h:u.length=3):fZ bs u=cj bs u:=by
 obtain⟨t,ht,e,mn⟩:=AR (bs:=bs) (u:=u);obtain⟨o,h1,h2,h3⟩:=mq (bs:=bs) (u:=u);have hl:∀t∈aJ,gM (bU (au bs u t)) (bU (cj bs u))=ba false:=λt ht=>by
  obtain⟨g1,g2⟩:=jX.mp ht;rw[<- h]at g1 g2;exact(o5 (bs:=bs) (u:=u) u.length (Kn _)).least t g1 g2
 refine gR (vW (gC _) ?_ ?_)
 ·rw[e]; exact hl t ht
 ·rw[<- h3];rw[h]at h1 h2;exact mn o (jX.mpr ⟨h1,h2⟩)
theorem HQ {a n:Kk}{u:Wd}(hu:GoodW a n u)(hl:u.length<=1000):Tr 3 (bA u):=by
 refine⟨by rw[Kc]; exact hl,λx hx=>?_⟩
 obtain⟨p,hp,rfl⟩:=Kw.mp hx;obtain⟨k,hk,e⟩:=MB.mp hp;have hpl:=hu.len k p (by rw[Ko hk,e])
 refine⟨Ny rfl,λy hy=>?_⟩
 simp only[KL,Lr,MJ]at hy;rcases hy with rfl|rfl
 ·trivial
 ·refine⟨by rw[Kc]; omega,λz hz=>?_⟩
  obtain⟨w,_,rfl⟩:=Kw.mp hz;trivial
theorem fI {n:Kk}{x:Ky}(h:x∈md n):0<=x/\x < n:=by
 obtain⟨k,hk,rfl⟩:=Kw.mp h;have:=K6.mp hk;omega
theorem mw {a n:Kk}{u:Wd}(h:u∈sx a n):GoodW a n u/\u.length=3:=by
 unfold sx at h;simp only[My,Kw]at h;obtain⟨m0,h0,m1,h1,m2,h2,w1,g1,w2,g2,w3,g3,rfl⟩:=h;refine⟨?_,rfl⟩;have s1:GoodW a n ([]++[(m0,[])]):=GoodW.nil.snoc (fI h0) rfl (λw hw=>nomatch hw)
 have s2:GoodW a n ([(m0,[])]++[(m1,[w1])]):=s1.snoc (fI h1) rfl (λw hw=>by rw[Kx.mp hw]; exact fI g1)
 exact s2.snoc (fI h2) rfl (λw hw=>by
  simp only[KL,Lr,MJ]at hw;rcases hw with rfl|rfl
  ·exact fI g2
  ·exact fI g3)
theorem xD {a:Kk}{bs:J9 Ky}{g:Wd}(hb:GoodB bs)(h:g∈aP a bs):GoodW a bs.length g/\g.length=3:=by
 unfold aP at h;rw[Oa]at h;obtain⟨u,hu,rfl⟩:=Kw.mp h;obtain⟨gu,u3⟩:=mw hu;unfold fZ;have hm:iG ((aJ.map (au bs u)).map bU) < (aJ.map (au bs u)).length:=by
  unfold iG;refine O2 (dD _ _) ?_;rw[Kc,Kc]; decide
 have:=Kt (ay (d:=[]) hm);obtain⟨t,ht,e⟩:=Kw.mp this;rw[<- e];have tk:∀t∈aJ,t.length=3/\t.Nodup/\∀p∈t,p < 3:=by decide
 obtain⟨t1,t2,t3⟩:=tk t ht;exact⟨xC hb gu (λp hp=>by have:=t3 p hp; omega) t2,by rw[cg]; exact t1⟩
theorem vZ {n:Kk}(hn:0 < n):∀ {k:Kk} {ds:J9 Ky},ds.length=k->(∀w∈ds,0<=w/\w < (n:Ky))->ds∈bn n k
 | 0,ds,hl,_=>by
  rw[LY.mp hl];exact Kx.mpr rfl
 | k+1,ds,hl,h=>by
  obtain⟨t,x,rfl⟩ : ∃t x,ds=t++[x]:=⟨ds.dropLast,ds.getLast (by intro z; rw[z]at hl; cases hl),(Nw _).symm⟩
  rw[Ks,LW]at hl;obtain⟨x0,x1⟩:=h x (by simp)
  rw[sS hn];refine My.mpr ⟨t,vZ hn (by omega) λw hw=>h w (Mk _ hw),Kw.mpr ⟨x.toNat,K6.mpr (by omega),by rw[NW x0]⟩⟩
theorem v4 {a n:Kk}(ha:0 < a)(hn:0 < n):∀ {k:Kk} {u:Wd},GoodW a n u->u.length=k->u∈aY a n k
 | 0,u,_,hl=>by
  rw[LY.mp hl];exact Kx.mpr rfl
 | k+1,u,hu,hl=>by
  obtain⟨v,p,rfl⟩ : ∃v p,u=v++[p]:=⟨u.dropLast,u.getLast (by intro z; rw[z]at hl; cases hl),(Nw _).symm⟩
  rw[Ks,LW]at hl;have hvk:v.length=k:=by omega
  have gp:(v++[p])[k]?=ba p:=by rw[<- hvk,Ms (Kn _),Nat.sub_self]; rfl
  have gv:GoodW a n v:=by
   have key:∀(i:Kk) (x:Pt),v[i]?=ba x->(v++[p])[i]?=ba x:=λi x e=>by
    rw[Lk (Kq.mp e).1]; exact e
   exact⟨λi x e=>hu.mark i x (key i x e),λi x e=>hu.len i x (key i x e),λi x e=>hu.way i x (key i x e)⟩
  have m:=hu.mark k p gp;rw[sT (by rw[C9]; exact Nat.mul_pos ha (Nat.pow_pos hn))]
  refine My.mpr ⟨v,v4 ha hn gv hvk,Kw.mpr ⟨p,?_,rfl⟩⟩;unfold bC;refine My.mpr ⟨p.1.toNat,K6.mpr (by omega),Kw.mpr ⟨p.2,vZ hn (hu.len k p gp) (hu.way k p gp),?_⟩⟩
  rw[NW m.1]
theorem s1:pV ((aY 1 1 3).map bU)/\pV ((aY 2 1 3).map bU)/\pV ((aY 3 1 3).map bU)/\pV ((aY 1 2 3).map bU)/\pV ((aY 2 2 3).map bU)/\pV ((aY 1 3 3).map bU):=by unfold pV; decide +kernel
theorem J4:pV ((aY 3 2 3).map bU):=by unfold pV; decide +kernel
theorem J5:pV ((aY 2 3 3).map bU):=by unfold pV; decide +kernel
theorem Da {a n:Kk}(h1:0 < a)(h3:a<=3)(n1:0 < n)(n3:n<=3)(h6:a*n<=6):pV ((aY a n 3).map bU):=by
 have ha:a=1\/a=2\/a=3:=by omega
 have hn:n=1\/n=2\/n=3:=by omega
 rcases ha with rfl|rfl|rfl <;> rcases hn with rfl|rfl|rfl
 ·exact s1.1
 ·exact s1.2.2.2.1
 ·exact s1.2.2.2.2.2
 ·exact s1.2.1
 ·exact s1.2.2.2.2.1
 ·exact J5
 ·exact s1.2.2.1
 ·exact J4
 ·exact absurd h6 (by decide)
theorem FR {us:J9 Wd}(h:pV (us.map bU)):us.Nodup:=by
 unfold pV at h;rw[M2]at h;rw[MS];refine h.imp λ{x y} hl e=>?_
 rw[e]at hl;rw[jI _ _ (gC y) hl]at hl; cases hl
theorem Db {a:Kk}{bs:J9 Ky}{us:J9 Wd}(hs:SizeOk a bs)(hnd:us.Nodup)(h1:∀u∈us,u∈aP a bs)(h2:∀u∈aP a bs,u∈us):((aY a bs.length 3).filter λu=>decide (cj bs u=u))=c7 us:=by
 have hn:=hs.n3;have hsr:pV (((aY a bs.length 3).filter λu=>decide (cj bs u=u)).map bU):=To (List.filter_sublist.map _) (Da hs.pos hs.a3 hn.1 hn.2 hs.most)
 have hp:((aY a bs.length 3).filter λu=>decide (cj bs u=u)).Perm us:=(List.perm_ext_iff_of_nodup (FR hsr) hnd).mpr λu=>by
  rw[Ma,KG];constructor
  ·rintro⟨hu,hl⟩;obtain⟨gu,u3⟩:=gD hu;refine h2 u ?_;have:=qp gu u3;rw[o8 u3,hl]at this;exact this
  ·intro hu;have hf:=h1 u hu;obtain⟨gg,g3⟩:=xD hs.good hf;refine⟨v4 hs.pos hn.1 gg g3,?_⟩;unfold aP at hf;rw[Oa]at hf;obtain⟨v,hv,e⟩:=Kw.mp hf;obtain⟨gv,v3⟩:=mw hv;obtain⟨t,ht,et,_⟩:=AR (bs:=bs) (u:=v);obtain⟨t1,t2⟩:=jX.mp ht;have:cj bs (au bs v t)=cj bs v:=uB hs.good gv (by rw[v3]; exact t1) (by rw[t2,v3])
   rw[<- et,e,<- o8 v3,e]at this;exact this
 apply mj;rw[gS];have nice:=mo hnd;have po:(eJ (us.map bU)).Perm (us.map bU):=eM;refine jb (λx hx=>?_) ((hp.map bU).trans po.symm) hsr (gl nice)
 obtain⟨u,_,rfl⟩:=Kw.mp hx;exact gC u
section
variable{defs:J9 (KF×Df)}{fuel d:Kk}{S:aa}{Q:QW}
theorem iu (hg:Is defs ("all_numbers" : KF) 2 4 aZ){n:Kk}(hn1:0 < n)(hn3:n<=3):∀(k d:Kk) (S:aa) (Q:QW),k<=2->(∀(l:Kk) S',S'[l]?=ba (.lst ((bn n k).map λds=>.tup (af ds)))->S.length<=l->Ka S S'->Q (.ref l,S'))->
  wO (bN (aq defs fuel (d+k+1)) "all_numbers" 2 [.int n,.int k] S) Q
 | 0,d,S,Q,_,kk=>by
  refine aF hg rfl rfl λQ' hR=>?_
  show wZ _ _ aZ [ba (.int n),ba (.int (0:Kk)),gV,gV] S Q';dsimp only[aZ];refine bm λK hK=>?_
  dsimp only[wS,wT,wE,wV,wG];refine ae (show dz .eq (.int ((0:Kk):Ky)) (.int 0) S=ba (.bl true,S)from rfl) ?_
  dsimp only[wB];refine aS (Q0:=Q') (λ_ Q2 _ hr=>?_) (λz=>by cases z)
  refine st ?_;dsimp only[wS,wE,wA];exact hr _ _ (hR _ _ (kk _ _ ah (Kn _) .push))
 | k+1,d,S,Q,hk,kk=>by
  refine aF hg rfl rfl λQ' hR=>?_
  replace kk:∀(l:Kk) S',S'[l]?=ba (.lst ((bn n (k+1)).map λds=>.tup (af ds)))->S.length<=l->Ka S S'->Q' (.rt (.ref l),S'):=λl S' a b c=>hR _ _ (kk l S' a b c)
  clear hR;show wZ _ _ aZ [ba (.int n),ba (.int ((k+1:Kk):Ky)),gV,gV] S Q';have dl:(bn n k).length<=9:=by
   rw[dE];exact KT (Nc hn3 k) (M3 (n:=3) (by decide) (show k<=2 by omega))
  dsimp only[aZ];refine bm λK hK=>?_
  dsimp only[wS,wT,wE,wV,wG];refine ae iO ?_;rw[show(((k+1:Kk):Ky)==0)=false by simp; omega]
  dsimp only[wB];refine aS (Q0:=Q') (λz=>by cases z) (λ_ Q2 hn _=>dS (hn _ _ (hK _ _ ?_)))
  clear hn hK K;refine st ?_;dsimp only[wS,wE,wA,KD];refine bm λK hK=>?_
  refine jn rfl rfl ?_;dsimp only[wE,wA,wV,wG];refine ae zM ?_;dsimp only;rw[show((k+1:Kk):Ky) - 1=(k:Ky) by omega]
  refine iu hg hn1 hn3 k d _ _ (by omega) λt S2 e2 ht k2=>?_
  have ht':(S++[O.lst []]).length<=t:=ht;rw[Ks,LW]at ht';refine⟨t,(bn n k).map λds=>.tup (af ds),λi ρ S'=>(∃a3,ρ=[ba (.int n),ba (.int ((k+1:Kk):Ky)),ba (.ref S.length),a3])/\S'[S.length]?=ba (.lst ((((bn n k).take i).flatMap λds=>(KS n).map λ(w:Kk)=>ds++[(w:Ky)]).map λds=>.tup (af ds)))/\S'[t]?=ba (.lst ((bn n k).map λds=>.tup (af ds)))/\Ka S S',rfl,⟨⟨_,rfl⟩,k2.get _ _ ah,e2,Ka.push.trans k2⟩,λ_ _ _ h=>h.2.2.1,?_,?_⟩
  ·rintro i w ρ S3 hw ⟨⟨a3,rfl⟩,e3,t3,k3⟩;clear hK;rw[Km,Kf]at hw;obtain⟨ds,hds,rfl⟩:=hw;have hil:i < (bn n k).length:=(Kq.mp hds).1;have dsl:=vT (Kt hds);refine ae (show ik (.nm 3) (.tup (af ds)) [ba (.int n),ba (.int ((k+1:Kk):Ky)),ba (.ref S.length),a3] S3=ba ([ba (.int n),ba (.int ((k+1:Kk):Ky)),ba (.ref S.length),ba (.tup (af ds))],S3)from rfl) ?_
   intro Q3 hn _;refine st ?_;dsimp only[wS,wE,wA,wV,wG];refine⟨dg e3,?_⟩;refine FH n (λ_=>true) (λ(w:Kk)=>.tup (af (ds++[(w:Ky)]))) [ba (.tup (af ds))] rfl rfl rfl rfl (by omega) ⟨rfl,.refl⟩ (λw hw S4 k4=>?_) λS4 k4=>?_
   ·dsimp only[iQ,wC,wE,wA,wV,wG];refine⟨λ_=>ae (iN (nh (by unfold af; rw[Ks,Kc]; show _+1<=_; omega))) ⟨rfl,?_,.refl⟩,λz=>by cases z⟩
    unfold af;rw[Le]; rfl
   ·rw[jq];have kk4:=k4.trans (Ka.push (o:=O.lst ((KS n).map λ(w:Kk)=>W.tup (af (ds++[(w:Ky)])))))
    have fl:=sU (F:=λ(ds:J9 Ky)=>(KS n).map λ(w:Kk)=>ds++[(w:Ky)]) (m:=n) (λ_=>by rw[Kc,KU]) ((bn n k).take i)
    have fm:((bn n k).take i).length*n<=9*3:=O4 (by rw[LJ]; omega) hn3
    refine vV (kk4.get _ _ e3) ah (by rw[Kc,Kc,KU]; omega) (dS (hn _ _ ⟨⟨_,rfl⟩,?_,?_,(k3.trans kk4).late (Kn _)⟩))
    ·rw[bX (kk4.get _ _ e3),Lg,hds];simp[Nd,NC]
    ·rw[bY (by omega)]; exact kk4.get _ _ t3
  ·rintro ρ S3 ⟨⟨a3,rfl⟩,e3,t3,k3⟩;rw[Kc,Lw,<- sS hn1]at e3;refine hK _ _ (st ?_);dsimp only[wS,wE,wV,wG];exact kk _ _ e3 (Kn _) k3
theorem qC (hnu:Is defs ("all_numbers" : KF) 2 4 aZ)(hg:Is defs ("all_points" : KF) 2 4 b8){M N:J9 W}{b0:W}{a n k:Kk}(hM:M.length=a)(hN:N.length=n)(ha3:a<=3)(hn1:0 < n)(hn3:n<=3)(hk:k<=2)
  (kk:∀(l:Kk) S',S'[l]?=ba (.lst ((bC a n k).map cM))->S.length<=l->Ka S S'->Q (.ref l,S')) :
  wO (bN (aq defs fuel (d+4)) "all_points" 2 [.tup [.tup M,.tup N,b0],.int k] S) Q:=by
 refine aF hg rfl rfl λQ' hR=>?_
 replace kk:∀(l:Kk) S',S'[l]?=ba (.lst ((bC a n k).map cM))->S.length<=l->Ka S S'->Q' (.rt (.ref l),S'):=λl S' a b c=>hR _ _ (kk l S' a b c)
 clear hR;show wZ _ _ b8 [ba (.tup [.tup M,.tup N,b0]),ba (.int k),gV,gV] S Q';have dl:(bn n k).length<=9:=by
  rw[dE];exact KT (Nc hn3 k) (M3 (n:=3) (by decide) hk)
 have hd:d+3=(d+2 - k)+k+1:=by omega
 dsimp only[b8];refine st ?_;dsimp only[wS,wE,wA,KD];refine bm λK hK=>?_
 refine eg (a:Ky) (λi ρ S'=>(∃a3,ρ=[ba (.tup [.tup M,.tup N,b0]),ba (.int k),ba (.ref S.length),a3])/\S'[S.length]?=ba (.lst ((((KS i).flatMap λ(m:Kk)=>(bn n k).map λds=>((((m:Kk):Ky),ds):Pt))).map cM))/\Ka S S') rfl rfl (by omega) ?_ ?_ ?_
 ·dsimp only[wE,wA,wV,wG];refine aC (by decide) rfl (di ?_)
  rw[hM];exact⟨rfl,⟨_,rfl⟩,ah,.push⟩
 ·rintro i ρ S1 hi ⟨⟨a3,rfl⟩,e1,k1⟩ Q2 hn _;clear hK;have hia:i < a:=by omega
  dsimp only[KD];refine st ?_;dsimp only[wS,wE,wA,wV,wG];refine⟨dg e1,?_⟩;refine qw (bn n k) (λds=>.tup (af ds)) (λ_=>true) (λds=>cM ((i:Ky),ds)) [ba (.int i)] rfl rfl rfl rfl (by omega) ?_ (λds _ S3 k3=>?_) λS3 k3=>?_
  ·dsimp only[wE,wA,wV,wG];refine aC (by decide) rfl (di ?_)
   rw[hN,hd];exact iu hnu hn1 hn3 k _ _ _ hk λl S2 e2 _ k2=>⟨l,rfl,e2,k2⟩
  ·dsimp only[iQ,wC,wE,wA,wV,wG];exact⟨λ_=>⟨rfl,rfl,.refl⟩,λz=>by cases z⟩
  ·rw[jq];have kk4:=k3.trans (Ka.push (o:=O.lst ((bn n k).map λds=>cM ((i:Ky),ds))))
   have fl:=sU (F:=λ(m:Kk)=>(bn n k).map λds=>((((m:Kk):Ky),ds):Pt)) (m:=(bn n k).length) (λ_=>Kc ..) (KS i)
   have fm:(KS i).length*(bn n k).length<=3*9:=O4 (by rw[KU]; omega) dl
   refine vV (kk4.get _ _ e1) ah (by rw[Kc,Kc]; omega) (dS (hn _ _ ⟨⟨_,rfl⟩,?_,(k1.trans kk4).late (Kn _)⟩))
   rw[bX (kk4.get _ _ e1),N5];simp[Nd,NC]
 ·rintro ρ S1 ⟨⟨a3,rfl⟩,e1,k1⟩;rw[KC]at e1;refine hK _ _ (st ?_);dsimp only[wS,wE,wV,wG];exact kk _ _ e1 (Kn _) k1
theorem qD (hnu:Is defs ("all_numbers" : KF) 2 4 aZ)(hpt:Is defs ("all_points" : KF) 2 4 b8)(hg:Is defs ("all_threes" : KF) 1 5 cF){M N:J9 W}{b0:W}{a n:Kk}(hM:M.length=a)(hN:N.length=n)(ha1:0 < a)(ha3:a<=3)(hn1:0 < n)(hn3:n<=3)(han:a*n<=6)
  (kk:∀(l:Kk) S',S'[l]?=ba (.lst ((aY a n 3).map bA))->S.length<=l->Ka S S'->Q (.ref l,S')) :
  wO (bN (aq defs fuel (d+5)) "all_threes" 1 [.tup [.tup M,.tup N,b0]] S) Q:=by
 refine aF hg rfl rfl λQ' hR=>?_
 replace kk:∀(l:Kk) S',S'[l]?=ba (.lst ((aY a n 3).map bA))->S.length<=l->Ka S S'->Q' (.rt (.ref l),S'):=λl S' a b c=>hR _ _ (kk l S' a b c)
 clear hR;show wZ _ _ cF [ba (.tup [.tup M,.tup N,b0]),gV,gV,gV,gV] S Q';have pk:∀(k:Kk) (S:aa) (Q:QW),k<=2->(∀(l:Kk) S',S'[l]?=ba (.lst ((bC a n k).map cM))->S.length<=l->Ka S S'->Q (.ref l,S'))->wO (bN (aq defs fuel (d+4)) "all_points" 2 [.tup [.tup M,.tup N,b0],.int k] S) Q:=λk S Q hk h=>qC hnu hpt hM hN ha3 hn1 hn3 hk h
 generalize W.tup [.tup M,.tup N,b0]=R at pk;have wm:=λ(k:Kk) (hk:k<=2)=>gB (a:=a) (n:=n) (k:=k) ha1 ha3 hn1 hn3 han hk
 dsimp only[cF];refine st ?_;dsimp only[wS,wE,wA,KD];refine bm λK hK=>?_
 refine eg 3 (λi ρ S'=>∃(l1:Kk) (a2 a3 a4:Ki W),ρ=[ba R,ba (.ref l1),a2,a3,a4]/\S'[l1]?=ba (.lst ((aY a n i).map bA))/\S.length<=l1/\Ka S S') rfl rfl (by decide) ⟨rfl,_,_,_,_,rfl,ah,Kn _,.push⟩ ?_ ?_
 ·rintro i ρ S1 hi ⟨l1,a2,a3,a4,rfl,e1,hl1,k1⟩ Q2 hn _;clear hK;have hi2:i<=2:=by omega
  obtain⟨p1,p2,p3⟩:=wm i hi2;dsimp only[KD];refine st ?_;dsimp only[wS,wE,wA,KD];have h1:=dR e1;refine bm λK hK=>?_
  refine vG l1 ((aY a n i).map bA) (λj ρ S'=>(∃a4,ρ=[ba R,ba (.ref l1),ba (.int i),ba (.ref S1.length),a4])/\S'[S1.length]?=ba (.lst ((((aY a n i).take j).flatMap λu=>(bC a n i).map λp=>u++[p]).map bA))/\S'[l1]?=ba (.lst ((aY a n i).map bA))/\Ka S S') rfl rfl ⟨rfl,⟨_,rfl⟩,ah,ap e1,k1.trans .push⟩ (λ_ _ _ h=>h.2.2.1) ?_ ?_
  ·rintro j w ρ S2 hw ⟨⟨a4,rfl⟩,e2,t2,k2⟩;clear hK hn;rw[Km,Kf]at hw;obtain⟨u,hu,rfl⟩:=hw;have hjl:j < (aY a n i).length:=(Kq.mp hu).1;have ul:=vU (Kt hu);refine ae (show ik (.nm 4) (bA u) [ba R,ba (.ref l1),ba (.int i),ba (.ref S1.length),a4] S2=ba ([ba R,ba (.ref l1),ba (.int i),ba (.ref S1.length),ba (bA u)],S2)from rfl) ?_
   intro Q3 hn3 _;refine st ?_;dsimp only[wS,wE,wA,wV,wG];refine⟨dg e2,?_⟩;refine qw (bC a n i) cM (λ_=>true) (λp=>bA (u++[p])) [ba (bA u)] rfl rfl rfl rfl (by omega) ?_ (λp _ S4 k4=>?_) λS4 k4=>?_
   ·dsimp only[wE,wA,wV,wG];exact pk i _ _ hi2 λl S3 e3 _ k3=>⟨l,rfl,e3,k3⟩
   ·dsimp only[iQ,wC,wE,wA,wV,wG,bA];have ev:u.map cM++[cM p]=(u++[p]).map cM:=by rw[Le]; rfl
    refine⟨λ_=>ae (iN (nh (by rw[Ks,Kc]; show _+1<=_; omega))) ⟨rfl,?_,.refl⟩,λz=>by cases z⟩
    dsimp only;rw[ev]
   ·rw[jq];have kk4:=k4.trans (Ka.push (o:=O.lst ((bC a n i).map λp=>bA (u++[p]))))
    have fl:=sU (F:=λ(u:Wd)=>(bC a n i).map λp=>u++[p]) (m:=(bC a n i).length) (λ_=>Kc ..) ((aY a n i).take j)
    have fm:((aY a n i).take j).length*(bC a n i).length<=216:=KT (NK _ (by rw[LJ]; omega)) p3
    refine vV (kk4.get _ _ e2) ah (by rw[Kc,Kc]; erw [fl]; omega) (dS (hn3 _ _ ⟨⟨_,rfl⟩,?_,?_,(k2.trans kk4).late k1.len⟩))
    ·rw[bX (kk4.get _ _ e2),Lg,hu];simp[Nd,NC]
    ·rw[bY (by omega)]; exact kk4.get _ _ t2
  ·rintro ρ S2 ⟨⟨a4,rfl⟩,e2,t2,k2⟩;rw[Kc,Lw,<- sT p1]at e2;refine hK _ _ (st ?_);dsimp only[wS,wE,wV,wG,KD];exact dS (hn _ _ ⟨_,_,_,_,rfl,e2,k1.len,k2⟩)
 ·rintro ρ S1 ⟨l1,a2,a3,a4,rfl,e1,hl1,k1⟩;refine hK _ _ (st ?_);dsimp only[wS,wE,wV,wG];exact kk _ _ e1 hl1 k1
theorem AS (hfu:20 < fuel)(P:Parts defs)(hlo:Is defs ("longer_orders" : KF) 2 4 bE)(hlf:Is defs ("least_form" : KF) 2 7 cD)(hnu:Is defs ("all_numbers" : KF) 2 4 aZ)(hpt:Is defs ("all_points" : KF) 2 4 b8)(hth:Is defs ("all_threes" : KF) 1 5 cF)(hg:Is defs ("figures" : KF) 1 1 fH){M:J9 W}{b0:W}{ns:J9 KF}{bs:J9 Ky}{a:Kk}(hs:SizeOk a bs)(hM:M.length=a)(hnl:ns.length=bs.length)
  (kk:∀(l:Kk) S',S'[l]?=ba (.lst (((aY a bs.length 3).filter λu=>decide (cj bs u=u)).map bA))->S.length<=l->Ka S S'->Q (.ref l,S')) :
  wO (bN (aq defs fuel (d+6)) "figures" 1 [.tup [.tup M,.tup (KZ cu ns bs),b0]] S) Q:=by
 refine aF hg rfl rfl λQ' hR=>?_
 show wZ _ _ fH [ba (.tup [.tup M,.tup (KZ cu ns bs),b0])] S Q';have zl:(KZ cu ns bs).length=bs.length:=by rw[Nb,hnl,Rp]
 have hn:=hs.n3;have hl:(aY a bs.length 3).length<=216:=by
  rw[cX];exact(gB (k:=2) hs.pos hs.a3 hn.1 hn.2 hs.most (by decide)).2.2
 dsimp only[fH];refine st ?_;dsimp only[wS,wE];refine qw (aY a bs.length 3) bA (λu=>decide (cj bs u=u)) bA [ba (.tup [.tup M,.tup (KZ cu ns bs),b0])] rfl rfl rfl rfl (by omega) ?_ (λu hu S3 k3=>?_) λS3 k3=>?_
 ·dsimp only[wE,wA,wV,wG];exact qD hnu hpt hth hM zl hs.pos hs.a3 hn.1 hn.2 hs.most λl S2 e2 _ k2=>⟨l,rfl,e2,k2⟩
 ·obtain⟨gu,u3⟩:=gD hu;dsimp only[iQ,wC,wT,wE,wA,wV,wG];refine qB (d:=d+2) hfu P hlo hlf hs.good hnl gu (by omega) λS4 k4=>ae Fx ?_
  dsimp only[wB];exact⟨λz=>⟨z,rfl,k4⟩,λz=>⟨z,k4⟩⟩
 ·exact hR _ _ (kk _ _ ah k3.len (k3.trans .push))
structure Lw13 (defs:J9 (KF×Df)):Prop where
 gen:Gen defs
 full:Full defs
 parts:Parts defs
 longer:Is defs ("longer_orders" : KF) 2 4 bE
 least:Is defs ("least_form" : KF) 2 7 cD
 nums:Is defs ("all_numbers" : KF) 2 4 aZ
 pts:Is defs ("all_points" : KF) 2 4 b8
 threes:Is defs ("all_threes" : KF) 1 5 cF
 figs:Is defs ("figures" : KF) 1 1 fH
 flow:Is defs ("_law_flow" : KF) 1 1 eR
 alike:Is defs ("_law_alike" : KF) 2 2 bH
 law:Is defs ("law" : KF) 1 5 lg
theorem AT (hfu:50 < fuel)(L:Lw13 defs){zs:J9 Ky}:∃S',aq defs fuel (d+9) "law" [.ref 0] [.fro (zs.map W.int)]=ba (.bl true,S'):=by
 suffices h:wO (bN (aq defs fuel (d+9)) "law" 1 [.ref 0] [.fro (zs.map W.int)]) (λp=>p.1=.bl true) by
  obtain⟨⟨v,S'⟩,e,q⟩:=cL h;cases(show v=.bl true from q)
  exact⟨S',e⟩
 have G:=L.gen;refine aF L.law rfl rfl λQ' hR=>?_
 show wZ _ _ lg [ba (.ref 0),gV,gV,gV,gV] [.fro (zs.map W.int)] Q';unfold lg;refine bm λK hK=>?_
 dsimp only[wS,wE,wA,wV,wG,KD];refine FK (d:=d+7) L.flow (ns:=zs) rfl λr S1 _ f1=>hK _ _ ?_
 clear hK K;refine bm λK hK=>?_
 dsimp only[wS,wE,wA,wV,wG,KD];refine FD (d:=d) (by omega) G L.full f1 λw S2 hw f2 _=>hK _ _ ?_
 clear hK K f1 f2;obtain⟨a,bs,ms,ns,gs0,rfl,hr⟩:=hw;have hs:=hr.size;have hnl:=hr.nl;have hml:=hr.ml;clear hr;unfold d7;generalize c7 gs0=gs;have ml:(ms.map W.str).length=a:=by rw[Kc,hml]
 have fk:∀(b0:W) (S:aa) (Q:QW),(∀(l:Kk) S',S'[l]?=ba (.lst (((aY a bs.length 3).filter λu=>decide (cj bs u=u)).map bA))->S.length<=l->Ka S S'->Q (.ref l,S'))->wO (bN (aq defs fuel (d+8)) "figures" 1 [.tup [.tup (ms.map W.str),.tup (KZ cu ns bs),b0]] S) Q:=λb0 S Q h=>AS (d:=d+2) (by omega) L.parts L.longer L.least L.nums L.pts L.threes L.figs hs ml hnl h
 refine bm λK hK=>?_
 dsimp only[wS,wE,wA,wV,wG,KD];refine oY (d:=d+4) G L.full hs hml hnl λus q S3 hnd h64 hm1 hm2 e3 hq k3=>hK _ _ ?_
 clear hK K;rw[<- Db hs hnd hm1 hm2]at e3;have tr:∀x∈((aY a bs.length 3).filter λu=>decide (cj bs u=u)).map bA,Tr 3 x:=λx hx=>by
  obtain⟨u,hu,rfl⟩:=Kw.mp hx;obtain⟨gu,u3⟩:=gD (Ma.mp hu).1;exact HQ gu (by omega)
 have ln:(((aY a bs.length 3).filter λu=>decide (cj bs u=u)).map bA).length<=100000:=by
  rw[Kc];refine KT (Mx _ _) ?_;rw[cX];exact KT (gB (k:=2) hs.pos hs.a3 hs.n3.1 hs.n3.2 hs.most (by decide)).2.2 (by decide)
 generalize((aY a bs.length 3).filter λu=>decide (cj bs u=u)).map bA=X at e3 tr ln fk
 refine bm λK hK=>?_
 dsimp only[wS,wE,wA,wP,wV,wG,wN,KD];refine ae (show ww (.tup [.tup (ms.map W.str),.tup (KZ cu ns bs),.tup (gs.map bA)]) gV (ba 2) S3=ba (.tup [.tup (ms.map W.str),.tup (KZ cu ns bs)],S3)from rfl) ?_
 dsimp only;refine ae (iN (nh (Ny rfl))) ?_;dsimp only[PF,R0];refine fk _ _ _ λl4 S4 e4 hl4 k4=>hK _ _ ?_
 clear hK K;have n34:l4≠q:=by have:=dR e3; omega
 have e3:=k4.get _ _ e3;refine bm λK hK=>?_
 dsimp only[wS,wT,wE,wA,wV,wG];refine oX (n:=3) (d:=d+3) L.alike e4 e3 ln tr λS5 k5=>?_
 refine ae (show iE S5 (.bl true)=ba true from rfl) ?_
 refine aS (Q0:=Q') (λz=>by cases z) (λ_ Q2 hn2 _=>dS (hn2 _ _ (hK _ _ ?_)))
 clear hn2 hK K;have e4:=k5.get _ _ e4;have e3:=k5.get _ _ e3;refine st ?_;dsimp only[wS,wE,wA,wV,wG];refine⟨dg e4,?_⟩;refine ae (show Me.clear.fn (.ref l4) [] S5=ba (.non,S5.set l4 (.lst [])) by show lw (.ref l4) [] S5=_; simp only[lw,dF e4]) ?_
 have e3:(S5.set l4 (.lst []))[q]?=_:=(bY n34).trans e3;have e4:(S5.set l4 (.lst []))[l4]?=ba (.lst []):=bX e4;refine st ?_;dsimp only[wS,wE,wA,wV,wG];refine⟨dg e4,si e4 (by decide) ?_⟩
 have e3:((S5.set l4 (.lst [])).set l4 (.lst ([]++[W.non])))[q]?=_:=(bY n34).trans e3;generalize(S5.set l4 (.lst [])).set l4 (.lst ([]++[W.non]))=S6 at e3;refine st ?_;dsimp only[wS,wE,wA,wV,wG];refine fk _ _ _ λl7 S7 e7 _ k7=>?_
 exact oX (n:=3) (d:=d+3) L.alike e7 (k7.get _ _ e3) ln tr λS8 _=>hR _ _ rfl
end
noncomputable def aj (i:Kk):M5:=PySem.Challenge.pw_layworld_k13_figures.main.body.getD i (.Pass ⟨0,0,0,0⟩)
noncomputable def iw:Df:=⟨["rule","world","i","j"],["rule","world","i","j"],vS⟩
noncomputable def bo:Df:=⟨["rule","world","ahead","point"],["rule","world","ahead","point"],eu⟩
noncomputable def bp:Df:=⟨["rule","world"],["rule","world","form","orders","longer","lasts","least"],cD⟩
noncomputable def aM:Df:=⟨["orders","size"],["orders","size","longer","order"],bE⟩
noncomputable def ci:Df:=⟨["rule"],["rule"],fH⟩
noncomputable def bq:Df:=⟨["rule"],["rule","threes","ahead","longer","world"],cF⟩
noncomputable def br:Df:=⟨["rule","ahead"],["rule","ahead","points","mark"],b8⟩
noncomputable def a7:Df:=⟨["bound","size"],["bound","size","longer","numbers"],aZ⟩
noncomputable def bI:Df:=⟨["_law_script"],["_law_script"],eR⟩
noncomputable def bJ:Df:=⟨["_law_flow_here","_law_many"],["_law_flow_here","_law_many","_law_cell","_law_digit"],cW⟩
noncomputable def aT:Df:=⟨["_law_flow_here","_law_many"],["_law_flow_here","_law_many"],dI⟩
noncomputable def bK:Df:=⟨["_law_flow_here","_law_stem"],["_law_flow_here","_law_stem","_law_near"],fP⟩
noncomputable def bu:Df:=⟨["_law_flow_here","_law_many"],["_law_flow_here","_law_many","_law_stem","_law_names_here","_law_k","_law_name_here","_law_spare"],cZ⟩
noncomputable def aU:Df:=⟨["_law_rule","_law_world","_law_i","_law_j"],["_law_rule","_law_world","_law_i","_law_j"],dJ⟩
noncomputable def bL:Df:=⟨["_law_rule","_law_world","_law_points"],["_law_rule","_law_world","_law_points","_law_told","_law_k","_law_i"],fQ⟩
noncomputable def bv:Df:=⟨[],[],gw⟩
noncomputable def a9:Df:=⟨["_law_rule","_law_three"],["_law_rule","_law_three"],eh⟩
noncomputable def bw:Df:=⟨["_law_flow_here","_law_many"],["_law_flow_here","_law_many","_law_menu"],eZ⟩
noncomputable def aV:Df:=⟨["_law_flow_here","_law_marks","_law_backs_here","_law_barred"],["_law_flow_here","_law_marks","_law_backs_here","_law_barred","_law_names_here","_law_ways"],dL⟩
noncomputable def aD:Df:=⟨["_law_flow_here","_law_marks","_law_ways"],["_law_flow_here","_law_marks","_law_ways","_law_told","_law_k"],cz⟩
noncomputable def bx:Df:=⟨["_law_flow_here"],["_law_flow_here","_law_menu"],ff⟩
noncomputable def aN:Df:=⟨["_law_flow_here"],["_law_flow_here","_law_marks","_law_ways","_law_rule","_law_barred","_law_k"],dh⟩
noncomputable def aA:Df:=⟨["_law_flow_here"],["_law_flow_here","_law_menu"],cq⟩
noncomputable def bc:Df:=⟨["_law_backs_here","_law_must","_law_to_one","_law_to_two","_law_between_here"],["_law_backs_here","_law_must","_law_to_one","_law_to_two","_law_between_here","_law_to","_law_pair","_law_x","_law_y","_law_z"],ej⟩
noncomputable def aO:Df:=⟨["_law_flow_here","_law_backs_here","_law_must"],["_law_flow_here","_law_backs_here","_law_must","_law_many","_law_menu","_law_some","_law_numbers","_law_told","_law_k","_law_other","_law_u","_law_v"],bM⟩
noncomputable def aB:Df:=⟨["_law_flow_here"],["_law_flow_here","_law_form","_law_backs_here","_law_must","_law_most","_law_marks","_law_rule","_law_barred","_law_many","_law_at","_law_one","_law_two","_law_between_here","_law_some","_law_first"],cr⟩
noncomputable def be:Df:=⟨["_law_marks"],["_law_marks","_law_told","_law_i","_law_j"],en⟩
noncomputable def aG:Df:=⟨["_law_flow_here"],["_law_flow_here","_law_marks","_law_ways","_law_rule","_law_k","_law_own","_law_free","_law_barred","_law_three"],cR⟩
noncomputable def ar:Df:=⟨["_law_flow_here"],["_law_flow_here","_law_marks","_law_barred"],b7⟩
noncomputable def bz:Df:=⟨["_law_found","_law_due"],["_law_found","_law_due"],bH⟩
noncomputable def bf:Df:=⟨["_law_many","_law_size"],["_law_many","_law_size","_law_told","_law_k"],cC⟩
noncomputable def bg:Df:=⟨["_law_rule","_law_size"],["_law_rule","_law_size","_law_told","_law_k","_law_points","_law_mark"],dk⟩
noncomputable def aW:Df:=⟨["_law_rule"],["_law_rule"],dM⟩
noncomputable def aH:Df:=⟨["_law_flow_here"],["_law_flow_here","_law_form","_law_marks","_law_many","_law_rule"],cU⟩
noncomputable def iy:Df:=⟨["_law_script"],["_law_script","_law_flow_here","_law_rule","_law_due","_law_found"],lg⟩
noncomputable def kD:J9 (KF×Df):=[(("way" : KF),iw),(("point_over" : KF),bo),(("least_form" : KF),bp),(("longer_orders" : KF),aM),(("figures" : KF),ci),(("all_threes" : KF),bq),(("all_points" : KF),br),(("all_numbers" : KF),a7),(("_law_flow" : KF),bI),(("_law_pick" : KF),bJ),(("_law_letters" : KF),aT),(("_law_name" : KF),bK),(("_law_names" : KF),bu),(("_law_between" : KF),aU),(("_law_part" : KF),bL),(("_law_turns" : KF),bv),(("_law_figure" : KF),a9),(("_law_backs" : KF),bw),(("_law_rule_of" : KF),aV),(("_law_free_three" : KF),aD),(("_law_sizes" : KF),bx),(("_law_any_rule" : KF),aN),(("_law_laying_kind" : KF),aA),(("_law_breaks" : KF),bc),(("_law_numbered" : KF),aO),(("_law_laying_rule" : KF),aB),(("_law_rising" : KF),be),(("_law_free_rule" : KF),aG),(("_law_one_way_rule" : KF),ar),(("_law_alike" : KF),bz),(("_law_digits" : KF),bf),(("_law_worlds" : KF),bg),(("_law_figures" : KF),aW),(("_law_full_rule" : KF),aH),(("law" : KF),iy)]
noncomputable def Dc:J9 (KF×Kk):=[(("way" : KF),4),(("point_over" : KF),4),(("least_form" : KF),2),(("longer_orders" : KF),2),(("figures" : KF),1),(("all_threes" : KF),1),(("all_points" : KF),2),(("all_numbers" : KF),2),(("_law_flow" : KF),1),(("_law_pick" : KF),2),(("_law_letters" : KF),2),(("_law_name" : KF),2),(("_law_names" : KF),2),(("_law_between" : KF),4),(("_law_part" : KF),3),(("_law_turns" : KF),0),(("_law_figure" : KF),2),(("_law_backs" : KF),2),(("_law_rule_of" : KF),4),(("_law_free_three" : KF),3),(("_law_sizes" : KF),1),(("_law_any_rule" : KF),1),(("_law_laying_kind" : KF),1),(("_law_breaks" : KF),5),(("_law_numbered" : KF),3),(("_law_laying_rule" : KF),1),(("_law_rising" : KF),1),(("_law_free_rule" : KF),1),(("_law_one_way_rule" : KF),1),(("_law_alike" : KF),2),(("_law_digits" : KF),2),(("_law_worlds" : KF),2),(("_law_figures" : KF),1),(("_law_full_rule" : KF),1),(("law" : KF),1)]
noncomputable def FU:J9 KF:=["range","len","list","tuple","int","set","sorted","isinstance","bool","str","all","min","zip"]
noncomputable def fJ:Md:=⟨Dc,FU⟩
theorem FV:cf fJ (aj 1) iw:=by rfl
theorem FW:FnScope iw.N iw.ps (ag (aj 1)):=⟨rfl,rfl,rfl,by decide +kernel,rfl,by decide +kernel,by decide +kernel⟩
theorem ni:cf fJ (aj 3) bo:=by rfl
theorem nj:FnScope bo.N bo.ps (ag (aj 3)):=⟨rfl,rfl,rfl,by decide +kernel,rfl,by decide +kernel,by decide +kernel⟩
theorem nk:cf fJ (aj 4) bp:=by rfl
theorem nq:FnScope bp.N bp.ps (ag (aj 4)):=⟨rfl,rfl,rfl,by decide +kernel,rfl,by decide +kernel,by decide +kernel⟩
theorem jY:cf fJ (aj 5) aM:=by rfl
theorem jZ:FnScope aM.N aM.ps (ag (aj 5)):=⟨rfl,rfl,rfl,by decide +kernel,rfl,by decide +kernel,by decide +kernel⟩
theorem uC:cf fJ (aj 6) ci:=by rfl
theorem uD:FnScope ci.N ci.ps (ag (aj 6)):=⟨rfl,rfl,rfl,by decide +kernel,rfl,by decide +kernel,by decide +kernel⟩
theorem nr:cf fJ (aj 7) bq:=by rfl
theorem nu:FnScope bq.N bq.ps (ag (aj 7)):=⟨rfl,rfl,rfl,by decide +kernel,rfl,by decide +kernel,by decide +kernel⟩
theorem nv:cf fJ (aj 8) br:=by rfl
theorem nw:FnScope br.N br.ps (ag (aj 8)):=⟨rfl,rfl,rfl,by decide +kernel,rfl,by decide +kernel,by decide +kernel⟩
theorem mx:cf fJ (aj 9) a7:=by rfl
theorem my:FnScope a7.N a7.ps (ag (aj 9)):=⟨rfl,rfl,rfl,by decide +kernel,rfl,by decide +kernel,by decide +kernel⟩
theorem qE:cf fJ (aj 11) bI:=by rfl
theorem qF:FnScope bI.N bI.ps (ag (aj 11)):=⟨rfl,rfl,rfl,by decide +kernel,rfl,by decide +kernel,by decide +kernel⟩
theorem qG:cf fJ (aj 12) bJ:=by rfl
theorem qH:FnScope bJ.N bJ.ps (ag (aj 12)):=⟨rfl,rfl,rfl,by decide +kernel,rfl,by decide +kernel,by decide +kernel⟩
theorem kH:cf fJ (aj 13) aT:=by rfl
theorem kI:FnScope aT.N aT.ps (ag (aj 13)):=⟨rfl,rfl,rfl,by decide +kernel,rfl,by decide +kernel,by decide +kernel⟩
theorem qI:cf fJ (aj 14) bK:=by rfl
theorem qJ:FnScope bK.N bK.ps (ag (aj 14)):=⟨rfl,rfl,rfl,by decide +kernel,rfl,by decide +kernel,by decide +kernel⟩
theorem ny:cf fJ (aj 15) bu:=by rfl
theorem nz:FnScope bu.N bu.ps (ag (aj 15)):=⟨rfl,rfl,rfl,by decide +kernel,rfl,by decide +kernel,by decide +kernel⟩
theorem kJ:cf fJ (aj 16) aU:=by rfl
theorem kK:FnScope aU.N aU.ps (ag (aj 16)):=⟨rfl,rfl,rfl,by decide +kernel,rfl,by decide +kernel,by decide +kernel⟩
theorem qK:cf fJ (aj 17) bL:=by rfl
theorem qL:FnScope bL.N bL.ps (ag (aj 17)):=⟨rfl,rfl,rfl,by decide +kernel,rfl,by decide +kernel,by decide +kernel⟩
theorem nA:cf fJ (aj 18) bv:=by rfl
theorem nB:FnScope bv.N bv.ps (ag (aj 18)):=⟨rfl,rfl,rfl,by decide +kernel,rfl,by decide +kernel,by decide +kernel⟩
theorem mz:cf fJ (aj 19) a9:=by rfl
theorem mB:FnScope a9.N a9.ps (ag (aj 19)):=⟨rfl,rfl,rfl,by decide +kernel,rfl,by decide +kernel,by decide +kernel⟩
theorem nC:cf fJ (aj 20) bw:=by rfl
theorem nD:FnScope bw.N bw.ps (ag (aj 20)):=⟨rfl,rfl,rfl,by decide +kernel,rfl,by decide +kernel,by decide +kernel⟩
theorem kL:cf fJ (aj 21) aV:=by rfl
theorem kM:FnScope aV.N aV.ps (ag (aj 21)):=⟨rfl,rfl,rfl,by decide +kernel,rfl,by decide +kernel,by decide +kernel⟩
theorem iS:cf fJ (aj 22) aD:=by rfl
theorem iT:FnScope aD.N aD.ps (ag (aj 22)):=⟨rfl,rfl,rfl,by decide +kernel,rfl,by decide +kernel,by decide +kernel⟩
theorem nE:cf fJ (aj 23) bx:=by rfl
theorem nF:FnScope bx.N bx.ps (ag (aj 23)):=⟨rfl,rfl,rfl,by decide +kernel,rfl,by decide +kernel,by decide +kernel⟩
theorem j3:cf fJ (aj 24) aN:=by rfl
theorem j4:FnScope aN.N aN.ps (ag (aj 24)):=⟨rfl,rfl,rfl,by decide +kernel,rfl,by decide +kernel,by decide +kernel⟩
theorem hG:cf fJ (aj 25) aA:=by rfl
theorem hW:FnScope aA.N aA.ps (ag (aj 25)):=⟨rfl,rfl,rfl,by decide +kernel,rfl,by decide +kernel,by decide +kernel⟩
theorem mC:cf fJ (aj 26) bc:=by rfl
theorem mD:FnScope bc.N bc.ps (ag (aj 26)):=⟨rfl,rfl,rfl,by decide +kernel,rfl,by decide +kernel,by decide +kernel⟩
theorem j5:cf fJ (aj 27) aO:=by rfl
theorem j6:FnScope aO.N aO.ps (ag (aj 27)):=⟨rfl,rfl,rfl,by decide +kernel,rfl,by decide +kernel,by decide +kernel⟩
theorem hX:cf fJ (aj 28) aB:=by rfl
theorem hZ:FnScope aB.N aB.ps (ag (aj 28)):=⟨rfl,rfl,rfl,by decide +kernel,rfl,by decide +kernel,by decide +kernel⟩
theorem mE:cf fJ (aj 29) be:=by rfl
theorem mF:FnScope be.N be.ps (ag (aj 29)):=⟨rfl,rfl,rfl,by decide +kernel,rfl,by decide +kernel,by decide +kernel⟩
theorem jt:cf fJ (aj 30) aG:=by rfl
theorem ju:FnScope aG.N aG.ps (ag (aj 30)):=⟨rfl,rfl,rfl,by decide +kernel,rfl,by decide +kernel,by decide +kernel⟩
theorem gE:cf fJ (aj 31) ar:=by rfl
theorem gF:FnScope ar.N ar.ps (ag (aj 31)):=⟨rfl,rfl,rfl,by decide +kernel,rfl,by decide +kernel,by decide +kernel⟩
theorem nG:cf fJ (aj 32) bz:=by rfl
theorem nH:FnScope bz.N bz.ps (ag (aj 32)):=⟨rfl,rfl,rfl,by decide +kernel,rfl,by decide +kernel,by decide +kernel⟩
theorem mG:cf fJ (aj 33) bf:=by rfl
theorem mH:FnScope bf.N bf.ps (ag (aj 33)):=⟨rfl,rfl,rfl,by decide +kernel,rfl,by decide +kernel,by decide +kernel⟩
theorem mI:cf fJ (aj 34) bg:=by rfl
theorem mJ:FnScope bg.N bg.ps (ag (aj 34)):=⟨rfl,rfl,rfl,by decide +kernel,rfl,by decide +kernel,by decide +kernel⟩
theorem kN:cf fJ (aj 35) aW:=by rfl
theorem kO:FnScope aW.N aW.ps (ag (aj 35)):=⟨rfl,rfl,rfl,by decide +kernel,rfl,by decide +kernel,by decide +kernel⟩
theorem jv:cf fJ (aj 36) aH:=by rfl
theorem jw:FnScope aH.N aH.ps (ag (aj 36)):=⟨rfl,rfl,rfl,by decide +kernel,rfl,by decide +kernel,by decide +kernel⟩
theorem AU:cf fJ (aj 37) iy:=by rfl
theorem AV:FnScope iy.N iy.ps (ag (aj 37)):=⟨rfl,rfl,rfl,by decide +kernel,rfl,by decide +kernel,by decide +kernel⟩
theorem ak {α:Type}{x y:KF}{n m:α}{L:J9 (KF×α)}(h:((y,m)::L).lookup x=ba n):(x=y/\n=m)\/L.lookup x=ba n:=by
 rw[Mo]at h;split at h
 ·rename_i e;cases h;exact .inl ⟨eq_of_beq e,rfl⟩
 ·exact .inr h
theorem HR:Lw13 kD:=⟨⟨⟨bJ,rfl,rfl,rfl,rfl⟩,⟨aT,rfl,rfl,rfl,rfl⟩,⟨bK,rfl,rfl,rfl,rfl⟩,⟨bu,rfl,rfl,rfl,rfl⟩,⟨aU,rfl,rfl,rfl,rfl⟩,⟨bL,rfl,rfl,rfl,rfl⟩,⟨bv,rfl,rfl,rfl,rfl⟩,⟨a9,rfl,rfl,rfl,rfl⟩,⟨bw,rfl,rfl,rfl,rfl⟩,⟨aV,rfl,rfl,rfl,rfl⟩,⟨aD,rfl,rfl,rfl,rfl⟩,⟨bx,rfl,rfl,rfl,rfl⟩,⟨aN,rfl,rfl,rfl,rfl⟩,⟨aA,rfl,rfl,rfl,rfl⟩,⟨bc,rfl,rfl,rfl,rfl⟩,⟨aO,rfl,rfl,rfl,rfl⟩,⟨aB,rfl,rfl,rfl,rfl⟩,⟨be,rfl,rfl,rfl,rfl⟩,⟨aG,rfl,rfl,rfl,rfl⟩,⟨ar,rfl,rfl,rfl,rfl⟩⟩,⟨⟨bf,rfl,rfl,rfl,rfl⟩,⟨bg,rfl,rfl,rfl,rfl⟩,⟨aW,rfl,rfl,rfl,rfl⟩,⟨aH,rfl,rfl,rfl,rfl⟩⟩,⟨⟨iw,rfl,rfl,rfl,rfl⟩,⟨bo,rfl,rfl,rfl,rfl⟩⟩,⟨aM,rfl,rfl,rfl,rfl⟩,⟨bp,rfl,rfl,rfl,rfl⟩,⟨a7,rfl,rfl,rfl,rfl⟩,⟨br,rfl,rfl,rfl,rfl⟩,⟨bq,rfl,rfl,rfl,rfl⟩,⟨ci,rfl,rfl,rfl,rfl⟩,⟨bI,rfl,rfl,rfl,rfl⟩,⟨bz,rfl,rfl,rfl,rfl⟩,⟨iy,rfl,rfl,rfl,rfl⟩⟩
noncomputable def BD (x:KF)(st:M5)(df:Df):Prop:=∀(kV doc pm:Kd) (an:Ki Kl) (cdv ct:Kd) (us:J9 Kd),us.length=df.ps.length->bindArgs (Mz x x (d8 st) (c8 st) (ag st) .none kV doc pm an cdv ct) ⟨us,[]⟩=pure (df.ps.zip us)
theorem J6 {us:J9 Kd}(h:us.length=0):us=[]:=match us,h with|[],_=>rfl
theorem xE {us:J9 Kd}(h:us.length=1):∃a,us=[a]:=match us,h with|[a],_=>⟨a,rfl⟩
theorem xF {us:J9 Kd}(h:us.length=2):∃a b,us=[a,b]:=match us,h with|[a,b],_=>⟨a,b,rfl⟩
theorem JM {us:J9 Kd}(h:us.length=3):∃a b c,us=[a,b,c]:=match us,h with|[a,b,c],_=>⟨a,b,c,rfl⟩
theorem Ip {us:J9 Kd}(h:us.length=4):∃a b c d,us=[a,b,c,d]:=match us,h with|[a,b,c,d],_=>⟨a,b,c,d,rfl⟩
theorem J7 {us:J9 Kd}(h:us.length=5):∃a b c d e,us=[a,b,c,d,e]:=match us,h with|[a,b,c,d,e],_=>⟨a,b,c,d,e,rfl⟩
theorem FX:BD "way" (aj 1) iw:=λ_ _ _ _ _ _ us h=>by
 obtain⟨x0,x1,x2,x3,rfl⟩:=Ip h;rfl
theorem nI:BD "point_over" (aj 3) bo:=λ_ _ _ _ _ _ us h=>by
 obtain⟨x0,x1,x2,x3,rfl⟩:=Ip h;rfl
theorem nJ:BD "least_form" (aj 4) bp:=λ_ _ _ _ _ _ us h=>by
 obtain⟨x0,x1,rfl⟩:=xF h;rfl
theorem j7:BD "longer_orders" (aj 5) aM:=λ_ _ _ _ _ _ us h=>by
 obtain⟨x0,x1,rfl⟩:=xF h;rfl
theorem uE:BD "figures" (aj 6) ci:=λ_ _ _ _ _ _ us h=>by
 obtain⟨x0,rfl⟩:=xE h;rfl
theorem nK:BD "all_threes" (aj 7) bq:=λ_ _ _ _ _ _ us h=>by
 obtain⟨x0,rfl⟩:=xE h;rfl
theorem nL:BD "all_points" (aj 8) br:=λ_ _ _ _ _ _ us h=>by
 obtain⟨x0,x1,rfl⟩:=xF h;rfl
theorem mK:BD "all_numbers" (aj 9) a7:=λ_ _ _ _ _ _ us h=>by
 obtain⟨x0,x1,rfl⟩:=xF h;rfl
theorem qM:BD "_law_flow" (aj 11) bI:=λ_ _ _ _ _ _ us h=>by
 obtain⟨x0,rfl⟩:=xE h;rfl
theorem qN:BD "_law_pick" (aj 12) bJ:=λ_ _ _ _ _ _ us h=>by
 obtain⟨x0,x1,rfl⟩:=xF h;rfl
theorem kP:BD "_law_letters" (aj 13) aT:=λ_ _ _ _ _ _ us h=>by
 obtain⟨x0,x1,rfl⟩:=xF h;rfl
theorem qO:BD "_law_name" (aj 14) bK:=λ_ _ _ _ _ _ us h=>by
 obtain⟨x0,x1,rfl⟩:=xF h;rfl
theorem nM:BD "_law_names" (aj 15) bu:=λ_ _ _ _ _ _ us h=>by
 obtain⟨x0,x1,rfl⟩:=xF h;rfl
theorem kQ:BD "_law_between" (aj 16) aU:=λ_ _ _ _ _ _ us h=>by
 obtain⟨x0,x1,x2,x3,rfl⟩:=Ip h;rfl
theorem qP:BD "_law_part" (aj 17) bL:=λ_ _ _ _ _ _ us h=>by
 obtain⟨x0,x1,x2,rfl⟩:=JM h;rfl
theorem nN:BD "_law_turns" (aj 18) bv:=λ_ _ _ _ _ _ us h=>by
 obtain rfl:=J6 h;rfl
theorem mL:BD "_law_figure" (aj 19) a9:=λ_ _ _ _ _ _ us h=>by
 obtain⟨x0,x1,rfl⟩:=xF h;rfl
theorem nO:BD "_law_backs" (aj 20) bw:=λ_ _ _ _ _ _ us h=>by
 obtain⟨x0,x1,rfl⟩:=xF h;rfl
theorem kR:BD "_law_rule_of" (aj 21) aV:=λ_ _ _ _ _ _ us h=>by
 obtain⟨x0,x1,x2,x3,rfl⟩:=Ip h;rfl
theorem iU:BD "_law_free_three" (aj 22) aD:=λ_ _ _ _ _ _ us h=>by
 obtain⟨x0,x1,x2,rfl⟩:=JM h;rfl
theorem nP:BD "_law_sizes" (aj 23) bx:=λ_ _ _ _ _ _ us h=>by
 obtain⟨x0,rfl⟩:=xE h;rfl
theorem j8:BD "_law_any_rule" (aj 24) aN:=λ_ _ _ _ _ _ us h=>by
 obtain⟨x0,rfl⟩:=xE h;rfl
theorem ic:BD "_law_laying_kind" (aj 25) aA:=λ_ _ _ _ _ _ us h=>by
 obtain⟨x0,rfl⟩:=xE h;rfl
theorem mM:BD "_law_breaks" (aj 26) bc:=λ_ _ _ _ _ _ us h=>by
 obtain⟨x0,x1,x2,x3,x4,rfl⟩:=J7 h;rfl
theorem j9:BD "_law_numbered" (aj 27) aO:=λ_ _ _ _ _ _ us h=>by
 obtain⟨x0,x1,x2,rfl⟩:=JM h;rfl
theorem ie:BD "_law_laying_rule" (aj 28) aB:=λ_ _ _ _ _ _ us h=>by
 obtain⟨x0,rfl⟩:=xE h;rfl
theorem mN:BD "_law_rising" (aj 29) be:=λ_ _ _ _ _ _ us h=>by
 obtain⟨x0,rfl⟩:=xE h;rfl
theorem jx:BD "_law_free_rule" (aj 30) aG:=λ_ _ _ _ _ _ us h=>by
 obtain⟨x0,rfl⟩:=xE h;rfl
theorem gG:BD "_law_one_way_rule" (aj 31) ar:=λ_ _ _ _ _ _ us h=>by
 obtain⟨x0,rfl⟩:=xE h;rfl
theorem nQ:BD "_law_alike" (aj 32) bz:=λ_ _ _ _ _ _ us h=>by
 obtain⟨x0,x1,rfl⟩:=xF h;rfl
theorem mO:BD "_law_digits" (aj 33) bf:=λ_ _ _ _ _ _ us h=>by
 obtain⟨x0,x1,rfl⟩:=xF h;rfl
theorem mP:BD "_law_worlds" (aj 34) bg:=λ_ _ _ _ _ _ us h=>by
 obtain⟨x0,x1,rfl⟩:=xF h;rfl
theorem kS:BD "_law_figures" (aj 35) aW:=λ_ _ _ _ _ _ us h=>by
 obtain⟨x0,rfl⟩:=xE h;rfl
theorem jy:BD "_law_full_rule" (aj 36) aH:=λ_ _ _ _ _ _ us h=>by
 obtain⟨x0,rfl⟩:=xE h;rfl
theorem FY:BD "law" (aj 37) iy:=λ_ _ _ _ _ _ us h=>by
 obtain⟨x0,rfl⟩:=xE h;rfl
section
variable{P:K1}{w:Lb}{K:Kr}{mg:KF->Ki Kd}{base:Lj}
noncomputable def al (K:Kr)(mg:KF->Ki Kd)(x:KF)(st:M5)(df:Df):Prop:=∃(f:Kl) (fd:MQ),Fun K x x st f fd/\mg x=ba (.ref f)/\L0 K (.ref f)=true/\Binds K fd df.ps []
theorem AW {h:Lj}{x:KF}{st:M5}{df:Df}{f:Kl}{oc:Kd}{od an:Ki Kl}{osl:KQ (Ki Kd)}{kV doc pm cdv ct:Kd}(X:K.In h)(G:h.Ns mainGlobals mg)
  (b:BD x st df)
  (a:LS K mainGlobals x=ba (ba (.ref f))) (l:K.lookup f=ba ⟨oc,od,.func (Mz x x (d8 st) (c8 st) (ag st) .none kV doc pm an cdv ct),osl⟩) (c:NF K cdv x=true) (k:L0 K (.ref f)=true):al K mg x st df:=
 have F:=yg (st:=st) l c k
 ⟨f,_,F,SV X G a,k,F.binds b⟩
theorem AX {fuel:Kk}(hb:MdOk w K mg fJ)(D:∀x n,Dc.lookup x=ba n->∃st df,kD.lookup x=ba df/\df.ps.length=n/\FnScope df.N df.ps (ag st)/\cf fJ st df/\al K mg x st df):∀d,Dv P w K mg base fJ kD fuel d
 | 0=>λf n h=>by
  obtain⟨st,df,h1,h2,h3,h4,fa,fd,F,m,kp,b⟩:=D f n h;refine⟨fa,fd,df.ps,⟨λvs H Q E z=>?_,λA outer s H args us vs Q E hr he hbd hv z=>?_⟩,m,kp,b⟩
  all_goals
   obtain⟨_,_,_,_,_,_,_,_,z,_⟩:=z;cases z
 | d+1=>λf n h=>by
  obtain⟨st,df,h1,h2,h3,h4,fa,fd,F,m,kp,b⟩:=D f n h;refine⟨fa,fd,df.ps,?_,m,kp,b⟩;rw[<- h2];exact Dw F h3 h1 h4 hb (AX hb D d)
theorem HS (D1:al K mg "way" (aj 1) iw)(D3:al K mg "point_over" (aj 3) bo)(D4:al K mg "least_form" (aj 4) bp)(D5:al K mg "longer_orders" (aj 5) aM)(D6:al K mg "figures" (aj 6) ci)(D7:al K mg "all_threes" (aj 7) bq)(D8:al K mg "all_points" (aj 8) br)(D9:al K mg "all_numbers" (aj 9) a7)(D11:al K mg "_law_flow" (aj 11) bI)(D12:al K mg "_law_pick" (aj 12) bJ)(D13:al K mg "_law_letters" (aj 13) aT)(D14:al K mg "_law_name" (aj 14) bK)(D15:al K mg "_law_names" (aj 15) bu)(D16:al K mg "_law_between" (aj 16) aU)(D17:al K mg "_law_part" (aj 17) bL)(D18:al K mg "_law_turns" (aj 18) bv)(D19:al K mg "_law_figure" (aj 19) a9)(D20:al K mg "_law_backs" (aj 20) bw)(D21:al K mg "_law_rule_of" (aj 21) aV)(D22:al K mg "_law_free_three" (aj 22) aD)(D23:al K mg "_law_sizes" (aj 23) bx)(D24:al K mg "_law_any_rule" (aj 24) aN)(D25:al K mg "_law_laying_kind" (aj 25) aA)(D26:al K mg "_law_breaks" (aj 26) bc)(D27:al K mg "_law_numbered" (aj 27) aO)(D28:al K mg "_law_laying_rule" (aj 28) aB)(D29:al K mg "_law_rising" (aj 29) be)(D30:al K mg "_law_free_rule" (aj 30) aG)(D31:al K mg "_law_one_way_rule" (aj 31) ar)(D32:al K mg "_law_alike" (aj 32) bz)(D33:al K mg "_law_digits" (aj 33) bf)(D34:al K mg "_law_worlds" (aj 34) bg)(D35:al K mg "_law_figures" (aj 35) aW)(D36:al K mg "_law_full_rule" (aj 36) aH)(D37:al K mg "law" (aj 37) iy):∀x n,Dc.lookup x=ba n->∃st df,kD.lookup x=ba df/\df.ps.length=n/\FnScope df.N df.ps (ag st)/\cf fJ st df/\al K mg x st df:=by
 intro x n h;unfold Dc at h;rcases ak h with⟨rfl,rfl⟩|h
 ·exact⟨aj 1,iw,by rfl,rfl,FW,FV,D1⟩
 rcases ak h with⟨rfl,rfl⟩|h
 ·exact⟨aj 3,bo,by rfl,rfl,nj,ni,D3⟩
 rcases ak h with⟨rfl,rfl⟩|h
 ·exact⟨aj 4,bp,by rfl,rfl,nq,nk,D4⟩
 rcases ak h with⟨rfl,rfl⟩|h
 ·exact⟨aj 5,aM,by rfl,rfl,jZ,jY,D5⟩
 rcases ak h with⟨rfl,rfl⟩|h
 ·exact⟨aj 6,ci,by rfl,rfl,uD,uC,D6⟩
 rcases ak h with⟨rfl,rfl⟩|h
 ·exact⟨aj 7,bq,by rfl,rfl,nu,nr,D7⟩
 rcases ak h with⟨rfl,rfl⟩|h
 ·exact⟨aj 8,br,by rfl,rfl,nw,nv,D8⟩
 rcases ak h with⟨rfl,rfl⟩|h
 ·exact⟨aj 9,a7,by rfl,rfl,my,mx,D9⟩
 rcases ak h with⟨rfl,rfl⟩|h
 ·exact⟨aj 11,bI,by rfl,rfl,qF,qE,D11⟩
 rcases ak h with⟨rfl,rfl⟩|h
 ·exact⟨aj 12,bJ,by rfl,rfl,qH,qG,D12⟩
 rcases ak h with⟨rfl,rfl⟩|h
 ·exact⟨aj 13,aT,by rfl,rfl,kI,kH,D13⟩
 rcases ak h with⟨rfl,rfl⟩|h
 ·exact⟨aj 14,bK,by rfl,rfl,qJ,qI,D14⟩
 rcases ak h with⟨rfl,rfl⟩|h
 ·exact⟨aj 15,bu,by rfl,rfl,nz,ny,D15⟩
 rcases ak h with⟨rfl,rfl⟩|h
 ·exact⟨aj 16,aU,by rfl,rfl,kK,kJ,D16⟩
 rcases ak h with⟨rfl,rfl⟩|h
 ·exact⟨aj 17,bL,by rfl,rfl,qL,qK,D17⟩
 rcases ak h with⟨rfl,rfl⟩|h
 ·exact⟨aj 18,bv,by rfl,rfl,nB,nA,D18⟩
 rcases ak h with⟨rfl,rfl⟩|h
 ·exact⟨aj 19,a9,by rfl,rfl,mB,mz,D19⟩
 rcases ak h with⟨rfl,rfl⟩|h
 ·exact⟨aj 20,bw,by rfl,rfl,nD,nC,D20⟩
 rcases ak h with⟨rfl,rfl⟩|h
 ·exact⟨aj 21,aV,by rfl,rfl,kM,kL,D21⟩
 rcases ak h with⟨rfl,rfl⟩|h
 ·exact⟨aj 22,aD,by rfl,rfl,iT,iS,D22⟩
 rcases ak h with⟨rfl,rfl⟩|h
 ·exact⟨aj 23,bx,by rfl,rfl,nF,nE,D23⟩
 rcases ak h with⟨rfl,rfl⟩|h
 ·exact⟨aj 24,aN,by rfl,rfl,j4,j3,D24⟩
 rcases ak h with⟨rfl,rfl⟩|h
 ·exact⟨aj 25,aA,by rfl,rfl,hW,hG,D25⟩
 rcases ak h with⟨rfl,rfl⟩|h
 ·exact⟨aj 26,bc,by rfl,rfl,mD,mC,D26⟩
 rcases ak h with⟨rfl,rfl⟩|h
 ·exact⟨aj 27,aO,by rfl,rfl,j6,j5,D27⟩
 rcases ak h with⟨rfl,rfl⟩|h
 ·exact⟨aj 28,aB,by rfl,rfl,hZ,hX,D28⟩
 rcases ak h with⟨rfl,rfl⟩|h
 ·exact⟨aj 29,be,by rfl,rfl,mF,mE,D29⟩
 rcases ak h with⟨rfl,rfl⟩|h
 ·exact⟨aj 30,aG,by rfl,rfl,ju,jt,D30⟩
 rcases ak h with⟨rfl,rfl⟩|h
 ·exact⟨aj 31,ar,by rfl,rfl,gF,gE,D31⟩
 rcases ak h with⟨rfl,rfl⟩|h
 ·exact⟨aj 32,bz,by rfl,rfl,nH,nG,D32⟩
 rcases ak h with⟨rfl,rfl⟩|h
 ·exact⟨aj 33,bf,by rfl,rfl,mH,mG,D33⟩
 rcases ak h with⟨rfl,rfl⟩|h
 ·exact⟨aj 34,bg,by rfl,rfl,mJ,mI,D34⟩
 rcases ak h with⟨rfl,rfl⟩|h
 ·exact⟨aj 35,aW,by rfl,rfl,kO,kN,D35⟩
 rcases ak h with⟨rfl,rfl⟩|h
 ·exact⟨aj 36,aH,by rfl,rfl,jw,jv,D36⟩
 rcases ak h with⟨rfl,rfl⟩|h
 ·exact⟨aj 37,iy,by rfl,rfl,AV,AU,D37⟩
 cases h
theorem HU {h:Lj}(X:K.In h)(G:h.Ns mainGlobals mg)(z0:LS K mainGlobals "range" = ba gV)(z1:LS K mainGlobals "len" = ba gV)(z2:LS K mainGlobals "list" = ba gV)(z3:LS K mainGlobals "tuple" = ba gV)(z4:LS K mainGlobals "int" = ba gV)(z5:LS K mainGlobals "set" = ba gV)(z6:LS K mainGlobals "sorted" = ba gV)(z7:LS K mainGlobals "isinstance" = ba gV)(z8:LS K mainGlobals "bool" = ba gV)(z9:LS K mainGlobals "str" = ba gV)(z10:LS K mainGlobals "all" = ba gV)(z11:LS K mainGlobals "min" = ba gV)(z12:LS K mainGlobals "zip" = ba gV):MdOk w K mg fJ:=by
 refine⟨?_⟩;show ∀y∈FU,mg y=gV;intro y hy;unfold FU at hy;simp only[KL,Lr,MJ]at hy;rcases hy with rfl|rfl|rfl|rfl|rfl|rfl|rfl|rfl|rfl|rfl|rfl|rfl|rfl
 ·exact LC X G z0
 ·exact LC X G z1
 ·exact LC X G z2
 ·exact LC X G z3
 ·exact LC X G z4
 ·exact LC X G z5
 ·exact LC X G z6
 ·exact LC X G z7
 ·exact LC X G z8
 ·exact LC X G z9
 ·exact LC X G z10
 ·exact LC X G z11
 ·exact LC X G z12
end
theorem FZ {l:P0}{w:Lb}{K:Kr}{h:Lj}{mg:KF->Ki Kd}{fa f:Kl}(X:K.In h)(G:h.Ns mainGlobals mg)(hfa:mg "law" = ba (.ref fa))(hb:MdOk w K mg fJ)
  (D1:al K mg "way" (aj 1) iw) (D3:al K mg "point_over" (aj 3) bo) (D4:al K mg "least_form" (aj 4) bp) (D5:al K mg "longer_orders" (aj 5) aM) (D6:al K mg "figures" (aj 6) ci) (D7:al K mg "all_threes" (aj 7) bq) (D8:al K mg "all_points" (aj 8) br) (D9:al K mg "all_numbers" (aj 9) a7) (D11:al K mg "_law_flow" (aj 11) bI) (D12:al K mg "_law_pick" (aj 12) bJ) (D13:al K mg "_law_letters" (aj 13) aT) (D14:al K mg "_law_name" (aj 14) bK) (D15:al K mg "_law_names" (aj 15) bu) (D16:al K mg "_law_between" (aj 16) aU) (D17:al K mg "_law_part" (aj 17) bL) (D18:al K mg "_law_turns" (aj 18) bv) (D19:al K mg "_law_figure" (aj 19) a9) (D20:al K mg "_law_backs" (aj 20) bw) (D21:al K mg "_law_rule_of" (aj 21) aV) (D22:al K mg "_law_free_three" (aj 22) aD) (D23:al K mg "_law_sizes" (aj 23) bx) (D24:al K mg "_law_any_rule" (aj 24) aN) (D25:al K mg "_law_laying_kind" (aj 25) aA) (D26:al K mg "_law_breaks" (aj 26) bc) (D27:al K mg "_law_numbered" (aj 27) aO) (D28:al K mg "_law_laying_rule" (aj 28) aB) (D29:al K mg "_law_rising" (aj 29) be) (D30:al K mg "_law_free_rule" (aj 30) aG) (D31:al K mg "_law_one_way_rule" (aj 31) ar) (D32:al K mg "_law_alike" (aj 32) bz) (D33:al K mg "_law_digits" (aj 33) bf) (D34:al K mg "_law_worlds" (aj 34) bg) (D35:al K mg "_law_figures" (aj 35) aW) (D36:al K mg "_law_full_rule" (aj 36) aH)
  {oc:Kd} {od an:Ki Kl} {osl:KQ (Ki Kd)} {kV doc pm cdv ct:Kd} (a:LS K mainGlobals "law" = ba (ba (.ref f))) (l':K.lookup f=ba ⟨oc,od,.func (Mz "law" "law" (d8 (aj 37)) (c8 (aj 37)) (ag (aj 37)) .none kV doc pm an cdv ct),osl⟩) (c:NF K cdv "law" = true) (k:L0 K (.ref f)=true) :
  ∃fd:MQ,(∀(s:Kg) (v:Kd),Re s fd ⟨[v],[]⟩ [("_law_script",v)])/\∀base:Lj,K.In base->base.Ns mainGlobals mg->FnOk l.prog w K mg base xG 9 fa fd ["_law_script"] (ze w K 1 (aq kD 100 9 "law")):=by
 have e:=hfa.symm.trans (SV X G a);cases e;have D37:al K mg "law" (aj 37) iy:=AW X G FY a l' c k;have F:=yg (st:=aj 37) l' c k;exact⟨Mz "law" "law" (d8 (aj 37)) (c8 (aj 37)) (ag (aj 37)) .none kV doc pm an cdv ct,λs v=>.of_eq rfl,λbase _ _=>Dw (df:=iy) F AV (by rfl) AU hb (AX hb (HS D1 D3 D4 D5 D6 D7 D8 D9 D11 D12 D13 D14 D15 D16 D17 D18 D19 D20 D21 D22 D23 D24 D25 D26 D27 D28 D29 D30 D31 D32 D33 D34 D35 D36 D37) 8)⟩
theorem JN {l:P0}{q:K1}{loose:J9 KF}{XP:(KF->Ki Kd)->Lj->Prop}{YP:Lb->Lj->Prop}{d:DefRec}{K:Sn->Kr}(hn:l.most=ba 63)(hdf:d.params.defaults=[])
  (hY:∀(w:Lb) (h:Lj),YP w h->(K w.params).In h)
  (F:∀(w:Lb) (mg:KF->Ki Kd) (fa:Kl) (h:Lj),(K w.params).In h->h.Ns mainGlobals mg->mg d.name=ba (.ref fa)->
   ∃fd:MQ,(∀(s:Kg) (u:Kd),Re s fd ⟨[u],[]⟩ [("_law_script",u)])/\∀base:Lj,(K w.params).In base->base.Ns mainGlobals mg->FnOk l.prog w (K w.params) mg base xG 9 fa fd ["_law_script"] (ze w (K w.params) 1 (aq kD 100 9 "law"))) :
  SJ q loose XP YP l.row.toRowW d [] (λf vs=>So f vs):=
 L2.BA (n:=63) (k:=9) (x:="_law_script") (CX:=λ_=>xG) (sp:=λw=>ze w (K w.params) 1 (aq kD 100 9 "law")) hn (by decide) hdf ⟨rfl,by decide,by decide⟩ hY F
  (λw H a ns hl hO hS=>E8 (AT (defs:=kD) (fuel:=100) (d:=0) (by decide) HR) hO hS) λ_ _ _ _ _ z=>z
end Mi
open PySem PySem.W PyProof.Rows L2
set_option maxHeartbeats 0
namespace Mi
section
noncomputable def pw:K1:=Qg
noncomputable def ge (P:Sn)(n:KF)(t:Kk)(v:Kd):MF:=⟨PyData.keyHash P n,.str n t,v⟩
noncomputable def kd (a:Kk)(es:J9 MF)(n:Kk):Kl×LZ:=(a,⟨.type "dict",gV,.dict es.toArray n,#[]⟩)
noncomputable def kt (a:Kk)(c:Kd)(vs:J9 Kd)(n:Kk):Kl×LZ:=(a,⟨c,gV,.seq vs.toArray n,#[]⟩)
noncomputable def kc (a:Kk)(vs:J9 Kd):Kl×LZ:=(a,⟨.type "code",gV,.fields vs.toArray,#[]⟩)
noncomputable def kf (a:Kk)(st:M5)(n:KF)(pm cd:Kd):Kl×LZ:=(a,⟨.type "function",gV,.func (Mz n n (d8 st) (c8 st) (ag st) .none .none .none pm gV cd .none),#[]⟩)
noncomputable def K0 (P:Sn):Kr:=[kd 3 [ge P "__name__" 165 (.str "law_layworld_k13_figures" 243),ge P "__doc__" 166 .none,ge P "__package__" 167 .none,ge P "__loader__" 168 (.builtin "__main__.__loader__#opaque"),ge P "__spec__" 169 .none,ge P "__annotations__" 170 (.ref 6),ge P "__builtins__" 171 (.ref 4),ge P "__file__" 173 (.str "/claim/cut.py" 172),ge P "__cached__" 174 .none,ge P "way" 198 (.ref 21),ge P "point_over" 206 (.ref 26),ge P "least_form" 212 (.ref 31),ge P "longer_orders" 218 (.ref 36),ge P "figures" 224 (.ref 41),ge P "all_threes" 230 (.ref 46),ge P "all_points" 236 (.ref 51),ge P "all_numbers" 242 (.ref 56),ge P "_law_flow" 251 (.ref 63),ge P "_law_pick" 261 (.ref 70),ge P "_law_letters" 267 (.ref 75),ge P "_law_name" 276 (.ref 82),ge P "_law_names" 289 (.ref 89),ge P "_law_between" 299 (.ref 96),ge P "_law_part" 305 (.ref 101),ge P "_law_turns" 311 (.ref 108),ge P "_law_figure" 317 (.ref 113),ge P "_law_backs" 326 (.ref 120),ge P "_law_rule_of" 332 (.ref 125),ge P "_law_free_three" 338 (.ref 130),ge P "_law_sizes" 346 (.ref 137),ge P "_law_any_rule" 358 (.ref 144),ge P "_law_laying_kind" 366 (.ref 151),ge P "_law_breaks" 382 (.ref 158),ge P "_law_numbered" 388 (.ref 163),ge P "_law_laying_rule" 409 (.ref 170),ge P "_law_rising" 415 (.ref 175),ge P "_law_free_rule" 421 (.ref 180),ge P "_law_one_way_rule" 427 (.ref 185),ge P "_law_alike" 433 (.ref 190),ge P "_law_digits" 439 (.ref 195),ge P "_law_worlds" 445 (.ref 200),ge P "_law_figures" 451 (.ref 205),ge P "_law_full_rule" 457 (.ref 210),ge P "law" 468 (.ref 217)] 44,
 kc 20 [(.str "way" 189),(.str "way" 190),(.str "/claim/cut.py" 191),(.int 2 0),(.int 4 0),(.int 0 0),(.int 0 0),(.int 3 0),(.ref 15),(.bool true),(.int 181 0),(.ref 16),.none,(.ref 17),(.ref 18),(.ref 19),(.int 196 0),(.int 2 0),(.str "/claim/cut.py" 197)],
 kf 21 (aj 1) "way" (.str "layworld.worlds" 187) (.ref 20),
 kc 25 [(.str "point_over" 201),(.str "point_over" 202),(.str "/claim/cut.py" 203),(.int 7 0),(.int 4 0),(.int 0 0),(.int 0 0),(.int 3 0),(.ref 22),(.bool true),(.int 181 0),(.ref 23),.none,.none,.none,(.ref 24),(.int 204 0),(.int 7 0),(.str "/claim/cut.py" 205)],
 kf 26 (aj 3) "point_over" (.str "layworld.parts" 199) (.ref 25),
 kc 30 [(.str "least_form" 207),(.str "least_form" 208),(.str "/claim/cut.py" 209),(.int 9 0),(.int 2 0),(.int 0 0),(.int 0 0),(.int 3 0),(.ref 27),(.bool true),(.int 181 0),(.ref 28),.none,.none,.none,(.ref 29),(.int 210 0),(.int 9 0),(.str "/claim/cut.py" 211)],
 kf 31 (aj 4) "least_form" (.str "layworld.parts" 199) (.ref 30),
 kc 35 [(.str "longer_orders" 213),(.str "longer_orders" 214),(.str "/claim/cut.py" 215),(.int 19 0),(.int 2 0),(.int 0 0),(.int 0 0),(.int 3 0),(.ref 32),(.bool true),(.int 181 0),(.ref 33),.none,.none,.none,(.ref 34),(.int 216 0),(.int 19 0),(.str "/claim/cut.py" 217)],
 kf 36 (aj 5) "longer_orders" (.str "layworld.parts" 199) (.ref 35),
 kc 40 [(.str "figures" 219),(.str "figures" 220),(.str "/claim/cut.py" 221),(.int 24 0),(.int 1 0),(.int 0 0),(.int 0 0),(.int 3 0),(.ref 37),(.bool true),(.int 181 0),(.ref 38),.none,.none,.none,(.ref 39),(.int 222 0),(.int 24 0),(.str "/claim/cut.py" 223)],
 kf 41 (aj 6) "figures" (.str "layworld.parts" 199) (.ref 40),
 kc 45 [(.str "all_threes" 225),(.str "all_threes" 226),(.str "/claim/cut.py" 227),(.int 26 0),(.int 1 0),(.int 0 0),(.int 0 0),(.int 3 0),(.ref 42),(.bool true),(.int 181 0),(.ref 43),.none,.none,.none,(.ref 44),(.int 228 0),(.int 26 0),(.str "/claim/cut.py" 229)],
 kf 46 (aj 7) "all_threes" (.str "layworld.parts" 199) (.ref 45),
 kc 50 [(.str "all_points" 231),(.str "all_points" 232),(.str "/claim/cut.py" 233),(.int 34 0),(.int 2 0),(.int 0 0),(.int 0 0),(.int 3 0),(.ref 47),(.bool true),(.int 181 0),(.ref 48),.none,.none,.none,(.ref 49),(.int 234 0),(.int 34 0),(.str "/claim/cut.py" 235)],
 kf 51 (aj 8) "all_points" (.str "layworld.parts" 199) (.ref 50),
 kc 55 [(.str "all_numbers" 237),(.str "all_numbers" 238),(.str "/claim/cut.py" 239),(.int 39 0),(.int 2 0),(.int 0 0),(.int 0 0),(.int 3 0),(.ref 52),(.bool true),(.int 181 0),(.ref 53),.none,.none,.none,(.ref 54),(.int 240 0),(.int 39 0),(.str "/claim/cut.py" 241)],
 kf 56 (aj 9) "all_numbers" (.str "layworld.parts" 199) (.ref 55),
 kc 62 [(.str "_law_flow" 245),(.str "_law_flow" 246),(.str "/claim/cut.py" 247),(.int 47 0),(.int 1 0),(.int 0 0),(.int 0 0),(.int 3 0),(.ref 57),(.bool true),(.int 181 0),(.ref 58),.none,(.ref 59),(.ref 60),(.ref 61),(.int 249 0),(.int 47 0),(.str "/claim/cut.py" 250)],
 kf 63 (aj 11) "_law_flow" (.str "law_layworld_k13_figures" 243) (.ref 62),
 kc 69 [(.str "_law_pick" 252),(.str "_law_pick" 253),(.str "/claim/cut.py" 254),(.int 49 0),(.int 2 0),(.int 0 0),(.int 0 0),(.int 3 0),(.ref 64),(.bool true),(.int 181 0),(.ref 65),.none,(.ref 66),(.ref 67),(.ref 68),(.int 259 0),(.int 49 0),(.str "/claim/cut.py" 260)],
 kf 70 (aj 12) "_law_pick" (.str "law_layworld_k13_figures" 243) (.ref 69),
 kc 74 [(.str "_law_letters" 262),(.str "_law_letters" 263),(.str "/claim/cut.py" 264),(.int 64 0),(.int 2 0),(.int 0 0),(.int 0 0),(.int 3 0),(.ref 71),(.bool true),(.int 181 0),(.ref 72),.none,.none,.none,(.ref 73),(.int 265 0),(.int 64 0),(.str "/claim/cut.py" 266)],
 kf 75 (aj 13) "_law_letters" (.str "law_layworld_k13_figures" 243) (.ref 74),
 kc 81 [(.str "_law_name" 268),(.str "_law_name" 269),(.str "/claim/cut.py" 270),(.int 66 0),(.int 2 0),(.int 0 0),(.int 0 0),(.int 3 0),(.ref 76),(.bool true),(.int 181 0),(.ref 77),.none,(.ref 78),(.ref 79),(.ref 80),(.int 274 0),(.int 66 0),(.str "/claim/cut.py" 275)],
 kf 82 (aj 14) "_law_name" (.str "law_layworld_k13_figures" 243) (.ref 81),
 kc 88 [(.str "_law_names" 277),(.str "_law_names" 278),(.str "/claim/cut.py" 279),(.int 74 0),(.int 2 0),(.int 0 0),(.int 0 0),(.int 3 0),(.ref 83),(.bool true),(.int 181 0),(.ref 84),.none,(.ref 85),(.ref 86),(.ref 87),(.int 287 0),(.int 74 0),(.str "/claim/cut.py" 288)],
 kf 89 (aj 15) "_law_names" (.str "law_layworld_k13_figures" 243) (.ref 88),
 kc 95 [(.str "_law_between" 290),(.str "_law_between" 291),(.str "/claim/cut.py" 292),(.int 87 0),(.int 4 0),(.int 0 0),(.int 0 0),(.int 3 0),(.ref 90),(.bool true),(.int 181 0),(.ref 91),.none,(.ref 92),(.ref 93),(.ref 94),(.int 297 0),(.int 87 0),(.str "/claim/cut.py" 298)],
 kf 96 (aj 16) "_law_between" (.str "law_layworld_k13_figures" 243) (.ref 95),
 kc 100 [(.str "_law_part" 300),(.str "_law_part" 301),(.str "/claim/cut.py" 302),(.int 91 0),(.int 3 0),(.int 0 0),(.int 0 0),(.int 3 0),(.ref 97),(.bool true),(.int 181 0),(.ref 98),.none,.none,.none,(.ref 99),(.int 303 0),(.int 91 0),(.str "/claim/cut.py" 304)],
 kf 101 (aj 17) "_law_part" (.str "law_layworld_k13_figures" 243) (.ref 100),
 kc 107 [(.str "_law_turns" 306),(.str "_law_turns" 307),(.str "/claim/cut.py" 308),(.int 97 0),(.int 0 0),(.int 0 0),(.int 0 0),(.int 3 0),(.ref 102),(.bool true),(.int 181 0),(.ref 103),.none,(.ref 104),(.ref 105),(.ref 106),(.int 309 0),(.int 97 0),(.str "/claim/cut.py" 310)],
 kf 108 (aj 18) "_law_turns" (.str "law_layworld_k13_figures" 243) (.ref 107),
 kc 112 [(.str "_law_figure" 312),(.str "_law_figure" 313),(.str "/claim/cut.py" 314),(.int 99 0),(.int 2 0),(.int 0 0),(.int 0 0),(.int 3 0),(.ref 109),(.bool true),(.int 181 0),(.ref 110),.none,.none,.none,(.ref 111),(.int 315 0),(.int 99 0),(.str "/claim/cut.py" 316)],
 kf 113 (aj 19) "_law_figure" (.str "law_layworld_k13_figures" 243) (.ref 112),
 kc 119 [(.str "_law_backs" 318),(.str "_law_backs" 319),(.str "/claim/cut.py" 320),(.int 101 0),(.int 2 0),(.int 0 0),(.int 0 0),(.int 3 0),(.ref 114),(.bool true),(.int 181 0),(.ref 115),.none,(.ref 116),(.ref 117),(.ref 118),(.int 324 0),(.int 101 0),(.str "/claim/cut.py" 325)],
 kf 120 (aj 20) "_law_backs" (.str "law_layworld_k13_figures" 243) (.ref 119),
 kc 124 [(.str "_law_rule_of" 327),(.str "_law_rule_of" 328),(.str "/claim/cut.py" 329),(.int 104 0),(.int 4 0),(.int 0 0),(.int 0 0),(.int 3 0),(.ref 121),(.bool true),(.int 181 0),(.ref 122),.none,.none,.none,(.ref 123),(.int 330 0),(.int 104 0),(.str "/claim/cut.py" 331)],
 kf 125 (aj 21) "_law_rule_of" (.str "law_layworld_k13_figures" 243) (.ref 124),
 kc 129 [(.str "_law_free_three" 333),(.str "_law_free_three" 334),(.str "/claim/cut.py" 335),(.int 108 0),(.int 3 0),(.int 0 0),(.int 0 0),(.int 3 0),(.ref 126),(.bool true),(.int 181 0),(.ref 127),.none,.none,.none,(.ref 128),(.int 336 0),(.int 108 0),(.str "/claim/cut.py" 337)],
 kf 130 (aj 22) "_law_free_three" (.str "law_layworld_k13_figures" 243) (.ref 129),
 kc 136 [(.str "_law_sizes" 339),(.str "_law_sizes" 340),(.str "/claim/cut.py" 341),(.int 113 0),(.int 1 0),(.int 0 0),(.int 0 0),(.int 3 0),(.ref 131),(.bool true),(.int 181 0),(.ref 132),.none,(.ref 133),(.ref 134),(.ref 135),(.int 344 0),(.int 113 0),(.str "/claim/cut.py" 345)],
 kf 137 (aj 23) "_law_sizes" (.str "law_layworld_k13_figures" 243) (.ref 136),
 kc 143 [(.str "_law_any_rule" 347),(.str "_law_any_rule" 348),(.str "/claim/cut.py" 349),(.int 116 0),(.int 1 0),(.int 0 0),(.int 0 0),(.int 3 0),(.ref 138),(.bool true),(.int 181 0),(.ref 139),.none,(.ref 140),(.ref 141),(.ref 142),(.int 356 0),(.int 116 0),(.str "/claim/cut.py" 357)],
 kf 144 (aj 24) "_law_any_rule" (.str "law_layworld_k13_figures" 243) (.ref 143),
 kc 150 [(.str "_law_laying_kind" 359),(.str "_law_laying_kind" 360),(.str "/claim/cut.py" 361),(.int 123 0),(.int 1 0),(.int 0 0),(.int 0 0),(.int 3 0),(.ref 145),(.bool true),(.int 181 0),(.ref 146),.none,(.ref 147),(.ref 148),(.ref 149),(.int 364 0),(.int 123 0),(.str "/claim/cut.py" 365)],
 kf 151 (aj 25) "_law_laying_kind" (.str "law_layworld_k13_figures" 243) (.ref 150),
 kc 157 [(.str "_law_breaks" 367),(.str "_law_breaks" 368),(.str "/claim/cut.py" 369),(.int 132 0),(.int 5 0),(.int 0 0),(.int 0 0),(.int 3 0),(.ref 152),(.bool true),(.int 181 0),(.ref 153),.none,(.ref 154),(.ref 155),(.ref 156),(.int 380 0),(.int 132 0),(.str "/claim/cut.py" 381)],
 kf 158 (aj 26) "_law_breaks" (.str "law_layworld_k13_figures" 243) (.ref 157),
 kc 162 [(.str "_law_numbered" 383),(.str "_law_numbered" 384),(.str "/claim/cut.py" 385),(.int 140 0),(.int 3 0),(.int 0 0),(.int 0 0),(.int 3 0),(.ref 159),(.bool true),(.int 181 0),(.ref 160),.none,.none,.none,(.ref 161),(.int 386 0),(.int 140 0),(.str "/claim/cut.py" 387)],
 kf 163 (aj 27) "_law_numbered" (.str "law_layworld_k13_figures" 243) (.ref 162),
 kc 169 [(.str "_law_laying_rule" 389),(.str "_law_laying_rule" 390),(.str "/claim/cut.py" 391),(.int 155 0),(.int 1 0),(.int 0 0),(.int 0 0),(.int 3 0),(.ref 164),(.bool true),(.int 181 0),(.ref 165),.none,(.ref 166),(.ref 167),(.ref 168),(.int 407 0),(.int 155 0),(.str "/claim/cut.py" 408)],
 kf 170 (aj 28) "_law_laying_rule" (.str "law_layworld_k13_figures" 243) (.ref 169),
 kc 174 [(.str "_law_rising" 410),(.str "_law_rising" 411),(.str "/claim/cut.py" 412),(.int 175 0),(.int 1 0),(.int 0 0),(.int 0 0),(.int 3 0),(.ref 171),(.bool true),(.int 181 0),(.ref 172),.none,.none,.none,(.ref 173),(.int 413 0),(.int 175 0),(.str "/claim/cut.py" 414)],
 kf 175 (aj 29) "_law_rising" (.str "law_layworld_k13_figures" 243) (.ref 174),
 kc 179 [(.str "_law_free_rule" 416),(.str "_law_free_rule" 417),(.str "/claim/cut.py" 418),(.int 181 0),(.int 1 0),(.int 0 0),(.int 0 0),(.int 3 0),(.ref 176),(.bool true),(.int 181 0),(.ref 177),.none,.none,.none,(.ref 178),(.int 419 0),(.int 181 0),(.str "/claim/cut.py" 420)],
 kf 180 (aj 30) "_law_free_rule" (.str "law_layworld_k13_figures" 243) (.ref 179),
 kc 184 [(.str "_law_one_way_rule" 422),(.str "_law_one_way_rule" 423),(.str "/claim/cut.py" 424),(.int 194 0),(.int 1 0),(.int 0 0),(.int 0 0),(.int 3 0),(.ref 181),(.bool true),(.int 181 0),(.ref 182),.none,.none,.none,(.ref 183),(.int 425 0),(.int 194 0),(.str "/claim/cut.py" 426)],
 kf 185 (aj 31) "_law_one_way_rule" (.str "law_layworld_k13_figures" 243) (.ref 184),
 kc 189 [(.str "_law_alike" 428),(.str "_law_alike" 429),(.str "/claim/cut.py" 430),(.int 198 0),(.int 2 0),(.int 0 0),(.int 0 0),(.int 3 0),(.ref 186),(.bool true),(.int 181 0),(.ref 187),.none,.none,.none,(.ref 188),(.int 431 0),(.int 198 0),(.str "/claim/cut.py" 432)],
 kf 190 (aj 32) "_law_alike" (.str "law_layworld_k13_figures" 243) (.ref 189),
 kc 194 [(.str "_law_digits" 434),(.str "_law_digits" 435),(.str "/claim/cut.py" 436),(.int 210 0),(.int 2 0),(.int 0 0),(.int 0 0),(.int 3 0),(.ref 191),(.bool true),(.int 181 0),(.ref 192),.none,.none,.none,(.ref 193),(.int 437 0),(.int 210 0),(.str "/claim/cut.py" 438)],
 kf 195 (aj 33) "_law_digits" (.str "law_layworld_k13_figures" 243) (.ref 194),
 kc 199 [(.str "_law_worlds" 440),(.str "_law_worlds" 441),(.str "/claim/cut.py" 442),(.int 215 0),(.int 2 0),(.int 0 0),(.int 0 0),(.int 3 0),(.ref 196),(.bool true),(.int 181 0),(.ref 197),.none,.none,.none,(.ref 198),(.int 443 0),(.int 215 0),(.str "/claim/cut.py" 444)],
 kf 200 (aj 34) "_law_worlds" (.str "law_layworld_k13_figures" 243) (.ref 199),
 kc 204 [(.str "_law_figures" 446),(.str "_law_figures" 447),(.str "/claim/cut.py" 448),(.int 223 0),(.int 1 0),(.int 0 0),(.int 0 0),(.int 3 0),(.ref 201),(.bool true),(.int 181 0),(.ref 202),.none,.none,.none,(.ref 203),(.int 449 0),(.int 223 0),(.str "/claim/cut.py" 450)],
 kf 205 (aj 35) "_law_figures" (.str "law_layworld_k13_figures" 243) (.ref 204),
 kc 209 [(.str "_law_full_rule" 452),(.str "_law_full_rule" 453),(.str "/claim/cut.py" 454),(.int 225 0),(.int 1 0),(.int 0 0),(.int 0 0),(.int 3 0),(.ref 206),(.bool true),(.int 181 0),(.ref 207),.none,.none,.none,(.ref 208),(.int 455 0),(.int 225 0),(.str "/claim/cut.py" 456)],
 kf 210 (aj 36) "_law_full_rule" (.str "law_layworld_k13_figures" 243) (.ref 209),
 kc 216 [(.str "law" 458),(.str "law" 459),(.str "/claim/cut.py" 460),(.int 234 0),(.int 1 0),(.int 0 0),(.int 0 0),(.int 3 0),(.ref 211),(.bool true),(.int 181 0),(.ref 212),.none,(.ref 213),(.ref 214),(.ref 215),(.int 466 0),(.int 234 0),(.str "/claim/cut.py" 467)],
 kf 217 (aj 37) "law" (.str "law_layworld_k13_figures" 243) (.ref 216)]
noncomputable def JU:J9 Kk:=[3,20,21,25,26,30,31,35,36,40,41,45,46,50,51,55,56,62,63,69,70,74,75,81,82,88,89,95,96,100,101,107,108,112,113,119,120,124,125,129,130,136,137,143,144,150,151,157,158,162,163,169,170,174,175,179,180,184,185,189,190,194,195,199,200,204,205,209,210,216,217]
noncomputable def vq:K1:={ pw with main:={ pw.main with body:=[aj 37] } }
noncomputable def lo:J9 KF:=[("way" : KF),("point_over" : KF),("least_form" : KF),("longer_orders" : KF),("figures" : KF),("all_threes" : KF),("all_points" : KF),("all_numbers" : KF),("_law_flow" : KF),("_law_pick" : KF),("_law_letters" : KF),("_law_name" : KF),("_law_names" : KF),("_law_between" : KF),("_law_part" : KF),("_law_turns" : KF),("_law_figure" : KF),("_law_backs" : KF),("_law_rule_of" : KF),("_law_free_three" : KF),("_law_sizes" : KF),("_law_any_rule" : KF),("_law_laying_kind" : KF),("_law_breaks" : KF),("_law_numbered" : KF),("_law_laying_rule" : KF),("_law_rising" : KF),("_law_free_rule" : KF),("_law_one_way_rule" : KF),("_law_alike" : KF),("_law_digits" : KF),("_law_worlds" : KF),("_law_figures" : KF),("_law_full_rule" : KF)]
theorem aQ {K:Kr}{h:Lj}{mg:KF->Ki Kd}{x:KF}{st:M5}{df:Df}(a:Kk)(pm cd:Kd)(X:K.In h)(G:h.Ns mainGlobals mg)
  (b:BD x st df)
  (e:LS K mainGlobals x=ba (ba (.ref a))) (l:K.lookup a=ba (kf a st x pm cd).2) (c:NF K cd x=true) (k:L0 K (.ref a)=true):al K mg x st df:=AW X G b e l c k
theorem eK:∀P,JU=(K0 P).map (·.1):=λ_=>by kernel_rfl
noncomputable def hk:PySem.W.Hook:=PySem.W.kHook K0 JU eK
theorem hl:PySem.W.LeftO pw vq lo (λs=>Tn vq [] s&&SW [] s) hk.obs hk.val 2188:=λw=>by kernel_rfl
end
end Mi
end ZZ.Lean
open ZZ.Lean
theorem PySem.Challenge.cw_layworld_k13_figures_holds : PySem.Challenge.rw_layworld_k13_figures.Holds := by
 w_on
 refine PySem.W.holds_law (by kernel_rfl) (λsaid=>?_)
 refine PySem.W.holds_open (q:=Mi.vq) (loose:=Mi.lo) (Xt:=λs=>Tn Mi.vq [] s&&SW [] s) (XP:=PySem.W.XL Mi.vq []) (Yf:=Mi.hk.obs) (Ya:=Mi.hk.val) (YP:=Mi.hk.says) (N:=2188) Mi.hl Mi.hk.of Mi.hk.keeps (λs e=>PySem.W.xl_of s (Qw.mp e).1) Ud (by rfl) (by rfl) (by rfl) (λs e=>PySem.W.recFacts_of (Qw.mp e).2) (by rfl) said (by decide +kernel) ⟨rfl,rfl,rfl,rfl,rfl,by decide +kernel⟩ ?hw ?hc
 case hw=>w_witness2
 case hc=>
 refine Mi.JN (l:=Qh) (K:=Mi.K0) rfl rfl (λw h Y=>PySem.W.kIn_of Y) ?F
 case F=>
  intro w mg fa h KX G hmg;exact Mi.FZ KX G hmg (Mi.HU KX G (by kernel_rfl) (by kernel_rfl) (by kernel_rfl) (by kernel_rfl) (by kernel_rfl) (by kernel_rfl) (by kernel_rfl) (by kernel_rfl) (by kernel_rfl) (by kernel_rfl) (by kernel_rfl) (by kernel_rfl) (by kernel_rfl))
   (Mi.aQ 21 (.str "layworld.worlds" 187) (.ref 20) (x:="way") (st:=Mi.aj 1) (df:=Mi.iw) KX G Mi.FX (by kernel_rfl) (by kernel_rfl) (by kernel_rfl) (by kernel_rfl))
   (Mi.aQ 26 (.str "layworld.parts" 199) (.ref 25) (x:="point_over") (st:=Mi.aj 3) (df:=Mi.bo) KX G Mi.nI (by kernel_rfl) (by kernel_rfl) (by kernel_rfl) (by kernel_rfl))
   (Mi.aQ 31 (.str "layworld.parts" 199) (.ref 30) (x:="least_form") (st:=Mi.aj 4) (df:=Mi.bp) KX G Mi.nJ (by kernel_rfl) (by kernel_rfl) (by kernel_rfl) (by kernel_rfl))
   (Mi.aQ 36 (.str "layworld.parts" 199) (.ref 35) (x:="longer_orders") (st:=Mi.aj 5) (df:=Mi.aM) KX G Mi.j7 (by kernel_rfl) (by kernel_rfl) (by kernel_rfl) (by kernel_rfl))
   (Mi.aQ 41 (.str "layworld.parts" 199) (.ref 40) (x:="figures") (st:=Mi.aj 6) (df:=Mi.ci) KX G Mi.uE (by kernel_rfl) (by kernel_rfl) (by kernel_rfl) (by kernel_rfl))
   (Mi.aQ 46 (.str "layworld.parts" 199) (.ref 45) (x:="all_threes") (st:=Mi.aj 7) (df:=Mi.bq) KX G Mi.nK (by kernel_rfl) (by kernel_rfl) (by kernel_rfl) (by kernel_rfl))
   (Mi.aQ 51 (.str "layworld.parts" 199) (.ref 50) (x:="all_points") (st:=Mi.aj 8) (df:=Mi.br) KX G Mi.nL (by kernel_rfl) (by kernel_rfl) (by kernel_rfl) (by kernel_rfl))
   (Mi.aQ 56 (.str "layworld.parts" 199) (.ref 55) (x:="all_numbers") (st:=Mi.aj 9) (df:=Mi.a7) KX G Mi.mK (by kernel_rfl) (by kernel_rfl) (by kernel_rfl) (by kernel_rfl))
   (Mi.aQ 63 (.str "law_layworld_k13_figures" 243) (.ref 62) (x:="_law_flow") (st:=Mi.aj 11) (df:=Mi.bI) KX G Mi.qM (by kernel_rfl) (by kernel_rfl) (by kernel_rfl) (by kernel_rfl))
   (Mi.aQ 70 (.str "law_layworld_k13_figures" 243) (.ref 69) (x:="_law_pick") (st:=Mi.aj 12) (df:=Mi.bJ) KX G Mi.qN (by kernel_rfl) (by kernel_rfl) (by kernel_rfl) (by kernel_rfl))
   (Mi.aQ 75 (.str "law_layworld_k13_figures" 243) (.ref 74) (x:="_law_letters") (st:=Mi.aj 13) (df:=Mi.aT) KX G Mi.kP (by kernel_rfl) (by kernel_rfl) (by kernel_rfl) (by kernel_rfl))
   (Mi.aQ 82 (.str "law_layworld_k13_figures" 243) (.ref 81) (x:="_law_name") (st:=Mi.aj 14) (df:=Mi.bK) KX G Mi.qO (by kernel_rfl) (by kernel_rfl) (by kernel_rfl) (by kernel_rfl))
   (Mi.aQ 89 (.str "law_layworld_k13_figures" 243) (.ref 88) (x:="_law_names") (st:=Mi.aj 15) (df:=Mi.bu) KX G Mi.nM (by kernel_rfl) (by kernel_rfl) (by kernel_rfl) (by kernel_rfl))
   (Mi.aQ 96 (.str "law_layworld_k13_figures" 243) (.ref 95) (x:="_law_between") (st:=Mi.aj 16) (df:=Mi.aU) KX G Mi.kQ (by kernel_rfl) (by kernel_rfl) (by kernel_rfl) (by kernel_rfl))
   (Mi.aQ 101 (.str "law_layworld_k13_figures" 243) (.ref 100) (x:="_law_part") (st:=Mi.aj 17) (df:=Mi.bL) KX G Mi.qP (by kernel_rfl) (by kernel_rfl) (by kernel_rfl) (by kernel_rfl))
   (Mi.aQ 108 (.str "law_layworld_k13_figures" 243) (.ref 107) (x:="_law_turns") (st:=Mi.aj 18) (df:=Mi.bv) KX G Mi.nN (by kernel_rfl) (by kernel_rfl) (by kernel_rfl) (by kernel_rfl))
   (Mi.aQ 113 (.str "law_layworld_k13_figures" 243) (.ref 112) (x:="_law_figure") (st:=Mi.aj 19) (df:=Mi.a9) KX G Mi.mL (by kernel_rfl) (by kernel_rfl) (by kernel_rfl) (by kernel_rfl))
   (Mi.aQ 120 (.str "law_layworld_k13_figures" 243) (.ref 119) (x:="_law_backs") (st:=Mi.aj 20) (df:=Mi.bw) KX G Mi.nO (by kernel_rfl) (by kernel_rfl) (by kernel_rfl) (by kernel_rfl))
   (Mi.aQ 125 (.str "law_layworld_k13_figures" 243) (.ref 124) (x:="_law_rule_of") (st:=Mi.aj 21) (df:=Mi.aV) KX G Mi.kR (by kernel_rfl) (by kernel_rfl) (by kernel_rfl) (by kernel_rfl))
   (Mi.aQ 130 (.str "law_layworld_k13_figures" 243) (.ref 129) (x:="_law_free_three") (st:=Mi.aj 22) (df:=Mi.aD) KX G Mi.iU (by kernel_rfl) (by kernel_rfl) (by kernel_rfl) (by kernel_rfl))
   (Mi.aQ 137 (.str "law_layworld_k13_figures" 243) (.ref 136) (x:="_law_sizes") (st:=Mi.aj 23) (df:=Mi.bx) KX G Mi.nP (by kernel_rfl) (by kernel_rfl) (by kernel_rfl) (by kernel_rfl))
   (Mi.aQ 144 (.str "law_layworld_k13_figures" 243) (.ref 143) (x:="_law_any_rule") (st:=Mi.aj 24) (df:=Mi.aN) KX G Mi.j8 (by kernel_rfl) (by kernel_rfl) (by kernel_rfl) (by kernel_rfl))
   (Mi.aQ 151 (.str "law_layworld_k13_figures" 243) (.ref 150) (x:="_law_laying_kind") (st:=Mi.aj 25) (df:=Mi.aA) KX G Mi.ic (by kernel_rfl) (by kernel_rfl) (by kernel_rfl) (by kernel_rfl))
   (Mi.aQ 158 (.str "law_layworld_k13_figures" 243) (.ref 157) (x:="_law_breaks") (st:=Mi.aj 26) (df:=Mi.bc) KX G Mi.mM (by kernel_rfl) (by kernel_rfl) (by kernel_rfl) (by kernel_rfl))
   (Mi.aQ 163 (.str "law_layworld_k13_figures" 243) (.ref 162) (x:="_law_numbered") (st:=Mi.aj 27) (df:=Mi.aO) KX G Mi.j9 (by kernel_rfl) (by kernel_rfl) (by kernel_rfl) (by kernel_rfl))
   (Mi.aQ 170 (.str "law_layworld_k13_figures" 243) (.ref 169) (x:="_law_laying_rule") (st:=Mi.aj 28) (df:=Mi.aB) KX G Mi.ie (by kernel_rfl) (by kernel_rfl) (by kernel_rfl) (by kernel_rfl))
   (Mi.aQ 175 (.str "law_layworld_k13_figures" 243) (.ref 174) (x:="_law_rising") (st:=Mi.aj 29) (df:=Mi.be) KX G Mi.mN (by kernel_rfl) (by kernel_rfl) (by kernel_rfl) (by kernel_rfl))
   (Mi.aQ 180 (.str "law_layworld_k13_figures" 243) (.ref 179) (x:="_law_free_rule") (st:=Mi.aj 30) (df:=Mi.aG) KX G Mi.jx (by kernel_rfl) (by kernel_rfl) (by kernel_rfl) (by kernel_rfl))
   (Mi.aQ 185 (.str "law_layworld_k13_figures" 243) (.ref 184) (x:="_law_one_way_rule") (st:=Mi.aj 31) (df:=Mi.ar) KX G Mi.gG (by kernel_rfl) (by kernel_rfl) (by kernel_rfl) (by kernel_rfl))
   (Mi.aQ 190 (.str "law_layworld_k13_figures" 243) (.ref 189) (x:="_law_alike") (st:=Mi.aj 32) (df:=Mi.bz) KX G Mi.nQ (by kernel_rfl) (by kernel_rfl) (by kernel_rfl) (by kernel_rfl))
   (Mi.aQ 195 (.str "law_layworld_k13_figures" 243) (.ref 194) (x:="_law_digits") (st:=Mi.aj 33) (df:=Mi.bf) KX G Mi.mO (by kernel_rfl) (by kernel_rfl) (by kernel_rfl) (by kernel_rfl))
   (Mi.aQ 200 (.str "law_layworld_k13_figures" 243) (.ref 199) (x:="_law_worlds") (st:=Mi.aj 34) (df:=Mi.bg) KX G Mi.mP (by kernel_rfl) (by kernel_rfl) (by kernel_rfl) (by kernel_rfl))
   (Mi.aQ 205 (.str "law_layworld_k13_figures" 243) (.ref 204) (x:="_law_figures") (st:=Mi.aj 35) (df:=Mi.aW) KX G Mi.kS (by kernel_rfl) (by kernel_rfl) (by kernel_rfl) (by kernel_rfl))
   (Mi.aQ 210 (.str "law_layworld_k13_figures" 243) (.ref 209) (x:="_law_full_rule") (st:=Mi.aj 36) (df:=Mi.aH) KX G Mi.jy (by kernel_rfl) (by kernel_rfl) (by kernel_rfl) (by kernel_rfl))
   (f:=217) (oc:=.type "function") (od:=gV) (an:=gV) (osl:=#[]) (kV:=.none) (doc:=.none) (pm:=(.str "law_layworld_k13_figures" 243)) (cdv:=(.ref 216)) (ct:=.none) (by kernel_rfl) (by kernel_rfl) (by kernel_rfl) (by kernel_rfl)
