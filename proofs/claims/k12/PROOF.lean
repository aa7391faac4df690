import PyProof.Rows.All
import Wide.All
import OpenK.AllK
import Wide.FinOn
import Lean
import PyProof.EqAt
import PyProof.EqKinds
import PyProof.TupleCall
import KE.KDictList
import PyProof.SetKind
import PyProof.IsRules
import KE.KSortTup
import PyProof.ZipIter
import PyProof.Draws
import PySem.Challenge.RW_layworld_k12_least_forms
noncomputable section
open Option renaming some→ba,none→gV
open _root_ renaming List→JT,Option→J1,Nat→J3,Int→Kh,decide_eq_true_eq→Kq,if_pos→Ks,Array→KC,Bool→KD,if_neg→KF,decide_eq_false→KN,of_decide_eq_true→KQ,beq_self_eq_true→Lc,if_false→Lr,False→Lw,decide_eq_true→Ly,String→LB,if_true→LQ,of_decide_eq_false→L1,or_false→ME,DecidableEq→Nk,beq_eq_false_iff_ne→On,decide_eq_false_iff_not→Pe,True→QI,bne_self_eq_false→Q7,decide_true→Rz,decide_false→SG,not_or→SH,dif_pos→Tv
open PySem renaming wpAny_bind→JU,Value→JW,Shared→JY,wpAny_pure→JZ,Addr→J4,Str→Kn,Expr→Kw,Program→KJ,Around→KP,World→KT,wpAny_newObj_type→KW,Heap→K6,sizeLine_eq→K8,wpAny_holding→Li,wpAny_callSpecial?_slot→Lk,wpAny_call_entry→Ll,codeAny_builtin→Ln,SetTable→Lq,wpAny_setState_of→Lv,wpAny_seqItems→LF,Obj→LJ,wpAny_mono→L0,NameKind→L4,plainId_quiet→L7,wpAny_typeNameOfWhole_keyiter→Mn,wpAny_truthy_bool→Mp,DictEntry→Mr,wpAny_field→My,Pos→MB,FuncData→MC,wpAny_passesOwn→MK,Spec→MS,Stmt→MT,wpAny_typeNameOf_keyiter→MW,mem_of_lookup→MX,wpAny_askSetting→M1,wpAny_typeOf→M7,wpAny_setField_rec→M9,wpAny_ite_split→Nb,Scope→Nf,Builtin→Ng,wpAny_pyIter_list→Nh,wpAny_forIn_list→Nv,wpAny_isInstance→Nw,wpAny_updateSeq→NK,wpAny_Call_Name_kw→NL,wpAny_of_eq→NR,wpAny_letGo→NS,codeAny_mono→NU,wpAny_runValue→NY,wpAny_dictEntries→N2,IsPair→N9,wpAny_standAt→Ob,wpAny_attempt→Oc,wpAny_loadPart'→Oh,wpAny_setEntries_of→Oo,IsPart→OA,call_meets→OD,wpAny_fieldsOf→OF,wpAny_setField→OJ,wpAny_tryCatch→OL,wpAny_pyIter_slot→OW,wpAny_newList→O6,wpAny_comprehension_free→O7,noFill_tuple_add→Pb,Paired→Pj,wpAny_rule→Pl,wpAny_load→Pn,ItemsOf→Pu,wpAny_execs_nil→Px,codeAny_of_tree→PC,wpAny_specialOf→PD,wpAny_dictEpoch→PF,builtinLookup_eq_fast→PM,wpAny_isSame_ref_self→PP,wpAny_isOneOf_keyiter→PU,GenState→PY,isSubtype_stop→P0,wpAny_newTuple→P1,wpAny_pyIter_keyiter→P4,wpAny_updateSeq_pair→P8,PassesOwn→Qf,rangeSize_one→Qm,seq_tuple_add→Qn,wpAny_handled→Qp,IsZip→Qq,sub_set_self→Qx,wpAny_pyIter_tuple→QE,Env→QK,wpAny_assign_Name→QL,Operator→QN,BindsTo→QP,concat_meets→QQ,wpAny_sequenceKey→QR,seqIndex_neg→QS,list_append→QT,wpAny_setEpoch_of→QZ,wpAny_pyHash_int→Re,wpAny_pyHash_str→Rf,Result→Rh,wpAny_pyIter_zip→Rp,seqIndex_of→Rw,wpAny_throw→Rx,Walks→Ry,typeLookup_type→RE,Keyword→RL,wpAny_Name→RN,wpAny_bindName→RO,typeIs_int→RQ,fitsIndex_both→RT,Params→RW,call→RX,isSubtype_type→R0,entryFor_alias→R1,intBits_le_64→Sc,evalPart_none→Se,call_list_seq→Sg,wpAny_onRaise→Su,small_one→Sx,CmpOp→Sy,call_range_1→SC,Sem→SQ,IsRangeIter→SR,wpAny_alloc→SZ,wpAny_mkInt→Ta,BoolOp→Ts,IsRange→Tw,Fin→TC,Drawn→TN,Model→TQ,Tok→T0
open List renaming length_map→JV,getElem?_eq_getElem→J5,getElem?_map→J6,length_append→J8,getElem?_eq_some_iff→J9,mem_of_getElem?→Kf,size_toArray→Kg,set→Kj,mem_singleton→Kk,mem_map→Ko,all_eq_true→Kr,zipWith→Kv,mem_cons→Kz,range→KA,mem_append_right→KH,length_range→KI,map_append→KS,mem_range→KU,replicate→KY,take_add_one→KZ,getElem_mem→K1,mem_append→K2,getElem?_append_left→K9,length_cons→La,all_cons→Le,getElem?_eq_none_iff→Lf,not_mem_nil→Lg,length_take→Lj,take_length→Lm,mem_cons_of_mem→Lp,map_cons→Lu,mem_cons_self→Lx,map_congr_left→LG,mem_append_left→LK,map_map→LN,replicate_succ→LO,length_zipWith→LP,length_singleton→LS,append_nil→LW,lookup_cons→L6,getElem?_set→Mb,getD_eq_getElem?_getD→Mc,nodup_cons→Mf,length_nil→Mg,mem_iff_getElem→Mm,append_assoc→Mq,length_eq_zero_iff→Ms,mem_filter→Mt,getElem?_range→Mu,take_of_length_le→Mw,idxOf_lt_length_of_mem→Mx,any_cons→Mz,length_drop→MA,getElem?_append_right→MD,length_filter_le→MH,flatten_cons→MN,mem_of_mem_take→MR,getElem_inj→MZ,foldlM_cons→M3,eq_nil_of_length_eq_zero→M6,zip_cons_cons→M8,filter_append→Na,find?_cons→Nc,getElem?_eq_none→Nd,pairwise_map→Ni,nodup_append→Nj,length_eraseIdx_of_lt→No,mem_of_mem_drop→Nr,nodup_iff_pairwise_ne→Nt,ext_getElem→Nx,pairwise_iff_getElem→NB,exists_mem_of_ne_nil→NC,filterMap_cons→ND,ne_nil_of_mem→NP,drop_of_length_le→N1,take_append_drop→N4,nodup_range→N8,mem_flatMap→Oa,forIn_cons→Oi,range_succ→Om,flatMap_append→Ot,mem_filterMap→Oz,getElem_idxOf→OO,extract_eq_take_drop→OQ,rel_of_pairwise_cons→OR,ext_getElem?→OX,getElem_take→O0,getElem?_take_of_lt→O2,map_take→O8,filter_cons_of_pos→Pf,filter_cons_of_neg→Pg,getElem?_set_self→Pk,range_succ_eq_map→Pr,of_mem_zip→Py,find?_some→PK,length_replicate→PL,getElem?_zipWith→PX,getElem?_set_ne→PZ,drop_zero→P3,forIn_nil→P6,nodup_nil→P7,dropLast_concat→Qa,getLastD_concat→Qb,eraseDups_cons→Qk,length_pos_iff→Ql,pairwise_cons→QD,mem_eraseDups→QG,zip_nil_left→QX,flatMap_cons→Rb,getElem_map→Ro,isEmpty_iff→Rr,cons_ne_nil→Rt,cons_append→Ru,perm_middle→Rv,foldr_cons→RI,drop_left'→RK,foldl→RS,all_map→SD,extract→SL,length→SS,Nodup→Tt
open PySem.Heap renaming get?_push_of_some→JX,get?_push_size→Ke,lt_size→Kl,get?_update_other→K5,get?_update_self→LH,size_push→LV,SameBut→L9,get?_update_ne→NE,size_update→Rn,ExtBut→RA
open Option renaming map_eq_some_iff→J0,map_some→K4,isSome_iff_exists→Lb,map_eq_none_iff→NX,toList→O9,getD_none→Rj,getD_some→Rq
open Bool renaming and_eq_true→J2,false_ne_true→Ku,false_eq_true→Ky,or_eq_true→LX,not_true→MV,and_true→NH,true_and→Od,and_false→OE,not_eq_true'→OY,false_or→O4,and_eq_false_iff→PN,not_false→P2,and_eq_true_iff→Qc,or_false→Qo
open Nat renaming le_refl→J7,le_trans→Kc,le_of_ble_eq_true→Kd,ne_of_lt→Kt,lt_of_lt_of_le→Kx,ne_of_gt→KM,lt_irrefl→LA,zero_le→LR,lt_succ_self→L5,le_of_lt→L8,div_lt_of_lt_mul→Mo,lt_of_le_of_lt→MG,le_succ→MO,le_succ_of_le→MP,lt_succ_of_lt→MQ,le_add_right→M4,mul_comm→Nu,succ_le_succ→N6,pow_le_pow_right→Of,mul_le_mul_right→Og,pow_le_pow_left→Os,eq_zero_or_pos→ON,succ_mul→Pp,lt_trans→Pq,mod_lt→Ps,mul_zero→Pw,mul_le_mul→P9,not_lt→Qz,lt_or_gt_of_ne→QC,succ_le_of_lt→QU,zero_lt_of_lt→Q8,le_of_not_lt→Rl,succ_ne_zero→Rm,min_eq_right→Rs,min_eq_left→RJ,add_assoc→Sn,min_self→SF,sub_zero→SM,pow_succ→SN,ble→T4
open PySem.W renaming Frag→Kb,mg_none_of→Lo,nsIn→LD,keepIn→LL,fnOf→Mk,kia_one→ML,kas_sort→M5,codeIn→Nm,methodObj→OT,cellsFrom_some→Po,OpenLaw→Pz,kat_nil→PJ,KdlSrc→P5,WalkO→Sh,Looks→Sr,mg_of→Sv,recOk→Sw,xlAt→SO
open Array renaming length_toList→Ki,getElem?_toList→Ls,size_map→Lz,getElem?_eq_some_iff→LM,getElem?_eq_getElem→Mj,map→M2,mem_toList_iff→Np,toList_extract→Nq,getD→NM,forIn_toList→NN,mem_of_getElem?→N3,getElem_toList→Oe,toList_append→Op,getElem?_map→OH,perm_iff_toList_perm→OM,toList_push→OV,toList_map→Pd,append_assoc→Qt,filterMap→RF,map_map→So,toList→SA
open Int renaming toNat_natCast→Km,natCast_nonneg→KG,ofNat_lt→Ma,emod_lt_of_pos→MF,emod_nonneg→MM,ediv_nonneg→Ol,zero_add→Ow,natCast_mul→PB,toNat_of_nonneg→Qi
open Option.some renaming injEq→KL,inj→Lh
open PySem.Value renaming ref→KO,none→K7,type→LZ,bool→Nl,str→N5,int→Pa
open PySem.SetTable renaming insertAt→KR,below→M0,grown→NZ,Probe→OG,sizeAbove→OI,layClean→Q9,fits→Sj,sameMemory→Tl,relaid→TK,laid→TY
open PySem.Around renaming under_plainId→Ld
open PySem.Obj renaming mapSeq→LC,data_mapFields→NO,isFreed_of_fields→PV,cls_mapFields→Q5,mapFields→Sq
open PySem.Builtin.List renaming listExtendWith→LI,listTooLong→MU,listLengthHint→Ou,listSameRef→O3,listFitsIndex→RV
open PySem.Builtin.Tuple renaming tupleExact→LU,tupleItemsOf→Nn,tupleHashOf→Nz,tupleCompareSizes→Rc,tupleIsExact→RY
open ForInStep renaming yield→LY
open PySem.Builtin.Range renaming rangeSize→L3,small→Oq
open PyProof.Rows renaming slot_tuple_getitem→Mh,callWith_type1→Mv,subscriptTail_builtinR→NW,assignInOrder_cons→Oy,AllBare→OU,listUpdate_at→O5,SortKind→Pc,get?_update_seq→PH,entry_tuple_getitem→Qh,lt_int→Qj,args_tuple_getitem→Qv,IsTup→QJ,assignInOrder_nil→QM,listItems_at→Q6,callWith_builtin1→Ri,seqEpoch_at→RB,entry_list_sort→RH,IntsAre→RM,slicePart_none→RP,slot_list_sort→R4,args_list_sort→R5,tupleItemsOf_→Sd,plain_sorted→SI,entry_sorted→SJ,args_sorted1→SK,kind_sorted→Tb
open PySem.Str renaming ofString→Ml,length→To,join→TW
open PySem.Builtin.Slice renaming slicePlaces→MJ,sliceAdjust→Ny,sliceApplied→OB,slicePartIndex→RC,sliceFields→R6
open PySem.Heap.SameBut renaming update→MY,refl→Q1
open PySem.Calls renaming call_function_entry→NA,Name_function_global→Ox,Constant_str→Qu
open PySem.Builtin.SmallTypes renaming ownedTupleHandOut→NF,ownedTupleIsFree→NI,nextOf→OS
open PySem.F renaming args_tuple_add_2→NG,entry_tuple_add→NQ,plainAttrs_list→NT,slot_tuple_add→NV,slot_dict_get→PQ
open PySem.NameKind renaming free→NJ,cell→TZ
open True renaming intro→N7
open PySem.Builtin.Dict_items renaming ownsTuple→Oj
open PySem.Builtin.Builtins renaming bindParams→Ov
open PySem.SeqAt renaming EqAt→OC,notIn_listAt→Qw,in_listAt→RD
open Classical renaming byContradiction→OP,propDecidable→Sz
open PySem.SetTable.probe renaming go→OZ
open PySem.Paired renaming length→O1
open PySem.Challenge renaming pw_layworld_k12_least_forms→Ph,rw_layworld_k12_least_forms→Pi
open PySem.Env renaming kindOf→Pv
open PySem.Builtin.Dict renaming showsAll→PR,dictSlotNone→R8,pendingCount→R9
open Sum renaming inl→Qd,inr→Qe
open PySem.Expr renaming Name→Qg
open PySem.SeqAt.EqAt renaming int_str→Qr,str_int→Qs,none_bool→SU,bool_none→SV,bool_bool→SW,none_int→Tc,none_str→Td,bool_int→Te,bool_str→Tf,int_none→Th,int_bool→Ti,str_none→Tj,str_bool→Tk,int_int→Tp,str_str→Tq,same→TJ
open PUnit renaming unit→Qy
open PySem.Code renaming quiet_builtin→QA
open PySem.ScopeKind renaming function→QF
open PySem.AutoListH renaming list___mul___list_int_3→QH
open PySem.AutoSeq1 renaming list_extend_list_list_0→QV,sub_tuple_tuple→Si
open PySem.SetTable.below renaming go→QY
open Function renaming comp_def→Ra
open PyProof.Rows.IsTup renaming new→Rg
open PySem.IsL renaming update→Rk
open PySem.Builtin.Frozenset renaming updateFrom→RG,newClass→RZ,sizeOf→Sk
open PySem.Walks renaming list→R3
open PySem.Builtin.Str renaming tooLong→R7,glued→Tx
open PySem.Moved renaming eq_with→Sl
open PySem.MeetsSeq renaming list_pop_at→SX
open PySem.Txt renaming join→SY,mul→T3
open PySem.Heap.IsSliceOf renaming new→Tn
open List.Pairwise renaming nil→Tu
open List.Sublist renaming refl→Tz
open PySem.Flow renaming next→TB
open PySem.W.Looks renaming ld→TD
open List.Perm renaming nil_eq→TF,swap→TV,map→TX
open PySem.W.XL renaming keeps→TH
open PySem.PassesOwn renaming never→TL
open List.cons renaming injEq→TM
open Prod renaming ext→TR
open Or renaming inr→TU
set_option genSizeOf false
namespace ZZ.Lean
set_option Elab.async false
set_option linter.all false
set_option maxRecDepth 100000
namespace L2
open PySem PySem.Spec PyProof.Rows
noncomputable abbrev o8:=Sum Kh Kn
noncomputable def C0:o8->JW->KD
 | .inl k,v=>Value.isInt k v
 | .inr x,v=>Value.isStrOf x v
noncomputable def HV (w:KT):o8->Kh
 | .inl k=>hashInt k
 | .inr x=>hashStr w x
theorem bR:∀ {k:o8} {v:JW},C0 k v=true->(∃i t,k=Qd i/\v=Pa i t)\/(∃x t,k=Qe x/\v=N5 x t)
 | .inl i,v,h=>by
  obtain⟨t,e⟩:=Value.isInt_shape (k:=i) (v:=v) h;exact .inl ⟨i,t,rfl,e⟩
 | .inr x,v,h=>by
  obtain⟨t,e⟩:=Value.isStrOf_shape (x:=x) (v:=v) h;exact .inr ⟨x,t,rfl,e⟩
theorem Dx (a b:Kh):decide ((Qd a:o8)=Qd b)=(a==b):=by
 by_cases e:a=b
 ·subst e; simp
 ·have h:¬ (Qd a:o8)=Qd b:=λq=>e (Sum.inl.inj q)
  rw[KN h];exact(On.mpr e).symm
theorem Dy (a b:Kn):decide ((Qe a:o8)=Qe b)=decide (a=b):=by
 by_cases e:a=b
 ·subst e; simp
 ·have h:¬ (Qe a:o8)=Qe b:=λq=>e (Sum.inr.inj q)
  rw[KN h,KN e]
theorem Dz (a:Kh)(b:Kn):decide ((Qd a:o8)=Qe b)=false:=KN (λq=>nomatch q)
theorem DA (a:Kn)(b:Kh):decide ((Qe a:o8)=Qd b)=false:=KN (λq=>nomatch q)
noncomputable def o9 (prog:KJ)(w:KT):PySem.KeyKind prog w o8 where
 is:=C0
 hash:=HV w
 inj:=λv a b ha hb=>by
  rcases bR ha with⟨i,t,rfl,rfl⟩|⟨x,t,rfl,rfl⟩
  ·rcases bR hb with⟨j,u,rfl,e⟩|⟨y,u,rfl,e⟩
   ·injection e with e1 _; rw[e1]
   ·exact nomatch e
  ·rcases bR hb with⟨j,u,rfl,e⟩|⟨y,u,rfl,e⟩
   ·exact nomatch e
   ·injection e with e1 _; rw[e1]
 byValue:=λk v h=>by
  rcases bR h with⟨i,t,rfl,rfl⟩|⟨x,t,rfl,rfl⟩ <;> rfl
 pyHash:=λhv h=>by
  rcases bR hv with⟨i,t,rfl,rfl⟩|⟨x,t,rfl,rfl⟩
  ·exact Re h
  ·exact Rf h
 eqBool:=λhu hv h=>by
  rcases bR hu with⟨i,t,rfl,rfl⟩|⟨x,t,rfl,rfl⟩
  ·rcases bR hv with⟨j,u,rfl,rfl⟩|⟨y,u,rfl,rfl⟩
   ·rw[Dx]at h; exact wpAny_eqBool_int h
   ·rw[Dz]at h; exact Qr i t y u _ _ _ _ h
  ·rcases bR hv with⟨j,u,rfl,rfl⟩|⟨y,u,rfl,rfl⟩
   ·rw[DA]at h; exact Qs x t j u _ _ _ _ h
   ·rw[Dy]at h; exact wpAny_eqBool_str h
 «strs»:=λk x t v h=>by
  rcases bR h with⟨i,u,rfl,e⟩|⟨y,u,rfl,e⟩
  ·exact nomatch e
  ·injection e with e1 _
   subst e1;cases v <;> rfl
set_option genInjectivity false in
inductive V where
 | non|bl (b:KD)|int (i:Kh)|str (x:Kn)|byt (b:KC UInt8)|flt (b:UInt64)|ref (a:J4)|ty (n:LB)
 deriving Nk
noncomputable def RelV:V->JW->Prop
 | .non,u=>u=K7
 | .bl b,u=>u=Nl b
 | .int i,u=>∃t,u=Pa i t
 | .str x,u=>∃t,u=N5 x t
 | .byt b,u=>∃t,u=Value.bytes b t
 | .flt b,u=>∃t,u=Value.float b t
 | .ref a,u=>u=KO a
 | .ty n,u=>u=LZ n
noncomputable abbrev Vals:JT V->JT JW->Prop:=Pj RelV
theorem Vals.length {xs:JT V}{us:JT JW}(r:Vals xs us):xs.length=us.length:=O1 r
theorem Vals.get:∀ {xs:JT V} {us:JT JW} {i:J3} {x:V},Vals xs us->xs[i]?=ba x->∃u,us[i]?=ba u/\RelV x u
 | _,_,_,_,.nil,e=>by simp at e
 | _,_,0,_,.cons r _,e=>by simp at e; subst e; exact⟨_,rfl,r⟩
 | _,_,i+1,x,.cons _ t,e=>by
  obtain⟨u,h1,h2⟩:=Vals.get (i:=i) (x:=x) t (by simpa using e)
  exact⟨u,by simpa using h1,h2⟩
theorem Vals.set {x:V}{u:JW}(r:RelV x u):∀ {xs:JT V} {us:JT JW} (i:J3),Vals xs us->Vals (xs.set i x) (us.set i u)
 | _,_,_,.nil=>.nil
 | _,_,0,.cons _ t=>.cons r t
 | _,_,i+1,.cons q t=>.cons q (Vals.set r i t)
theorem Vals.append:∀ {xs ys:JT V} {us ws:JT JW},Vals xs us->Vals ys ws->Vals (xs++ys) (us++ws)
 | _,_,_,_,.nil,s=>s
 | _,_,_,_,.cons r t,s=>.cons r (Vals.append t s)
theorem Vals.take:∀ {xs:JT V} {us:JT JW} (n:J3),Vals xs us->Vals (xs.take n) (us.take n)
 | _,_,0,_=>.nil
 | _,_,_+1,.nil=>.nil
 | _,_,n+1,.cons r t=>.cons r (Vals.take n t)
theorem Vals.drop:∀ {xs:JT V} {us:JT JW} (n:J3),Vals xs us->Vals (xs.drop n) (us.drop n)
 | _,_,0,r=>r
 | _,_,_+1,.nil=>.nil
 | _,_,n+1,.cons _ t=>Vals.drop n t
noncomputable def FN:J1 V->J1 JW->Prop
 | some v,ba u=>RelV v u
 | none,gV=>QI
 | _,_=>Lw
noncomputable def KV {κ:Type}:JT (κ×V)->JT (κ×JW)->Prop:=Pj λ(p:κ×V) (q:κ×JW)=>p.1=q.1/\RelV p.2 q.2
noncomputable def kV:o8->V
 | .inl i=>.int i
 | .inr x=>.str x
set_option genInjectivity false in
inductive HO where
 | lst (xs:JT V)
 | tup (xs:JT V)
 | dK (kvs:JT (o8×V))|dT (kvs:JT (JT o8×V))
 | set (S:Kh->KD) (n:J3)
 | ins (C dx:J4) (fs:JT (Kn×V))
 | own (x:J4)
 | xd (fs:JT (Kn×V))
 | met (f x:J4)
 | rng (lo hi:Kh)
 | frz (o:LJ) (u:HO)
 | tbl (ps:KC JW)
 | ext (φ:K6->Prop)
noncomputable abbrev Hp:=J4->J1 HO
noncomputable def bZ (H:Hp)(a:J4)(o:HO):Hp:=λb=>if b=a then ba o else H b
theorem bg {H:Hp}{a:J4}{o:HO}:bZ H a o a=ba o:=by unfold bZ; rw[Ks rfl]
theorem aM {H:Hp}{a b:J4}{o:HO}(h:b≠a):bZ H a o b=H b:=by unfold bZ; rw[KF h]
theorem eB {H:Hp}{a b:J4}{o:HO}(h:H a=ba o)(h':H b=gV):a≠b:=by
 intro e; subst e; rw[h]at h'; cases h'
section
variable (P:KJ) (w:KT)
noncomputable def ObjOk (H:Hp)(h:K6)(a:J4):HO->Prop
 | .lst xs=>xs.length<=sizeLine/\∃(its:JT JW) (n:J3),Vals xs its/\h.get? a=ba { cls:=.type "list",data:=.seq its.toArray n }
 | .tup xs=>xs.length<=sizeLine/\∃its:JT JW,Vals xs its/\QJ h a its.toArray
 | .dK kvs=>kvs.length<=sizeLine/\(a==sysModules)=false/\∃vs,KV kvs vs/\h.DictOf (o9 P w) a vs
 | .dT kvs=>kvs.length<=sizeLine/\(a==sysModules)=false/\∃xs:JT (JT o8×J4×JW),
   Pj (λ(p:JT o8×V) (q:JT o8×J4×JW)=>p.1=q.1/\H q.2.1=ba (.tup (p.1.map kV))/\RelV p.2 q.2.2) kvs xs/\
   ∃o es ep,h.get? a=ba o/\o.ExactDict/\o.data=.dict es ep/\es.toList=xs.map (entryOfKey (tupleKind (o9 P w)))/\(xs.map (·.1)).Nodup
 | .set S n=>h.SetOf (intKind P w) a S n
 | .ins C dx fs=>H dx=ba (.own a)/\fs.length<=1000/\dx≠a/\h.get? a=ba (PySem.W.instObj C dx)/\
   ∃mA,h.Ns1 dx mA/\(∀f,FN (fs.lookup f) (mA f))/\PySem.Within mA (fs.map (·.1))
 | .own _=>∃o,h.get? a=ba o
 | .xd fs=>∃mA,h.Ns1 a mA/\∀f,FN (fs.lookup f) (mA f)
 | .rng lo hi=>∃t u v,h.get? a=ba { cls:=.type "range",data:=.fields [.int lo t,.int hi u,.int 1 v].toArray }
 | .frz o u=>h.get? a=ba o/\ObjOk H h a u
 | .tbl ps=>h.get? a=ba { cls:=.none,data:=.fields ps }
 | .met f x=>h.get? a=ba (OT (.ref f) (.ref x))
 | .ext φ=>φ h/\(∃o,h.get? a=ba o)/\∀h1 h2:K6,φ h1->(∀o,h1.get? a=ba o->h2.get? a=ba o)->φ h2
noncomputable def HOk (H:Hp)(h:K6):Prop:=∀a o,H a=ba o->ObjOk P w H h a o
end
section
variable{P:KJ}{w:KT}{H H':Hp}{h h':K6}{a:J4}{o:HO}
theorem ObjOk.lt (x:ObjOk P w H h a o):a < h.objs.size:=by
 cases o with
 | lst xs=>obtain⟨_,_,_,_,e⟩:=x; exact Kl e
 | tup xs=>obtain⟨_,_,_,p⟩:=x; exact p.lt
 | dK kvs=>obtain⟨_,_,_,_,o,_,_,e,_⟩:=x; exact Kl e
 | dT kvs=>obtain⟨_,_,_,_,o,_,_,e,_⟩:=x; exact Kl e
 | set S n=>obtain⟨o,_,_,_,e,_⟩:=x; exact Kl e
 | ins C dx fs=>obtain⟨_,_,_,e,_⟩:=x; exact Kl e
 | own y=>obtain⟨_,e⟩:=x; exact Kl e
 | xd fs=>obtain⟨_,⟨_,_,_,e,_⟩,_⟩:=x; exact Kl e
 | rng lo hi=>obtain⟨_,_,_,e⟩:=x; exact Kl e
 | frz ob u=>obtain⟨e,_⟩:=x; exact Kl e
 | tbl ps=>exact Kl (show h.get? a=ba _ from x)
 | met f y=>exact Kl (show h.get? a=ba _ from x)
 | ext φ=>obtain⟨_,⟨_,e⟩,_⟩:=x; exact Kl e
theorem Paired.mapP {α β:Type}{F G:α->β->Prop}:∀ {l₁:JT α} {l₂:JT β},Pj F l₁ l₂->(∀a b,F a b->G a b)->Pj G l₁ l₂
 | _,_,.nil,_=>.nil
 | _,_,.cons r t,f=>.cons (f _ _ r) (Paired.mapP t f)
theorem ObjOk.stay (x:ObjOk P w H h a o)(k:∀b u,(b=a\/H b=ba (.own a))->h.get? b=ba u->h'.get? b=ba u)
  (ho:∀b,H b=ba (.own a)->H' b=ba (.own a)) (ht:∀b xs,H b=ba (.tup xs)->H' b=ba (.tup xs)):ObjOk P w H' h' a o:=by
 induction o with
 | lst xs=>obtain⟨z,its,n,r,e⟩:=x; exact⟨z,its,n,r,k _ _ (.inl rfl) e⟩
 | tup xs=>obtain⟨z,its,r,ob,e,c⟩:=x; exact⟨z,its,r,ob,k _ _ (.inl rfl) e,c⟩
 | dK kvs=>obtain⟨z,y,vs,r,ob,es,ep,e,c⟩:=x; exact⟨z,y,vs,r,ob,es,ep,k _ _ (.inl rfl) e,c⟩
 | dT kvs=>
  obtain⟨z,y,xs,r,ob,es,ep,e,c⟩:=x;exact⟨z,y,xs,Paired.mapP r λp q z=>⟨z.1,ht _ _ z.2.1,z.2.2⟩,ob,es,ep,k _ _ (.inl rfl) e,c⟩
 | set S n=>obtain⟨ob,es,ep,t,e,c⟩:=x; exact⟨ob,es,ep,t,k _ _ (.inl rfl) e,c⟩
 | ins C dx fs=>
  obtain⟨d,z,ne,e,mA,⟨od,es,ep,e2,c⟩,r⟩:=x;exact⟨ho _ d,z,ne,k _ _ (.inl rfl) e,mA,⟨od,es,ep,k _ _ (.inr d) e2,c⟩,r⟩
 | own y=>obtain⟨ob,e⟩:=x; exact⟨ob,k _ _ (.inl rfl) e⟩
 | xd fs=>obtain⟨mA,⟨od,es,ep,e,c⟩,r⟩:=x; exact⟨mA,⟨od,es,ep,k _ _ (.inl rfl) e,c⟩,r⟩
 | rng lo hi=>obtain⟨t,u,v,e⟩:=x; exact⟨t,u,v,k _ _ (.inl rfl) e⟩
 | frz ob u ih=>obtain⟨e,q⟩:=x; exact⟨k _ _ (.inl rfl) e,ih q⟩
 | tbl ps=>
  have e:h.get? a=ba { cls:=.none,data:=.fields ps }:=x;show h'.get? a=ba { cls:=.none,data:=.fields ps };exact k a _ (.inl rfl) e
 | met f y=>
  have e:h.get? a=ba (OT (.ref f) (.ref y)):=x;show h'.get? a=ba (OT (.ref f) (.ref y));exact k a _ (.inl rfl) e
 | ext φ=>obtain⟨p,⟨o,e⟩,st⟩:=x; exact⟨st _ _ p λo q=>k _ _ (.inl rfl) q,⟨o,k _ _ (.inl rfl) e⟩,st⟩
theorem HOk.lt (x:HOk P w H h)(e:H a=ba o):a < h.objs.size:=(x a o e).lt
theorem HOk.fresh (x:HOk P w H h)(e:h.objs.size<=a):H a=gV:=by
 cases q:H a with
 | none=>rfl
 | some u=>exact absurd (Kx (x.lt q) e) (LA _)
theorem HOk.kept (x:HOk P w H h)(k:∀b u,h.get? b=ba u->h'.get? b=ba u):HOk P w H h':=λa o e=>
 (x a o e).stay (λb u _ q=>k b u q) (λ_ q=>q) λ_ _ q=>q
theorem HOk.laid (x:HOk P w H h)(k:∀b u,h.get? b=ba u->h'.get? b=ba u)(hp:h.objs.size<=a)(new:ObjOk P w (bZ H a o) h' a o):HOk P w (bZ H a o) h':=λb u e=>by
 have hn:=x.fresh hp
 by_cases hb:b=a
 ·subst hb; rw[bg]at e; cases e; exact new
 ·rw[aM hb]at e;exact(x b u e).stay (λc v _ q=>k c v q) (λc q=>by rw[aM (eB q hn)]; exact q) λc xs q=>by rw[aM (eB q hn)]; exact q
end
noncomputable def Rd (H:Hp)(a:J4)(u:HO):Prop:=H a=ba u\/∃o,H a=ba (.frz o u)
theorem Rd.ok {P:KJ}{w:KT}{H:Hp}{h:K6}{a:J4}{u:HO}(r:Rd H a u)(x:HOk P w H h):ObjOk P w H h a u:=by
 rcases r with r|⟨o,r⟩
 ·exact x a u r
 ·obtain⟨_,q⟩:=x a _ r;exact q
noncomputable def FP:J1 HO->Prop
 | some (.lst _)=>QI
 | some (.dK _)=>QI
 | some (.dT _)=>QI
 | some (.set _ _)=>QI
 | some (.ins _ _ _)=>QI
 | some (.ext _)=>QI
 | _=>Lw
section
variable{P:KJ}{w:KT}{H:Hp}{h h':K6}{x e:J4}{o':HO}
theorem HOk.write (ok:HOk P w H h)(mu:FP (H x))(he:e=x\/H e=ba (.own x))(k:∀b u,b≠e->h.get? b=ba u->h'.get? b=ba u)(heo:∃u,h'.get? e=ba u)
  (new:ObjOk P w (bZ H x o') h' x o'):HOk P w (bZ H x o') h':=λb u q=>by
 have nown:∀c y,H c=ba (.own y)->c≠x:=λc y r z=>by subst z; rw[r]at mu; exact mu
 have ntup:∀c xs,H c=ba (.tup xs)->c≠x:=λc xs r z=>by subst z; rw[r]at mu; exact mu
 by_cases hb:b=x
 ·subst hb; rw[bg]at q; cases q; exact new
 ·rw[aM hb]at q
  by_cases hbe:b=e
  ·have q':H b=ba (.own x):=by
    rcases he with z|z
    ·exact absurd (hbe.trans z) hb
    ·rw[hbe]; exact z
   rw[q]at q'; cases q'
   obtain⟨v,hv⟩:=heo;exact⟨v,by rw[hbe]; exact hv⟩
  ·refine(ok b u q).stay (λc v hc r=>k c v ?_ r) (λc r=>by rw[aM (nown c b r)]; exact r) λc xs r=>by rw[aM (ntup c xs r)]; exact r
   rcases hc with rfl|hc
   ·exact hbe
   ·rintro rfl;rcases he with z|z
    ·exact nown c b hc z
    ·rw[hc]at z; cases z; exact hb rfl
end
structure Un (fs ex:JT J4)(H H':Hp)(h h':K6):Prop where
 keep:∀b o,h.get? b=ba o->H b=gV->b∉fs->b∉ex->h'.get? b=ba o
 slot:∀b o,h.get? b=ba o->H b=gV->b∈fs->b∉ex->∃sl,h'.get? b=ba { o with slots:=sl }
 free:∀b o,h.get? b=ba o->H b=gV->b∉ex->H' b=gV
 there:∀b o,h.get? b=ba o->b∉ex->∃o',h'.get? b=ba o'
 tups:∀b xs,H b=ba (.tup xs)->H' b=ba (.tup xs)
 frzs:∀b o u,H b=ba (.frz o u)->H' b=ba (.frz o u)
 tbls:∀b ps,H b=ba (.tbl ps)->∃more,H' b=ba (.tbl (ps++more))
section
variable{fs fs' ex ex':JT J4}{H H1 H2:Hp}{h h1 h2 h':K6}{a x e:J4}{o:HO}
theorem Un.any (u:Un fs ex H H1 h h1){b:J4}{ob:LJ}(q:h.get? b=ba ob)(n:H b=gV)(hx:b∉ex):∃sl,h1.get? b=ba { ob with slots:=sl }:=by
 by_cases hb:b∈fs
 ·exact u.slot b ob q n hb hx
 ·exact⟨ob.slots,u.keep b ob q n hb hx⟩
theorem Un.trans (a:Un fs ex H H1 h h1)(b:Un fs ex H1 H2 h1 h2):Un fs ex H H2 h h2 where
 keep:=λc ob q n hc hx=>b.keep c ob (a.keep c ob q n hc hx) (a.free c ob q n hx) hc hx
 slot:=λc ob q n hc hx=>by
  obtain⟨sl,e1⟩:=a.slot c ob q n hc hx;obtain⟨sl',e2⟩:=b.slot c _ e1 (a.free c ob q n hx) hc hx;exact⟨sl',e2⟩
 free:=λc ob q n hx=>by
  obtain⟨o',e1⟩:=a.there c ob q hx;exact b.free c o' e1 (a.free c ob q n hx) hx
 there:=λc ob q hx=>by
  obtain⟨o',e1⟩:=a.there c ob q hx;exact b.there c o' e1 hx
 tups:=λc xs q=>b.tups c xs (a.tups c xs q)
 frzs:=λc ob xs q=>b.frzs c ob xs (a.frzs c ob xs q)
 tbls:=λc ps q=>by
  obtain⟨m1,e1⟩:=a.tbls c ps q;obtain⟨m2,e2⟩:=b.tbls c _ e1;exact⟨m1++m2,by rw[e2,Qt]⟩
theorem Un.kept (k:∀b u,h.get? b=ba u->h'.get? b=ba u):Un fs ex H H h h':=
 ⟨λb ob q _ _ _=>k b ob q,λb ob q _ _ _=>⟨ob.slots,k b ob q⟩,λ_ _ _ n _=>n,λb ob q _=>⟨ob,k b ob q⟩,λ_ _ q=>q,λ_ _ _ q=>q,λ_ ps q=>⟨#[],by rw[q]; simp⟩⟩
theorem Un.refl:Un fs ex H H h h:=Un.kept λ_ _ q=>q
theorem Un.laid (k:∀b u,h.get? b=ba u->h'.get? b=ba u)(hp:h.objs.size<=a)(hn:H a=gV):Un fs ex H (bZ H a o) h h' where
 keep:=λb u q _ _ _=>k b u q
 slot:=λb u q _ _ _=>⟨u.slots,k b u q⟩
 free:=λb u q n _=>by rw[aM (Kt (Kx (Kl q) hp))]; exact n
 there:=λb u q _=>⟨u,k b u q⟩
 tups:=λb xs q=>by rw[aM (eB q hn)]; exact q
 frzs:=λb u xs q=>by rw[aM (eB q hn)]; exact q
 tbls:=λb ps q=>⟨#[],by rw[aM (eB q hn),q]; simp⟩
theorem Un.write (mu:FP (H x))(he:e=x\/H e=ba (.own x))(k:∀b u,b≠e->h.get? b=ba u->h'.get? b=ba u)(heo:∃u,h'.get? e=ba u):Un fs ex H (bZ H x o) h h':=by
 have hx:∀b,H b=gV->b≠x:=λb n z=>by subst z; rw[n]at mu; exact mu
 have hb:∀b,H b=gV->b≠e:=λb n z=>by
  subst z;rcases he with r|r
  ·exact hx b n r
  ·rw[n]at r; cases r
 have hm:∀b u,H b=ba u->¬ FP (ba u)->b≠x:=λb u q nm z=>by subst z; rw[q]at mu; exact nm mu
 refine⟨λb u q n _ _=>k b u (hb b n) q,λb u q n _ _=>⟨u.slots,k b u (hb b n) q⟩,λb u q n _=>by rw[aM (hx b n)]; exact n,λb u q _=>?_,
  λb xs q=>by rw[aM (hm b _ q λz=>z)]; exact q,λb u xs q=>by rw[aM (hm b _ q λz=>z)]; exact q,λb ps q=>⟨#[],by rw[aM (hm b _ q λz=>z),q]; simp⟩⟩
 by_cases hbe:b=e
 ·subst hbe; exact heo
 ·exact⟨u,k b u hbe q⟩
end
noncomputable def HF (h:K6)(H:Hp):JT J4:=(KA h.objs.size).filter λa=>(H a).isSome
noncomputable def pb (h:K6)(H:Hp):K6:=PySem.W.hideAll h (HF h H)
theorem vP (h:K6)(H:Hp):(pb h H).objs.size=h.objs.size:=PySem.W.hideAll_size _ _
theorem xw {h:K6}{H:Hp}{b:J4}{o:LJ}(e:h.get? b=ba o)(n:H b=gV):(pb h H).get? b=ba o:=
 PySem.W.hideAll_get _ e λhm=>by
  have q:(H b).isSome=true:=(Mt.mp hm).2;rw[n]at q; simp at q
theorem AQ {h:K6}{H:Hp}{b:J4}{o:LJ}(e:(pb h H).get? b=ba o):h.get? b=ba o/\H b=gV:=by
 have e':h.get? b=ba o:=PySem.W.of_hideAll (HF h H) e;refine⟨e',?_⟩;cases q:H b with
 | none=>rfl
 | some x=>
  have hm:b∈HF h H:=Mt.mpr ⟨KU.mpr (Kl e'),by simp[q]⟩
  have z:(pb h H).get? b=gV:=PySem.W.hideAll_none (HF h H) hm;rw[z]at e; cases e
noncomputable def AR (g h:K6)(L:J4):JT (J4×LJ):=(KA h.objs.size).filterMap λa=>if a=L\/(g.get? a).isSome=true then gV else(h.get? a).map λo=>(a,o)
noncomputable def bT (g h:K6)(L d:J4):JT (J4×LJ):=(AR g h L).filter λp=>decide (p.1≠d)
structure Mod (K:Kb)(mg:Kn->J1 JW)(base:K6):Prop where
 kin:K.In base
 glob:base.Ns mainGlobals mg
 blt:∃mb,base.Ns builtinsNs mb/\∀x:Kn,x≠"__name__"->mb x=bootBuiltins x
 nolimit:base.NoLimit
structure Cx where
 prog:KJ
 w:KT
 K:Kb
 mg:Kn->J1 JW
 base:K6
 A:KP
 N:JT Kn
 s₀:JY
 H₀:Hp
 env:QK
 outer:JT QK
 stack:JT QK
 ex:JT J4
 fn:Kn->KD
 calm:KD
 pn:JT (J4×LJ)
 xe:JW->JY->Prop
noncomputable def sN (l:JT QK):JT J4:=l.filterMap (·.frame)
noncomputable abbrev Cx.fs (X:Cx):JT J4:=sN X.outer
noncomputable def HG (sc:Nf)(x:Kn):Prop:=sc.names.lookup x=ba .local\/sc.names.lookup x=ba .cell\/sc.names.lookup x=ba .free
noncomputable def AS (sc:Nf)(x:Kn):Prop:=sc.names.lookup x=ba .local\/sc.names.lookup x=ba .cell
noncomputable def HW (env:QK)(h:K6)(m:Kn->J1 JW)(x:Kn)(u:JW):Prop:=
 (env.kindOf x=ba .local/\m x=ba u)\/((env.kindOf x=ba .cell\/env.kindOf x=ba .free)/\∃c,env.cells.lookup x=ba c/\h.IsCell c (ba u))
structure Cx.Ok (X:Cx):Prop where
 mod:Mod X.K X.mg X.base
 kind:X.env.scope.kind=.function
 glob:X.env.globals=mainGlobals
 blt:X.env.builtins=builtinsNs
 above:X.s₀.heap.objs.size<=X.env.locals
 inj:∀x y c,X.env.cells.lookup x=ba c->X.env.cells.lookup y=ba c->x=y
 has:∀x,(X.env.kindOf x=ba .cell\/X.env.kindOf x=ba .free)->∃c,X.env.cells.lookup x=ba c
 cab:∀x c,X.fn x=true->X.env.cells.lookup x=ba c->X.s₀.heap.objs.size<=c
 hd:X.calm=true->X.A.handled=gV
 frames:X.A.frames=ba X.stack
 stk:X.stack=X.outer\/(X.stack=X.env::X.outer/\X.env.frame=ba X.env.locals)
 exf:∀b∈X.ex,b≠X.env.locals/\∀x c,X.env.cells.lookup x=ba c->c≠b
 bs:∀b o,X.base.get? b=ba o->X.s₀.heap.get? b=ba o/\X.H₀ b=gV
 bsz:X.base.objs.size<=X.s₀.heap.objs.size
 noex:∀b o,X.base.get? b=ba o->b∉X.ex
 exfs:∀b∈X.ex,b∉X.fs
 funs:X.s₀.heap.FunFrames X.base X.outer
 frf:∀b∈X.fs,X.H₀ b=gV
structure Inv (X:Cx)(pins:JT (J4×LJ))(σ:JT (J1 V))(H:Hp)(s:JY):Prop where
 ok:X.Ok
 os:s.os=X.s₀.os
 bare:OU s.gens
 base:Un X.fs X.ex X.H₀ H X.s₀.heap s.heap
 loc:∃m,s.heap.Ns X.env.locals m/\∀(i:J3) (x:Kn) (v:V),X.N[i]?=ba x->σ[i]?=ba (ba v)->HG X.env.scope x->∃u,RelV v u/\HW X.env s.heap m x u
 cell:∀x c,X.env.cells.lookup x=ba c->∃v,s.heap.IsCell c v
 free:H X.env.locals=gV
 freeC:∀x c,X.env.cells.lookup x=ba c->H c=gV
 pin:∀p∈X.pn++pins,s.heap.get? p.1=ba p.2/\H p.1=gV/\p.1≠X.env.locals/\p.1∉X.fs/\∀v,p.2.data≠.cell v
 hok:HOk X.prog X.w H s.heap
 len:σ.length=X.N.length
section
variable{X:Cx}{pins:JT (J4×LJ)}{σ:JT (J1 V)}{H H':Hp}{s:JY}{h':K6}
theorem Cx.Ok.nofr (ok:X.Ok){b:J4}{o:LJ}(e:X.base.get? b=ba o):b∉X.fs:=λhb=>by
 have:=(ok.funs.mem hb).1;rw[e]at this; cases this
theorem Inv.bs (I:Inv X pins σ H s):∀b o,X.base.get? b=ba o->s.heap.get? b=ba o/\H b=gV:=λb o e=>
 ⟨I.base.keep b o (I.ok.bs b o e).1 (I.ok.bs b o e).2 (I.ok.nofr e) (I.ok.noex b o e),I.base.free b o (I.ok.bs b o e).1 (I.ok.bs b o e).2 (I.ok.noex b o e)⟩
theorem Inv.bk (I:Inv X pins σ H s):∀b o,X.base.get? b=ba o->s.heap.get? b=ba o:=λb o e=>(I.bs b o e).1
theorem Inv.mod (I:Inv X pins σ H s):Mod X.K X.mg X.base:=I.ok.mod
theorem Inv.kIn (I:Inv X pins σ H s):X.K.In s.heap:=I.ok.mod.kin.keeps I.bk
theorem Inv.lt (I:Inv X pins σ H s):X.env.locals < s.heap.objs.size:=let ⟨_,hn,_⟩:=I.loc; hn.lt
theorem Inv.sz (I:Inv X pins σ H s):X.s₀.heap.objs.size<=s.heap.objs.size:=Kc I.ok.above (L8 I.lt)
theorem Inv.nofs (I:Inv X pins σ H s){a:J4}(h:s.heap.objs.size<=a):a∉X.fs:=λhb=>by
 obtain⟨_,o,ho,_⟩:=I.ok.funs.mem hb;exact absurd (Kx (Kl ho) (Kc I.sz h)) (LA _)
theorem Inv.cne (I:Inv X pins σ H s):∀x c,X.env.cells.lookup x=ba c->c≠X.env.locals:=λx c e z=>by
 obtain⟨v,o,ho,hd⟩:=I.cell x c e;obtain⟨m,⟨o',es,ep,ho',hd',_⟩,_⟩:=I.loc;rw[z,ho']at ho; cases ho; rw[hd']at hd; cases hd
theorem Inv.funs (I:Inv X pins σ H s):s.heap.FunFrames X.base X.outer:=by
 have all:∀(l:JT QK),(∀b∈sN l,b∈X.fs)->X.s₀.heap.FunFrames X.base l->s.heap.FunFrames X.base l:=by
  intro l
  induction l with
  | nil=>intro _ _; trivial
  | cons env r ih=>
   intro hs hl;obtain⟨hk,⟨L,o,hf,hn,ho,hd⟩,hr⟩:=hl;have hL:L∈X.fs:=hs L (by unfold sN; rw[ND,hf]; exact Lx)
   obtain⟨sl,e⟩:=I.base.slot L o ho (I.ok.frf L hL) hL λz=>I.ok.exfs L z hL
   exact⟨hk,⟨L,_,hf,hn,e,hd⟩,ih (λb hb=>hs b (by unfold sN; rw[ND,hf]; exact Lp _ hb)) hr⟩
 exact all X.outer (λ_ hb=>hb) I.ok.funs
theorem Inv.stack (I:Inv X pins σ H s):s.heap.FunFrames X.base X.stack:=by
 rcases I.ok.stk with e|⟨e,hf⟩
 ·rw[e]; exact I.funs
 ·rw[e];obtain⟨m,hn,_⟩:=I.loc;refine .cons (by rw[I.ok.kind]; decide) hf hn ?_ I.funs
  exact Heap.get?_none_of_le (Kc I.ok.bsz I.ok.above)
theorem Inv.stkSub (I:Inv X pins σ H s):∀b∈sN X.stack,b∈X.env.locals::X.fs:=λb hb=>by
 rcases I.ok.stk with e|⟨e,hf⟩
 ·rw[e]at hb; exact Lp _ hb
 ·rw[e]at hb;unfold sN at hb;rw[ND,hf]at hb;exact hb
theorem Inv.stkFree (I:Inv X pins σ H s):∀b∈sN X.stack,H b=gV:=λb hb=>by
 rcases Kz.mp (I.stkSub b hb)with e|hb
 ·rw[e]; exact I.free
 ·obtain⟨_,o,ho,_⟩:=I.ok.funs.mem hb;exact I.base.free b o ho (I.ok.frf b hb) λz=>I.ok.exfs b z hb
theorem Inv.step {g':KC PY}{t':J3}{d':TN}{ch:JT J4}(I:Inv X pins σ H s)
  (hch:∀b∈ch,(b∈X.ex\/X.s₀.heap.objs.size<=b)/\b≠X.env.locals/\(∀x c,X.env.cells.lookup x=ba c->c≠b)/\∀p∈X.pn++pins,p.1≠b)
  (keep:∀b o,b≠X.env.locals->b∉X.fs->b∉ch->s.heap.get? b=ba o->H b=gV->h'.get? b=ba o)
  (slot:∀b o,b≠X.env.locals->b∈X.fs->b∉ch->s.heap.get? b=ba o->H b=gV->∃sl,h'.get? b=ba { o with slots:=sl }) (free:∀b o,b∉ch->s.heap.get? b=ba o->H b=gV->H' b=gV)
  (there:∀b o,b∉ch->s.heap.get? b=ba o->∃o',h'.get? b=ba o')
  (tups:∀b xs,H b=ba (.tup xs)->H' b=ba (.tup xs)) (frzs:∀b o u,H b=ba (.frz o u)->H' b=ba (.frz o u)) (tbls:∀b ps,H b=ba (.tbl ps)->∃more,H' b=ba (.tbl (ps++more)))
  (ns:∀m,s.heap.Ns X.env.locals m->h'.Ns X.env.locals m) (hok:HOk X.prog X.w H' h') (hg:OU g') :
  Inv X pins σ H' { s with heap:=h',gens:=g',drawn:=d',toks:=t' }:=by
 have neL:∀b o,X.s₀.heap.get? b=ba o->b≠X.env.locals:=λb o e=>Kt (Kx (Kl e) I.ok.above)
 have neC:∀b o,X.s₀.heap.get? b=ba o->b∉X.ex->b∉ch:=λb o e hx hb=>by
  rcases(hch b hb).1 with z|z
  ·exact hx z
  ·exact absurd (Kx (Kl e) z) (LA _)
 have cellK:∀x c,X.env.cells.lookup x=ba c->∀v,s.heap.IsCell c v->h'.IsCell c v:=λx c e v ⟨o,ho,hd⟩=>by
  have nch:c∉ch:=λz=>(hch c z).2.2.1 x c e rfl
  by_cases hc:c∈X.fs
  ·obtain⟨sl,q⟩:=slot c o (I.cne x c e) hc nch ho (I.freeC x c e);exact⟨_,q,hd⟩
  ·exact⟨o,keep c o (I.cne x c e) hc nch ho (I.freeC x c e),hd⟩
 refine⟨I.ok,I.os,hg,⟨λb o e n hb hx=>?_,λb o e n hb hx=>?_,λb o e n hx=>?_,λb o e hx=>?_,λb xs e=>tups b xs (I.base.tups b xs e),λb o xs e=>frzs b o xs (I.base.frzs b o xs e),λb ps e=>?_⟩,?_,λx c e=>?_,?_,λx c e=>?_,λp hp=>?_,hok,I.len⟩
 ·exact keep b o (neL b o e) hb (neC b o e hx) (I.base.keep b o e n hb hx) (I.base.free b o e n hx)
 ·obtain⟨sl,e1⟩:=I.base.slot b o e n hb hx;obtain⟨sl',e2⟩:=slot b _ (neL b o e) hb (neC b o e hx) e1 (I.base.free b o e n hx);exact⟨sl',e2⟩
 ·obtain⟨o',e1⟩:=I.base.there b o e hx;exact free b o' (neC b o e hx) e1 (I.base.free b o e n hx)
 ·obtain⟨o',e1⟩:=I.base.there b o e hx;exact there b o' (neC b o e hx) e1
 ·obtain⟨m1,e1⟩:=I.base.tbls b ps e;obtain⟨m2,e2⟩:=tbls b _ e1;exact⟨m1++m2,by rw[e2,Qt]⟩
 ·obtain⟨m,hn,hl⟩:=I.loc;refine⟨m,ns m hn,λi x v e1 e2 e3=>?_⟩
  obtain⟨u,r,l⟩:=hl i x v e1 e2 e3;refine⟨u,r,?_⟩;rcases l with l|⟨k,c,e,z⟩
  ·exact .inl l
  ·exact .inr ⟨k,c,e,cellK x c e _ z⟩
 ·obtain⟨v,z⟩:=I.cell x c e;exact⟨v,cellK x c e v z⟩
 ·obtain⟨m,⟨o,_,_,ho,_⟩,_⟩:=I.loc;exact free _ o (λz=>(hch _ z).2.1 rfl) ho I.free
 ·obtain⟨v,o,ho,hd⟩:=I.cell x c e;exact free c o (λz=>(hch c z).2.2.1 x c e rfl) ho (I.freeC x c e)
 ·obtain⟨e,n,ne,nf,d⟩:=I.pin p hp;have nch:p.1∉ch:=λz=>(hch p.1 z).2.2.2 p hp rfl
  exact⟨keep p.1 p.2 ne nf nch e n,free p.1 p.2 nch e n,ne,nf,d⟩
theorem Inv.un {t':J3}(I:Inv X pins σ H s)(u:Un X.fs [] H H' s.heap h')(hok:HOk X.prog X.w H' h'):Inv X pins σ H' { s with heap:=h',toks:=t' }:=by
 obtain⟨m,⟨o,es,ep,ho,r⟩,_⟩:=id I.loc;obtain⟨sl,hL⟩:=u.any ho I.free (by simp)
 exact I.step (g':=s.gens) (d':=s.drawn) (ch:=[]) (λ_ z=>nomatch z) (λb o _ hb _ e n=>u.keep b o e n hb (by simp)) (λb o _ hb _ e n=>u.slot b o e n hb (by simp)) (λb o _ e n=>u.free b o e n (by simp)) (λb o _ e=>u.there b o e (by simp)) u.tups u.frzs u.tbls (λm' hm=>by
  obtain⟨o',es',ep',ho',r'⟩:=hm;rw[ho]at ho'; cases ho'
  exact⟨_,es',ep',hL,r'⟩) hok I.bare
theorem Inv.call {g':KC PY}{t':J3}{d':TN}{ch:JT J4}(I:Inv X pins σ H s)(u:Un (sN X.stack) ch H H' s.heap h')(hok:HOk X.prog X.w H' h')(hg:OU g')
  (hch:∀b∈ch,(b∈X.ex\/X.s₀.heap.objs.size<=b)/\b≠X.env.locals/\(∀x c,X.env.cells.lookup x=ba c->c≠b)/\∀p∈X.pn++pins,p.1≠b) :
  Inv X pins σ H' { s with heap:=h',gens:=g',drawn:=d',toks:=t' }:=by
 obtain⟨m,⟨o,es,ep,ho,r⟩,_⟩:=id I.loc;obtain⟨sl,hL⟩:=u.any ho I.free λz=>(hch _ z).2.1 rfl
 exact I.step (ch:=ch) hch (λb o hL hb hc e n=>u.keep b o e n (λz=>(Kz.mp (I.stkSub b z)).elim hL hb) hc) (λb o _ _ hc e n=>u.any e n hc) (λb o hc e n=>u.free b o e n hc) (λb o hc e=>u.there b o e hc) u.tups u.frzs u.tbls (λm' hm=>by
  obtain⟨o',es',ep',ho',r'⟩:=hm;rw[ho]at ho'; cases ho'
  exact⟨_,es',ep',hL,r'⟩) hok hg
theorem Inv.turned {t':J3}{it:J4}(I:Inv X pins σ H s)(k:∀b o,b≠it->s.heap.get? b=ba o->h'.get? b=ba o)(hn:H it=gV)(hL:it≠X.env.locals)
  (h1:it∈X.ex\/X.s₀.heap.objs.size<=it) (h2:∀x c,X.env.cells.lookup x=ba c->c≠it) (h3:∀p∈X.pn++pins,p.1≠it):Inv X pins σ H { s with heap:=h',toks:=t' }:=by
 have nit:∀b u,H b=ba u->b≠it:=λb u e z=>by rw[z,hn]at e; cases e
 refine I.step (g':=s.gens) (d':=s.drawn) (ch:=[it]) (λb hb=>?_) (λb o _ _ hc e _=>k b o (λz=>hc (by simp[z])) e) (λb o _ _ hc e _=>⟨o.slots,k b o (λz=>hc (by simp[z])) e⟩) (λ_ _ _ _ n=>n)
  (λb o hc e=>⟨o,k b o (λz=>hc (by simp[z])) e⟩) (λ_ _ e=>e) (λ_ _ _ e=>e) (λb ps e=>⟨#[],by rw[e]; simp⟩) (λm hm=>?_) (λb u e=>?_) I.bare
 ·have e:b=it:=by simpa using hb
  subst e;exact⟨h1,hL,h2,h3⟩
 ·obtain⟨o,es,ep,ho,r⟩:=hm;exact⟨o,es,ep,k _ o (Ne.symm hL) ho,r⟩
 ·refine(I.hok b u e).stay (λc v hc q=>k c v ?_ q) (λ_ q=>q) λ_ _ q=>q
  rcases hc with z|z
  ·rw[z]; exact nit b u e
  ·exact nit c _ z
theorem Inv.tok (I:Inv X pins σ H s)(t:J3):Inv X pins σ H { s with toks:=t }:=I.un (h':=s.heap) (t':=t) Un.refl I.hok
theorem Inv.kept {t':J3}(I:Inv X pins σ H s)(k:∀b u,s.heap.get? b=ba u->h'.get? b=ba u):Inv X pins σ H { s with heap:=h',toks:=t' }:=I.un (Un.kept k) (I.hok.kept k)
theorem Inv.laid {a:J4}{o:HO}{t':J3}(I:Inv X pins σ H s)(k:∀b u,s.heap.get? b=ba u->h'.get? b=ba u)(hp:s.heap.objs.size<=a)(new:ObjOk X.prog X.w (bZ H a o) h' a o) :
  Inv X pins σ (bZ H a o) { s with heap:=h',toks:=t' }:=I.un (Un.laid k hp (I.hok.fresh hp)) (I.hok.laid k hp new)
theorem Inv.write {x e:J4}{o:HO}{t':J3}(I:Inv X pins σ H s)(mu:FP (H x))(he:e=x\/H e=ba (.own x))(k:∀b u,b≠e->s.heap.get? b=ba u->h'.get? b=ba u)(heo:∃u,h'.get? e=ba u)
  (new:ObjOk X.prog X.w (bZ H x o) h' x o):Inv X pins σ (bZ H x o) { s with heap:=h',toks:=t' }:=I.un (Un.write mu he k heo) (I.hok.write mu he k heo new)
theorem Inv.pins_of {pins':JT (J4×LJ)}(I:Inv X pins σ H s)(h:∀p∈pins',s.heap.get? p.1=ba p.2/\H p.1=gV/\p.1≠X.env.locals/\p.1∉X.fs/\∀v,p.2.data≠.cell v):Inv X pins' σ H s:=
 ⟨I.ok,I.os,I.bare,I.base,I.loc,I.cell,I.free,I.freeC,λp hp=>(K2.mp hp).elim (λz=>I.pin p (LK _ z)) (h p),I.hok,I.len⟩
theorem qJ {N:JT Kn}(hN:N.Nodup){i j:J3}{x:Kn}(a:N[i]?=ba x)(b:N[j]?=ba x):i=j:=by
 obtain⟨h1,e1⟩:=J9.mp a;obtain⟨h2,e2⟩:=J9.mp b;exact(MZ hN).mp (e1.trans e2.symm)
theorem vQ {M:TQ}{A:KP}{E:JW->JY->Prop}{i:J3}{x:Kn}{v:V}{u:JW}{Q:Unit->JY->Prop}(I:Inv X pins σ H s)(hN:X.N.Nodup)(hi:X.N[i]?=ba x)(hx:AS X.env.scope x)(r:RelV v u)
  (h:∀s',Inv X pins (σ.set i (ba v)) H s'->(∃a,L9 a s.heap s'.heap/\(a=X.env.locals\/X.env.cells.lookup x=ba a))->Q () s') (hf:X.fn x=true\/X.env.scope.names.lookup x=ba .local):wpAny M A (storeName X.env x u) Q E s:=by
 obtain⟨m,hn,hl⟩:=id I.loc;have hcls:(X.env.scope.kind==.class||(X.env.scope.kind==.module&&X.env.locals != X.env.globals))=false:=by rw[I.ok.kind]; rfl
 have hiσ:i < σ.length:=by rw[I.len]; exact(J9.mp hi).1
 have cne:=I.cne;have tracked:∀ {a:J4} {h':K6},(∃o,s.heap.get? a=ba o/\H a=gV)->L9 a s.heap h'->HOk X.prog X.w H h':=λ{a h'} ha hs b ob e=>by
  obtain⟨_,_,hfree⟩:=ha;refine(I.hok b ob e).stay (λc w' hc q=>(hs.2 c ?_).trans q) (λ_ q=>q) λ_ _ q=>q
  rintro rfl;rcases hc with rfl|hc
  ·rw[hfree]at e; cases e
  ·rw[hfree]at hc; cases hc
 rcases hx with hk|hk
 ·refine wpAny_storeName_local hk hn (λh' hn' hs=>?_) hcls
  obtain⟨oL,_,_,hoL,_⟩:=id hn;refine h _ ⟨I.ok,I.os,I.bare,⟨λb o e n hb hx=>?_,λb o e n hb hx=>?_,I.base.free,λb o e hx=>?_,I.base.tups,I.base.frzs,I.base.tbls⟩,⟨_,hn',λj y v' e1 e2 e3=>?_⟩,λy c e=>?_,I.free,I.freeC,λp hp=>?_,tracked ⟨oL,hoL,I.free⟩ hs,by simpa using I.len⟩ ⟨_,hs,.inl rfl⟩
  ·exact(hs.2 b (Kt (Kx (Kl e) I.ok.above))).trans (I.base.keep b o e n hb hx)
  ·obtain⟨sl,e1⟩:=I.base.slot b o e n hb hx;exact⟨sl,(hs.2 b (Kt (Kx (Kl e) I.ok.above))).trans e1⟩
  ·obtain⟨o',e1⟩:=I.base.there b o e hx;exact⟨o',(hs.2 b (Kt (Kx (Kl e) I.ok.above))).trans e1⟩
  ·by_cases hj:j=i
   ·subst hj;rw[hi]at e1; cases e1
    rw[Pk hiσ]at e2;cases e2;exact⟨u,r,.inl ⟨hk,by simp⟩⟩
   ·rw[PZ (Ne.symm hj)]at e2;obtain⟨u',r',q⟩:=hl j y v' e1 e2 e3;refine⟨u',r',?_⟩;rcases q with⟨k,e⟩|⟨k,c,e,z⟩
    ·refine .inl ⟨k,?_⟩;have:y≠x:=λe=>hj (qJ hN e1 (e ▸ hi))
     simp[this,e]
    ·exact .inr ⟨k,c,e,z.sameBut hs (cne y c e)⟩
  ·obtain⟨w',z⟩:=I.cell y c e;exact⟨w',z.sameBut hs (cne y c e)⟩
  ·obtain⟨e,n,ne,nf,d⟩:=I.pin p hp;exact⟨(hs.2 p.1 ne).trans e,n,ne,nf,d⟩
 ·have hfn:X.fn x=true:=by
   rcases hf with z|z
   ·exact z
   ·rw[z]at hk; cases hk
  obtain⟨c,hc⟩:=I.ok.has x (.inl hk);obtain⟨w',z⟩:=I.cell x c hc;refine wpAny_storeName_cell I.ok.kind hk hc z (λh' hc' hs=>?_)
  obtain⟨oc,hoc,hocd⟩:=id z;refine h { s with heap:=h' } ⟨I.ok,I.os,I.bare,⟨λb o e n hb hx=>?_,λb o e n hb hx=>?_,I.base.free,λb o e hx=>?_,I.base.tups,I.base.frzs,I.base.tbls⟩,⟨m,hn.sameBut hs (Ne.symm (cne x c hc)),λj y v' e1 e2 e3=>?_⟩,λy c' e=>?_,I.free,I.freeC,λp hp=>?_,tracked ⟨oc,hoc,I.freeC x c hc⟩ hs,by simpa using I.len⟩ ⟨c,hs,.inr hc⟩
  ·exact(hs.2 b (Kt (Kx (Kl e) (I.ok.cab x c hfn hc)))).trans (I.base.keep b o e n hb hx)
  ·obtain⟨sl,e1⟩:=I.base.slot b o e n hb hx;exact⟨sl,(hs.2 b (Kt (Kx (Kl e) (I.ok.cab x c hfn hc)))).trans e1⟩
  ·obtain⟨o',e1⟩:=I.base.there b o e hx;exact⟨o',(hs.2 b (Kt (Kx (Kl e) (I.ok.cab x c hfn hc)))).trans e1⟩
  ·by_cases hj:j=i
   ·subst hj;rw[hi]at e1; cases e1
    rw[Pk hiσ]at e2;cases e2;exact⟨u,r,.inr ⟨.inl hk,c,hc,hc'⟩⟩
   ·rw[PZ (Ne.symm hj)]at e2;obtain⟨u',r',q⟩:=hl j y v' e1 e2 e3;refine⟨u',r',?_⟩;rcases q with q|⟨k,c',e,z'⟩
    ·exact .inl q
    ·refine .inr ⟨k,c',e,z'.sameBut hs ?_⟩;rintro rfl;exact hj (qJ hN e1 (I.ok.inj _ _ _ e hc ▸ hi))
  ·by_cases hcc:c'=c
   ·subst hcc; exact⟨_,hc'⟩
   ·obtain⟨w2,z2⟩:=I.cell y c' e;exact⟨w2,z2.sameBut hs hcc⟩
  ·obtain⟨e,n,ne,nf,d⟩:=I.pin p hp;refine⟨(hs.2 p.1 ?_).trans e,n,ne,nf,d⟩;intro q;rw[q,hoc]at e;have q':oc=p.2:=Lh e;exact d w' (by rw[<- q']; exact hocd)
theorem iT {M:TQ}{A:KP}{E:JW->JY->Prop}{i:J3}{x:Kn}{v:V}{u:JW}{Q:Unit->JY->Prop}(I:Inv X pins σ H s)(hN:X.N.Nodup)(hi:X.N[i]?=ba x)(hx:AS X.env.scope x)(r:RelV v u)
  (h:∀s',Inv X pins (σ.set i (ba v)) H s'->Q () s') (hf:X.fn x=true\/X.env.scope.names.lookup x=ba .local):wpAny M A (storeName X.env x u) Q E s:=
 vQ I hN hi hx r (λs' I' _=>h s' I') hf
theorem Inv.call' {s':JY}{ch:JT J4}(I:Inv X pins σ H s)(ho:s'.os=s.os)(u:Un (sN X.stack) ch H H' s.heap s'.heap)(hok:HOk X.prog X.w H' s'.heap)(hg:OU s'.gens)
  (hch:∀b∈ch,(b∈X.ex\/X.s₀.heap.objs.size<=b)/\b≠X.env.locals/\(∀x c,X.env.cells.lookup x=ba c->c≠b)/\∀p∈X.pn++pins,p.1≠b):Inv X pins σ H' s':=by
 obtain⟨h',g',d',t',o'⟩:=s';have e:o'=s.os:=ho;subst e;exact I.call (g':=g') (t':=t') (d':=d') u hok hg hch
end
noncomputable abbrev XK:=JW->J1 J4->Hp->Prop
noncomputable abbrev St:=JT (J1 V)
noncomputable abbrev VK:=V->Hp->Prop
noncomputable abbrev TE:=St->Hp->VK->Prop
noncomputable abbrev TT:=St->Hp->(KD->Hp->Prop)->Prop
noncomputable abbrev TA:=St->Hp->(JT V->Hp->Prop)->Prop
set_option genInjectivity false in
structure Ends where
 nx:St->Hp->Prop
 rt:VK
 bk:St->Hp->Prop:=λ_ _=>Lw
 ct:St->Hp->Prop:=λ_ _=>Lw
noncomputable abbrev TS:=Ends->St->Hp->Prop
noncomputable def EP (X:Cx)(pins:JT (J4×LJ))(σ:St)(Q:VK)(u:JW)(s':JY):Prop:=∃v H',Inv X pins σ H' s'/\RelV v u/\Q v H'
noncomputable def TP (X:Cx)(pins:JT (J4×LJ))(σ:St)(Q:KD->Hp->Prop)(b:KD)(s':JY):Prop:=∃H',Inv X pins σ H' s'/\Q b H'
noncomputable def AP (X:Cx)(pins:JT (J4×LJ))(σ:St)(Q:JT V->Hp->Prop)(us:JT JW)(s':JY):Prop:=∃vs H',Inv X pins σ H' s'/\Vals vs us/\Q vs H'
noncomputable def SP (X:Cx)(pins:JT (J4×LJ))(D:Ends)(f:Flow)(s':JY):Prop:=
 match f with
 | .next=>∃σ' H',Inv X pins σ' H' s'/\D.nx σ' H'
 | .brk=>∃σ' H',Inv X pins σ' H' s'/\D.bk σ' H'
 | .cont=>∃σ' H',Inv X pins σ' H' s'/\D.ct σ' H'
 | .ret u=>∃v σ' H',Inv X pins σ' H' s'/\RelV v u/\D.rt v H'
noncomputable def PE (X:Cx)(e:Kw)(t:TE):Prop:=
 ∀(pins:JT (J4×LJ)) (s:JY) (σ:St) (H:Hp) (Q:VK),Inv X pins σ H s->t σ H Q->wpAny (model X.prog X.w) X.A (eval e X.env) (EP X pins σ Q) X.xe s
noncomputable def PT (X:Cx)(e:Kw)(t:TT):Prop:=
 ∀(pins:JT (J4×LJ)) (s:JY) (σ:St) (H:Hp) (Q:KD->Hp->Prop),Inv X pins σ H s->t σ H Q->wpAny (model X.prog X.w) X.A (isTrue e X.env (eval e X.env)) (TP X pins σ Q) X.xe s
noncomputable def PW (X:Cx)(e:Kw)(t:TT):Prop:=
 ∀(whole:SQ JW) (pins:JT (J4×LJ)) (s:JY) (σ:St) (H:Hp) (Q:KD->Hp->Prop),Inv X pins σ H s->t σ H Q->wpAny (model X.prog X.w) X.A (isTrue e X.env whole) (TP X pins σ Q) X.xe s
theorem PW.pt {X:Cx}{e:Kw}{t:TT}(h:PW X e t):PT X e t:=h _
noncomputable def PA (X:Cx)(es:JT Kw)(t:TA):Prop:=
 ∀(pos:MB) (pins:JT (J4×LJ)) (s:JY) (σ:St) (H:Hp) (Q:JT V->Hp->Prop),Inv X pins σ H s->t σ H Q->wpAny (model X.prog X.w) X.A (spliced (backTo pos (starEach es X.env))) (AP X pins σ Q) X.xe s
noncomputable def PS (X:Cx)(st:MT)(t:TS):Prop:=
 ∀(pins:JT (J4×LJ)) (s:JY) (σ:St) (H:Hp) (D:Ends),Inv X pins σ H s->t D σ H->wpAny (model X.prog X.w) X.A (exec st X.env) (SP X pins D) X.xe s
noncomputable def PSs (X:Cx)(st:JT MT)(t:TS):Prop:=
 ∀(pins:JT (J4×LJ)) (s:JY) (σ:St) (H:Hp) (D:Ends),Inv X pins σ H s->t D σ H->wpAny (model X.prog X.w) X.A (execs st X.env) (SP X pins D) X.xe s
theorem bS {α:Type}{t:SQ α}{Q Q':α->JY->Prop}{M:TQ}{A:KP}{E:JW->JY->Prop}{s:JY}(h:wpAny M A t Q E s)(hQ:∀a s,Q a s->Q' a s):wpAny M A t Q' E s:=L0 h hQ λ_ _ x=>x
section
variable{X:Cx}
noncomputable def DB (i:J3):TE:=λσ H Q=>∃v,σ[i]?=ba (ba v)/\Q v H
noncomputable def tC (v:V):TE:=λ_ H Q=>Q v H
theorem xx {i:J3}{x:Kn}{pos:MB}(hN:X.N[i]?=ba x)(hv:HG X.env.scope x)(hd:(x==("__debug__" : Kn))=false:=by decide)(hcd:(x==("__classdict__" : Kn))=false:=by decide):PE X (.Name x pos) (DB i):=by
 intro pins s σ H Q I h;obtain⟨v,e,h⟩:=h;obtain⟨m,hn,hl⟩:=I.loc;obtain⟨u,r,l⟩:=hl i x v hN e hv;have fin:EP X pins σ Q u s:=⟨v,H,I,r,h⟩;rcases l with⟨hk,hm⟩|⟨hk,c,hc,hcell⟩
 ·exact RN (wpAny_loadName_local I.ok.kind hk hn hm fin) hd
 ·rcases hk with hk|hk
  ·exact RN (wpAny_loadName_cell I.ok.kind hk hc hcell fin) hd
  ·exact RN (wpAny_loadName_free I.ok.kind hk hc hcell fin hcd) hd
theorem xy {i j pos}:PE X (.Constant (.int i) j pos) (tC (.int i)):=λ_ _ _ H _ I h=>wpAny_Constant_int ⟨.int i,H,I.tok _,⟨_,rfl⟩,h⟩
theorem C3 {b j pos}:PE X (.Constant (.bool b) j pos) (tC (.bl b)):=λ_ _ _ H _ I h=>Constant_bool ⟨.bl b,H,I,rfl,h⟩
theorem xz {j pos}:PE X (.Constant .none j pos) (tC .non):=λ_ _ _ H _ I h=>Constant_none ⟨.non,H,I,rfl,h⟩
theorem xA {x j pos}:PE X (.Constant (.str x) j pos) (tC (.str x)):=λ_ _ _ H _ I h=>Qu ⟨.str x,H,I.tok _,⟨_,rfl⟩,h⟩
noncomputable def Gl (X:Cx)(x:Kn):Prop:=X.env.kindOf x=ba .globalImplicit
theorem uq {E:JW->JY->Prop}{pins:JT (J4×LJ)}{s:JY}{σ:St}{H:Hp}{x:Kn}{u:JW}{pos:MB}{Q:JW->JY->Prop}(I:Inv X pins σ H s)(hg:Gl X x)(hm:X.mg x=ba u)(h:Q u s)
  (hd:(x==("__debug__" : Kn))=false:=by decide):wpAny (model X.prog X.w) X.A (eval (.Name x pos) X.env) Q E s:=
 Ox I.ok.kind hg (Calls.loadGlobal_global (by rw[I.ok.glob]; exact I.mod.glob.keeps I.bk) hm h) hd
theorem jC {E:JW->JY->Prop}{pins:JT (J4×LJ)}{s:JY}{σ:St}{H:Hp}{x:Kn}{u:JW}{pos:MB}{Q:JW->JY->Prop}(I:Inv X pins σ H s)(hg:Gl X x)(hm:X.mg x=gV)(hv:bootBuiltins x=ba u)(h:Q u s)
  (hn:x≠"__name__":=by decide) (hd:(x==("__debug__" : Kn))=false:=by decide):wpAny (model X.prog X.w) X.A (eval (.Name x pos) X.env) Q E s:=by
 obtain⟨mb,h1,h2⟩:=I.mod.blt;exact Ox I.ok.kind hg (Calls.loadGlobal_builtin (by rw[I.ok.glob]; exact I.mod.glob.keeps I.bk) hm (by rw[I.ok.blt]; exact h1.keeps I.bk) ((h2 x hn).trans hv) h) hd
theorem AT {x:Kn}{v:V}{u:JW}{pos:MB}(hg:Gl X x)(hm:X.mg x=gV)(hv:bootBuiltins x=ba u)(r:RelV v u)(hn:x≠"__name__":=by decide)(hd:(x==("__debug__" : Kn))=false:=by decide):PE X (.Name x pos) (tC v):=
 λ_ _ _ H _ I h=>jC I hg hm hv ⟨v,H,I,r,h⟩ hn hd
variable{a b:Kw}{ta tb:TE}{pos:MB}
variable{tA tB':TT}{bT:JT Kw}
noncomputable def FQ (t u:TT):TT:=λσ H Q=>t σ H λc H1=>if c=true then u σ H1 Q else Q false H1
noncomputable def Jz (t u:TT):TT:=λσ H Q=>t σ H λc H1=>if c=true then Q true H1 else u σ H1 Q
noncomputable def HX (t:TT):TT:=λσ H Q=>t σ H λc H1=>Q (!c) H1
theorem AU (ha:PT X a tA):PW X (.BoolOp .And [a] pos) tA:=by
 intro wh pins s σ H Q I h;refine isTrue_and (bS (ha pins s σ H Q I h) λc s1 e=>?_)
 cases c with
 | true=>exact isTrue_and_nil e
 | false=>exact e
theorem DC (ha:PT X a tA):PW X (.BoolOp .Or [a] pos) tA:=by
 intro wh pins s σ H Q I h;refine isTrue_or (bS (ha pins s σ H Q I h) λc s1 e=>?_)
 cases c with
 | false=>exact isTrue_or_nil e
 | true=>exact e
theorem DD (ha:PT X a tA)(hb:PW X (.BoolOp .And (b::bT) pos) tB'):PW X (.BoolOp .And (a::b::bT) pos) (FQ tA tB'):=by
 intro wh pins s σ H Q I h;refine isTrue_and (bS (ha pins s σ H _ I h) λc s1 ⟨H1,I1,q1⟩=>?_)
 cases c with
 | true=>exact hb wh pins s1 σ H1 Q I1 q1
 | false=>exact⟨H1,I1,q1⟩
theorem FR (ha:PT X a tA)(hb:PW X (.BoolOp .Or (b::bT) pos) tB'):PW X (.BoolOp .Or (a::b::bT) pos) (Jz tA tB'):=by
 intro wh pins s σ H Q I h;refine isTrue_or (bS (ha pins s σ H _ I h) λc s1 ⟨H1,I1,q1⟩=>?_)
 cases c with
 | true=>exact⟨H1,I1,q1⟩
 | false=>exact hb wh pins s1 σ H1 Q I1 q1
theorem DE (ha:PT X a tA):PT X (.UnaryOp .Not a pos) (HX tA):=by
 intro pins s σ H Q I h;exact isTrue_not (ha pins s σ H (λc H1=>Q (!c) H1) I h)
noncomputable def FU (ta tb:TE):TE:=λσ H Q=>ta σ H λx H1=>∃c,x=.bl c/\if c=true then tb σ H1 Q else Q (.bl false) H1
noncomputable def HY (ta tb:TE):TE:=λσ H Q=>ta σ H λx H1=>∃c,x=.bl c/\if c=true then Q (.bl true) H1 else tb σ H1 Q
noncomputable def FV (ta:TE):TE:=λσ H Q=>ta σ H λx H1=>∃c,x=.bl c/\Q (.bl (!c)) H1
theorem DF {op}{t:TE}(h:PE X a t):PE X (.BoolOp op [a] pos) t:=λpins s σ H Q I hw=>BoolOp_one (h pins s σ H Q I hw)
theorem DG (ha:PE X a ta)(hb:PE X (.BoolOp .And (b::bT) pos) tb):PE X (.BoolOp .And (a::b::bT) pos) (FU ta tb):=by
 intro pins s σ H Q I h;refine BoolOp_and (bS (ha pins s σ H _ I h) λv s1 ⟨x,H1,I1,r1,q1⟩=>?_)
 obtain⟨c,rfl,q1⟩:=q1;cases r1;refine Mp ?_;cases c with
 | true=>exact hb pins s1 σ H1 Q I1 q1
 | false=>exact⟨.bl false,H1,I1,rfl,q1⟩
theorem FW (ha:PE X a ta)(hb:PE X (.BoolOp .Or (b::bT) pos) tb):PE X (.BoolOp .Or (a::b::bT) pos) (HY ta tb):=by
 intro pins s σ H Q I h;refine BoolOp_or (bS (ha pins s σ H _ I h) λv s1 ⟨x,H1,I1,r1,q1⟩=>?_)
 obtain⟨c,rfl,q1⟩:=q1;cases r1;refine Mp ?_;cases c with
 | false=>exact hb pins s1 σ H1 Q I1 q1
 | true=>exact⟨.bl true,H1,I1,rfl,q1⟩
theorem DH (ha:PE X a ta):PE X (.UnaryOp .Not a pos) (FV ta):=by
 intro pins s σ H Q I h;refine UnaryOp_ (bS (ha pins s σ H _ I h) λv s1 ⟨x,H1,I1,r1,q1⟩=>?_)
 obtain⟨c,rfl,q1⟩:=q1;cases r1;exact not_of (Mp ⟨.bl (!c),H1,I1,rfl,q1⟩)
noncomputable def JH (t:TT)(ta tb:TE):TE:=λσ H Q=>t σ H λc H1=>if c=true then ta σ H1 Q else tb σ H1 Q
theorem xB {c:Kw}(hc:PT X c tA)(ha:PE X a ta)(hb:PE X b tb):PE X (.IfExp c a b pos) (JH tA ta tb):=by
 intro pins s σ H Q I h;refine wpAny_IfExp (bS (hc pins s σ H _ I h) λd s1 ⟨H1,I1,q1⟩=>?_)
 cases d with
 | true=>exact ha pins s1 σ H1 Q I1 q1
 | false=>exact hb pins s1 σ H1 Q I1 q1
end
noncomputable def SqL (K:Kb)(H:Hp)(a:J4)(xs:JT V):Prop:=
 Rd H a (.lst xs)\/
  ∃(o:LJ) (its:KC JW) (n:J3),K.lookup a=ba o/\o.cls=.type "list"/\o.dict=gV/\o.data=.seq its n/\its.size<=sizeLine/\Vals xs its.toList
noncomputable def SqT (K:Kb)(H:Hp)(a:J4)(xs:JT V):Prop:=
 Rd H a (.tup xs)\/
  ∃(o:LJ) (its:KC JW) (n:J3),K.lookup a=ba o/\o.cls=.type "tuple"/\o.data=.seq its n/\its.size<=sizeLine/\Vals xs its.toList
noncomputable def HZ:JW->J1 V
 | .none=>ba .non
 | .bool b=>ba (.bl b)
 | .int i _=>ba (.int i)
 | .str x _=>ba (.str x)
 | .bytes b _=>ba (.byt b)
 | .float b _=>ba (.flt b)
 | .ref a=>ba (.ref a)
 | .type n=>ba (.ty n)
 | _=>gV
theorem RelV.abs {x:V}{u:JW}(r:RelV x u):HZ u=ba x:=by
 cases x with
 | non=>cases r; rfl
 | bl _=>cases r; rfl
 | int _=>obtain⟨t,rfl⟩:=r; rfl
 | str _=>obtain⟨t,rfl⟩:=r; rfl
 | byt _=>obtain⟨t,rfl⟩:=r; rfl
 | flt _=>obtain⟨t,rfl⟩:=r; rfl
 | ref _=>cases r; rfl
 | ty _=>cases r; rfl
theorem RelV.inj {x y:V}{u:JW}(r:RelV x u)(q:RelV y u):x=y:=Lh (r.abs.symm.trans q.abs)
theorem Vals.inj:∀ {xs ys:JT V} {us:JT JW},Vals xs us->Vals ys us->xs=ys
 | _,_,_,.nil,.nil=>rfl
 | _,_,_,.cons r t,.cons r' t'=>by rw[r.inj r',Vals.inj t t']
section
variable{X:Cx}{pins:JT (J4×LJ)}{σ:St}{H:Hp}{s:JY}{a:J4}{xs ys:JT V}
theorem SqL.of {K:Kb}(h:H a=ba (.lst xs)):SqL K H a xs:=.inl (.inl h)
theorem SqT.of {K:Kb}(h:H a=ba (.tup xs)):SqT K H a xs:=.inl (.inl h)
theorem Inv.list (I:Inv X pins σ H s)(h:SqL X.K H a xs):∃its:JT JW,Vals xs its/\PlainL s.heap a its.toArray/\xs.length<=sizeLine:=by
 rcases h with h|⟨o,its,n,hk,hc,hd,hs,hz,r⟩
 ·obtain⟨z,its,n,r,e⟩:=h.ok I.hok;exact⟨its,r,⟨_,n,e,rfl,rfl,rfl⟩,z⟩
 ·refine⟨its.toList,r,⟨o,n,I.kIn a o hk,hc,hd,by simpa using hs⟩,?_⟩
  have e:=r.length;simp only[Ki]at e;omega
theorem Inv.tuple (I:Inv X pins σ H s)(h:SqT X.K H a xs):∃its:JT JW,Vals xs its/\QJ s.heap a its.toArray/\xs.length<=sizeLine:=by
 rcases h with h|⟨o,its,n,hk,hc,hs,hz,r⟩
 ·obtain⟨z,its,r,p⟩:=h.ok I.hok;exact⟨its,r,p,z⟩
 ·refine⟨its.toList,r,⟨o,I.kIn a o hk,hc,n,by simpa using hs⟩,?_⟩
  have e:=r.length;simp only[Ki]at e;omega
theorem Inv.list_inj (I:Inv X pins σ H s)(h:SqL X.K H a xs)(h':SqL X.K H a ys):xs=ys:=by
 obtain⟨its,r,⟨o,n,e,_,_,d⟩,_⟩:=I.list h;obtain⟨its',r',⟨o',n',e',_,_,d'⟩,_⟩:=I.list h';rw[e]at e'; cases e'
 rw[d]at d';injection d' with d1 _
 have:its=its':=by simpa using congrArg SA d1
 subst this;exact r.inj r'
theorem Inv.tuple_inj (I:Inv X pins σ H s)(h:SqT X.K H a xs)(h':SqT X.K H a ys):xs=ys:=by
 obtain⟨its,r,⟨o,e,_,n,d⟩,_⟩:=I.tuple h;obtain⟨its',r',⟨o',e',_,n',d'⟩,_⟩:=I.tuple h';rw[e]at e'; cases e'
 rw[d]at d';injection d' with d1 _
 have:its=its':=by simpa using congrArg SA d1
 subst this;exact r.inj r'
end
noncomputable abbrev Cx.wish (X:Cx)(E:JW->JY->Prop):Cx:={ X with xe:=E }
noncomputable abbrev Cx.nox (X:Cx):Cx:=X.wish λ_ _=>Lw
theorem Cx.Ok.wish {X:Cx}(ok:X.Ok)(E:JW->JY->Prop):(X.wish E).Ok:=
 ⟨ok.mod,ok.kind,ok.glob,ok.blt,ok.above,ok.inj,ok.has,ok.cab,ok.hd,ok.frames,ok.stk,ok.exf,ok.bs,ok.bsz,ok.noex,ok.exfs,ok.funs,ok.frf⟩
theorem Cx.Ok.unwish {X:Cx}{E:JW->JY->Prop}(ok:(X.wish E).Ok):X.Ok:=
 ⟨ok.mod,ok.kind,ok.glob,ok.blt,ok.above,ok.inj,ok.has,ok.cab,ok.hd,ok.frames,ok.stk,ok.exf,ok.bs,ok.bsz,ok.noex,ok.exfs,ok.funs,ok.frf⟩
section
variable{X:Cx}{pins:JT (J4×LJ)}{σ:St}{H:Hp}{s:JY}{E:JW->JY->Prop}
theorem Inv.wish (I:Inv X pins σ H s)(E:JW->JY->Prop):Inv (X.wish E) pins σ H s:=⟨I.ok.wish E,I.os,I.bare,I.base,I.loc,I.cell,I.free,I.freeC,I.pin,I.hok,I.len⟩
theorem Inv.unwish (I:Inv (X.wish E) pins σ H s):Inv X pins σ H s:=⟨I.ok.unwish,I.os,I.bare,I.base,I.loc,I.cell,I.free,I.freeC,I.pin,I.hok,I.len⟩
theorem SP.unwish {D:Ends}{f:Flow}{s':JY}(h:SP (X.wish E) pins D f s'):SP X pins D f s':=by
 cases f with
 | next=>obtain⟨σ',H',I,q⟩:=h; exact⟨σ',H',I.unwish,q⟩
 | brk=>obtain⟨σ',H',I,q⟩:=h; exact⟨σ',H',I.unwish,q⟩
 | cont=>obtain⟨σ',H',I,q⟩:=h; exact⟨σ',H',I.unwish,q⟩
 | ret u=>obtain⟨v,σ',H',I,r,q⟩:=h; exact⟨v,σ',H',I.unwish,r,q⟩
theorem PSs.nox {st:JT MT}{t:TS}(h:PSs X.nox st t):PSs X st t:=λpins s σ H D I hw=>
 L0 (h pins s σ H D (I.wish _) hw) (λ_ _ q=>q.unwish) λ_ _ z=>Lw.elim z
end
section
variable{X:Cx}{st:MT}{bT:JT MT}{t u:TS}{e:Kw}{te:TE}{pos:MB}
noncomputable def xC:TS:=λD σ H=>D.nx σ H
noncomputable def Ic (t u:TS):TS:=λD σ H=>t { D with nx:=u D } σ H
theorem AV:PSs X [] xC:=λ_ _ σ H _ I h=>Px ⟨σ,H,I,h⟩
theorem xD (h1:PS X st t)(h2:PSs X bT u):PSs X (st::bT) (Ic t u):=by
 intro pins s σ H D I h;refine wpAny_execs_cons (bS (h1 pins s σ H { D with nx:=u D } I h) λf s1 q=>?_)
 cases f with
 | next=>
  obtain⟨σ',H',I',q⟩:=q;exact h2 pins s1 σ' H' D I' q
 | ret v=>exact q
 | brk=>exact q
 | cont=>exact q
noncomputable def DI:TS:=λD σ H=>D.bk σ H
noncomputable def FX:TS:=λD σ H=>D.ct σ H
theorem AW:PS X (.Pass pos) xC:=λ_ _ σ H _ I h=>wpAny_Pass ⟨σ,H,I,h⟩
theorem xE:PS X (.Break pos) DI:=λ_ _ σ H _ I h=>wpAny_Break ⟨σ,H,I,h⟩
theorem qK:PS X (.Continue pos) FX:=λ_ _ σ H _ I h=>wpAny_Continue ⟨σ,H,I,h⟩
theorem Inv.quiet {pins:JT (J4×LJ)}{σ:St}{H:Hp}{s:JY}(I:Inv X pins σ H s):interactive X.env=false:=by simp[interactive,I.ok.kind]
theorem DJ {x j pos pos'}:PS X (.Expr (.Constant (.str x) j pos) pos') xC:=λ_ s σ H _ I h=>wpAny_Expr (Qu (show SP X _ _ .next { s with toks:=s.toks+1 } from⟨σ,H,I.tok _,h⟩)) I.quiet
noncomputable def FY (te:TE):TS:=λD σ H=>te σ H λ_ H1=>D.nx σ H1
theorem AX (he:PE X e te)(hs:swapsWith e gV pos.line X.env=pure false:=by rfl):PS X (.Expr e pos) (FY te):=by
 intro pins s σ H D I h;exact wpAny_Expr_any (bS (he pins s σ H _ I h) λv s1 ⟨x,H1,I1,r1,q1⟩=>⟨σ,H1,I1,q1⟩) I.quiet hs
noncomputable def Ig (te:TE):TS:=λD σ H=>te σ H D.rt
theorem DK (he:PE X e te):PS X (.Return (ba e) pos) (Ig te):=by
 intro pins s σ H D I h;exact wpAny_Return_some (bS (he pins s σ H _ I h) λv s1 ⟨x,H1,I1,r1,q1⟩=>⟨x,σ,H1,I1,r1,q1⟩)
noncomputable def FZ:TS:=λD _ H=>D.rt .non H
theorem AY:PS X (.Return gV pos) FZ:=λ_ _ σ H _ I h=>wpAny_Return_none ⟨.non,σ,H,I,rfl,h⟩
noncomputable def Ih (c:TT)(t u:TS):TS:=λD σ H=>c σ H λb H1=>if b=true then t D σ H1 else u D σ H1
theorem F0 {c:Kw}{a b:JT MT}{tc:TT}(hc:PT X c tc)(ha:PSs X a t)(hb:PSs X b u):PS X (.If c a b pos) (Ih tc t u):=by
 intro pins s σ H D I h;refine wpAny_If (bS (hc pins s σ H _ I h) λd s1 ⟨H1,I1,q1⟩=>?_)
 cases d with
 | true=>exact ha pins s1 σ H1 D I1 q1
 | false=>exact hb pins s1 σ H1 D I1 q1
end
noncomputable abbrev TG:=V->St->Hp->(St->Hp->Prop)->Prop
noncomputable abbrev DL:=JT V->St->Hp->(St->Hp->Prop)->Prop
noncomputable def PG (X:Cx)(target:Kw)(t:TG):Prop:=
 ∀(pins:JT (J4×LJ)) (s:JY) (σ:St) (H:Hp) (v:V) (u:JW) (Q:St->Hp->Prop),Inv X pins σ H s->RelV v u->t v σ H Q->
  wpAny (model X.prog X.w) X.A (assign target X.env u) (λ_ s'=>∃σ' H',Inv X pins σ' H' s'/\Q σ' H') X.xe s
noncomputable def F1 (X:Cx)(ts:JT Kw)(t:DL):Prop:=
 ∀(pins:JT (J4×LJ)) (s:JY) (σ:St) (H:Hp) (vs:JT V) (us:JT JW) (Q:St->Hp->Prop),Inv X pins σ H s->Vals vs us->t vs σ H Q->
  wpAny (model X.prog X.w) X.A (assignInOrder ((assignEach ts X.env).map (·.2)) us) (λ_ s'=>∃σ' H',Inv X pins σ' H' s'/\Q σ' H') X.xe s
noncomputable abbrev DM:=V->V->V->Hp->(Hp->Prop)->Prop
noncomputable def DN (X:Cx)(t:DM):Prop:=
 ∀(pins:JT (J4×LJ)) (s:JY) (σ:St) (H:Hp) (o i v:V) (ov iv u:JW) (Q:Hp->Prop),Inv X pins σ H s->RelV o ov->RelV i iv->RelV v u->t o i v H Q->
  wpAny (model X.prog X.w) X.A (setItem ov iv u) (λ_ s'=>∃H',Inv X pins σ H' s'/\Q H') X.xe s
section
variable{X:Cx}{pos:MB}
noncomputable def F2 (i:J3):TG:=λv σ H Q=>Q (σ.set i (ba v)) H
theorem ur {i:J3}{x:Kn}(hN:X.N.Nodup)(hi:X.N[i]?=ba x)(hx:AS X.env.scope x)(hf:X.fn x=true\/X.env.scope.names.lookup x=ba .local):PG X (.Name x pos) (F2 i):=by
 intro pins s σ H v u Q I r h;exact QL (iT I hN hi hx r (λs' I'=>⟨_,H,I',h⟩) hf)
noncomputable def Ii:DL:=λvs σ H Q=>vs=[]/\Q σ H
noncomputable def F3 (t:TG)(u:DL):DL:=λvs σ H Q=>∃v r,vs=v::r/\t v σ H λσ' H'=>u r σ' H' Q
theorem AZ:F1 X [] Ii:=by
 intro pins s σ H vs us Q I r h;obtain⟨e,h⟩:=h;subst e;cases r;exact QM ⟨σ,H,I,h⟩
theorem xF {e:Kw}{es:JT Kw}{t:TG}{u:DL}(h1:PG X e t)(h2:F1 X es u)
  (hs:(assignEach (e::es) X.env).map (·.2)=assign e X.env::(assignEach es X.env).map (·.2):=by rfl):F1 X (e::es) (F3 t u):=by
 intro pins s σ H vs us Q I r h;obtain⟨v,vr,e1,h⟩:=h;subst e1;cases r with
 | cons r rr=>
  rw[hs];refine Oy (bS (h1 pins s σ H _ _ _ I r h) λ_ s1 ⟨σ1,H1,I1,q1⟩=>?_)
  exact h2 pins s1 σ1 H1 _ _ Q I1 rr q1
noncomputable def Ij (K:Kb)(n:J3)(t:DL):TG:=λv σ H Q=>∃a xs,v=.ref a/\SqT K H a xs/\xs.length=n/\t xs σ H Q
theorem DO {es:JT Kw}{k:J3}{t:DL}{n:J3}(hc:X.calm=true)(h:F1 X es t)
  (hn:(assignEach es X.env).length=n:=by rfl) (hst:(assignEach es X.env).findIdx? (·.1)=gV:=by rfl):PG X (.Tuple es k pos) (Ij X.K n t):=by
 intro pins s σ H v u Q I r hw;obtain⟨a,xs,e1,hq,hl,hw⟩:=hw;subst e1;cases r;obtain⟨its,rv,ht,hz⟩:=I.tuple hq;refine assign_Tuple_tuple (I.ok.hd hc) ht (by simp[hn,<- hl,rv.length]) hst λh' hx=>?_
 have I1:Inv X pins σ H { s with heap:=h' }:=I.kept (t':=s.toks) λb o e=>hx b o (Kt (Kl e)) e
 exact h pins _ σ H xs _ Q I1 (by simpa using rv) hw
noncomputable def Ik (to ti:TE)(t:DM):TG:=λv σ H Q=>to σ H λo H1=>ti σ H1 λi H2=>t o i v H2 λH3=>Q σ H3
theorem DP {o i:Kw}{to ti:TE}{t:DM}(ho:PE X o to)(hi:PE X i ti)(hs:DN X t)
  (ha:∀v,assign (.Subscript o i pos) X.env v=(do
   let ov <- holding [v] (eval o X.env)
   let iv <- holding [v,ov] (eval i X.env)
   standAt pos
   holding [v,ov,iv] (setItem ov iv v)
   release [v,ov,iv] []):=by intro _; rfl):PG X (.Subscript o i pos) (Ik to ti t):=by
 intro pins s σ H v u Q I r h;rw[ha];refine JU (Li (bS (ho pins s σ H _ I h) λov s1 ⟨x,H1,I1,r1,q1⟩=>?_))
 refine JU (Li (bS (hi pins s1 σ H1 _ I1 q1) λiv s2 ⟨y,H2,I2,r2,q2⟩=>?_))
 refine JU (Ob (JU (Li (bS (hs pins s2 σ H2 x y v ov iv u _ I2 r1 r2 r q2) λ_ s3 ⟨H3,I3,q3⟩=>?_))))
 exact wpAny_release ⟨σ,H3,I3,q3⟩
noncomputable def Il (te:TE)(g:TG):TS:=λD σ H=>te σ H λx H1=>g x σ H1 D.nx
theorem DQ {tg e:Kw}{te:TE}{g:TG}(he:PE X e te)(hg:PG X tg g)(hs:swapsWithSole [tg] e pos.line X.env=pure false:=by rfl)(hw:swappedStores [tg] e X.env=pure gV:=by rfl)
  (h1:(assignEach [tg] X.env).map (·.2)=[assign tg X.env]:=by rfl):PS X (.Assign [tg] e pos) (Il te g):=by
 intro pins s σ H D I h;refine wpAny_Assign_stores (bS (he pins s σ H _ I h) λv s1 ⟨x,H1,I1,r1,q1⟩=>?_) hs hw
 rw[h1];exact bS (hg pins s1 σ H1 x v _ I1 r1 q1) λ_ s2 q=>q
noncomputable def Im (i j:J3)(ta:TA):TS:=λD σ H=>ta σ H λvs H1=>∃v w,vs=[v,w]/\D.nx ((σ.set i (ba v)).set j (ba w)) H1
theorem DR {i j:J3}{x y:Kn}{a b:Kw}{ta:TA}{px py pt:MB}{kt k2 pt2}(hc:X.calm=true)(hN:X.N.Nodup)(hi:X.N[i]?=ba x)(hj:X.N[j]?=ba y)(hij:i≠j)
  (hx:X.env.scope.names.lookup x=ba .local) (hy:X.env.scope.names.lookup y=ba .local) (ha:PA X [a,b] ta)
  (hw:swappedStores [.Tuple [.Name x px,.Name y py] kt pt] (.Tuple [a,b] k2 pt2) X.env=pure (ba [x,y]))
  (hs:swapsWithSole [.Tuple [.Name x px,.Name y py] kt pt] (.Tuple [a,b] k2 pt2) pos.line X.env=pure false:=by rfl) :
  PS X (.Assign [.Tuple [.Name x px,.Name y py] kt pt] (.Tuple [a,b] k2 pt2) pos) (Im i j ta):=by
 intro pins s σ H D I h;rw[exec_Assign_arm];refine JU (Ob ?_);rw[hs];refine JU (JZ ?_);rw[KF (by decide)]
 refine JU (Tuple_ (bS (ha _ pins s σ H _ I h) λus s1 ⟨vs,H1,I1,r1,q1⟩=>?_))
 obtain⟨v,w,e1,q1⟩:=q1;subst e1;obtain⟨u1,u2,rfl,rv,rw'⟩ : ∃u1 u2,us=[u1,u2]/\RelV v u1/\RelV w u2:=by
  cases r1 with
  | cons p q=>
   cases q with
   | cons p' q'=>
    cases q';exact⟨_,_,rfl,p,p'⟩
 refine KW ?_ (by show 2<=sizeLine; decide)
 have I2:Inv X pins σ H1 { s1 with heap:=s1.heap.push { cls:=.type "tuple",data:=.seq [u1,u2].toArray } }:=I1.kept (t':=s1.toks) λb o e=>JX _ e
 rw[hw];refine JU (JZ ?_);show wpAny (model X.prog X.w) X.A (do rule "assign.swapped-stores"; let items <- unpackItems (.ref s1.heap.objs.size) 2 gV; assignInOrder [λv=>bindName X.env y v,λv=>bindName X.env x v] items.reverse; pure TB) _ _ _
 refine JU (Pl (JU (unpackItems_tuple (items:=[u1,u2].toArray) (I.ok.hd hc) (Rg s1.heap _) λh' hx'=>?_)))
 have I3:=I2.kept (h':=h') (t':=s1.toks) λb o e=>hx' b o (Kt (Kl e)) e
 show wpAny _ _ (assignInOrder [λv=>bindName X.env y v,λv=>bindName X.env x v] [u2,u1] >>= λ_=>pure TB) _ _ _
 refine JU (Oy (RO (iT I3 hN hj (.inl hy) rw' (λs2 I4=>?_) (.inr hy))))
 refine Oy (RO (iT I4 hN hi (.inl hx) rv (λs3 I5=>QM (JZ ?_)) (.inr hx)))
 rw[List.set_comm _ _ (Ne.symm hij)]at I5;exact⟨_,H1,I5,q1⟩
end
section
variable{X:Cx}{pos:MB}
noncomputable def DS (c:TT)(tb:TS):TS:=λD σ H=>∃W:J3->St->Hp->Prop,(∃m,W m σ H)/\∀m σ H,W m σ H->
 c σ H λb H1=>if b=true then ∃N:St->Hp->Prop,(∀σ' H',N σ' H'->∃m',m' < m/\W m' σ' H')/\tb { D with nx:=N,ct:=N,bk:=D.nx } σ H1 else D.nx σ H1
theorem xG {c:Kw}{body:JT MT}{tc:TT}{tb:TS}(hp:Qf (model X.prog X.w) X.A X.env X.xe)(hc:PT X c tc)(hb:PSs X body tb):PS X (.While c body [] pos) (DS tc tb):=by
 intro pins s σ H D I h;obtain⟨W,⟨m0,w0⟩,turn⟩:=h;refine wpAny_While (codeAny_whileLoop (λn s'=>∃σ' H',Inv X pins σ' H' s'/\W n σ' H') ?_ m0 ⟨σ,H,I,w0⟩)
 rintro n s1 ⟨σ1,H1,I1,w1⟩;refine MK hp (bS (hc pins s1 σ1 H1 _ I1 (turn n σ1 H1 w1)) λb s2 ⟨H2,I2,q2⟩=>?_)
 cases b with
 | true=>
  obtain⟨N,hN,q2⟩:=q2;rw[Ks rfl];refine MK hp (bS (hb pins s2 σ1 H2 _ I2 q2) λf s3 q3=>?_)
  cases f with
  | next=>
   obtain⟨σ3,H3,I3,n3⟩:=q3;obtain⟨m',hm,w3⟩:=hN σ3 H3 n3;exact⟨m',hm,σ3,H3,I3,w3⟩
  | cont=>
   obtain⟨σ3,H3,I3,n3⟩:=q3;obtain⟨m',hm,w3⟩:=hN σ3 H3 n3;exact⟨m',hm,σ3,H3,I3,w3⟩
  | brk=>exact q3
  | ret v=>exact q3
 | false=>
  rw[KF Ku];exact Px ⟨σ1,H2,I2,q2⟩
end
set_option genInjectivity false in
structure It where
 go:J3->Hp->Prop
 yld:J3->Hp->V->Hp->Prop
 stop:J3->Hp->Prop
noncomputable def jD (X:Cx)(pins:JT (J4×LJ))(H:Hp)(b:J4):Prop:=
 H b=gV/\b≠X.env.locals/\b∉X.fs/\(b∈X.ex\/X.s₀.heap.objs.size<=b)/\(∀x c,X.env.cells.lookup x=ba c->c≠b)/\∀p∈X.pn++pins,p.1≠b
theorem Inv.fpOk {X:Cx}{pins:JT (J4×LJ)}{σ:St}{H H':Hp}{s:JY}{b:J4}(I:Inv X pins σ H s)(hb:s.heap.objs.size<=b)(hn:H' b=gV):jD X pins H' b:=by
 refine⟨hn,KM (Kx I.lt hb),I.nofs hb,.inr (Kc I.sz hb),λx c e z=>?_,λp hp z=>?_⟩
 ·obtain⟨v,q⟩:=I.cell x c e;exact absurd (Kx q.lt (by rw[z]; exact hb)) (LA _)
 ·exact absurd (Kx (Kl (I.pin p hp).1) (by rw[z]; exact hb)) (LA _)
structure Turn (P:KJ)(w:KT)(K:Kb)(tg:Kw)(J:It)(fp:JT J4)(it:J4)(tn:J3->K6->Prop):Prop where
 mem:it∈fp
 obj:∀i h,tn i h->∀b∈fp,∃o,h.get? b=ba o/\∀v,o.data≠.cell v
 keep:∀i h h',tn i h->(∀b∈fp,∀o,h.get? b=ba o->h'.get? b=ba o)->tn i h'
 item:∀(X:Cx),X.prog=P->X.w=w->X.K=K->X.calm=true->∀(i:J3) (pins:JT (J4×LJ)) (s:JY) (σ:St) (H:Hp) (E:JW->JY->Prop),Inv X pins σ H s->(∀b∈fp,jD X pins H b)->tn i s.heap->J.go i H->
  wpAny (model P w) X.A (pyNext (.ref it)) (λr s1=>∃u,r=ba u/\
   wpAny (model P w) X.A (letOwnedTupleGo tg (.ref it) u) (λ_ s2=>∃x H',Inv X pins σ H' s2/\RelV x u/\J.yld i H x H'/\tn (i+1) s2.heap/\∀b∈fp,H' b=gV) E s1) E s
 done:∀(X:Cx),X.prog=P->X.w=w->X.K=K->X.calm=true->∀(i:J3) (pins:JT (J4×LJ)) (s:JY) (σ:St) (H:Hp) (E:JW->JY->Prop),Inv X pins σ H s->(∀b∈fp,jD X pins H b)->tn i s.heap->J.stop i H->
  wpAny (model P w) X.A (pyNext (.ref it)) (λr s1=>r=gV/\Inv X pins σ H s1) E s
 self:∀(A:KP) (i:J3) (s:JY) (Q:JW->JY->Prop) (E:JW->JY->Prop),tn i s.heap->Q (.ref it) s->wpAny (model P w) A (pyIter (.ref it)) Q E s
noncomputable abbrev TI:=St->Hp->(It->Hp->Prop)->Prop
noncomputable def F4 (X:Cx)(pins:JT (J4×LJ))(σ:St)(tg:Kw)(R:It->Hp->Prop)(itv:JW)(s2:JY):Prop:=
 ∃(it:J4) (fp:JT J4) (tn:J3->K6->Prop) (J:It) (H':Hp),itv=.ref it/\Inv X pins σ H' s2/\Turn X.prog X.w X.K tg J fp it tn/\tn 0 s2.heap/\(∀b∈fp,jD X pins H' b)/\R J H'
noncomputable def PI (X:Cx)(tg iter:Kw)(wi:TI):Prop:=
 ∀(pins:JT (J4×LJ)) (s:JY) (σ:St) (H:Hp) (R:It->Hp->Prop),Inv X pins σ H s->wi σ H R->
  wpAny (model X.prog X.w) X.A (eval iter X.env) (λv s1=>wpAny (model X.prog X.w) X.A (pyIter v) (F4 X pins σ tg R) X.xe s1) X.xe s
theorem ut {M:TQ}{A:KP}{E:JW->JY->Prop}{s:JY}{tg:Kw}{it:J4}{u:JW}{o:LJ}{n:LB}{vs:KC JW}{Q:Unit->JY->Prop}(ho:s.heap.get? it=ba o)(hc:o.cls=.type n)(hd:o.data=.fields vs)
    (hn:["enumerate","zip","dict_itemiterator","dict_reverseitemiterator","odict_iterator","itertools.zip_longest","itertools.pairwise"].contains n=false) (hQ:Q () s):wpAny M A (letOwnedTupleGo tg (.ref it) u) Q E s:=by
  unfold letOwnedTupleGo;cases tg <;> first
    | exact JZ hQ
    | (cases u <;> first
        | exact JZ hQ
        | (refine JU (Pn ho ?_)
           rw[hc,hd];show wpAny M A (if (["enumerate","zip","dict_itemiterator","dict_reverseitemiterator","odict_iterator","itertools.zip_longest","itertools.pairwise"].contains n&&vs[0]?==ba (rawInt _))=true then _ else _) Q E s
           rw[KF (by intro h; rw[hn,Bool.false_and]at h; cases h)]
           exact JZ hQ))
noncomputable def Io (K:Kb)(a:J4):It:=
 ⟨λi H=>∃xs x,SqL K H a xs/\xs[i]?=ba x,λi H x H'=>H'=H/\∀xs,SqL K H a xs->xs[i]?=ba x,λi H=>∃xs,SqL K H a xs/\xs.length<=i⟩
noncomputable def Ip (K:Kb)(a:J4):It:=
 ⟨λi H=>∃xs x,SqT K H a xs/\xs[i]?=ba x,λi H x H'=>H'=H/\∀xs,SqT K H a xs->xs[i]?=ba x,λi H=>∃xs,SqT K H a xs/\xs.length<=i⟩
noncomputable def F5 (lo:Kh)(n:J3):It:=⟨λi _=>i < n,λi H x H'=>H'=H/\x=.int (lo+i),λi _=>n<=i⟩
theorem vR {P:KJ}{w:KT}{K:Kb}{tg:Kw}(a it:J4):Turn P w K tg (Io K a) [it] it (λi h=>h.IsListIter it a i) where
 mem:=by simp
 obj:=λi h st b hb=>by
  have e:b=it:=by simpa using hb
  subst e;obtain⟨o,e,c,d⟩:=st;exact⟨o,e,λv z=>by rw[d]at z; cases z⟩
 keep:=λi h h' st k=>st.at λo e=>k it (by simp) o e
 item:=by
  intro X hP hw hK hc i pins s σ H E I hf st hg;subst hP hw hK;obtain⟨xs,x,hq,hx⟩:=hg;obtain⟨its,rv,p,hz⟩:=I.list hq;obtain⟨u,hu,ru⟩:=rv.get hx;obtain⟨f0,f1,f2,f3,f4,f5⟩:=hf it (by simp)
  refine wpAny_pyNext_list_item st p.isList (x:=u) (by simpa using hu) λh' st' sb=>?_
  have I1:Inv X pins σ H { s with heap:=h' }:=I.turned (t':=s.toks) (λb o hb e=>(sb.2 b hb).trans e) f0 f1 f3 f4 f5
  obtain⟨o,e,c,d⟩:=id st';exact⟨u,rfl,ut (s:={ s with heap:=h' }) e c d (by decide) ⟨x,H,I1,ru,⟨rfl,λys hy=>by rw[I.list_inj hy hq]; exact hx⟩,st',λb hb=>(hf b hb).1⟩⟩
 done:=by
  intro X hP hw hK hc i pins s σ H E I hf st hg;subst hP hw hK;obtain⟨xs,hq,hx⟩:=hg;obtain⟨its,rv,p,hz⟩:=I.list hq;obtain⟨f0,f1,f2,f3,f4,f5⟩:=hf it (by simp)
  have hl:=rv.length;exact wpAny_pyNext_list_end (I.ok.hd hc) st p.isList (by simp; omega) λh' eb=>⟨rfl,I.turned (t':=s.toks) (λb o hb e=>eb b o hb e) f0 f1 f3 f4 f5⟩
 self:=λ_ _ _ _ _ st h=>wpAny_pyIter_listiter st h
theorem sO {P:KJ}{w:KT}{K:Kb}{tg:Kw}(a it:J4):Turn P w K tg (Ip K a) [it] it (λi h=>h.IsTupleIter it a i) where
 mem:=by simp
 obj:=λi h st b hb=>by
  have e:b=it:=by simpa using hb
  subst e;obtain⟨o,e,c,d⟩:=st;exact⟨o,e,λv z=>by rw[d]at z; cases z⟩
 keep:=λi h h' st k=>st.at λo e=>k it (by simp) o e
 item:=by
  intro X hP hw hK hc i pins s σ H E I hf st hg;subst hP hw hK;obtain⟨xs,x,hq,hx⟩:=hg;obtain⟨its,rv,p,hz⟩:=I.tuple hq;obtain⟨u,hu,ru⟩:=rv.get hx;obtain⟨f0,f1,f2,f3,f4,f5⟩:=hf it (by simp)
  refine wpAny_pyNext_tuple_item st (show s.heap.IsTuple a its.toArray from p) (x:=u) (by simpa using hu) λh' st' sb=>?_
  have I1:Inv X pins σ H { s with heap:=h' }:=I.turned (t':=s.toks) (λb o hb e=>(sb.2 b hb).trans e) f0 f1 f3 f4 f5
  obtain⟨o,e,c,d⟩:=id st';exact⟨u,rfl,ut (s:={ s with heap:=h' }) e c d (by decide) ⟨x,H,I1,ru,⟨rfl,λys hy=>by rw[I.tuple_inj hy hq]; exact hx⟩,st',λb hb=>(hf b hb).1⟩⟩
 done:=by
  intro X hP hw hK hc i pins s σ H E I hf st hg;subst hP hw hK;obtain⟨xs,hq,hx⟩:=hg;obtain⟨its,rv,p,hz⟩:=I.tuple hq;obtain⟨f0,f1,f2,f3,f4,f5⟩:=hf it (by simp)
  have hl:=rv.length;exact wpAny_pyNext_tuple_end (I.ok.hd hc) st (show s.heap.IsTuple a its.toArray from p) (by simp; omega) λh' eb=>⟨rfl,I.turned (t':=s.toks) (λb o hb e=>eb b o hb e) f0 f1 f3 f4 f5⟩
 self:=λ_ _ _ _ _ st h=>wpAny_pyIter_tupleiter st h
theorem sP {P:KJ}{w:KT}{K:Kb}{tg:Kw}(it:J4)(lo:Kh)(n:J3):Turn P w K tg (F5 lo n) [it] it (λi h=>SR h it (lo+(i:J3)*1) ((n:Kh) - (i:J3)) 1) where
 mem:=by simp
 obj:=λi h st b hb=>by
  have e:b=it:=by simpa using hb
  subst e;exact⟨_,st,λv z=>by
   have z':Data.fields _=Data.cell v:=z;cases z'⟩
 keep:=λi h h' st k=>k it (by simp) _ st
 item:=by
  intro X hP hw hK hc i pins s σ H E I hf st hg;subst hP hw hK;obtain⟨f0,f1,f2,f3,f4,f5⟩:=hf it (by simp)
  have W:=Walks.range (prog:=X.prog) (w:=X.w) (I.ok.hd hc) it lo 1 n;refine W.item i s _ _ hg st λv h' tk hv st' kk=>?_
  obtain⟨t,rfl⟩:=hv;have I1:Inv X pins σ H { s with heap:=h',toks:=tk }:=I.turned (λb o hb e=>kk b o (by simpa using hb) e) f0 f1 f3 f4 f5
  refine⟨_,rfl,ut (s:={ s with heap:=h',toks:=tk }) (n:="range_iterator") st' rfl rfl (by decide) ⟨.int (lo+i),H,I1,⟨t,?_⟩,⟨rfl,rfl⟩,st',λb hb=>(hf b hb).1⟩⟩
  rw[Int.mul_one]
 done:=by
  intro X hP hw hK hc i pins s σ H E I hf st hg;subst hP hw hK;obtain⟨f0,f1,f2,f3,f4,f5⟩:=hf it (by simp)
  exact wpAny_pyNext_range_end (I.ok.hd hc) st (by have:n<=i:=hg; omega) λh' eb=>⟨rfl,I.turned (t':=s.toks) (λb o hb e=>eb b o hb e) f0 f1 f3 f4 f5⟩
 self:=λ_ _ _ _ _ st h=>wpAny_pyIter_rangeiter st h
section
variable{X:Cx}{tg:Kw}
theorem qL {pins:JT (J4×LJ)}{σ:St}{H:Hp}{s:JY}{R:It->Hp->Prop}{E:JW->JY->Prop}{lo hi:Kh}{t u v:T0}{tk:J3}(I:Inv X pins σ H s)(h1 : -(2 ^ 62)<=lo)(h2:lo < 2 ^ 62)(h3 : -(2 ^ 62)<=hi)(h4:hi < 2 ^ 62)
  (q:R (F5 lo (hi - lo).toNat) H):wpAny (model X.prog X.w) X.A (pyIter (.ref s.heap.objs.size)) (F4 X pins σ tg R) E { s with heap:=s.heap.push { cls:=.type "range",data:=.fields [.int lo t,.int hi u,.int 1 v].toArray },toks:=tk }:=by
 refine wpAny_pyIter_range (IsRange.new ..) (Sx h1 h2 h3 h4) ?_;have I1:Inv X pins σ H { s with heap:=s.heap.push { cls:=.type "range",data:=.fields [.int lo t,.int hi u,.int 1 v].toArray },toks:=tk }:=I.kept λb o e=>JX _ e
 refine⟨(s.heap.push { cls:=.type "range",data:=.fields [.int lo t,.int hi u,.int 1 v].toArray }).objs.size,[(s.heap.push { cls:=.type "range",data:=.fields [.int lo t,.int hi u,.int 1 v].toArray }).objs.size],_,_,H,rfl,
  I1.kept (t':=tk) λb o e=>JX _ e,sP _ lo (hi - lo).toNat,?_,λb hb=>?_,q⟩
 ·have e1:lo+((0:J3):Kh)*1=lo:=by simp
  have e2:(((hi - lo).toNat:J3):Kh) - ((0:J3):Kh)=L3 lo hi 1:=by rw[Qm]; split <;> omega
  show SR _ _ (lo+((0:J3):Kh)*1) ((((hi - lo).toNat:J3):Kh) - ((0:J3):Kh)) 1;rw[e1,e2];exact Ke _ rfl
 ·have e:b=(s.heap.push { cls:=.type "range",data:=.fields [.int lo t,.int hi u,.int 1 v].toArray }).objs.size:=by simpa using hb
  subst e;exact I1.fpOk (J7 _) (I1.hok.fresh (J7 _))
noncomputable def F6 (ta:TA):TI:=λσ H R=>ta σ H λvs H1=>∃j:Kh,vs=[.int j]/\-(2 ^ 62)<=j/\j < 2 ^ 62/\R (F5 0 j.toNat) H1
noncomputable def iRng2 (ta:TA):TI:=λσ H R=>ta σ H λvs H1=>∃i j:Kh,vs=[.int i,.int j]/\(-(2 ^ 62)<=i/\i < 2 ^ 62/\-(2 ^ 62)<=j/\j < 2 ^ 62)/\R (F5 i (j - i).toNat) H1
theorem vS {a:Kw}{ta:TA}{p pos:MB}(hg:Gl X "range")(hm:X.mg "range" = gV)(ha:PA X [a] ta)(hs:starEach [a] X.env=[(false,eval a X.env)]:=by rfl):PI X tg (.Call (.Name "range" p) [a] [] pos) (F6 ta):=by
 intro pins s σ H R I h;refine Call_ (jC I hg hm boot_range (Mv (bS (ha pos pins s σ H _ I h) λus s1 ⟨vs,H1,I1,r1,q1⟩=>?_) hs rfl))
 obtain⟨j,e,q1,q2,q⟩:=q1;subst e;cases r1 with
 | cons r rr=>
  cases rr;obtain⟨t,rfl⟩:=r;exact SC (qL I1 (by omega) (by omega) q1 q2 (by simpa using q))
theorem vT {a b:Kw}{ta:TA}{p pos:MB}(hg:Gl X "range")(hm:X.mg "range" = gV)(ha:PA X [a,b] ta)(hs:starEach [a,b] X.env=[(false,eval a X.env),(false,eval b X.env)]:=by rfl)(hs2:starEach [b] X.env=[(false,eval b X.env)]:=by rfl) :
  PI X tg (.Call (.Name "range" p) [a,b] [] pos) (iRng2 ta):=by
 intro pins s σ H R I h;refine Call_ (jC I hg hm boot_range (Mv (bS (ha pos pins s σ H _ I h) λus s1 ⟨vs,H1,I1,r1,q1⟩=>?_) (by rw[hs,hs2]) (by rw[hs2]; rfl)))
 obtain⟨i,j,e,⟨q1,q2,q3,q4⟩,q⟩:=q1;subst e;cases r1 with
 | cons r rr=>
  cases rr with
  | cons r' rr=>
   cases rr;obtain⟨t,rfl⟩:=r;obtain⟨t',rfl⟩:=r';exact call_range_2 (qL I1 q1 q2 q3 q4 q)
noncomputable def Iq (wi:TI)(g:TG)(tb:TS):TS:=λD σ H=>wi σ H λJ H1=>∃W:J3->J3->St->Hp->Prop,(∃m,W 0 m σ H1)/\∀i m σ H,W i m σ H->
 (J.stop i H/\D.nx σ H)\/(J.go i H/\∃N:St->Hp->Prop,(∀σ' H',N σ' H'->∃m',m' < m/\W (i+1) m' σ' H')/\∀x H',J.yld i H x H'->g x σ H' λσ2 H2=>tb { D with nx:=N,ct:=N,bk:=D.nx } σ2 H2)
noncomputable def jE (fp:JT J4)(h:K6):JT (J4×LJ):=fp.filterMap λb=>(h.get? b).map λo=>(b,o)
theorem fL {fp:JT J4}{h:K6}{b:J4}{o:LJ}(hb:b∈fp)(e:h.get? b=ba o):(b,o)∈jE fp h:=Oz.mpr ⟨b,hb,by rw[e]; rfl⟩
theorem vU {fp:JT J4}{h:K6}{p:J4×LJ}(hp:p∈jE fp h):p.1∈fp/\h.get? p.1=ba p.2:=by
 obtain⟨b,hb,e⟩:=Oz.mp hp;cases q:h.get? b with
 | none=>rw[q]at e; cases e
 | some o=>
  rw[q]at e;have e':(b,o)=p:=Lh e;subst e';exact⟨hb,q⟩
theorem Inv.pinned {pins:JT (J4×LJ)}{σ:St}{H:Hp}{s:JY}{fp:JT J4}(I:Inv X pins σ H s)(hf:∀b∈fp,jD X pins H b)(ho:∀b∈fp,∃o,s.heap.get? b=ba o/\∀v,o.data≠.cell v):Inv X (pins++jE fp s.heap) σ H s:=
 I.pins_of λp hp=>(K2.mp hp).elim (λz=>I.pin p (KH _ z)) λz=>by
  obtain⟨hb,e⟩:=vU z;obtain⟨f0,f1,f2,_⟩:=hf p.1 hb;obtain⟨o,e',d⟩:=ho p.1 hb;rw[e]at e'; cases e'
  exact⟨e,f0,f1,f2,d⟩
theorem Inv.unpinned {pins pl:JT (J4×LJ)}{σ:St}{H:Hp}{s:JY}(I:Inv X (pins++pl) σ H s):Inv X pins σ H s:=I.pins_of λp hp=>I.pin p (KH _ (LK _ hp))
theorem DT {iter:Kw}{body:JT MT}{wi:TI}{g:TG}{tb:TS}{pos:MB}(hp:Qf (model X.prog X.w) X.A X.env X.xe)(hc:X.calm=true)(hi:PI X tg iter wi)(hg:PG X tg g)(hb:PSs X body tb)
  (hs:∀x,foldedSetIterable iter X.env x=pure x:=by intro _; rfl):PS X (.For tg iter body [] pos) (Iq wi g tb):=by
 intro pins s σ H D I h;refine wpAny_For (bS (hi pins s σ H _ I h) λv s1 h1=>bS h1 λitv s2 h2=>?_) hs
 obtain⟨it,fp,tn,J,H2,e,I2,T,bm,f2,W,⟨m0,w0⟩,turn⟩:=h2;subst e;have stat:∀ {H':Hp},(∀b∈fp,H' b=gV)->∀b∈fp,jD X pins H' b:=λhn b hb=>⟨hn b hb,(f2 b hb).2⟩
 refine codeAny_forLoop_any (λn s'=>∃i σ' H',Inv X pins σ' H' s'/\tn i s'.heap/\(∀b∈fp,H' b=gV)/\W i n σ' H') ?_ m0 ⟨0,σ,H2,I2,bm,λb hb=>(f2 b hb).1,w0⟩
 rintro n s3 ⟨i,σ3,H3,I3,st3,fr3,w3⟩;rcases turn i n σ3 H3 w3 with⟨stop,qn⟩|⟨go,N,hN,step⟩
 ·refine MK hp (bS (T.done X rfl rfl rfl hc i pins s3 σ3 H3 X.xe I3 (stat fr3) st3 stop) λr s4 ⟨hr,I4⟩=>?_)
  subst hr;exact Px ⟨σ3,H3,I4,qn⟩
 ·refine MK hp (bS (T.item X rfl rfl rfl hc i pins s3 σ3 H3 X.xe I3 (stat fr3) st3 go) λr s4 ⟨u,hr,h4⟩=>?_)
  subst hr;refine MK hp (bS h4 λ_ s5 ⟨x,H5,I5,r5,y5,st5,fr5⟩=>?_)
  have I5':=I5.pinned (stat fr5) (T.obj _ _ st5);refine MK hp (bS (hg _ s5 σ3 H5 x u _ I5' r5 (step x H5 y5)) λ_ s6 ⟨σ6,H6,I6,q6⟩=>?_)
  refine MK hp (bS (hb _ s6 σ6 H6 _ I6 q6) λf s7 q7=>?_)
  have again:∀ {σ7:St} {H7:Hp},Inv X (pins++jE fp s5.heap) σ7 H7 s7->N σ7 H7->∃m,m < n/\∃i σ' H',Inv X pins σ' H' s7/\tn i s7.heap/\(∀b∈fp,H' b=gV)/\W i m σ' H':=λ{σ7 H7} I7 n7=>by
   obtain⟨m',hm,w7⟩:=hN σ7 H7 n7;refine⟨m',hm,i+1,σ7,H7,I7.unpinned,T.keep _ _ _ st5 λb hb o e=>(I7.pin (b,o) (KH _ (KH _ (fL hb e)))).1,λb hb=>?_,w7⟩
   obtain⟨o,e,d⟩:=T.obj _ _ st5 b hb;exact(I7.pin (b,o) (KH _ (KH _ (fL hb e)))).2.1
  cases f with
  | next=>obtain⟨σ7,H7,I7,n7⟩:=q7; exact again I7 n7
  | cont=>obtain⟨σ7,H7,I7,n7⟩:=q7; exact again I7 n7
  | brk=>obtain⟨σ7,H7,I7,q7⟩:=q7; exact⟨σ7,H7,I7.unpinned,q7⟩
  | ret v=>obtain⟨x7,σ7,H7,I7,r7,q7⟩:=q7; exact⟨x7,σ7,H7,I7.unpinned,r7,q7⟩
end
noncomputable abbrev R2:=V->V->Hp->VK->Prop
noncomputable def OpR (X:Cx)(f:JW->JW->SQ JW)(r:R2):Prop:=
 ∀(pins:JT (J4×LJ)) (s:JY) (σ:St) (H:Hp) (x y:V) (v u:JW) (Q:VK),Inv X pins σ H s->RelV x v->RelV y u->r x y H Q->
  wpAny (model X.prog X.w) X.A (f v u) (EP X pins σ Q) X.xe s
noncomputable def Ir (X:Cx)(f:JW->SQ JW)(r:V->Hp->VK->Prop):Prop:=
 ∀(pins:JT (J4×LJ)) (s:JY) (σ:St) (H:Hp) (x:V) (v:JW) (Q:VK),Inv X pins σ H s->RelV x v->r x H Q->
  wpAny (model X.prog X.w) X.A (f v) (EP X pins σ Q) X.xe s
noncomputable def CallR (X:Cx)(f:JW)(r:JT V->Hp->VK->Prop):Prop:=
 ∀(pins:JT (J4×LJ)) (s:JY) (σ:St) (H:Hp) (xs:JT V) (us:JT JW) (Q:VK),Inv X pins σ H s->Vals xs us->r xs H Q->
  wpAny (model X.prog X.w) X.A (call f us) (EP X pins σ Q) X.xe s
noncomputable def Iu (X:Cx)(r:V->Hp->(KD->Hp->Prop)->Prop):Prop:=
 ∀(pins:JT (J4×LJ)) (s:JY) (σ:St) (H:Hp) (x:V) (v:JW) (Q:KD->Hp->Prop),Inv X pins σ H s->RelV x v->r x H Q->
  wpAny (model X.prog X.w) X.A (truthy v) (TP X pins σ Q) X.xe s
noncomputable def HH (r:R2)(ta tb:TE):TE:=λσ H Q=>ta σ H λx H1=>tb σ H1 λy H2=>r x y H2 Q
noncomputable def JI (r:V->Hp->VK->Prop)(ta:TE):TE:=λσ H Q=>ta σ H λx H1=>r x H1 Q
noncomputable def rI (C:Kh->Kh->Prop)(g:Kh->Kh->V):R2:=λx y H Q=>∃i j,x=.int i/\y=.int j/\C i j/\Q (g i j) H
noncomputable def C4 (g:Kh->Kh->V):R2:=λx y H Q=>∃i j,x=.int i/\y=.int j/\Q (g i j) H
noncomputable def rU (g:Kh->V):V->Hp->VK->Prop:=λx H Q=>∃i,x=.int i/\Q (g i) H
section
variable{X:Cx}{a b c:Kw}{ta tb tc:TE}{pos:MB}
theorem DU (ha:PE X a ta)(hb:PE X b tb){pins:JT (J4×LJ)}{s:JY}{σ:St}{H:Hp}{R:V->V->Hp->Prop}(I:Inv X pins σ H s)
  (h:ta σ H λx H1=>tb σ H1 λy H2=>R x y H2) {Q:JW->JY->Prop} {f:JW->JW->SQ JW}
  (hf:∀v u s2 x y H2,Inv X pins σ H2 s2->RelV x v->RelV y u->R x y H2->wpAny (model X.prog X.w) X.A (f v u) Q X.xe s2) :
  wpAny (model X.prog X.w) X.A (eval a X.env) (λv s₁=>wpAny (model X.prog X.w) X.A (eval b X.env) (λu s₂=>wpAny (model X.prog X.w) X.A (f v u) Q X.xe s₂) X.xe s₁) X.xe s:=by
 refine bS (ha pins s σ H _ I h) λv s1 ⟨x,H1,I1,r1,q1⟩=>?_
 refine bS (hb pins s1 σ H1 _ I1 q1) λu s2 ⟨y,H2,I2,r2,q2⟩=>?_
 exact hf v u s2 x y H2 I2 r1 r2 q2
theorem F7 {op:QN}{r:R2}(ho:OpR X (binaryOp op) r)(ha:PE X a ta)(hb:PE X b tb):PE X (.BinOp a op b pos) (HH r ta tb):=by
 intro pins s σ H Q I h;exact wpAny_BinOp (DU ha hb I h λv u s2 x y H2 I2 rx ry q=>ho pins s2 σ H2 x y v u Q I2 rx ry q)
theorem F8 {op:UnaryOp}{r:V->Hp->VK->Prop}(ho:Ir X (unaryOp op) r)(ha:PE X a ta):PE X (.UnaryOp op a pos) (JI r ta):=by
 intro pins s σ H Q I h;exact UnaryOp_ (bS (ha pins s σ H _ I h) λv s1 ⟨x,H1,I1,r1,q1⟩=>ho pins s1 σ H1 x v Q I1 r1 q1)
theorem HI {f:JW->JW->SQ JW}{C:Kh->Kh->Prop}{g:Kh->Kh->Kh}
  (rule:∀(i j:Kh) (t u:T0) (s:JY) (Q:JW->JY->Prop) (E:JW->JY->Prop),C i j->Q (.int (g i j) s.toks) { s with toks:=s.toks+1 }->wpAny (model X.prog X.w) X.A (f (.int i t) (.int j u)) Q E s) :
  OpR X f (rI C λi j=>.int (g i j)):=by
 intro pins s σ H x y v u Q I rx ry h;obtain⟨i,j,rfl,rfl,hc,q⟩:=h;obtain⟨t,rfl⟩:=rx;obtain⟨t',rfl⟩:=ry;exact rule i j t t' s _ _ hc ⟨.int (g i j),H,I.tok _,⟨_,rfl⟩,q⟩
theorem F9 {f:JW->JW->SQ JW}{g:Kh->Kh->Kh}
  (rule:∀(i j:Kh) (t u:T0) (s:JY) (Q:JW->JY->Prop) (E:JW->JY->Prop),Q (.int (g i j) s.toks) { s with toks:=s.toks+1 }->wpAny (model X.prog X.w) X.A (f (.int i t) (.int j u)) Q E s) :
  OpR X f (C4 λi j=>.int (g i j)):=by
 intro pins s σ H x y v u Q I rx ry h;obtain⟨i,j,rfl,rfl,q⟩:=h;obtain⟨t,rfl⟩:=rx;obtain⟨t',rfl⟩:=ry;exact rule i j t t' s _ _ ⟨.int (g i j),H,I.tok _,⟨_,rfl⟩,q⟩
theorem A6 {f:JW->JW->SQ JW}{g:Kh->Kh->KD}
  (rule:∀(i j:Kh) (t u:T0) (s:JY) (Q:JW->JY->Prop) (E:JW->JY->Prop),Q (.bool (g i j)) s->wpAny (model X.prog X.w) X.A (f (.int i t) (.int j u)) Q E s) :
  OpR X f (C4 λi j=>.bl (g i j)):=by
 intro pins s σ H x y v u Q I rx ry h;obtain⟨i,j,rfl,rfl,q⟩:=h;obtain⟨t,rfl⟩:=rx;obtain⟨t',rfl⟩:=ry;exact rule i j t t' s _ _ ⟨.bl (g i j),H,I,rfl,q⟩
noncomputable def Iv (i j:Kh):Prop:=0 < j/\j < 1073741824
noncomputable def Iw (i j:Kh):Prop:=0<=j/\j<=1000000/\i.natAbs < 2 ^ 64
noncomputable def CMul (i j:Kh):Prop:=(-(2 ^ 64) < i/\i < 2 ^ 64)\/(-(2 ^ 64) < j/\j < 2 ^ 64)
theorem CMul.ok {i j:Kh}(h:CMul i j):IntMulOk i j:=by
 rcases h with⟨h1,h2⟩|⟨h1,h2⟩
 ·exact .of_left (Sc h1 h2)
 ·exact .of_right (Sc h1 h2)
theorem DV:OpR X (binaryOp .Add) (C4 λi j=>.int (i+j)):=F9 λ_ _ _ _ _ _ _ q=>add_int q
theorem DW:OpR X (binaryOp .Sub) (C4 λi j=>.int (i - j)):=F9 λ_ _ _ _ _ _ _ q=>sub_int q
theorem DX:OpR X (binaryOp .Mult) (rI CMul λi j=>.int (i*j)):=HI λ_ _ _ _ _ _ _ hc q=>mul_int q hc.ok
theorem A7:OpR X (binaryOp .FloorDiv) (rI Iv λi j=>.int (i / j)):=HI λi j _ _ _ _ _ hc q=>by
 have h1:(0:Kh) < j:=hc.1;have h2:j < 1073741824:=hc.2;exact floordiv_int (by omega) (by rw[Int.fdiv_eq_ediv_of_nonneg i (by omega)]; exact q) (.inl (PyProof.noPylong_small (by omega)))
theorem DY:OpR X (binaryOp .Mod) (rI (λ_ j=>0 < j) λi j=>.int (i % j)):=HI λi j _ _ _ _ _ hc q=>by
 have h1:(0:Kh) < j:=hc;exact mod_int' (by omega) (by rw[Int.fmod_eq_emod_of_nonneg i (by omega)]; exact q)
theorem DZ:OpR X (binaryOp .Pow) (rI Iw λi j=>.int (i ^ j.toNat)):=HI λ_ _ _ _ _ _ _ hc q=>pow_int_small hc.1 hc.2.1 hc.2.2 q
theorem JJ {f:JW->SQ JW}{g:Kh->Kh}
  (rule:∀(i:Kh) (t:T0) (s:JY) (Q:JW->JY->Prop) (E:JW->JY->Prop),Q (.int (g i) s.toks) { s with toks:=s.toks+1 }->wpAny (model X.prog X.w) X.A (f (.int i t)) Q E s) :
  Ir X f (rU λi=>.int (g i)):=by
 intro pins s σ H x v Q I rx h;obtain⟨i,rfl,q⟩:=h;obtain⟨t,rfl⟩:=rx;exact rule i t s _ _ ⟨.int (g i),H,I.tok _,⟨_,rfl⟩,q⟩
theorem D0:Ir X (unaryOp .USub) (rU λi=>.int (-i)):=JJ λ_ _ _ _ _ q=>neg_int q
end
section
variable{X:Cx}{a b c:Kw}{ta tb tc:TE}{pos:MB}
theorem xH {pins:JT (J4×LJ)}{σ:St}{H:Hp}{s:JY}{Q:VK}{k k':KD}(I:Inv X pins σ H s)(q:Q (.bl k) H)(e:k=k'):EP X pins σ Q (.bool k') s:=by
 subst e;exact⟨.bl k,H,I,rfl,q⟩
theorem Ga:OpR X (compareOp .Lt) (C4 λi j=>.bl (decide (i < j))):=A6 λ_ _ _ _ _ _ _ q=>lt_int q
theorem Gb:OpR X (compareOp .LtE) (C4 λi j=>.bl (decide (i<=j))):=A6 λ_ _ _ _ _ _ _ q=>le_int q
theorem Gc:OpR X (compareOp .Gt) (C4 λi j=>.bl (decide (j < i))):=A6 λ_ _ _ _ _ _ _ q=>gt_int q
theorem Gd:OpR X (compareOp .GtE) (C4 λi j=>.bl (decide (j<=i))):=A6 λ_ _ _ _ _ _ _ q=>ge_int q
theorem D2:OpR X (compareOp .Is) (λx y H Q=>y=.non/\Q (.bl (decide (x=.non))) H):=by
 intro pins s σ H x y v u Q I rx ry h;obtain⟨rfl,q⟩:=h;cases ry;refine is_none_gen (xH I q ?_);cases x <;> first
  | (cases rx; rfl)
  | (obtain⟨t,rfl⟩:=rx; rfl)
theorem Ba:OpR X (compareOp .IsNot) (λx y H Q=>y=.non/\Q (.bl (!decide (x=.non))) H):=by
 intro pins s σ H x y v u Q I rx ry h;obtain⟨rfl,q⟩:=h;cases ry;refine isnot_none_gen (xH I q ?_);cases x <;> first
  | (cases rx; rfl)
  | (obtain⟨t,rfl⟩:=rx; rfl)
theorem Bb {op:Sy}{r:R2}(ho:OpR X (compareOp op) r)(ha:PE X a ta)(hb:PE X b tb)(hm:behindInMarks op b=false):PE X (.Compare a [op] [b] pos) (HH r ta tb):=by
 intro pins s σ H Q I h;exact wpAny_Compare1 (DU ha hb I h λv u s2 x y H2 I2 rx ry q=>ho pins s2 σ H2 x y v u Q I2 rx ry q) hm
noncomputable def Ge (t:TE):TT:=λσ H Q=>t σ H λx H'=>∃k,x=.bl k/\Q k H'
theorem Bc {op:Sy}{r:R2}(ho:OpR X (compareOp op) r)(ha:PE X a ta)(hb:PE X b tb)(hm:behindInMarks op b=false):PT X (.Compare a [op] [b] pos) (Ge (HH r ta tb)):=by
 intro pins s σ H Q I h;refine wpAny_isTrue_Compare1 (bS (ha pins s σ H _ I h) λv s1 ⟨x,H1,I1,r1,q1⟩=>bS (hb pins s1 σ H1 _ I1 q1) λu s2 ⟨y,H2,I2,r2,q2⟩=>
  bS (ho pins s2 σ H2 x y v u _ I2 r1 r2 q2) λc s3 ⟨z,H3,I3,r3,k,e,q3⟩=>?_) hm
 subst e;cases r3;exact Mp ⟨H3,I3,q3⟩
noncomputable def Ix (K:Kb)(x:V)(H:Hp)(k:KD):Prop:=
 match x with
 | .non=>k=false
 | .bl b=>k=b
 | .int i=>k=(i != 0)
 | .str y=>y.length<=sizeLine/\k=((y.length:Kh) != 0)
 | .byt y=>y.size<=sizeLine/\k=((y.size:Kh) != 0)
 | .ref p=>(∃xs,SqL K H p xs/\k = !xs.isEmpty)\/(∃xs,SqT K H p xs/\k = !xs.isEmpty)\/∃kvs,H p=ba (.dK kvs)/\k = !kvs.isEmpty
 | _=>Lw
theorem sQ {κ:Type}{kvs:JT (κ×V)}{vs:JT (κ×JW)}(r:KV kvs vs):(!vs.isEmpty) = !kvs.isEmpty:=by
 cases r <;> rfl
theorem ly {xs:JT V}{its:JT JW}(r:Vals xs its):(!its.toArray.isEmpty) = !xs.isEmpty:=by
 cases r <;> simp
theorem jF:(sizeLine:J3) < 2 ^ 63:=by rw[K8]; decide
theorem D6:Iu X (λx H Q=>∃k,Ix X.K x H k/\Q k H):=by
 intro pins s σ H x v Q I rx h;obtain⟨k,e,q⟩:=h;have hl:=jF;have hs:sizeLine=16777216:=K8;cases x with
 | non=>
  cases rx;have e':k=false:=e;subst e';exact truthy_none ⟨H,I,q⟩
 | bl b=>
  cases rx;have e':k=b:=e;subst e';exact Mp ⟨H,I,q⟩
 | int i=>
  obtain⟨t,rfl⟩:=rx;have e':k=(i != 0):=e;subst e';exact PySem.P.truthy_int ⟨H,I,q⟩
 | str y=>
  obtain⟨t,rfl⟩:=rx;obtain⟨hy,e'⟩ : y.length<=sizeLine/\k=((y.length:Kh) != 0):=e;subst e';exact PySem.P.truthy_str (by omega) ⟨H,I.tok _,q⟩
 | byt y=>
  obtain⟨t,rfl⟩:=rx;obtain⟨hy,e'⟩ : y.size<=sizeLine/\k=((y.size:Kh) != 0):=e;subst e';exact PySem.W.truthy_bytes (by exact Kc ‹_› (Kd rfl)) ⟨H,I.tok _,q⟩
 | ref p=>
  cases rx;have e':(∃xs,SqL X.K H p xs/\k = !xs.isEmpty)\/(∃xs,SqT X.K H p xs/\k = !xs.isEmpty)\/∃kvs,H p=ba (.dK kvs)/\k = !kvs.isEmpty:=e;rcases e' with⟨xs,hx,e'⟩|⟨xs,hx,e'⟩|⟨kvs,hx,e'⟩
  ·subst e';obtain⟨its,r,pl,hz⟩:=I.list hx;have hlen:=r.length;exact wpAny_truthy_list pl.isList (by simp only[Kg]; omega) ⟨H,I.tok _,by rw[ly r]; exact q⟩
  ·subst e';obtain⟨its,r,pl,hz⟩:=I.tuple hx;have hlen:=r.length;exact truthy_tuple pl (by simp only[Kg]; omega) ⟨H,I.tok _,by rw[ly r]; exact q⟩
  ·subst e';obtain⟨hz,hS,vs,r,m⟩ : kvs.length<=sizeLine/\(p==sysModules)=false/\∃vs,KV kvs vs/\s.heap.DictOf (o9 X.prog X.w) p vs:=I.hok p _ hx;have hlen:kvs.length=vs.length:=O1 r;exact wpAny_truthy_dict hS m (by omega) ⟨H,I.tok _,by rw[sQ r]; exact q⟩
 | _=>exact(show Lw from e).elim
theorem sR:OpR X (binaryOp .Add) (λx y H Q=>∃i j,x=.str i/\y=.str j/\i.length+j.length<=sizeLine/\Q (.str (i++j)) H):=by
 intro pins s σ H x y v u Q I rx ry h;obtain⟨i,j,rfl,rfl,hz,q⟩:=h;obtain⟨t,rfl⟩:=rx;obtain⟨t',rfl⟩:=ry;exact add_str (λt' tk=>⟨.str (i++j),H,I.tok _,⟨_,rfl⟩,q⟩) hz
theorem nS {x:V}{us:JT JW}(r:Vals [x] us):∃u,us=[u]/\RelV x u:=by
 cases r with
 | cons r1 r2=>cases r2; exact⟨_,rfl,r1⟩
theorem nT:CallR X (.type "int") (λxs H Q=>(∃i,xs=[.int i]/\Q (.int i) H)\/∃k,xs=[.bl k]/\Q (.int (if k then 1 else 0)) H):=by
 intro pins s σ H xs us Q I r h;rcases h with⟨i,rfl,q⟩|⟨k,rfl,q⟩
 ·obtain⟨u,rfl,t,rfl⟩:=nS r;exact call_int_int ⟨.int i,H,I,⟨_,rfl⟩,q⟩
 ·obtain⟨u,rfl,r1⟩:=nS r;cases r1;exact call_int_bool ⟨.int (if k then 1 else 0),H,I.tok _,⟨_,rfl⟩,q⟩
noncomputable def Iy (K:Kb)(x:V)(H:Hp)(n:J3):Prop:=
 match x with
 | .str y=>y.length<=sizeLine/\n=y.length
 | .byt y=>y.size<=sizeLine/\n=y.size
 | .ref p=>(∃xs,SqL K H p xs/\n=xs.length)\/∃xs,SqT K H p xs/\n=xs.length
 | _=>Lw
theorem lz:CallR X (.builtin "len") (λxs H Q=>∃x n,xs=[x]/\Iy X.K x H n/\Q (.int n) H):=by
 intro pins s σ H xs us Q I r h;obtain⟨x,n,rfl,e,q⟩:=h;obtain⟨u,rfl,rx⟩:=nS r;have hl:=jF;have hs:sizeLine=16777216:=K8;cases x with
 | str y=>
  obtain⟨t,rfl⟩:=rx;obtain⟨hy,e'⟩ : y.length<=sizeLine/\n=y.length:=e;subst e';exact len_str (by omega) ⟨.int _,H,I.tok _,⟨_,rfl⟩,q⟩
 | byt y=>
  obtain⟨t,rfl⟩:=rx;obtain⟨hy,e'⟩ : y.size<=sizeLine/\n=y.size:=e;subst e';exact PySem.W.len_bytes (by exact Kc ‹_› (Kd rfl)) ⟨.int _,H,I.tok _,⟨_,rfl⟩,q⟩
 | ref p=>
  cases rx;have e':(∃xs,SqL X.K H p xs/\n=xs.length)\/∃xs,SqT X.K H p xs/\n=xs.length:=e;rcases e' with⟨xs,hx,e'⟩|⟨xs,hx,e'⟩
  ·subst e';obtain⟨its,r',pl,hz⟩:=I.list hx;have hlen:=r'.length;exact Calls.call_len_list pl.isList (by simp only[Kg]; omega) ⟨.int xs.length,H,I.tok _,⟨_,by simp only[Kg]; rw[hlen]⟩,q⟩
  ·subst e';obtain⟨its,r',pl,hz⟩:=I.tuple hx;have hlen:=r'.length;exact len_tuple pl (by simp only[Kg]; omega) ⟨.int xs.length,H,I.tok _,⟨_,by simp only[Kg]; rw[hlen]⟩,q⟩
 | _=>exact(show Lw from e).elim
end
structure Room (k:J3)(A:KP):Prop where
 hd:A.handled=gV
 dp:A.depth+3*k+5 < recursionLimit
 un:A.units+16*k+200 < cLine
theorem Room.deeper {k:J3}{A:KP}(r:Room (k+1) A)(env:QK):Room k (A.deeper env):=
 ⟨r.hd,by have:=r.dp; show A.depth+1+3*k+5 < _; omega,by have:=r.un; show A.units+3+16*k+200 < _; omega⟩
theorem Room.depth {k:J3}{A:KP}(r:Room k A):A.depth < recursionLimit:=by have:=r.dp; omega
noncomputable def Gf:TA:=λ_ H Q=>Q [] H
noncomputable def Gg (ta:TE)(tr:TA):TA:=λσ H Q=>ta σ H λx H1=>tr σ H1 λxs H2=>Q (x::xs) H2
section
variable{X:Cx}{e:Kw}{es:JT Kw}{te:TE}{t:TA}{pos:MB}
theorem xI:PA X [] Gf:=λ_ _ _ _ H Q I h=>Calls.spliced_nil ⟨[],H,I,.nil,h⟩
theorem pc (ha:PE X e te)(hr:PA X es t)(hs:starEach (e::es) X.env=(false,eval e X.env)::starEach es X.env:=by rfl):PA X (e::es) (Gg te t):=by
 intro pos pins s σ H Q I h;rw[hs];show wpAny _ _ (spliced ((false,eval e X.env)::backTo pos (starEach es X.env))) _ _ s;refine Calls.spliced_cons (bS (ha pins s σ H _ I h) λu s1 ⟨x,H1,I1,r1,q1⟩=>?_)
 exact bS (hr pos pins s1 σ H1 _ I1 q1) λus s2 ⟨xs,H2,I2,r2,q2⟩=>⟨x::xs,H2,I2,.cons r1 r2,q2⟩
noncomputable def Iz (t:TA):TE:=λσ H Q=>t σ H λxs H1=>xs.length<=sizeLine/\∀p,H1 p=gV->Q (.ref p) (bZ H1 p (.tup xs))
noncomputable def IA (t:TA):TE:=λσ H Q=>t σ H λxs H1=>xs.length<=sizeLine/\∀p,H1 p=gV->Q (.ref p) (bZ H1 p (.lst xs))
theorem Ea {x1}(h:PA X es t):PE X (.Tuple es x1 pos) (Iz t):=by
 intro pins s σ H Q I hq;refine wpAny_Tuple_spliced (bS (h pos pins s σ H _ I hq) λus s1 ⟨xs,H1,I1,r,z,q⟩=>⟨by rw[<- r.length]; exact z,?_⟩)
 have hf:H1 s1.heap.objs.size=gV:=I1.hok.fresh (J7 _);refine⟨.ref s1.heap.objs.size,bZ H1 s1.heap.objs.size (.tup xs),I1.laid (t':=s1.toks) (λb u e=>JX _ e) (J7 _) ?_,rfl,q _ hf⟩
 exact⟨z,us,r,⟨_,Ke _ rfl,rfl,_,rfl⟩⟩
theorem Eb (h:PA X es t):PE X (.List es pos) (IA t):=by
 intro pins s σ H Q I hq;refine wpAny_List_spliced (bS (h pos pins s σ H _ I hq) λus s1 ⟨xs,H1,I1,r,z,q⟩=>⟨by rw[<- r.length]; exact z,?_⟩)
 have hf:H1 s1.heap.objs.size=gV:=I1.hok.fresh (J7 _);refine⟨.ref s1.heap.objs.size,bZ H1 s1.heap.objs.size (.lst xs),I1.laid (t':=s1.toks) (λb u e=>JX _ e) (J7 _) ?_,rfl,q _ hf⟩
 exact⟨z,us,0,r,Ke _ rfl⟩
end
noncomputable abbrev Sp:=JT V->Hp->VK->XK->Prop
noncomputable abbrev xJ:=JT QK->Hp->JY->XK->JW->JY->Prop
structure Env0 (P:KJ)(w:KT)(K:Kb)(mg:Kn->J1 JW)(base:K6)(A:KP)(outer:JT QK)(s:JY)(H:Hp):Prop where
 frames:A.frames=ba outer
 mod:Mod K mg base
 bs:∀b o,base.get? b=ba o->s.heap.get? b=ba o/\H b=gV
 bsz:base.objs.size<=s.heap.objs.size
 funs:s.heap.FunFrames base outer
 frf:∀b∈sN outer,H b=gV
 hok:HOk P w H s.heap
 bare:OU s.gens
noncomputable def CE (outer:JT QK)(P:KJ)(w:KT)(H:Hp)(s:JY)(Q:VK)(u:JW)(s':JY):Prop:=
 ∃v H',s'.os=s.os/\OU s'.gens/\Un (sN outer) [] H H' s.heap s'.heap/\HOk P w H' s'.heap/\RelV v u/\Q v H'
noncomputable def CR (CX:xJ)(outer:JT QK)(P:KJ)(w:KT)(H:Hp)(s:JY)(Q:VK)(E:XK)(r:Rh)(s':JY):Prop:=
 match r with
 | .ok (.ret u)=>CE outer P w H s Q u s'
 | .ok _=>Lw
 | .error e=>CX outer H s E e s'
structure FnOk (P:KJ)(w:KT)(K:Kb)(mg:Kn->J1 JW)(base:K6)(CX:xJ)(k:J3)(f:J4)(fd:MC)(ps:JT Kn)(sp:Sp):Prop where
 len:∀vs H Q E,sp vs H Q E->vs.length=ps.length
 run:∀(A:KP) (outer:JT QK) (s:JY) (H:Hp) (args:Args) (us:JT JW) (vs:JT V) (Q:VK) (E:XK),Room k A->Env0 P w K mg base A outer s H->QP s fd args (ps.zip us)->Vals vs us->sp vs H Q E->
  codeAny (model P w) A (.call (.ref f) args) (CR CX outer P w H s Q E) s
section
variable{X:Cx}{pins:JT (J4×LJ)}{σ:St}{H:Hp}{s s':JY}
theorem Inv.env0 (I:Inv X pins σ H s):Env0 X.prog X.w X.K X.mg X.base X.A X.stack s H:=
 ⟨I.ok.frames,I.ok.mod,I.bs,Kc I.ok.bsz I.sz,I.stack,I.stkFree,I.hok,I.bare⟩
theorem Inv.after {Q:VK}{u:JW}(I:Inv X pins σ H s)(h:CE X.stack X.prog X.w H s Q u s'):EP X pins σ Q u s':=by
 obtain⟨v,H',os,bare,un,hok,r,q⟩:=h;obtain⟨hh,g,d,t,os'⟩:=s';obtain rfl:os'=s.os:=os;exact⟨v,H',I.call (h':=hh) (g':=g) (d':=d) (t':=t) (ch:=[]) un hok bare (λb z=>absurd z (by simp)),r,q⟩
end
noncomputable def xK (sp:Sp)(dvs:JT V)(E:XK)(t:TA):TE:=λσ H Q=>t σ H λvs H1=>sp (vs++dvs) H1 Q E
noncomputable def Binds (K:Kb)(fd:MC)(ps:JT Kn)(ds:JT JW):Prop:=
 ∀(s:JY) (us:JT JW),K.In s.heap->(us++ds).length=ps.length->QP s fd ⟨us,[]⟩ (ps.zip (us++ds))
theorem Binds.all {K:Kb}{fd:MC}{ps:JT Kn}(h:∀us:JT JW,us.length=ps.length->bindArgs fd ⟨us,[]⟩=pure (ps.zip us)):Binds K fd ps []:=λs us _ hl=>by
 rw[LW]at hl ⊢;exact .of_eq (h us hl)
noncomputable def pd (CX:xJ)(X:Cx)(E:XK):Prop:=∀(pins:JT (J4×LJ)) (σ:St) (H:Hp) (s:JY) (e:JW) (s':JY),Inv X pins σ H s->CX X.stack H s E e s'->X.xe e s'
section
variable{X:Cx}{CX:xJ}{k:J3}{f C:J4}{fd:MC}{ps:JT Kn}{sp:Sp}{dvs:JT V}{ds:JT JW}{E:XK}{x m:Kn}{p pos apos:MB}{e o:Kw}{es:JT Kw}{ta:TE}{t:TA}
theorem xL {pins:JT (J4×LJ)}{σ:St}{H:Hp}{s:JY}{Q:VK}{us:JT JW}{vs:JT V}(F:FnOk X.prog X.w X.K X.mg X.base CX k f fd ps sp)(hr:Room k X.A)(hb:Binds X.K fd ps ds)(hd:Vals dvs ds)(hx:pd CX X E)
  (I:Inv X pins σ H s) (r:Vals vs us) (h:sp (vs++dvs) H Q E):wpAny (model X.prog X.w) X.A (call (.ref f) us) (EP X pins σ Q) X.xe s:=by
 have r2:Vals (vs++dvs) (us++ds):=r.append hd;have hl:(us++ds).length=ps.length:=by rw[<- r2.length]; exact F.len _ _ _ _ h
 refine wpAny_call (NU (F.run X.A X.stack s H ⟨us,[]⟩ (us++ds) (vs++dvs) Q E hr I.env0 (hb s us I.kIn hl) r2 h) λr s' hq=>?_)
 cases r with
 | error e=>exact hx pins σ H s e s' I hq
 | ok fl=>
  cases fl with
  | ret u=>exact I.after hq
  | next=>exact Lw.elim hq
  | brk=>exact Lw.elim hq
  | cont=>exact Lw.elim hq
theorem Bd (F:FnOk X.prog X.w X.K X.mg X.base CX k f fd ps sp)(hr:Room k X.A)(hg:Gl X x)(hm:X.mg x=ba (.ref f))(hk:LL X.K (.ref f)=true)(hb:Binds X.K fd ps ds)(hd:Vals dvs ds)(hx:pd CX X E)
  (ha:PA X (e::es) t) (hdb:(x==("__debug__" : Kn))=false:=by decide) (he:starEach (e::es) X.env=(false,eval e X.env)::starEach es X.env:=by rfl) (hpl:(backTo pos (starEach es X.env)).any (·.1)=false:=by rfl) :
  PE X (.Call (.Name x p) (e::es) [] pos) (xK sp dvs E t):=by
 intro pins s σ H Q I h;refine NL (uq I hg hm ?_ hdb);refine PySem.W.callWith_K (h₀:=X.base) I.ok.mod.kin hk (bS (ha pos pins s σ H _ I h) λus s1 ⟨vs,H1,I1,r,q⟩=>⟨I1.kIn,?_⟩) he hpl
 exact xL F hr hb hd hx I1 r q
theorem xM (F:FnOk X.prog X.w X.K X.mg X.base CX k f fd ps sp)(hr:Room k X.A)(hg:Gl X x)(hm:X.mg x=ba (.ref f))(hk:LL X.K (.ref f)=true)(hb:Binds X.K fd ps ds)(hd:Vals dvs ds)(hx:pd CX X E)
  (hdb:(x==("__debug__" : Kn))=false:=by decide):PE X (.Call (.Name x p) [] [] pos) (xK sp dvs E Gf):=by
 intro pins s σ H Q I h;refine NL (uq I hg hm ?_ hdb);exact PySem.W.callWith_K0 I.kIn hk (xL (us:=[]) F hr hb hd hx I .nil h)
end
structure FnScope (N P:JT Kn)(sc:Nf):Prop where
 kind:sc.kind=.function
 co:sc.isCoroutine=false
 gen:sc.isGenerator=false
 nd:N.Nodup
 pre:N.take P.length=P
 par:∀x∈P,sc.names.lookup x=ba .local\/sc.names.lookup x=ba .cell
 nofree:∀y∈sc.names,y.2≠.free
theorem nU {kindOf:Kn->J1 L4}{x:Kn}:∀ {binds:JT (Kn×JW)} {m:Kn->J1 JW},(∀v,(x,v)∉binds)->bindL kindOf binds m x=m x
 | [],_,_=>rfl
 | (n,v)::r,m,h=>by
  unfold bindL;rw[nU λw hw=>h w (Lp _ hw)]
  split
  ·have:x≠n:=by rintro rfl; exact h v Lx
   simp[this]
  ·rfl
theorem nV {kindOf:Kn->J1 L4}{x:Kn}:∀ {binds:JT (Kn×JW)} {m:Kn->J1 JW},(∀v,(x,v)∉binds)->bindC kindOf binds m x=m x
 | [],_,_=>rfl
 | (n,v)::r,m,h=>by
  unfold bindC;rw[nV λw hw=>h w (Lp _ hw)]
  split
  ·rfl
  ·have:x≠n:=by rintro rfl; exact h v Lx
   simp[this]
theorem nW {kindOf:Kn->J1 L4}{x:Kn}{v:JW}:∀ {P:JT Kn} {vs:JT JW} {i:J3} {m:Kn->J1 JW},P.Nodup->P[i]?=ba x->vs[i]?=ba v->kindOf x=ba .local->
  bindL kindOf (P.zip vs) m x=ba v
 | [],_,_,_,_,h,_,_=>by simp at h
 | _::_,[],_,_,_,_,h,_=>by simp at h
 | p::P,w::vs,0,m,nd,h1,h2,hk=>by
  simp at h1 h2; subst h1; subst h2
  show bindL kindOf ((p,w)::P.zip vs) m p=_;unfold bindL;rw[nU λv hv=>(Mf.mp nd).1 (Py hv).1,Ks hk]
  simp
 | p::P,w::vs,i+1,m,nd,h1,h2,hk=>by
  show bindL kindOf ((p,w)::P.zip vs) m x=_;unfold bindL;exact nW (i:=i) (Mf.mp nd).2 (by simpa using h1) (by simpa using h2) hk
theorem nX {kindOf:Kn->J1 L4}{x:Kn}{v:JW}:∀ {P:JT Kn} {vs:JT JW} {i:J3} {m:Kn->J1 JW},P.Nodup->P[i]?=ba x->vs[i]?=ba v->kindOf x≠ba .local->
  bindC kindOf (P.zip vs) m x=ba v
 | [],_,_,_,_,h,_,_=>by simp at h
 | _::_,[],_,_,_,_,h,_=>by simp at h
 | p::P,w::vs,0,m,nd,h1,h2,hk=>by
  simp at h1 h2; subst h1; subst h2
  show bindC kindOf ((p,w)::P.zip vs) m p=_;unfold bindC;rw[nV λv hv=>(Mf.mp nd).1 (Py hv).1,KF hk]
  simp
 | p::P,w::vs,i+1,m,nd,h1,h2,hk=>by
  show bindC kindOf ((p,w)::P.zip vs) m x=_;unfold bindC;exact nX (i:=i) (Mf.mp nd).2 (by simpa using h1) (by simpa using h2) hk
noncomputable def ga (N:JT Kn)(vs:JT V):St:=vs.map ba++KY (N.length - vs.length) gV
noncomputable def sS (CX:xJ)(P:KJ)(w:KT)(K:Kb)(mg:Kn->J1 JW)(base:K6)(N:JT Kn)(qual:Kn)(scope:Nf)(f:J4)(cd:JW)(A:KP)(outer:JT QK)(s:JY)(H:Hp)(E:XK):Cx where
 prog:=P
 w:=w
 K:=K
 mg:=mg
 base:=base
 A:=A.deeper (envOfC qual scope s.heap.objs.size f cd)
 N:=N
 s₀:=s
 H₀:=H
 env:=envOfC qual scope s.heap.objs.size f cd
 outer:=outer
 stack:=envOfC qual scope s.heap.objs.size f cd::outer
 ex:=[]
 calm:=true
 fn:=λ_=>true
 pn:=[]
 xe:=λe s'=>wpAny (model P w) (A.deeper (envOfC qual scope s.heap.objs.size f cd)) (leaving (envOfC qual scope s.heap.objs.size f cd) e) (λ_ s''=>CX outer H s E e s'') (λe' s''=>CX outer H s E e' s'') s'
theorem qM {sc:Nf}{n:J3}{x:Kn}(h:sc.names.lookup x=ba .cell):∃c,(cellsFrom n sc.names []).lookup x=ba c:=by
 have q:=Po sc.names n [] (.inl h);exact Lb.mp q
theorem vV {CX:xJ}{P:KJ}{w:KT}{K:Kb}{mg:Kn->J1 JW}{base:K6}{N ps:JT Kn}{qual:Kn}{scope:Nf}{f:J4}{cd:JW}{A:KP}{outer:JT QK}{s s1:JY}{H:Hp}{E:XK}{us:JT JW}{vs:JT V}
  (S:FnScope N ps scope) (hd:A.handled=gV) (e0:Env0 P w K mg base A outer s H) (hl:vs.length=ps.length) (r:Vals vs us)
  (x:InCallC s s.heap.objs.size (bindL (envOfC qual scope s.heap.objs.size f cd).kindOf (ps.zip us) λ_=>gV) (cellsFrom (s.heap.objs.size+1) scope.names []) (bindC (envOfC qual scope s.heap.objs.size f cd).kindOf (ps.zip us) λ_=>gV) s1) :
  Inv (sS CX P w K mg base N qual scope f cd A outer s H E) [] (ga N vs) H s1:=by
 have hpl:ps.length<=N.length:=by have:=congrArg SS S.pre; rw[Lj]at this; omega
 obtain⟨h1,tk,rfl,hk⟩:=x.done;have noA:∀b:J4,b∉(sS CX P w K mg base N qual scope f cd A outer s H E).ex:=λb z=>absurd (show b∈([]:JT J4)from z) (by simp)
 refine⟨⟨e0.mod,S.kind,rfl,rfl,J7 _,λy z c h1 h2=>?_,λy hy=>?_,λy c _ h=>?_,λ_=>hd,Around.frames_deeper e0.frames,.inr ⟨rfl,rfl⟩,λb z=>absurd z (noA b),e0.bs,e0.bsz,λb _ _=>noA b,λb z=>absurd z (noA b),e0.funs,e0.frf⟩,
  rfl,e0.bare,Un.kept hk,⟨_,x.toInCall.ns,λi y v h1 h2 h3=>?_⟩,λy c h=>⟨_,x.cell y c h⟩,e0.hok.fresh (J7 _),λy c h=>?_,λp hp=>absurd (show p∈([]:JT (J4×LJ))from hp) (by simp),e0.hok.kept hk,?_⟩
 ·exact name_of_addr x.apart (MX h1) (MX h2)
 ·have hy:scope.names.lookup y=ba .cell\/scope.names.lookup y=ba .free:=hy;rcases hy with hy|hy
  ·exact qM hy
  ·exact absurd rfl (S.nofree _ (MX hy))
 ·exact L8 (x.above y c (MX h))
 ·have hi:i < vs.length:=by
   unfold ga at h2
   by_cases hi:i < vs.length
   ·exact hi
   ·rw[MD (by simpa using hi)]at h2
    rw[List.getElem?_replicate]at h2;split at h2 <;> cases h2
  have ha:vs[i]?=ba v:=by
   unfold ga at h2;rw[K9 (by simpa using hi),J6]at h2
   cases e:vs[i]? with
   | none=>rw[e]at h2; cases h2
   | some a=>rw[e]at h2; cases h2; rfl
  obtain⟨u,hu,rv⟩:=r.get ha;have hp:ps[i]?=ba y:=by
   rw[<- S.pre,O2 (by omega)]; exact h1
  have ndP:ps.Nodup:=by rw[<- S.pre]; exact S.nd.sublist (List.take_sublist _ _)
  refine⟨u,rv,?_⟩;rcases S.par y (Kf hp)with k|k
  ·exact .inl ⟨k,nW ndP hp hu k⟩
  ·obtain⟨c,e⟩:=qM (n:=s.heap.objs.size+1) k;refine .inr ⟨.inl k,c,e,?_⟩;have q:=x.cell y c e;rw[nX ndP hp hu (by show scope.names.lookup y≠_; rw[k]; decide)]at q
   exact q
 ·exact e0.hok.fresh (L8 (x.above y c (MX h)))
 ·unfold ga;show _=N.length;rw[J8,JV,PL];omega
theorem Gh {CX:xJ}{P:KJ}{w:KT}{K:Kb}{mg:Kn->J1 JW}{base:K6}{k:J3}{f:J4}{name qual:Kn}{params:Arguments}{body:JT MT}{scope:Nf}{dV kV doc pm cdv ct oc:JW}{an od:J1 J4}
  {osl:KC (J1 JW)} {N ps:JT Kn} {sp:Sp} (lk:K.lookup f=ba ⟨oc,od,.func (Mk name qual params body scope dV kV doc pm an cdv ct),osl⟩) (hcd:Nm K cdv qual=true) (S:FnScope N ps scope)
  (len:∀vs H Q E,sp vs H Q E->vs.length=ps.length)
  (hbody:∀(A:KP) (outer:JT QK) (s:JY) (H:Hp) (vs:JT V) (Q:VK) (E:XK),Room k (A.deeper (envOfC qual scope s.heap.objs.size f cdv))->sp vs H Q E->
   ∃t,PSs (sS CX P w K mg base N qual scope f cdv A outer s H E) body t/\t { nx:=λ_ H'=>Q .non H',rt:=Q } (ga N vs) H) :
  FnOk P w K mg base CX (k+1) f (Mk name qual params body scope dV kV doc pm an cdv ct) ps sp:=by
 refine⟨len,λA outer s H args us vs Q E hr e0 hb r hsp=>?_⟩
 have hl:=len _ _ _ _ hsp;have KX:K.In s.heap:=e0.mod.kin.keeps λb o e=>(e0.bs b o e).1
 have lim:s.heap.NoLimit:=e0.mod.nolimit.keeps λb o e=>(e0.bs b o e).1
 have hkind:∀y∈ps.zip us,scope.names.lookup y.1=ba .local\/(scope.names.lookup y.1=ba .cell/\((cellsFrom (s.heap.objs.size+1) scope.names []).lookup y.1).isSome=true):=λ⟨n,v⟩ hy=>by
  rcases S.par n (Py hy).1 with q|q
  ·exact .inl q
  ·exact .inr ⟨q,Po _ _ _ (.inl q)⟩
 refine codeAny_call_function hr.depth (KX _ _ lk) rfl S.co S.gen rfl (PySem.W.codeRec_of KX hcd) (hb _ _ _ _ ?_);refine wpAny_newFunctionEnv_cells S.kind hkind λenv he s1 x=>?_
 subst he;refine⟨lim.keeps x.toInCall.keep,codeAny_func ?_⟩;obtain⟨t,ht,hq⟩:=hbody A outer s H vs Q E (hr.deeper _) hsp;have I:Inv (sS CX P w K mg base N qual scope f cdv A outer s H E) [] (ga N vs) H s1:=vV S hr.hd e0 hl r x;refine L0 (ht [] s1 (ga N vs) H _ I hq) (λfl s' hs=>?_) λe s' hs=>hs
 have fin:∀ {σ':St} {H':Hp} {v:V} {u:JW},Inv (sS CX P w K mg base N qual scope f cdv A outer s H E) [] σ' H' s'->RelV v u->Q v H'->CE outer P w H s Q u s':=
  λ{σ' H' v u} J rv q=>⟨v,H',J.os,J.bare,J.base,J.hok,rv,q⟩
 cases fl with
 | ret u=>
  obtain⟨v,σ',H',J,rv,q⟩:=hs;exact fin J rv q
 | next=>
  obtain⟨σ',H',J,q⟩:=hs;exact fin (v:=V.non) (u:=K7) J rfl q
 | brk=>
  obtain⟨_,_,_,q⟩:=hs;exact Lw.elim q
 | cont=>
  obtain⟨_,_,_,q⟩:=hs;exact Lw.elim q
section
variable{X:Cx}{x:Kn}{p pos:MB}{e:Kw}{es:JT Kw}{t:TA}{id T:LB}{r:JT V->Hp->VK->Prop}
noncomputable def JA (r:JT V->Hp->VK->Prop)(t:TA):TE:=λσ H Q=>t σ H λvs H1=>r vs H1 Q
theorem qN (hc:CallR X (.builtin id) r)(hg:Gl X x)(hm:X.mg x=gV)(hv:bootBuiltins x=ba (.builtin id))(ha:PA X (e::es) t)(hn:x≠"__name__":=by decide)(hdb:(x==("__debug__" : Kn))=false:=by decide)
  (he:starEach (e::es) X.env=(false,eval e X.env)::starEach es X.env:=by rfl) (hpl:(backTo pos (starEach es X.env)).any (·.1)=false:=by rfl):PE X (.Call (.Name x p) (e::es) [] pos) (JA r t):=by
 intro pins s σ H Q I h;refine NL (jC I hg hm hv ?_ hn hdb);exact Ri (bS (ha pos pins s σ H _ I h) λus s1 ⟨vs,H1,I1,r1,q1⟩=>hc pins s1 σ H1 vs us Q I1 r1 q1) he hpl
theorem vW (hc:CallR X (.type T) r)(hg:Gl X x)(hm:X.mg x=gV)(hv:bootBuiltins x=ba (.type T))(ha:PA X (e::es) t)(hn:x≠"__name__":=by decide)(hdb:(x==("__debug__" : Kn))=false:=by decide)
  (he:starEach (e::es) X.env=(false,eval e X.env)::starEach es X.env:=by rfl) (hpl:(backTo pos (starEach es X.env)).any (·.1)=false:=by rfl):PE X (.Call (.Name x p) (e::es) [] pos) (JA r t):=by
 intro pins s σ H Q I h;refine NL (jC I hg hm hv ?_ hn hdb);exact Mv (bS (ha pos pins s σ H _ I h) λus s1 ⟨vs,H1,I1,r1,q1⟩=>hc pins s1 σ H1 vs us Q I1 r1 q1) he hpl
end
end L2
namespace HT
open PySem PyProof.Rows
section
open PySem.SeqAt
open PySem.AutoSeq1 (wpAny_loadPart')
open PySem.MeetsSeq PySem.MeetsSeq2 PySem.MeetsSeq3
end
section
variable{prog:KJ}{w:KT}{A:KP}{E:JW->JY->Prop}{s:JY}
theorem Be {t b:J4}{vs ws:JT JW}{Q:JW->JY->Prop}(ht:QJ s.heap t vs.toArray)(hb:QJ s.heap b ws.toArray)(hv:vs≠[])
  (h1:ws=[]->Q (.ref t) s) (h2:ws≠[]->Q (.ref s.heap.objs.size) { s with heap:=s.heap.push { cls:=.type "tuple",data:=.seq (vs++ws).toArray } })
  (hsz:vs.length+ws.length<=sizeLine):wpAny (model prog w) A (binaryOp .Add (.ref t) (.ref b)) Q E s:=by
 obtain⟨⟨cls,dd,data,sl⟩,ho,hc,n,hd⟩:=id ht;obtain⟨⟨cls2,dd2,data2,sl2⟩,ho2,hc2,n2,hd2⟩:=id hb;simp only at hc hd hc2 hd2;subst hc hd hc2 hd2;have e:vs.toArray++ws.toArray=(vs++ws).toArray:=by simp
 by_cases hw:ws=[]
 ·exact QQ ⟨_,ho,rfl⟩ ⟨_,ho2,rfl⟩ Pb Qn NV NQ (NG _ _)
   (tuple_addW1 t b vs.toArray ws.toArray n n2 dd dd2 sl sl2 (by simpa using hv) (by simp[hw])) ⟨ho,ho2,h1 hw⟩
 ·refine QQ ⟨_,ho,rfl⟩ ⟨_,ho2,rfl⟩ Pb Qn NV NQ (NG _ _)
   (tuple_addW2 t b vs.toArray ws.toArray n n2 dd dd2 sl sl2 (by simpa using hv) (by simpa using hw) (by rw[Kg,Kg]; exact hsz)) ⟨ho,ho2,?_⟩
  rw[e];exact h2 hw
noncomputable def cJ (n d:J3):J1 Kh->J3
 | none=>d
 | some v=>if v < 0 then(v+(n:Kh)).toNat else min v.toNat n
theorem lA (n d:J3):cJ n d gV=d:=rfl
theorem uu (n d k:J3):cJ n d (ba (k:Kh))=min k n:=by
 show(if (k:Kh) < 0 then((k:Kh)+(n:Kh)).toNat else min (k:Kh).toNat n)=min k n
 rw[KF (by omega),Km]
theorem Ec (n d:J3)(hd:d<=n)(o:J1 Kh):cJ n d o<=n:=by
 cases o with
 | none=>exact hd
 | some v=>
  show(if v < 0 then(v+(n:Kh)).toNat else min v.toNat n)<=n
  by_cases hv:v < 0
  ·rw[Ks hv]; omega
  ·rw[KF hv]; exact Nat.min_le_right _ _
theorem uw (v:Kh)(n d:J3):(if v < 0 then max (v+(n:Kh)) 0 else min v (n:Kh))=((cJ n d (ba v):J3):Kh):=by
 show(if v < 0 then max (v+(n:Kh)) 0 else min v (n:Kh))=(((if v < 0 then(v+(n:Kh)).toNat else min v.toNat n):J3):Kh)
 by_cases hv:v < 0
 ·simp only[Ks hv]; omega
 ·simp only[KF hv]; omega
theorem sT (lo hi:J1 Kh)(n:J3):Ny lo hi 1 (n:Kh)=(((cJ n 0 lo:J3):Kh),((cJ n n hi:J3):Kh)):=by
 have h1:¬ ((1:Kh) < 0):=by omega
 unfold Ny;simp only[h1,Lr];refine TR ?_ ?_
 ·cases lo with
  | none=>rfl
  | some v=>exact uw v n 0
 ·cases hi with
  | none=>rfl
  | some v=>exact uw v n n
theorem sU (i j:J3):MJ (i:Kh) (j:Kh) 1=j - i:=by
 unfold MJ;have h1:(1:Kh) > 0:=by omega
 simp only[h1,LQ,Int.ediv_one];split <;> omega
theorem lB {v:JW}{o:J1 Kh}{Q:J1 Kh->JY->Prop}(p:OA v o)(h:Q o s):wpAny (model prog w) A (RC v) Q E s:=by
 cases p with
 | none=>exact RP h
 | int i t=>exact slicePart_int h
theorem fA {sl:J4}{vl vu:JW}{lo hi:J1 Kh}{n:J3}{Q:Kh×Kh×J3->JY->Prop}(hs:s.heap.IsSliceOf sl vl vu .none)(pl:OA vl lo)(pu:OA vu hi)
  (h:Q (((cJ n 0 lo:J3):Kh),1,cJ n n hi - cJ n 0 lo) s):wpAny (model prog w) A (OB (.ref sl) (pure (n:Kh))) Q E s:=by
 obtain⟨os,hos,hcs,hds⟩:=id hs;unfold OB R6;refine JU (JU (My hos hds (x:=vl) rfl (JU (My hos hds (x:=vu) rfl (JU (My hos hds (x:=.none) rfl (JZ ?_)))))));refine JU (RP ?_);show wpAny _ _ (if ((1:Kh)==0)=true then _ else _) _ _ s
 rw[KF (by decide)]
 refine JU (lB pl (JU (lB pu (JU (JZ ?_)))));show wpAny _ _ (match Ny lo hi 1 (n:Kh)with|(lo,hi)=>pure (lo,(1:Kh),MJ lo hi 1)) _ _ s
 rw[sT lo hi n];show wpAny _ _ (pure (((cJ n 0 lo:J3):Kh),(1:Kh),MJ ((cJ n 0 lo:J3):Kh) ((cJ n n hi:J3):Kh) 1)) _ _ s;rw[sU];exact JZ h
theorem xN (xs:KC JW)(i k:J3):((KA k).filterMap λ(m:J3)=>xs[((i:Kh)+(m:Kh)*1).toNat]?).toArray=((xs.toList.drop i).take k).toArray:=by
 have e:(λ(m:J3)=>xs[((i:Kh)+(m:Kh)*1).toNat]?)=λm=>xs[i+m]?:=by
  funext m
  have:((i:Kh)+(m:Kh)*1).toNat=i+m:=by omega
  rw[this]
 rw[e];have:=pick_run xs i k;rw[List.filterMap_map]at this;have e2:((λx=>xs[x]?)∘λx=>i+x)=λm=>xs[i+m]?:=rfl
 rw[e2]at this;rw[this]
theorem iU {t sl:J4}{items:KC JW}{vl vu:JW}{lo hi:J1 Kh}{Q:JW->JY->Prop}(ht:QJ s.heap t items)(hs:s.heap.IsSliceOf sl vl vu .none)(pl:OA vl lo)(pu:OA vu hi)
  (hw:¬ (cJ items.size 0 lo=0/\cJ items.size items.size hi=items.size))
  (h:Q (.ref s.heap.objs.size) { s with heap:=s.heap.push { cls:=.type "tuple",data:=.seq ((items.toList.drop (cJ items.size 0 lo)).take (cJ items.size items.size hi - cJ items.size 0 lo)).toArray } })
  (hsz:items.size<=sizeLine):wpAny (model prog w) A (getItem (.ref t) (.ref sl)) Q E s:=by
 have htake:sizeOk (.seq ((items.toList.drop (cJ items.size 0 lo)).take (cJ items.size items.size hi - cJ items.size 0 lo)).toArray):=by
  show((items.toList.drop (cJ items.size 0 lo)).take (cJ items.size items.size hi - cJ items.size 0 lo)).toArray.size<=sizeLine;rw[Kg,Lj,MA,Ki];omega
 have hj:cJ items.size items.size hi<=items.size:=Ec _ _ (J7 _) hi;obtain⟨os,hos,hcs,hds⟩:=id hs;have hTs:s.TypeIs (.ref sl) "slice":=⟨os,hos,hcs⟩;unfold getItem
 try with_reducible refine Li ?_
 first|refine JU (JZ ?_)|skip
 refine JU (QR ht.typeIs (by decide) ?_)
 refine JU (Lk (name:=Ml "__getitem__") ht.typeIs Mh
  (Ll Mh ht.typeIs Qh ?_ (Qv _ _)))
 show wpAny _ _ (Nn (.ref t) >>= _) _ _ s;refine JU (Sd ht ?_);refine JU (M7 hTs ?_);rw[Ks (by decide)]
 refine JU (fA hs pl pu ?_);have hno:¬ ((((cJ items.size 0 lo:J3):Kh)==0&&(1:Kh)==1&&(cJ items.size items.size hi - cJ items.size 0 lo)==items.size)=true):=by
  intro q;rw[J2,J2]at q;have q1:((cJ items.size 0 lo:J3):Kh)=0:=eq_of_beq q.1.1;have q2:cJ items.size items.size hi - cJ items.size 0 lo=items.size:=eq_of_beq q.2;exact hw ⟨by omega,by omega⟩
 show wpAny _ _ (if (((cJ items.size 0 lo:J3):Kh)==0&&(1:Kh)==1&&(cJ items.size items.size hi - cJ items.size 0 lo)==items.size)=true then _ else _) _ _ s
 rw[KF hno,xN]
 first
  | exact JU (m:=LU _) (KW (JZ ⟨_,rfl,JZ h⟩) htake)
  | exact JU (m:=LU _) (KW (JU (JZ (JZ ⟨_,rfl,JZ h⟩))) htake)
  | exact JU (JU (m:=LU _) (KW (JZ (JZ ⟨_,rfl,JZ h⟩)) htake))
  | exact JU (JU (m:=LU _) (KW (JZ ⟨_,rfl,JZ h⟩) htake))
end
end HT
namespace L2
open PySem PySem.Spec PyProof.Rows
noncomputable abbrev TO:=St->Hp->(J1 Kh->Hp->Prop)->Prop
noncomputable def PO (X:Cx)(e:J1 Kw)(t:TO):Prop:=
 ∀(pins:JT (J4×LJ)) (s:JY) (σ:St) (H:Hp) (Q:J1 Kh->Hp->Prop),Inv X pins σ H s->t σ H Q->
  wpAny (model X.prog X.w) X.A (evalPart e X.env) (λu s'=>∃o H',Inv X pins σ H' s'/\OA u o/\Q o H') X.xe s
noncomputable def Bf:TO:=λ_ H Q=>Q gV H
noncomputable def Gi (t:TE):TO:=λσ H Q=>t σ H λx H1=>∃i,x=.int i/\Q (ba i) H1
section
variable{X:Cx}{e:Kw}{te:TE}{lo hi:J1 Kw}{tl th:TO}{pos p2:MB}
theorem Bg:PO X gV Bf:=by
 intro pins s σ H Q I h;rw[Se];exact JZ ⟨gV,H,I,.none,h⟩
theorem Bh (h:PE X e te):PO X (ba e) (Gi te):=by
 intro pins s σ H Q I hw;rw[evalPart_some];refine bS (h pins s σ H _ I hw) λu s1 ⟨x,H1,I1,r1,q1⟩=>?_
 obtain⟨i,rfl,q⟩:=q1;obtain⟨t,rfl⟩:=r1;exact⟨ba i,H1,I1,.int i t,q⟩
noncomputable def Gj (X:Cx)(r:V->J1 Kh->J1 Kh->Hp->VK->Prop):Prop:=
 ∀(pins:JT (J4×LJ)) (s:JY) (σ:St) (H:Hp) (x:V) (v vl vu:JW) (lo hi:J1 Kh) (sl:J4) (Q:VK),Inv X pins σ H s->RelV x v->s.heap.IsSliceOf sl vl vu .none->OA vl lo->OA vu hi->r x lo hi H Q->
  ∃T id,typeLookup (.type T) "__getitem__" = pure (ba (.builtin id))/\s.TypeIs v T/\wpAny (model X.prog X.w) X.A (getItem v (.ref sl)) (EP X pins σ Q) X.xe s
noncomputable def JK (r:V->J1 Kh->J1 Kh->Hp->VK->Prop)(te:TE)(tl th:TO):TE:=λσ H Q=>te σ H λx H1=>tl σ H1 λl H2=>th σ H2 λu H3=>r x l u H3 Q
theorem xO {r:V->J1 Kh->J1 Kh->Hp->VK->Prop}(hr:Gj X r)(he:PE X e te)(hl:PO X lo tl)(hu:PO X hi th):PE X (.Subscript e (.Slice lo hi gV p2) pos) (JK r te tl th):=by
 intro pins s σ H Q I h;refine Subscript_ (bS (he pins s σ H _ I h) λv s1 ⟨x,H1,I1,r1,q1⟩=>?_)
 refine wpAny_Slice (bS (hl pins s1 σ H1 _ I1 q1) λvl s2 ⟨l,H2,I2,pl,q2⟩=>bS (hu pins s2 σ H2 _ I2 q2) λvu s3 ⟨u,H3,I3,pu,q3⟩=>?_)
 rw[Se];refine JZ ?_;have I4:Inv X pins σ H3 { s3 with heap:=s3.heap.push { cls:=.type "slice",data:=.fields [vl,vu,.none].toArray } }:=I3.kept (t':=s3.toks) λb ob q=>JX _ q
 obtain⟨T,id,hT,ht,hg⟩:=hr pins { s3 with heap:=s3.heap.push { cls:=.type "slice",data:=.fields [vl,vu,.none].toArray } } σ H3 x v vl vu l u s3.heap.objs.size Q I4 r1 (Tn ..) pl pu q3
 show wpAny (model X.prog X.w) X.A (subscriptTail e (.Slice lo hi gV p2) v (.ref s3.heap.objs.size)) (EP X pins σ Q) X.xe { s3 with heap:=s3.heap.push { cls:=.type "slice",data:=.fields [vl,vu,.none].toArray } }
 exact tail_any (ops:=[.ref s3.heap.objs.size,v]) ht hT hg (by with_unfolding_all rfl)
noncomputable def lC (xs:JT V)(lo hi:J1 Kh):JT V:=(xs.drop (HT.cJ xs.length 0 lo)).take (HT.cJ xs.length xs.length hi - HT.cJ xs.length 0 lo)
theorem ko (xs:JT V)(lo hi:J1 Kh):(lC xs lo hi).length<=xs.length:=by
 unfold lC;rw[Lj,MA];omega
noncomputable def IB (K:Kb):V->J1 Kh->J1 Kh->Hp->VK->Prop:=λx lo hi H Q=>∃a xs,x=.ref a/\SqT K H a xs/\
 ¬ (HT.cJ xs.length 0 lo=0/\HT.cJ xs.length xs.length hi=xs.length)/\∀p,H p=gV->Q (.ref p) (bZ H p (.tup (lC xs lo hi)))
theorem Ed:Gj X (IB X.K):=by
 intro pins s σ H x v vl vu lo hi sl Q I rx hs pl pu h;obtain⟨a,xs,rfl,hx,hw,q⟩:=h;cases rx;obtain⟨its,r,ht,hz⟩:=I.tuple hx;have hlen:its.toArray.size=xs.length:=by rw[Kg]; exact r.length.symm
 refine⟨"tuple",_,PyProof.Rows.slot_tuple_getitem.lookup,ht.typeIs,?_⟩;refine HT.iU ht hs pl pu (by rw[hlen]; exact hw) ?_ (by rw[hlen]; exact hz)
 rw[hlen];refine⟨.ref s.heap.objs.size,_,I.laid (t':=s.toks) (o:=.tup (lC xs lo hi)) (λb ob q=>JX _ q) (J7 _) ?_,rfl,q _ (I.hok.fresh (J7 _))⟩
 exact⟨Kc (ko xs lo hi) hz,_,(r.drop (HT.cJ xs.length 0 lo)).take (HT.cJ xs.length xs.length hi - HT.cJ xs.length 0 lo),Rg _ _⟩
theorem Vals.nil_iff {xs:JT V}{us:JT JW}(r:Vals xs us):us=[]↔xs=[]:=by
 cases r with
 | nil=>simp
 | cons _ _=>simp
end
noncomputable def uy (n:J3)(i:Kh):J1 J3:=if 0<=i then(if i < n then ba i.toNat else gV)else if -(n:Kh)<=i then ba (i+n).toNat else gV
noncomputable def qO {α:Type}(xs:JT α)(i:Kh):J1 α:=(uy xs.length i).bind λj=>xs[j]?
theorem uz {n:J3}{i:Kh}{j:J3}(h:uy n i=ba j):seqIndex? i n=ba j/\j < n/\-(n:Kh)<=i/\i < n:=by
 unfold uy at h
 by_cases h0:0<=i
 ·rw[Ks h0]at h
  by_cases h1:i < n
  ·rw[Ks h1]at h;have e:i.toNat=j:=Lh h;exact⟨by rw[Rw h0 h1,e],by omega,by omega,h1⟩
  ·rw[KF h1]at h; cases h
 ·rw[KF h0]at h
  by_cases h1 : -(n:Kh)<=i
  ·rw[Ks h1]at h;have e:(i+n).toNat=j:=Lh h;exact⟨by rw[QS (by omega) h1,e],by omega,h1,by omega⟩
  ·rw[KF h1]at h; cases h
theorem pe {α:Type}{xs:JT α}{i:Kh}{v:α}(h:qO xs i=ba v):∃j,seqIndex? i xs.length=ba j/\xs[j]?=ba v/\j < xs.length/\-(xs.length:Kh)<=i/\i < xs.length:=by
 unfold qO at h;cases e:uy xs.length i with
 | none=>rw[e]at h; cases h
 | some j=>
  rw[e]at h;obtain⟨h1,h2,h3,h4⟩:=uz e;exact⟨j,h1,h,h2,h3,h4⟩
theorem atI_nat {α:Type}{xs:JT α}{j:J3}{v:α}(h:xs[j]?=ba v):qO xs (j:Kh)=ba v:=by
 have hj:j < xs.length:=(J9.mp h).1;have e:uy xs.length (j:Kh)=ba j:=by
  unfold uy;rw[Ks (by omega),Ks (Ma.mpr ‹_›)]; simp
 unfold qO; rw[e]; exact h
noncomputable def pf (b:Kw):Prop:=∀o i,subscripted b false o i=operate [o,i] (getItem o i)
noncomputable def IxR (X:Cx)(r:R2):Prop:=
 ∀(value slice:Kw) (pins:JT (J4×LJ)) (s:JY) (σ:St) (H:Hp) (x y:V) (v u:JW) (Q:VK),Inv X pins σ H s->RelV x v->RelV y u->r x y H Q->
  subscripted slice false v u=operate [v,u] (getItem v u)->wpAny (model X.prog X.w) X.A (subscriptTail value slice v u) (EP X pins σ Q) X.xe s
noncomputable def MtR (X:Cx)(id:LB)(r:V->JT V->Hp->VK->Prop):Prop:=
 ∀(pins:JT (J4×LJ)) (s:JY) (σ:St) (H:Hp) (x:V) (xs:JT V) (v:JW) (us:JT JW) (Q:VK),Inv X pins σ H s->RelV x v->Vals xs us->r x xs H Q->
  wpAny (model X.prog X.w) X.A (call (.builtin id) (v::us)) (EP X pins σ Q) X.xe s
section
variable{X:Cx}{a b:Kw}{ta tb:TE}{pos:MB}
theorem Gk {r:R2}(hr:IxR X r)(ha:PE X a ta)(hb:PE X b tb)(hs:pf b):PE X (.Subscript a b pos) (HH r ta tb):=by
 intro pins s σ H Q I h;exact Subscript_ (DU ha hb I h λv u s2 x y H2 I2 rx ry q=>hr a b pins s2 σ H2 x y v u Q I2 rx ry q (hs _ _))
noncomputable def IC (K:Kb):R2:=λx y H Q=>∃p xs i v,x=.ref p/\y=.int i/\SqL K H p xs/\qO xs i=ba v/\Q v H
noncomputable def ID (K:Kb):R2:=λx y H Q=>∃p xs i v,x=.ref p/\y=.int i/\SqT K H p xs/\qO xs i=ba v/\Q v H
noncomputable def IE:R2:=λx y H Q=>∃z i c,x=.str z/\y=.int i/\z.length<=sizeLine/\qO z.cps.toList i=ba c/\Q (.str ⟨[c].toArray⟩) H
theorem Bj:IxR X (IC X.K):=by
 intro value slice pins s σ H x y v u Q I rx ry h hs;obtain⟨p,xs,i,z,rfl,rfl,hq,he,q⟩:=h;cases rx;obtain⟨t,rfl⟩:=ry;obtain⟨its,r,pl,hz⟩:=I.list hq;obtain⟨j,h1,h2,h3,h4,h5⟩:=pe he;obtain⟨w,ew,rw'⟩:=r.get h2;have hl:=r.length;have hn:=jF;have fin:EP X pins σ Q w s:=⟨z,H,I,rw',q⟩
 by_cases h0:0<=i
 ·have hj:i.toNat=j:=by
   rw[Rw h0 h5]at h1;exact Lh h1
  exact item_listR pl.isList h0 (by omega) (by rw[hj]; simpa using ew) fin hs
 ·have hj:(i+(its.toArray.size:Kh)).toNat=j:=by
   rw[QS (by omega) h4]at h1
   rw[Kg,<- hl];exact Lh h1
  exact NW (x:=w) pl.isList.typeIs slot_list_getitem.lookup
   (wpAny_getItem_list_neg (Q:=λr s'=>r=w/\EP X pins σ Q r s') pl.isList (by omega) (by rw[Kg] <;> omega) (by omega) (by rw[hj]; simpa using ew) ⟨rfl,fin⟩) hs
theorem Ee:IxR X (ID X.K):=by
 intro value slice pins s σ H x y v u Q I rx ry h hs;obtain⟨p,xs,i,z,rfl,rfl,hq,he,q⟩:=h;cases rx;obtain⟨t,rfl⟩:=ry;obtain⟨its,r,pl,hz⟩:=I.tuple hq;obtain⟨j,h1,h2,h3,h4,h5⟩:=pe he;obtain⟨w,ew,rw'⟩:=r.get h2;have hl:=r.length;have hn:=jF;have fin:EP X pins σ Q w s:=⟨z,H,I,rw',q⟩;exact NW (x:=w) pl.typeIs slot_tuple_getitem.lookup
  (getItem_tuple (j:=j) (Q:=λr s'=>r=w/\EP X pins σ Q r s') pl (by omega) (by omega) (by rw[Kg,<- hl]; exact h1) (by simpa using ew) ⟨rfl,fin⟩) hs
theorem Ef:IxR X IE:=by
 intro value slice pins s σ H x y v u Q I rx ry h hs;obtain⟨z,i,c,rfl,rfl,hz,he,q⟩:=h;obtain⟨t,rfl⟩:=rx;obtain⟨t',rfl⟩:=ry;obtain⟨j,h1,h2,h3,h4,h5⟩:=pe he;have hl:z.cps.toList.length=z.length:=by simp[To]
 rw[hl]at h1 h4 h5;have hn:=jF;exact tail_any (typeIs_str s z t) slot_str_getitem.lookup (getItem_str (c:=c) (by
  have e1:decide (i < -(2 ^ 63:Kh))=false:=KN (by omega)
  have e2:decide (i>=2 ^ 63)=false:=KN (by omega)
  rw[e1,e2,Qo]) (by rw[h1]; simpa using h2) ⟨.str ⟨[c].toArray⟩,H,I.tok _,⟨_,rfl⟩,q⟩) hs
theorem sV (its:JT JW)(n j:J3)(u:JW):LC (·.setIfInBounds j u) { cls:=.type "list",data:=.seq its.toArray n }={ cls:=.type "list",data:=.seq (its.set j u).toArray n }:=by
 simp[LC]
theorem Inv.lst {pins:JT (J4×LJ)}{σ:St}{H:Hp}{s:JY}{p:J4}{xs:JT V}(I:Inv X pins σ H s)(h:H p=ba (.lst xs)) :
  ∃(its:JT JW) (n:J3),Vals xs its/\s.heap.get? p=ba { cls:=.type "list",data:=.seq its.toArray n }/\xs.length<=sizeLine:=by
 obtain⟨z,its,n,r,e⟩:=I.hok p _ h;exact⟨its,n,r,e,z⟩
theorem Inv.lstUpd {pins:JT (J4×LJ)}{σ:St}{H:Hp}{s:JY}{p:J4}{xs ys:JT V}{its its':JT JW}{n n':J3}{f:LJ->LJ}(I:Inv X pins σ H s)(h:H p=ba (.lst xs))
  (ho:s.heap.get? p=ba { cls:=.type "list",data:=.seq its.toArray n }) (hf:f { cls:=.type "list",data:=.seq its.toArray n }={ cls:=.type "list",data:=.seq its'.toArray n' }) (r:Vals ys its') (hz:ys.length<=sizeLine) (t:J3) :
  Inv X pins σ (bZ H p (.lst ys)) { s with heap:=s.heap.update p f,toks:=t }:=by
 have e:(s.heap.update p f).get? p=ba { cls:=.type "list",data:=.seq its'.toArray n' }:=by
  rw[LH f ho (by rw[hf] <;> rfl),hf]
 refine I.write (x:=p) (e:=p) (by rw[h]; trivial) (.inl rfl) (λb u hb q=>(K5 _ _ (Ne.symm hb)).trans q) ⟨_,e⟩ ?_
 exact⟨hz,its',n',r,e⟩
noncomputable def Gm:V->V->V->Hp->(Hp->Prop)->Prop:=λo i v H Q=>∃p xs k j,o=.ref p/\i=.int k/\H p=ba (.lst xs)/\uy xs.length k=ba j/\Q (bZ H p (.lst (xs.set j v)))
theorem xP:DN X Gm:=by
 intro pins s σ H o i v ov iv u Q I ro ri rv h;obtain⟨p,xs,k,j,rfl,rfl,hp,hj,q⟩:=h;cases ro;obtain⟨t,rfl⟩:=ri;obtain⟨its,n,r,ho,hz⟩:=I.lst hp;obtain⟨h1,h2,h3,h4⟩:=uz hj;have hl:=r.length;have hn:=jF;have I':Inv X pins σ (bZ H p (.lst (xs.set j v))) { s with heap:=s.heap.update p (LC (·.setIfInBounds j u)) }:=
  I.lstUpd hp ho (sV its n j u) (r.set rv j) (by rw[List.length_set]; exact hz) s.toks
 by_cases h0:0<=k
 ·have hk:k.toNat=j:=by
   rw[Rw h0 h4]at h1;exact Lh h1
  exact PySem.W.ki_setAt ho h0 (by omega) (by rw[Kg,<- hl]; exact h4) (by rw[hk]; exact⟨_,I',q⟩)
 ·have hk:(k+(its.toArray.size:Kh)).toNat=j:=by
   rw[QS (by omega) h3]at h1
   rw[Kg,<- hl];exact Lh h1
  exact PySem.W.ki_setBack ho (by omega) (by rw[Kg,<- hl]; exact h3) (by omega) (by rw[hk]; exact⟨_,I',q⟩)
theorem pg (lo hi:J1 Kh)(n:J3):(sliceBounds lo hi gV n).1=((HT.cJ n 0 lo:J3):Kh)/\(sliceBounds lo hi gV n).2.1=((HT.cJ n n hi:J3):Kh)/\(sliceBounds lo hi gV n).2.2=1:=by
 refine⟨?_,?_,rfl⟩
 ·cases lo with
  | none=>simp[sliceBounds,HT.cJ]
  | some i=>
   simp only[sliceBounds,HT.cJ,Rj,show(1:Kh) > 0 by decide,LQ]
   by_cases h:i < 0
   ·simp only[h,LQ] <;> omega
   ·simp only[h,Lr] <;> omega
 ·cases hi with
  | none=>simp[sliceBounds,HT.cJ]
  | some i=>
   simp only[sliceBounds,HT.cJ,Rj,show(1:Kh) > 0 by decide,LQ]
   by_cases h:i < 0
   ·simp only[h,LQ] <;> omega
   ·simp only[h,Lr] <;> omega
theorem mX (its:JT JW)(lo hi:J1 Kh):slicePick its.toArray lo hi gV=((its.drop (HT.cJ its.length 0 lo)).take (HT.cJ its.length its.length hi - HT.cJ its.length 0 lo)).toArray:=by
 obtain⟨h1,h2,h3⟩:=pg lo hi its.toArray.size;unfold slicePick;rw[h1,h2,h3];simp only[sliceRange_one,pick_run,Kg] <;> rfl
noncomputable def IF (K:Kb):V->J1 Kh->J1 Kh->Hp->VK->Prop:=λx lo hi H Q=>∃a xs,x=.ref a/\SqL K H a xs/\∀p,H p=gV->Q (.ref p) (bZ H p (.lst (lC xs lo hi)))
theorem Bk:Gj X (IF X.K):=by
 intro pins s σ H x v vl vu lo hi sl Q I rx hs pl pu h;obtain⟨a,xs,rfl,hx,q⟩:=h;cases rx;obtain⟨its,r,ht,hz⟩:=I.list hx;have hlen:=r.length;refine⟨"list",_,slot_list_getitem.lookup,ht.isList.typeIs,?_⟩;refine wpAny_getItem_list_slice ht.isList hs pl pu .none (by simp) ?_ (by rw[Kg] <;> omega)
 rw[mX,<- hlen];refine⟨.ref s.heap.objs.size,_,I.laid (t':=s.toks) (o:=.lst (lC xs lo hi)) (λb ob q=>JX _ q) (J7 _) ?_,rfl,q _ (I.hok.fresh (J7 _))⟩
 exact⟨Kc (ko xs lo hi) hz,_,0,(r.drop (HT.cJ xs.length 0 lo)).take (HT.cJ xs.length xs.length hi - HT.cJ xs.length 0 lo),Ke _ rfl⟩
noncomputable def hW:V->KD
 | .non=>true
 | .bl _=>true
 | .int _=>true
 | .str _=>true
 | _=>false
noncomputable def Bl:V->V->KD
 | .non,.non=>true
 | .bl a,.bl b=>a==b
 | .bl a,.int b=>(if a then 1 else 0)==b
 | .int a,.bl b=>a==(if b then 1 else 0)
 | .int a,.int b=>a==b
 | .str a,.str b=>a==b
 | _,_=>false
theorem Eg {A:KP}{s:JY}{y x:V}{u v:JW}(ry:RelV y u)(rx:RelV x v)(fy:hW y=true)(fx:hW x=true):OC A s u v (Bl y x):=by
 cases y with
 | non=>
  cases ry;cases x with
  | non=>cases rx; exact TJ _
  | bl b=>cases rx; exact SU b
  | int b=>obtain⟨t,rfl⟩:=rx; exact Tc b t
  | str b=>obtain⟨t,rfl⟩:=rx; exact Td b t
  | _=>exact absurd (show false=true from fx) Ku
 | bl a=>
  cases ry;cases x with
  | non=>cases rx; exact SV a
  | bl b=>cases rx; exact SW a b
  | int b=>obtain⟨t,rfl⟩:=rx; exact Te a b t
  | str b=>obtain⟨t,rfl⟩:=rx; exact Tf a b t
  | _=>exact absurd (show false=true from fx) Ku
 | int a=>
  obtain⟨t',rfl⟩:=ry;cases x with
  | non=>cases rx; exact Th a t'
  | bl b=>cases rx; exact Ti a t' b
  | int b=>obtain⟨t,rfl⟩:=rx; exact Tp a t' b t
  | str b=>obtain⟨t,rfl⟩:=rx; exact Qr a t' b t
  | _=>exact absurd (show false=true from fx) Ku
 | str a=>
  obtain⟨t',rfl⟩:=ry;cases x with
  | non=>cases rx; exact Tj a t'
  | bl b=>cases rx; exact Tk a t' b
  | int b=>obtain⟨t,rfl⟩:=rx; exact Qs a t' b t
  | str b=>obtain⟨t,rfl⟩:=rx; exact Tq a t' b t
  | _=>exact absurd (show false=true from fx) Ku
 | _=>exact absurd (show false=true from fy) Ku
noncomputable def sW (x:V)(u:JW):KD:=match u with
 | .none=>Bl .non x
 | .bool b=>Bl (.bl b) x
 | .int i _=>Bl (.int i) x
 | .str z _=>Bl (.str z) x
 | _=>false
theorem xQ {x y:V}{u:JW}(r:RelV y u)(f:hW y=true):sW x u=Bl y x:=by
 cases y with
 | non=>cases r; rfl
 | bl b=>cases r; rfl
 | int i=>obtain⟨t,rfl⟩:=r; rfl
 | str z=>obtain⟨t,rfl⟩:=r; rfl
 | _=>exact absurd (show false=true from f) Ku
theorem iV {x:V}:∀ {xs:JT V} {us:JT JW},Vals xs us->xs.all hW=true->us.any (sW x)=xs.any λy=>Bl y x
 | _,_,.nil,_=>rfl
 | y::xs,u::us,.cons r t,f=>by
  rw[Le,J2]at f;rw[Mz,Mz,xQ r f.1,iV t f.2]
theorem gc {A:KP}{s:JY}{x:V}{v:JW}(rx:RelV x v)(fx:hW x=true):∀ {xs:JT V} {us:JT JW},Vals xs us->xs.all hW=true->∀u∈us,OC A s u v (sW x u)
 | _,_,.nil,_=>λu hu=>by cases hu
 | y::xs,u::us,.cons r t,f=>λu' hu=>by
  rw[Le,J2]at f;rcases Kz.mp hu with rfl|hu
  ·rw[xQ r f.1]; exact Eg r rx f.1 fx
  ·exact gc rx fx t f.2 u' hu
noncomputable def HJ (x:V)(xs:JT V):KD:=xs.any λy=>Bl y x
noncomputable def IG (K:Kb)(neg:KD):R2:=λx y H Q=>∃p xs,y=.ref p/\(SqL K H p xs\/SqT K H p xs)/\hW x=true/\xs.all hW=true/\Q (.bl (if neg then !HJ x xs else HJ x xs)) H
theorem vX:OpR X (compareOp .In) (IG X.K false):=by
 intro pins s σ H x y v u Q I rx ry h;obtain⟨p,xs,rfl,hq,fx,fs,q⟩:=h;cases ry;rcases hq with hq|hq
 ·obtain⟨its,r,pl,hz⟩:=I.list hq;refine RD (sW x) pl.isList (λw hw=>gc rx fx r fs w (by simpa using hw)) ⟨.bl _,H,I,rfl,?_⟩
  rw[show its.toArray.any (sW x)=its.any (sW x) by simp,iV r fs]
  exact q
 ·obtain⟨its,r,pl,hz⟩:=I.tuple hq;refine SeqAt.in_tupleAt (sW x) pl (λw hw=>gc rx fx r fs w (by simpa using hw)) ⟨.bl _,H,I,rfl,?_⟩
  rw[show its.toArray.any (sW x)=its.any (sW x) by simp,iV r fs]
  exact q
theorem ph:OpR X (compareOp .NotIn) (IG X.K true):=by
 intro pins s σ H x y v u Q I rx ry h;obtain⟨p,xs,rfl,hq,fx,fs,q⟩:=h;cases ry;rcases hq with hq|hq
 ·obtain⟨its,r,pl,hz⟩:=I.list hq;refine Qw (sW x) pl.isList (λw hw=>gc rx fx r fs w (by simpa using hw)) ⟨.bl _,H,I,rfl,?_⟩
  rw[show its.toArray.any (sW x)=its.any (sW x) by simp,iV r fs]
  exact q
 ·obtain⟨its,r,pl,hz⟩:=I.tuple hq;refine SeqAt.notIn_tupleAt (sW x) pl (λw hw=>gc rx fx r fs w (by simpa using hw)) ⟨.bl _,H,I,rfl,?_⟩
  rw[show its.toArray.any (sW x)=its.any (sW x) by simp,iV r fs]
  exact q
theorem po:CallR X (.type "list") (λxs H Q=>∃p ys,xs=[.ref p]/\(SqL X.K H p ys\/SqT X.K H p ys)/\∀l,H l=gV->Q (.ref l) (bZ H l (.lst ys))):=by
 intro pins s σ H xs us Q I r h;obtain⟨p,ys,rfl,hq,q⟩:=h;obtain⟨u,rfl,rx⟩:=nS r;cases rx;have fin:∀(its:JT JW),Vals ys its->ys.length<=sizeLine->∀(h':K6) (c':J3),(∀b o',s.heap.get? b=ba o'->h'.get? b=ba o')->
   h'.get? s.heap.objs.size=ba { cls:=.type "list",dict:=gV,data:=.seq its.toArray c',slots:=#[] }->EP X pins σ Q (.ref s.heap.objs.size) { s with heap:=h' }:=λits r' hz h' c' kp e=>
  ⟨.ref s.heap.objs.size,_,I.laid (t':=s.toks) kp (J7 _) (show ObjOk X.prog X.w _ h' _ (.lst ys)from⟨hz,its,c',r',e⟩),rfl,q _ (I.hok.fresh (J7 _))⟩
 rcases hq with hq|hq
 ·obtain⟨its,r',pl,hz⟩:=I.list hq;have hlen:=r'.length;obtain⟨o,ho,hc,n,hd⟩:=pl.isList;exact Sg p (.inl rfl) ho hc hd (λh' c' kp e=>fin its r' hz h' c' kp e) (by simp only[Kg] <;> omega)
 ·obtain⟨its,r',pl,hz⟩:=I.tuple hq;have hlen:=r'.length;obtain⟨o,ho,hc,n,hd⟩:=pl;exact Sg p (.inr rfl) ho hc hd (λh' c' kp e=>fin its r' hz h' c' kp e) (by simp only[Kg] <;> omega)
theorem hX:CallR X (.type "tuple") (λxs H Q=>∃p ys,xs=[.ref p]/\((SqL X.K H p ys/\∀l,H l=gV->Q (.ref l) (bZ H l (.tup ys)))\/(SqT X.K H p ys/\Q (.ref p) H))):=by
 intro pins s σ H xs us Q I r h;obtain⟨p,ys,rfl,h⟩:=h;obtain⟨u,rfl,rx⟩:=nS r;cases rx;rcases h with⟨hq,q⟩|⟨hq,q⟩
 ·obtain⟨its,r',pl,hz⟩:=I.list hq;have hlen:=r'.length;refine call_tuple_list pl.isList (λh' kp=>?_) (by simp only[Kg] <;> omega)
  have I1:Inv X pins σ H { s with heap:=h' }:=I.kept (t':=s.toks) kp
  have I2:Inv X pins σ (bZ H h'.objs.size (.tup ys)) { s with heap:=h'.push { cls:=.type "tuple",data:=.seq its.toArray } }:=
   I1.laid (t':=s.toks) (λb o e=>JX _ e) (J7 _) (show ObjOk X.prog X.w _ _ _ (.tup ys)from⟨hz,its,r',Rg _ _⟩)
  exact⟨.ref h'.objs.size,_,I2,rfl,q _ (I1.hok.fresh (J7 _))⟩
 ·obtain⟨its,r',pl,hz⟩:=I.tuple hq;exact call_tuple_same pl ⟨.ref p,H,I,rfl,q⟩
noncomputable def IH (K:Kb)(T:LB)(x:V)(H:Hp):Prop:=match x with
 | .str _=>T = "str"
 | .int _=>T = "int"
 | .ref p=>(T = "list"/\∃xs,SqL K H p xs)\/(T = "tuple"/\∃o,K.lookup p=ba o/\o.cls=.type "tuple"/\o.dict=gV)\/
   (T = "dict"/\((∃kvs,H p=ba (.dK kvs))\/∃kvs,H p=ba (.dT kvs)))\/(T = "set"/\∃S n,H p=ba (.set S n))
 | _=>Lw
theorem xR {pins:JT (J4×LJ)}{σ:St}{H:Hp}{s:JY}{T:LB}{x:V}{v:JW}(I:Inv X pins σ H s)(r:RelV x v)(ty:IH X.K T x H) :
  s.TypeIs v T/\∀a,v=.ref a->∃ob,s.heap.get? a=ba ob/\ob.dict=gV:=by
 cases x with
 | str z=>
  obtain⟨t,rfl⟩:=r;cases(show T = "str" from ty)
  exact⟨typeIs_str s z t,λ_ e=>nomatch e⟩
 | int i=>
  obtain⟨t,rfl⟩:=r;cases(show T = "int" from ty)
  exact⟨RQ s i t,λ_ e=>nomatch e⟩
 | ref p=>
  cases r;rcases ty with⟨rfl,xs,hq⟩|⟨rfl,o,hk,hc,hd⟩|⟨rfl,hk⟩|⟨rfl,S,n,hk⟩
  ·obtain⟨its,_,pl,_⟩:=I.list hq;refine⟨pl.isList.typeIs,λa e=>?_⟩
   cases e;obtain⟨o,n,e,c,hd,_⟩:=pl;exact⟨o,e,hd⟩
  ·refine⟨⟨o,I.kIn p o hk,hc⟩,λa e=>?_⟩
   cases e;exact⟨o,I.kIn _ o hk,hd⟩
  ·have z:∃o,s.heap.get? p=ba o/\o.ExactDict:=by
    rcases hk with⟨kvs,hk⟩|⟨kvs,hk⟩
    ·obtain⟨_,_,_,_,o,_,_,e,ex,_⟩:=I.hok p _ hk;exact⟨o,e,ex⟩
    ·obtain⟨_,_,_,_,o,_,_,e,ex,_⟩:=I.hok p _ hk;exact⟨o,e,ex⟩
   obtain⟨o,e,ex⟩:=z;refine⟨⟨o,e,ex.1⟩,λa e2=>?_⟩
   cases e2;exact⟨o,e,ex.2.1⟩
  ·obtain⟨o,_,_,_,e,ex,_⟩:=I.hok p _ hk;refine⟨⟨o,e,ex.1⟩,λa e2=>?_⟩
   cases e2;exact⟨o,e,ex.2.1⟩
 | _=>exact Lw.elim ty
variable{o e:Kw}{es:JT Kw}{to:TE}{t:TA}{name:Kn}{apos cpos:MB}{T id:LB}{r:V->JT V->Hp->VK->Prop}
end
noncomputable def II (X:Cx)(id:LB)(r:V->JT V->Hp->VK->Prop):Prop:=
 ∀(pins:JT (J4×LJ)) (s:JY) (σ:St) (H:Hp) (x:V) (xs:JT V) (v:JW) (us:JT JW) (Q:VK),Inv X pins σ H s->RelV x v->Vals xs us->r x xs H Q->
  wpAny (model X.prog X.w) X.A (call (.builtin id) (v::us)) (EP X pins σ Q) X.xe s
theorem Vals.one:∀ {x:V} {us:JT JW},Vals [x] us->∃u,us=[u]/\RelV x u
 | _,_,.cons r .nil=>⟨_,rfl,r⟩
theorem Vals.eraseIdx:∀ {xs:JT V} {us:JT JW} (i:J3),Vals xs us->Vals (xs.eraseIdx i) (us.eraseIdx i)
 | _,_,_,.nil=>.nil
 | _,_,0,.cons _ t=>t
 | _,_,i+1,.cons r t=>.cons r (Vals.eraseIdx i t)
theorem Vals.rep {xs:JT V}{us:JT JW}(h:Vals xs us):∀k:J3,Vals (KY k xs).flatten (KY k us).flatten
 | 0=>.nil
 | k+1=>by
  rw[LO,LO,MN,MN];exact Vals.append h (Vals.rep h k)
theorem nY {α:Type}:∀(l:JT α) (i:J3),(l.eraseIdx i).length<=l.length
 | [],_=>J7 _
 | _::_,0=>MO _
 | _::r,i+1=>N6 (nY r i)
theorem nZ (its:JT JW):∀(k:J3) (acc:JT JW),
  RS (λx1 x2=>x1++x2) acc.toArray (KY k its.toArray)=(acc++(KY k its).flatten).toArray
 | 0,acc=>by simp
 | k+1,acc=>by
  have e:acc.toArray++its.toArray=(acc++its).toArray:=by simp
  have e2:(acc++its)++(KY k its).flatten=acc++(KY (k+1) its).flatten:=by
   rw[LO,MN,Mq]
  rw[<- e2,<- nZ its k (acc++its),<- e,LO,List.foldl_cons]
section
variable{X:Cx}{pins:JT (J4×LJ)}{σ:St}{H:Hp}{s:JY}{l b:J4}{xs ys zs:JT V}
theorem Inv.lset {its its':JT JW}{n:J3}{f:KC JW->KC JW}{t':J3}(I:Inv X pins σ H s)(hH:H l=ba (.lst xs))
  (e:s.heap.get? l=ba { cls:=.type "list",data:=.seq its.toArray n }) (hf:f its.toArray=its'.toArray) (hv:Vals ys its') (hz:ys.length<=sizeLine) :
  Inv X pins σ (bZ H l (.lst ys)) { s with heap:=s.heap.update l (LC f),toks:=t' }:=by
 have q:=Rk e f;rw[hf]at q;refine I.write (x:=l) (e:=l) (by rw[hH]; exact trivial) (.inl rfl) (λb' u hb hu=>(K5 s.heap (LC f) (Ne.symm hb)).trans hu) ⟨_,q⟩ ?_
 exact⟨hz,its',_,hv,q⟩
theorem Inv.lnew {its:JT JW}{t':J3}(I:Inv X pins σ H s)(hv:Vals ys its)(hz:ys.length<=sizeLine) :
  Inv X pins σ (bZ H s.heap.objs.size (.lst ys)) { s with heap:=s.heap.push { cls:=.type "list",data:=.seq its.toArray },toks:=t' }:=
 I.laid (λ_ _ q=>JX _ q) (J7 _) ⟨hz,its,0,hv,Ke _ rfl⟩
theorem Inv.fresh (I:Inv X pins σ H s):H s.heap.objs.size=gV:=I.hok.fresh (J7 _)
theorem Inv.lstM (I:Inv X pins σ H s)(hH:H l=ba (.lst xs)):xs.length<=sizeLine/\∃(its:JT JW) (n:J3),Vals xs its/\xs.length=its.length/\s.heap.get? l=ba { cls:=.type "list",data:=.seq its.toArray n }:=by
 obtain⟨z,its,n,r,e⟩:=I.hok l _ hH;exact⟨z,its,n,r,r.length,e⟩
theorem qP {n:J3}(h:n<=sizeLine):MU n=false:=by
 unfold MU;exact KN (by omega)
end
section
variable{X:Cx}
noncomputable def Bm:V->JT V->Hp->VK->Prop:=λx vs H Q=>∃l xs y,x=.ref l/\vs=[y]/\H l=ba (.lst xs)/\xs.length < sizeLine/\Q .non (bZ H l (.lst (xs++[y])))
theorem vY:II X "list.append" Bm:=by
 intro pins s σ H x vs v us Q I rx rv h;obtain⟨l,xs,y,rfl,rfl,hH,hz,q⟩:=h;cases rx;obtain⟨u,rfl,ru⟩:=rv.one;obtain⟨z,its,n,r,hl,e⟩:=I.lstM hH;refine OD F.slot_list_append ⟨_,e,rfl⟩ F.entry_list_append (F.args_list_append_2 _ _) (QT l its.toArray n u (by rw[Kg]; omega)) ⟨e,?_⟩
 refine⟨.non,_,I.lset (its':=its++[u]) hH e (by simp) (r.append (.cons ru .nil)) ?_,rfl,q⟩
 rw[J8,LS];exact QU ‹_›
noncomputable def Bn:V->JT V->Hp->VK->Prop:=λx vs H Q=>∃l b xs zs,x=.ref l/\vs=[.ref b]/\H l=ba (.lst xs)/\H b=ba (.lst zs)/\xs.length+zs.length<=sizeLine/\Q .non (bZ H l (.lst (xs++zs)))
theorem vZ:II X "list.extend" Bn:=by
 intro pins s σ H x vs v us Q I rx rv h;obtain⟨l,b,xs,zs,rfl,rfl,hH,hB,hz,q⟩:=h;cases rx;obtain⟨u,rfl,ru⟩:=rv.one;cases ru;obtain⟨z,its,n,r,hl,e⟩:=I.lstM hH;obtain⟨z2,its2,n2,r2,hl2,e2⟩:=I.lstM hB;have hsz:its.toArray.size+its2.toArray.size<=sizeLine:=by rw[Kg,Kg]; omega
 have hlong:¬ (!its.toArray.isEmpty&&MU (its.toArray.size+its2.toArray.size))=true:=by
  rw[qP hsz,OE];exact Ku
 refine OD F.slot_list_extend ⟨_,e,rfl⟩ F.entry_list_extend (F.args_list_extend_2 _ _)
  (QV l its.toArray n b its2.toArray n2 hlong (by rw[Kg]; omega) (MP ‹_›)) ⟨e,e2,?_⟩
 refine⟨.non,_,I.lset (its':=its++its2) hH e (by simp) (r.append r2) ?_,rfl,q⟩
 rw[J8]
 assumption
noncomputable def Eh:V->JT V->Hp->VK->Prop:=λx vs H Q=>∃l xs i k y,x=.ref l/\vs=[.int i]/\H l=ba (.lst xs)/\-(2 ^ 63)<=i/\i < 2 ^ 63/\seqIndex? i xs.length=ba k/\xs[k]?=ba y/\Q y (bZ H l (.lst (xs.eraseIdx k)))
theorem xS:II X "list.pop" Eh:=by
 intro pins s σ H x vs v us Q I rx rv h;obtain⟨l,xs,i,k,y,rfl,rfl,hH,h1,h2,hk,hy,q⟩:=h;cases rx;obtain⟨u,rfl,ru⟩:=rv.one;obtain⟨t,rfl⟩:=ru;obtain⟨z,its,n,r,hl,e⟩:=I.lstM hH;obtain⟨w,hw,rw'⟩:=r.get hy;refine OD F.slot_list_pop ⟨_,e,rfl⟩ F.entry_list_pop (F.args_list_pop_2 _ _)
  (SX l its.toArray n i t k w (RT h1 h2) (by rw[Kg,<- hl]; exact hk) (by rw[<- Ls]; exact hw) (by rw[Kg]; omega)) ⟨e,?_⟩
 refine⟨y,_,I.lset (its':=its.eraseIdx k) hH e ?_ (r.eraseIdx k) ?_,rw',q⟩
 ·show its.toArray.eraseIdxIfInBounds k=(its.eraseIdx k).toArray;rw[List.eraseIdxIfInBounds_toArray]
 ·have:=nY xs k;exact Kc ‹_› ‹_›
noncomputable def IJ:R2:=λx y H Q=>∃l b xs zs,x=.ref l/\y=.ref b/\H l=ba (.lst xs)/\H b=ba (.lst zs)/\xs.length+zs.length<=sizeLine/\∀p,H p=gV->Q (.ref p) (bZ H p (.lst (xs++zs)))
theorem Ei:OpR X (binaryOp .Add) IJ:=by
 intro pins s σ H x y v u Q I rx ry h;obtain⟨l,b,xs,zs,rfl,rfl,hH,hB,hz,q⟩:=h;cases rx;cases ry;obtain⟨z,its,n,r,hl,e⟩:=I.lstM hH;obtain⟨z2,its2,n2,r2,hl2,e2⟩:=I.lstM hB;refine PySem.P.add_list e e2 ?_ (by rw[Kg,Kg]; omega)
 have ea:its.toArray++its2.toArray=(its++its2).toArray:=by simp
 rw[ea];exact⟨.ref _,_,I.lnew (t':=s.toks) (r.append r2) (by rw[J8]; assumption),rfl,q _ I.fresh⟩
noncomputable def IK:R2:=λx y H Q=>∃l k xs,x=.ref l/\y=.int k/\H l=ba (.lst xs)/\-(2 ^ 63)<=k/\k < 2 ^ 63/\xs.length*k.toNat<=sizeLine/\
 ∀p,H p=gV->Q (.ref p) (bZ H p (.lst (KY k.toNat xs).flatten))
theorem Bo {α:Type}(xs:JT α)(k:J3):(KY k xs).flatten.length=k*xs.length:=by
 induction k with
 | zero=>simp
 | succ k ih=>rw[LO,MN,J8,ih,Pp,Nat.add_comm]
theorem Ej:OpR X (binaryOp .Mult) IK:=by
 intro pins s σ H x y v u Q I rx ry h;obtain⟨l,k,xs,rfl,rfl,hH,h1,h2,hz,q⟩:=h;cases rx;obtain⟨t,rfl⟩:=ry;obtain⟨z,its,n,r,hl,e⟩:=I.lstM hH;have hlen:its.toArray.size*k.toNat<=sizeLine:=by rw[Kg,<- hl]; exact hz
 have hcap:¬ its.toArray.size*k.toNat > (2 ^ 63 - 1) / 8:=by
  have:(sizeLine:J3)<=(2 ^ 63 - 1) / 8:=by decide
  omega
 have hfit:¬ (!RV k)=true:=by
  rw[RT h1 h2];exact Ku
 have hlong:¬ MU (its.toArray.size*k.toNat)=true:=by
  rw[qP hlen];exact Ku
 have hnew:RS (λx1 x2=>x1++x2) #[] (KY (if its.toArray.isEmpty=true then 0 else k.toNat) its.toArray)=(KY k.toNat its).flatten.toArray:=by
  have f0:∀m:J3,RS (λx1 x2=>x1++x2) #[] (KY m its.toArray)=(KY m its).flatten.toArray:=λm=>by
   have:=nZ its m [];rw[List.nil_append]at this;exact this
  rw[f0];cases its with
  | nil=>simp
  | cons a r'=>rw[KF (by simp)]
 refine wpAny_binaryOp_repeat_ref (T:="list") (U:="int") (by decide) ⟨_,e,rfl⟩ (λs'=>RQ s' k t) noFill_list_mul F.fills_int_mul F.slot_int_rmul repeat_list F.slot_int_index.lookup
  (OD F.slot_int_rmul (RQ s k t) F.entry_int_rmul (F.args_int_rmul_2 _ _) (int___rmul___int_list k t l its.toArray n)
   ⟨e,rfl,⟨_,e,rfl⟩,OD F.slot_list_mul ⟨_,e,rfl⟩ F.entry_list_mul (F.args_list_mul_2 _ _) (QH l its.toArray n k t hfit hcap hlong) ⟨e,?_⟩⟩)
 rw[hnew];exact⟨.ref _,_,I.lnew (t':=s.toks) (r.rep k.toNat) (by rw[Bo,Nu]; exact hz),rfl,q _ I.fresh⟩
end
section
variable{X:Cx}{pins:JT (J4×LJ)}{σ:St}{H:Hp}{s:JY}{a:J4}{y v:V}{u r:JW}{o:J1 V}{A:KP}{E:JW->JY->Prop}
theorem Inv.big (I:Inv X pins σ H s):sysModules < s.heap.objs.size:=by
 have h:mainGlobals < s.heap.objs.size:=(I.mod.glob.keeps I.bk).lt;exact Pq (by decide) h
theorem pr {h':K6}{t':J3}{ob:HO}(I:Inv X pins σ H s)(mu:FP (H a))(hs:L9 a s.heap h')(he:∃q,h'.get? a=ba q)(new:ObjOk X.prog X.w (bZ H a ob) h' a ob) :
  Inv X pins σ (bZ H a ob) { s with heap:=h',toks:=t' }:=
 I.write (x:=a) (e:=a) mu (.inl rfl) (λb q hb z=>(hs.2 b hb).trans z) he new
end
noncomputable abbrev VV:JT (V×V)->JT (JW×JW)->Prop:=Pj λp q=>RelV p.1 q.1/\RelV p.2 q.2
end L2
namespace Att
open PySem PySem.W PySem.Calls PyProof.Rows
theorem kL {P:RW}{h:K6}:∀(ns:JT Kh) (vs:JT JW),WellAll P h vs (ns.map WData.int)->RM vs ns:=by
 intro ns
 induction ns with
 | nil=>
  intro vs w;rw[List.map_nil]at w;cases w;exact .nil
 | cons n ns ih=>
  intro vs w;rw[Lu]at w;cases w with
  | cons a b=>
   cases a;exact .cons _ _ (ih _ b)
theorem v4 {l:OpenLaw}{n:J3}(hn:l.most=ba n){P:RW}{h:K6}{args:JT WData}{vals:JT JW}
  (hpre:l.row.toRowW.claim.pre args=true) (hwl:WellAll P h vals args) :
  ∃a vs ns,vals=[KO a]/\args=[WData.list (ns.map WData.int)]/\h.get? a=ba { cls:=.type "list",data:=.seq vs.toArray }/\RM vs ns/\ns.length<=n:=by
 have hsh:WShape.hasAll [] args [.list .int]=true:=(pre_splitW hpre).1;have hc:l.pre.holds [] { args:=args }=true:=(pre_splitW hpre).2;obtain⟨d,r,rfl,h1,h2⟩:=hasAllW_cons hsh;obtain rfl:=hasAllW_nil h2;obtain⟨xs,rfl,h3⟩:=hasW_list h1;obtain⟨ns,rfl⟩:=items_int h3;have hlen:ns.length<=n:=by
  unfold OpenLaw.pre at hc;have h4:(WTm.not (.lt (.lit (.int (n:Kh))) (.len (.arg 0)))).holds [] { args:=[.list (ns.map .int)] }=true:=by
   have h4:=(holds_andW hc).1;rw[hn]at h4;exact h4
  have h5:=condW_of h4 (w_not (w_lt w_lit (w_len_list (w_arg rfl))));rw[JV]at h5;refine Rl λq=>?_
  have q':(n:Kh) < ((ns.length:J3):Kh):=by exact Ma.mpr ‹_›
  first
   | (rw[Ly q']at h5; exact absurd h5 (by decide))
   | (simp at h5; omega)
 cases hwl with
 | cons w1 w2=>
  cases w2;cases w1 with
  | list ho hall=>exact⟨_,_,ns,rfl,rfl,ho,kL ns _ hall,hlen⟩
theorem v6 (l:OpenLaw)(args:JT WData):l.row.toRowW.claim.post args (.bool true) args=true:=
 postW_of (r:=l.row.toRowW) (X:=(true==true))
  (show WShape.has [] (.bool true) .bool=true by first|rfl|decide|simp[WShape.has,WShape.arms,WShape.armsAll])
  (show(WTm.eq .res (.lit (.bool true))).value [] { args:=args,res:=ba (.bool true),after:=args }=ba (.bool (true==true))from w_eq_bool (w_res rfl) w_lit) rfl
theorem attach_call {l:OpenLaw}{n:J3}{q:KJ}{loose:JT Kn}{XP:(Kn->J1 JW)->K6->Prop}{YP:KT->K6->Prop}{d:DefRec}
  (hn:l.most=ba n) (hdf:d.params.defaults=[])
  (call:∀(w:KT) (s₀ s₁:JY) (mg mb:Kn->J1 JW) (fa:J4) (o:LJ) (pm cd doc:JW) (a:J4) (vs:JT JW) (ns:JT Kh),
   Ground q loose [] XP w s₀ mg mb s₁.heap->YP w s₁.heap->
   s₁.heap.get? fa=ba o->o.data=.func (docDef d.name d.params d.body d.scope pm cd doc)->s₁.heap.CodeRec cd d.name->mg d.name=ba (.ref fa)->
   s₁.heap.get? a=ba { cls:=.type "list",data:=.seq vs.toArray }->RM vs ns->ns.length<=n->s₁.gens=#[]->
   codeAny (model l.prog w) callerA (.call (.ref fa) ⟨[.ref a],[]⟩) (λr s'=>r=.ok (.ret (.bool true))/\OldK s₁.heap s'.heap/\s'.os=s₁.os/\OU s'.gens) s₁) :
  WalkO q loose XP YP l.row.toRowW d [] (λf vs=>RX f vs):=by
 intro w s₀ s₁ mg mb G Y fa o pm cd doc dV kV ho hd hcd hD hmg hg args vals as hpre hlay hrd hwl hlo;obtain rfl:dV=.none:=Dflts.none hD hdf;obtain rfl:kV=.none:=Dflts.noKw hD;obtain⟨a,vs,ns,rfl,rfl,hobj,hints,hlen⟩:=v4 hn hpre hwl;refine enter_call (NU (call w s₀ s₁ mg mb fa o pm cd doc a vs ns G Y ho (fd_plain hd) hcd hmg hobj hints hlen hg) λr s' hq=>?_)
 obtain⟨rfl,h2,h3,h4⟩:=hq;exact⟨.inl ⟨.bool true,.bool true,[],rfl,λ_=>rfl,.bool true,v6 l _,λ_=>⟨Tu,λ_ hm=>(nomatch hm)⟩⟩,h2,h3,h4⟩
end Att
namespace L2
open PySem PySem.Spec PyProof.Rows
theorem n0:∀ {vs:JT JW} {ns:JT Kh},RM vs ns->Vals (ns.map V.int) vs
 | _,_,.nil=>.nil
 | _,_,.cons n t h=>.cons ⟨t,rfl⟩ (n0 h)
noncomputable def xT (H:Hp):Prop:=∀b,H b=gV\/∃o xs,H b=ba (.frz o (.lst xs))
theorem xU {P:KJ}{w:KT}{K:Kb}{mg mb:Kn->J1 JW}{CX:xJ}{k:J3}{fa a:J4}{fd:MC}{x:Kn}{sp:Sp}{s₁:JY}{vs:JT JW}{ns:JT Kh}
  (KX:K.In s₁.heap) (hns:s₁.heap.Ns mainGlobals mg) (hb:s₁.heap.Ns builtinsNs mb) (hbb:∀x:Kn,x≠"__name__"->mb x=bootBuiltins x) (hlim:s₁.heap.NoLimit) (hg:s₁.gens=#[])
  (ha:s₁.heap.get? a=ba { cls:=.type "list",data:=.seq vs.toArray }) (hi:RM vs ns) (hl:ns.length<=sizeLine) (hr:Room k callerA)
  (F:∀base:K6,K.In base->base.Ns mainGlobals mg->FnOk P w K mg base CX k fa fd [x] sp) (hbind:∀(s:JY) (u:JW),QP s fd ⟨[u],[]⟩ [(x,u)])
  (hsp:∀H:Hp,xT H->SqL K H a (ns.map V.int)->sp [.ref a] H (λv _=>v=.bl true) λ_ _ _=>Lw)
  (hCX:∀H e s',CX [] H s₁ (λ_ _ _=>Lw) e s'->Lw) :
  codeAny (model P w) callerA (.call (.ref fa) ⟨[.ref a],[]⟩) (λr s'=>r=.ok (.ret (.bool true))/\OldK s₁.heap s'.heap/\s'.os=s₁.os/\OU s'.gens) s₁:=by
 have rv:=n0 hi;have lenV:=hi.length;have core:∀H:Hp,xT H->SqL K H a (ns.map V.int)->HOk P w H s₁.heap->(∀b,H b≠gV->b=a)->(H a≠gV->K.lookup a=gV)->
   codeAny (model P w) callerA (.call (.ref fa) ⟨[.ref a],[]⟩) (λr s'=>r=.ok (.ret (.bool true))/\OldK s₁.heap s'.heap/\s'.os=s₁.os/\OU s'.gens) s₁:=by
  intro H hO hS hok hA hK;have base_of:∀ {b:J4} {o:LJ},s₁.heap.get? b=ba o->H b=gV->(pb s₁.heap H).get? b=ba o:=λe n=>xw e n
  have noA:∀ {b:J4} {o:LJ} {es:KC Mr} {ep:J3},s₁.heap.get? b=ba o->o.data=.dict es ep->H b=gV:=λ{b o es ep} e d=>by
   cases q:H b with
   | none=>rfl
   | some u=>
    have e':b=a:=hA b (by rw[q]; simp)
    subst e';rw[ha]at e; cases e
    have d':Data.seq vs.toArray _=Data.dict es ep:=d;cases d'
  have nsK:∀ {b:J4} {m:Kn->J1 JW},s₁.heap.Ns b m->(pb s₁.heap H).Ns b m:=λ{b m} ⟨o,es,ep,e,d,r⟩=>⟨o,es,ep,base_of e (noA e d),d,r⟩
  have hKb:K.In (pb s₁.heap H):=λb o e=>base_of (KX b o e) (by
   cases q:H b with
   | none=>rfl
   | some u=>
    have e':b=a:=hA b (by rw[q]; simp)
    subst e';rw[hK (by rw[q]; simp)]at e; cases e)
  have hM:Mod K mg (pb s₁.heap H):=⟨hKb,nsK hns,⟨mb,nsK hb,hbb⟩,let ⟨mc,h1,h2⟩:=hlim; ⟨mc,nsK h1,h2⟩⟩
  have e0:Env0 P w K mg (pb s₁.heap H) callerA [] s₁ H:=⟨rfl,hM,λb o e=>AQ e,Nat.le_of_eq (vP _ _),trivial,λb hb=>absurd (show b∈([]:JT J4)from hb) (by simp),hok,.of_eq hg⟩
  refine NU ((F _ hKb (nsK hns)).run callerA [] s₁ H ⟨[.ref a],[]⟩ [.ref a] [.ref a] _ _ hr e0 (hbind s₁ (.ref a)) (.cons rfl .nil) (hsp H hO hS)) λr s' h=>?_
  cases r with
  | error e=>exact(hCX H e s' h).elim
  | ok fl=>
   cases fl with
   | next=>exact Lw.elim h
   | brk=>exact Lw.elim h
   | cont=>exact Lw.elim h
   | ret u=>
    obtain⟨v,H',os,bare,un,hok',r',q⟩:=h;have q':v=.bl true:=q;subst q';obtain rfl:u=Nl true:=r';refine⟨rfl,OldK.of_keep λb o e=>?_,os,bare⟩
    cases q:H b with
    | none=>exact un.keep b o e q (by intro z; exact absurd (show b∈([]:JT J4)from z) (by simp)) (by simp)
    | some u=>
     rcases hO b with z|⟨ob,xs,z⟩
     ·rw[q]at z; cases z
     ·have z2:=un.frzs b ob _ z;obtain⟨e1,_⟩:=hok b _ z;obtain⟨e2,_⟩:=hok' b _ z2;rw[e]at e1; cases e1
      exact e2
 cases hk:K.lookup a with
 | some o=>
  have e:=KX a o hk;rw[ha]at e;cases e;refine core (λ_=>gV) (λ_=>.inl rfl) (.inr ⟨_,vs.toArray,_,hk,rfl,rfl,rfl,by rw[Kg,lenV]; exact hl,by simpa using rv⟩) (λb u z=>by have z':(gV:J1 HO)=ba u:=z; cases z') (λb z=>absurd rfl z) λz=>absurd rfl z
 | none=>
  refine core (λb=>if b=a then ba (.frz { cls:=.type "list",data:=.seq vs.toArray } (.lst (ns.map V.int)))else gV) (λb=>?_) (.inl (.inr ⟨{ cls:=.type "list",data:=.seq vs.toArray },Ks rfl⟩)) (λb u z=>?_) (λb z=>?_) λ_=>hk
  ·by_cases hb:b=a
   ·exact .inr ⟨_,_,Ks hb⟩
   ·exact .inl (KF hb)
  ·by_cases hb:b=a
   ·have z':=(Ks hb).symm.trans z;cases z';subst hb;exact⟨ha,by rw[JV]; exact hl,vs,_,rv,ha⟩
   ·have z':=(KF hb).symm.trans z;cases z'
  ·by_cases hb:b=a
   ·exact hb
   ·exact absurd (KF hb) z
theorem Bp {l:Pz}{n k:J3}{q:KJ}{loose:JT Kn}{XP:(Kn->J1 JW)->K6->Prop}{YP:KT->K6->Prop}{d:DefRec}{K:RW->Kb}{CX:KT->xJ}{sp:KT->Sp}{x:Kn}
  (hn:l.most=ba n) (hn2:n<=sizeLine) (hdf:d.params.defaults=[]) (hr:Room k callerA)
  (hY:∀(w:KT) (h:K6),YP w h->(K w.params).In h)
  (F:∀(w:KT) (mg:Kn->J1 JW) (fa:J4) (h:K6),(K w.params).In h->h.Ns mainGlobals mg->mg d.name=ba (.ref fa)->
   ∃fd:MC,(∀(s:JY) (u:JW),QP s fd ⟨[u],[]⟩ [(x,u)])/\
    ∀base:K6,(K w.params).In base->base.Ns mainGlobals mg->FnOk l.prog w (K w.params) mg base (CX w) k fa fd [x] (sp w))
  (hsp:∀(w:KT) (H:Hp) (a:J4) (ns:JT Kh),ns.length<=n->xT H->SqL (K w.params) H a (ns.map V.int)->sp w [.ref a] H (λv _=>v=.bl true) λ_ _ _=>Lw)
  (hCX:∀(w:KT) (H:Hp) (s:JY) (e:JW) (s':JY),CX w [] H s (λ_ _ _=>Lw) e s'->Lw) :
  Sh q loose XP YP l.row.toRowW d [] (λf vs=>RX f vs):=by
 refine Att.attach_call hn hdf λw s₀ s₁ mg mb fa o pm cd doc a vs ns G Y ho hd hcd hmg hobj hints hlen hg=>?_
 have KX:=hY w _ Y;obtain⟨fd,hb,hF⟩:=F w mg fa _ KX G.T.g hmg;exact xU KX G.T.g G.T.b G.T.builtins G.T.nolimit hg hobj hints (Kc hlen hn2) hr hF hb (λH hO hS=>hsp w H a ns hlen hO hS) λH e s'=>hCX w H s₁ e s'
noncomputable def d7 (s:MT):Arguments:=match s with
 | .FunctionDef _ a _ _ _ _ _ _ _ _=>a
 | _=>{ posonlyargs:=[],args:=[],vararg:=gV,kwonlyargs:=[],kw_defaults:=[],kwarg:=gV,defaults:=[] }
noncomputable def c8 (s:MT):JT MT:=match s with
 | .FunctionDef _ _ b _ _ _ _ _ _ _=>b
 | _=>[]
noncomputable def ah (s:MT):Nf:=match s with
 | .FunctionDef _ _ _ _ _ _ sc _ _ _=>sc
 | _=>{ kind:=.function,names:=[],isGenerator:=false,isCoroutine:=false }
noncomputable abbrev xu:xJ:=λ_ _ _ _ _ _=>Lw
noncomputable abbrev E0:XK:=λ_ _ _=>Lw
theorem C5 {X:Cx}:pd xu X E0:=λ_ _ _ _ _ _ _ h=>h.elim
structure Fun (K:Kb)(x qual:Kn)(st:MT)(f:J4)(fd:MC):Prop where
 ex:∃(oc:JW) (od:J1 J4) (kV doc pm:JW) (an:J1 J4) (cdv ct:JW) (osl:KC (J1 JW)),
  fd=Mk x qual (d7 st) (c8 st) (ah st) .none kV doc pm an cdv ct/\K.lookup f=ba ⟨oc,od,.func fd,osl⟩/\Nm K cdv qual=true
 kp:LL K (.ref f)=true
section
variable{P:KJ}{w:KT}{K:Kb}{mg:Kn->J1 JW}{base:K6}
theorem Fun.ok {x qual:Kn}{st:MT}{f:J4}{fd:MC}{N ps:JT Kn}{k:J3}{sp:Sp}(F:Fun K x qual st f fd)(S:FnScope N ps (ah st))(len:∀vs H Q E,sp vs H Q E->vs.length=ps.length)
  (hbody:∀(cdv:JW) (A:KP) (outer:JT QK) (s:JY) (H:Hp) (vs:JT V) (Q:VK) (E:XK),Room k (A.deeper (envOfC qual (ah st) s.heap.objs.size f cdv))->sp vs H Q E->
   ∃t,PSs (sS xu P w K mg base N qual (ah st) f cdv A outer s H E).nox (c8 st) t/\t { nx:=λ_ H'=>Q .non H',rt:=Q } (ga N vs) H):FnOk P w K mg base xu (k+1) f fd ps sp:=by
 obtain⟨oc,od,kV,doc,pm,an,cdv,ct,osl,rfl,lk,hcd⟩:=F.ex;refine Gh lk hcd S len λA outer s H vs Q E hr hsp=>?_
 obtain⟨t,h,q⟩:=hbody cdv A outer s H vs Q E hr hsp;exact⟨t,h.nox,q⟩
theorem Fun.binds {x qual:Kn}{st:MT}{f:J4}{fd:MC}{ps:JT Kn}(F:Fun K x qual st f fd)
  (h:∀(kV doc pm:JW) (an:J1 J4) (cdv ct:JW) (us:JT JW),us.length=ps.length->bindArgs (Mk x qual (d7 st) (c8 st) (ah st) .none kV doc pm an cdv ct) ⟨us,[]⟩=pure (ps.zip us)):Binds K fd ps []:=by
 obtain⟨oc,od,kV,doc,pm,an,cdv,ct,osl,rfl,lk,hcd⟩:=F.ex;exact .all (h kV doc pm an cdv ct)
theorem xV {x qual:Kn}{st:MT}{f:J4}{oc:JW}{od an:J1 J4}{osl:KC (J1 JW)}{kV doc pm cdv ct:JW}(l:K.lookup f=ba ⟨oc,od,.func (Mk x qual (d7 st) (c8 st) (ah st) .none kV doc pm an cdv ct),osl⟩)
  (c:Nm K cdv qual=true) (k:LL K (.ref f)=true):Fun K x qual st f (Mk x qual (d7 st) (c8 st) (ah st) .none kV doc pm an cdv ct):=⟨⟨oc,od,kV,doc,pm,an,cdv,ct,osl,rfl,l,c⟩,k⟩
end
section
variable{X:Cx}
theorem pv (i:J3){x:Kn}{pos:MB}(hN:X.N[i]?=ba x:=by rfl)(hv:HG X.env.scope x)(hd:(x==("__debug__" : Kn))=false:=by decide)
  (hcd:(x==("__classdict__" : Kn))=false:=by decide):PE X (.Name x pos) (DB i):=xx hN hv hd hcd
end
end L2
namespace Mi
open PySem PySem.Spec PyProof.Rows L2
noncomputable def fM (t:Lq)(n:J3):KD:=decide (M0 t.place 0=0)&&(KA n).all λi=>decide (M0 t.place (t.place.getD i 0+1)=i+1)
noncomputable def fB (w:KT):KD:=w.params.followText "set-order"
inductive W where
 | non|bl (b:KD)|int (i:Kh)|str (x:Kn)|tup (xs:JT W)|ref (i:J3)
inductive T where
 | int (i:Kh)|str (x:Kn)|tup (xs:JT T)
mutual
noncomputable def T.beq:T->T->KD
 | .int i,.int j=>i==j
 | .str x,.str y=>x==y
 | .tup xs,.tup ys=>T.beqs xs ys
 | _,_=>false
noncomputable def T.beqs:JT T->JT T->KD
 | [],[]=>true
 | x::xs,y::ys=>T.beq x y&&T.beqs xs ys
 | _,_=>false
end
mutual
theorem T.beq_iff:∀x y:T,T.beq x y=true↔x=y
 | .int i,.int j=>by simp[T.beq]
 | .str x,.str y=>by simp[T.beq]
 | .tup xs,.tup ys=>by simp[T.beq,T.beqs_iff xs ys]
 | .int _,.str _|.int _,.tup _|.str _,.int _|.str _,.tup _|.tup _,.int _|.tup _,.str _=>by simp[T.beq]
theorem T.beqs_iff:∀xs ys:JT T,T.beqs xs ys=true↔xs=ys
 | [],[]=>by simp[T.beqs]
 | x::xs,y::ys=>by simp[T.beqs,T.beq_iff x y,T.beqs_iff xs ys]
 | [],_::_|_::_,[]=>by simp[T.beqs]
end
noncomputable instance:Nk T:=λx y=>decidable_of_iff (T.beq x y=true) (T.beq_iff x y)
mutual
noncomputable def T.w:T->W
 | .int i=>.int i
 | .str x=>.str x
 | .tup xs=>.tup (T.ws xs)
noncomputable def T.ws:JT T->JT W
 | []=>[]
 | x::xs=>T.w x::T.ws xs
end
mutual
noncomputable def W.t:W->J1 T
 | .int i=>ba (.int i)
 | .str x=>ba (.str x)
 | .tup xs=>(W.ts xs).map .tup
 | _=>gV
noncomputable def W.ts:JT W->J1 (JT T)
 | []=>ba []
 | x::xs=>match W.t x,W.ts xs with
  | some y,ba ys=>ba (y::ys)
  | _,_=>gV
end
mutual
theorem W.t_w:∀ {w:W} {k:T},W.t w=ba k->k.w=w
 | .int i,_,h=>by cases h; rfl
 | .str x,_,h=>by cases h; rfl
 | .tup xs,_,h=>by
  simp only[W.t,J0]at h;obtain⟨ks,h1,h2⟩:=h;subst h2;simp only[T.w,W.ts_w h1]
 | .non,_,h|.bl _,_,h|.ref _,_,h=>by cases h
theorem W.ts_w:∀ {ws:JT W} {ks:JT T},W.ts ws=ba ks->T.ws ks=ws
 | [],_,h=>by cases h; rfl
 | w::ws,_,h=>by
  simp only[W.ts]at h;split at h
  ·rename_i y ys h1 h2;cases h;simp only[T.ws,W.t_w h1,W.ts_w h2]
  ·cases h
end
mutual
theorem T.w_t:∀k:T,W.t k.w=ba k
 | .int _=>rfl
 | .str _=>rfl
 | .tup xs=>by simp only[T.w,W.t,T.ws_ts xs,K4]
theorem T.ws_ts:∀ks:JT T,W.ts (T.ws ks)=ba ks
 | []=>rfl
 | x::xs=>by simp only[T.ws,W.ts,T.w_t x,T.ws_ts xs]
end
mutual
noncomputable def T.depth:T->J3
 | .tup xs=>T.depths xs+1
 | _=>0
noncomputable def T.depths:JT T->J3
 | []=>0
 | x::xs=>max (T.depth x) (T.depths xs)
end
mutual
noncomputable def T.draws:T->J3
 | .tup xs=>T.drawss xs+1
 | _=>1
noncomputable def T.drawss:JT T->J3
 | []=>0
 | x::xs=>T.draws x+T.drawss xs
end
mutual
noncomputable def eT (wd:KT):T->Kh
 | .int i=>hashInt i
 | .str x=>hashStr wd x
 | .tup xs=>reduceHash (Nz (iq wd xs))
noncomputable def iq (wd:KT):JT T->JT Kh
 | []=>[]
 | x::xs=>eT wd x::iq wd xs
end
noncomputable def T.isTup:T->KD
 | .tup _=>true
 | _=>false
noncomputable def aG:J3:=6
inductive O where
 | lst (xs:JT W)
 | fro (xs:JT W)
 | stt (ks:JT T)
 | rng (lo hi:Kh)
 | dic (kvs:JT (T×W))
 | frd (kvs:JT (T×W))
noncomputable abbrev aa:=JT O
noncomputable abbrev Fm:=JT (J1 W)
section
variable (K:Kb) (A:JT J4) (H:Hp)
mutual
inductive Rel:W->V->Prop
 | non:Rel .non .non
 | bl {b:KD}:Rel (.bl b) (.bl b)
 | int {i:Kh}:Rel (.int i) (.int i)
 | str {x:Kn}:Rel (.str x) (.str x)
 | tup {ws:JT W} {a:J4} {vs:JT V}:SqT K H a vs->RelL ws vs->Rel (.tup ws) (.ref a)
 | ref {i:J3} {a:J4}:A[i]?=ba a->Rel (.ref i) (.ref a)
inductive RelL:JT W->JT V->Prop
 | nil:RelL [] []
 | cons {w:W} {v:V} {ws:JT W} {vs:JT V}:Rel w v->RelL ws vs->RelL (w::ws) (v::vs)
end
end
section
variable{K:Kb}{A A' A'':JT J4}{H H' H'':Hp}
structure Ext (K:Kb)(A:JT J4)(H:Hp)(A':JT J4)(H':Hp):Prop where
 ad:∀(i:J3) (a:J4),A[i]?=ba a->A'[i]?=ba a
 tp:∀(a:J4) (vs:JT V),SqT K H a vs->SqT K H' a vs
 fz:∀(a:J4) (o:LJ) (u:HO),H a=ba (.frz o u)->H' a=ba (.frz o u)
theorem Ext.refl:Ext K A H A H:=⟨λ_ _ h=>h,λ_ _ h=>h,λ_ _ _ h=>h⟩
theorem Ext.trans (e:Ext K A H A' H')(f:Ext K A' H' A'' H''):Ext K A H A'' H'':=⟨λi a h=>f.ad i a (e.ad i a h),λa vs h=>f.tp a vs (e.tp a vs h),λa o u h=>f.fz a o u (e.fz a o u h)⟩
mutual
theorem Rel.mono (e:Ext K A H A' H'):∀ {w:W} {v:V},Rel K A H w v->Rel K A' H' w v
 | _,_,.non=>.non
 | _,_,.bl=>.bl
 | _,_,.int=>.int
 | _,_,.str=>.str
 | _,_,.tup h r=>.tup (e.tp _ _ h) (RelL.mono e r)
 | _,_,.ref h=>.ref (e.ad _ _ h)
theorem RelL.mono (e:Ext K A H A' H'):∀ {ws:JT W} {vs:JT V},RelL K A H ws vs->RelL K A' H' ws vs
 | _,_,.nil=>.nil
 | _,_,.cons r t=>.cons (Rel.mono e r) (RelL.mono e t)
end
theorem RelL.length:∀ {ws:JT W} {vs:JT V},RelL K A H ws vs->ws.length=vs.length
 | _,_,.nil=>rfl
 | _,_,.cons _ t=>by simp[RelL.length t]
theorem RelL.get:∀ {ws:JT W} {vs:JT V} {i:J3} {w:W},RelL K A H ws vs->ws[i]?=ba w->∃v,vs[i]?=ba v/\Rel K A H w v
 | _,_,_,_,.nil,e=>by simp at e
 | _,_,0,_,.cons r _,e=>by simp at e; subst e; exact⟨_,rfl,r⟩
 | _,_,i+1,w,.cons _ t,e=>by
  obtain⟨u,h1,h2⟩:=RelL.get (i:=i) (w:=w) t (by simpa using e)
  exact⟨u,by simpa using h1,h2⟩
theorem RelL.append:∀ {xs ys:JT W} {us ws:JT V},RelL K A H xs us->RelL K A H ys ws->RelL K A H (xs++ys) (us++ws)
 | _,_,_,_,.nil,s=>s
 | _,_,_,_,.cons r t,s=>.cons r (RelL.append t s)
theorem RelL.take:∀ {xs:JT W} {us:JT V} (n:J3),RelL K A H xs us->RelL K A H (xs.take n) (us.take n)
 | _,_,0,_=>.nil
 | _,_,_+1,.nil=>.nil
 | _,_,n+1,.cons r t=>.cons r (RelL.take n t)
theorem RelL.drop:∀ {xs:JT W} {us:JT V} (n:J3),RelL K A H xs us->RelL K A H (xs.drop n) (us.drop n)
 | _,_,0,r=>r
 | _,_,_+1,.nil=>.nil
 | _,_,n+1,.cons _ t=>RelL.drop n t
theorem RelL.set {x:W}{u:V}(r:Rel K A H x u):∀ {xs:JT W} {us:JT V} (i:J3),RelL K A H xs us->RelL K A H (xs.set i x) (us.set i u)
 | _,_,_,.nil=>.nil
 | _,_,0,.cons _ t=>.cons r t
 | _,_,i+1,.cons q t=>.cons q (RelL.set r i t)
theorem RelL.rep {xs:JT W}{us:JT V}(h:RelL K A H xs us):∀k:J3,RelL K A H (KY k xs).flatten (KY k us).flatten
 | 0=>.nil
 | k+1=>by
  rw[LO,LO,MN,MN];exact RelL.append h (RelL.rep h k)
theorem RelL.eraseIdx:∀ {xs:JT W} {us:JT V} (i:J3),RelL K A H xs us->RelL K A H (xs.eraseIdx i) (us.eraseIdx i)
 | _,_,_,.nil=>.nil
 | _,_,0,.cons _ t=>t
 | _,_,i+1,.cons r t=>.cons r (RelL.eraseIdx i t)
noncomputable def FroL (K:Kb)(H:Hp)(a:J4)(vs:JT V):Prop:=
 (∃o,H a=ba (.frz o (.lst vs)))\/
  ∃(o:LJ) (its:KC JW) (n:J3),K.lookup a=ba o/\o.cls=.type "list"/\o.dict=gV/\o.data=.seq its n/\its.size<=sizeLine/\Vals vs its.toList
theorem FroL.sq {a:J4}{vs:JT V}(h:FroL K H a vs):SqL K H a vs:=by
 rcases h with⟨o,h⟩|h
 ·exact .inl (.inr ⟨o,h⟩)
 ·exact .inr h
noncomputable def xW (wd:KT)(x:T×J4×JW):Mr:=⟨eT wd x.1,.ref x.2.1,x.2.2⟩
noncomputable def DicAt (wd:KT)(a:J4)(xs:JT (T×J4×JW))(h:K6):Prop:=
 xs.length<=sizeLine/\(a==sysModules)=false/\(xs.map (·.1)).Nodup/\∃o es ep,h.get? a=ba o/\o.ExactDict/\o.data=.dict es ep/\es.toList=xs.map (xW wd)
noncomputable def eC (wd:KT)(a:J4)(xs:JT (T×J4×JW)):HO:=.ext (DicAt wd a xs)
noncomputable def KRel (K:Kb)(A:JT J4)(H:Hp):JT (T×W)->JT (T×J4×JW)->Prop:=
 Pj λ(p:T×W) (q:T×J4×JW)=>p.1=q.1/\p.1.isTup=true/\p.1.depth<=aG/\Rel K A H p.1.w (.ref q.2.1)/\∃v,Rel K A H p.2 v/\RelV v q.2.2
theorem KRel.mono (e:Ext K A H A' H'){kvs:JT (T×W)}{xs:JT (T×J4×JW)}(h:KRel K A H kvs xs):KRel K A' H' kvs xs:=
 Paired.mapP h λ_ _ ⟨h1,h2,h3,h4,v,h5,h6⟩=>⟨h1,h2,h3,h4.mono e,v,h5.mono e,h6⟩
variable{wd:KT}
noncomputable def Bq (wd:KT)(as:JT J4)(o:LJ):Prop:=o.ExactSet/\∃es ep t,o.data=.set es ep t/\es.size<=sizeLine/\t.fits es.size=true/\t.led=(!fB wd)/\(t.plain=true->es.size=0\/fM t es.size=true)/\es.toList.map (·.2)=as.map KO
noncomputable def ObjRel (wd:KT)(K:Kb)(A:JT J4)(H:Hp)(a:J4):O->Prop
 | .lst ws=>∃vs,H a=ba (.lst vs)/\RelL K A H ws vs
 | .fro ws=>∃vs,FroL K H a vs/\RelL K A H ws vs
 | .stt ks=>∃o φ as,H a=ba (.frz o (.ext φ))/\Bq wd as o/\RelL K A H (T.ws ks) (as.map V.ref)
 | .rng lo hi=>H a=ba (.rng lo hi)
 | .dic kvs=>∃xs,H a=ba (eC wd a xs)/\KRel K A H kvs xs
 | .frd kvs=>∃o xs,H a=ba (.frz o (eC wd a xs))/\KRel K A H kvs xs
noncomputable def O.mut:O->KD
 | .fro _=>false
 | .stt _=>false
 | .rng _ _=>false
 | .frd _=>false
 | _=>true
structure StoreOk (wd:KT)(K:Kb)(A:JT J4)(H:Hp)(S:aa):Prop where
 len:A.length=S.length
 nd:∀(i j:J3) (a:J4) (o u:O),S[i]?=ba o->o.mut=true->S[j]?=ba u->u.mut=true->A[i]?=ba a->A[j]?=ba a->i=j
 obj:∀(i:J3) (o:O) (a:J4),S[i]?=ba o->A[i]?=ba a->ObjRel wd K A H a o
noncomputable def EnvRel (K:Kb)(A:JT J4)(H:Hp)(ρ:Fm)(σ:L2.St):Prop:=
 ρ.length=σ.length/\∀(i:J3) (w:W),ρ[i]?=ba (ba w)->∃v,σ[i]?=ba (ba v)/\Rel K A H w v
theorem EnvRel.mono {ρ:Fm}{σ:L2.St}(e:Ext K A H A' H')(h:EnvRel K A H ρ σ):EnvRel K A' H' ρ σ:=
 ⟨h.1,λi w q=>let ⟨v,a,b⟩:=h.2 i w q; ⟨v,a,b.mono e⟩⟩
theorem EnvRel.set {ρ:Fm}{σ:L2.St}{w:W}{v:V}(h:EnvRel K A H ρ σ)(r:Rel K A H w v)(i:J3):EnvRel K A H (ρ.set i (ba w)) (σ.set i (ba v)):=by
 refine⟨by simp[h.1],λj w' q=>?_⟩
 rw[Mb]at q ⊢
 by_cases e:i=j
 ·subst e;rw[Ks rfl]at q ⊢
  by_cases hl:i < ρ.length
  ·rw[Ks hl]at q;rw[Ks (h.1 ▸ hl)];cases q;exact⟨v,rfl,r⟩
  ·rw[KF hl]at q; cases q
 ·rw[KF e]at q ⊢;exact h.2 j w' q
noncomputable def Wr (H:Hp)(p:J4):Prop:=H p=gV\/(∃xs,H p=ba (.lst xs))\/(∃φ,H p=ba (.ext φ))\/∃ks,H p=ba (.dK ks)
theorem Wr.lst {p:J4}{xs:JT V}(h:H p=ba (.lst xs)):Wr H p:=.inr (.inl ⟨xs,h⟩)
theorem Wr.ext {p:J4}{φ:K6->Prop}(h:H p=ba (.ext φ)):Wr H p:=.inr (.inr (.inl ⟨φ,h⟩))
theorem Wr.ne_tup {p a:J4}{xs:JT V}(hp:Wr H p)(h:H a=ba (.tup xs)):a≠p:=by
 intro e; subst e
 rcases hp with q|⟨xs,q⟩|⟨φ,q⟩|⟨ks,q⟩ <;> (rw[h]at q; cases q)
theorem Wr.ne_frz {p a:J4}{o:LJ}{u:HO}(hp:Wr H p)(h:H a=ba (.frz o u)):a≠p:=by
 intro e; subst e
 rcases hp with q|⟨xs,q⟩|⟨φ,q⟩|⟨ks,q⟩ <;> (rw[h]at q; cases q)
theorem Wr.ne_rng {p a:J4}{lo hi:Kh}(hp:Wr H p)(h:H a=ba (.rng lo hi)):a≠p:=by
 intro e; subst e
 rcases hp with q|⟨xs,q⟩|⟨φ,q⟩|⟨ks,q⟩ <;> (rw[h]at q; cases q)
theorem uA {p:J4}{o:HO}(hp:Wr H p){a:J4}{vs:JT V}(h:SqT K H a vs):SqT K (bZ H p o) a vs:=by
 rcases h with(h|⟨o',h⟩)|h
 ·exact .inl (.inl (by rw[aM (hp.ne_tup h)]; exact h))
 ·exact .inl (.inr ⟨o',by rw[aM (hp.ne_frz h)]; exact h⟩)
 ·exact .inr h
theorem xX {p:J4}{o:HO}(hp:Wr H p){a:J4}{vs:JT V}(h:FroL K H a vs):FroL K (bZ H p o) a vs:=by
 rcases h with⟨o',h⟩|h
 ·exact .inl ⟨o',by rw[aM (hp.ne_frz h)]; exact h⟩
 ·exact .inr h
theorem c9 {p:J4}{o:HO}(hp:Wr H p):Ext K A H A (bZ H p o):=⟨λ_ _ h=>h,λ_ _ h=>uA hp h,λ_ _ _ h=>by rw[aM (hp.ne_frz h)]; exact h⟩
theorem da {p:J4}{o:HO}(hp:H p=gV):Ext K A H (A++[p]) (bZ H p o):=
 ⟨λi a h=>by rw[K9 (J9.mp h).1]; exact h,λ_ _ h=>uA (.inl hp) h,λ_ _ _ h=>by rw[aM (Wr.ne_frz (.inl hp) h)]; exact h⟩
theorem ObjRel.keep {p a:J4}{o:HO}{b:O}(hp:Wr H p)(hne:b.mut=true->a≠p)(e:Ext K A H A' (bZ H p o))(h:ObjRel wd K A H a b):ObjRel wd K A' (bZ H p o) a b:=by
 cases b with
 | lst ws=>
  obtain⟨vs,q,r⟩:=h;exact⟨vs,by rw[aM (hne rfl)]; exact q,r.mono e⟩
 | fro ws=>
  obtain⟨vs,q,r⟩:=h;exact⟨vs,xX hp q,r.mono e⟩
 | stt ks=>
  obtain⟨ob,φ,as,q,r1,r2⟩:=h;exact⟨ob,φ,as,by rw[aM (hp.ne_frz q)]; exact q,r1,r2.mono e⟩
 | rng lo hi=>
  have h:H a=ba (.rng lo hi):=h;show bZ H p o a=ba (.rng lo hi);rw[aM (hp.ne_rng h)];exact h
 | dic kvs=>
  obtain⟨xs,q,r⟩:=h;exact⟨xs,by rw[aM (hne rfl)]; exact q,r.mono e⟩
 | frd kvs=>
  obtain⟨ob,xs,q,r⟩:=h;exact⟨ob,xs,by rw[aM (hp.ne_frz q)]; exact q,r.mono e⟩
theorem ObjRel.there {a:J4}{b:O}(h:ObjRel wd K A H a b)(hm:b.mut=true):H a≠gV:=by
 cases b with
 | lst ws=>obtain⟨vs,q,r⟩:=h; rw[q]; intro z; cases z
 | fro ws=>cases hm
 | stt ws=>cases hm
 | rng lo hi=>cases hm
 | dic kvs=>obtain⟨vs,q,r⟩:=h; rw[q]; intro z; cases z
 | frd ws=>cases hm
theorem ObjRel.wr {a:J4}{b:O}(h:ObjRel wd K A H a b)(hm:b.mut=true):Wr H a:=by
 cases b with
 | lst ws=>obtain⟨vs,q,r⟩:=h; exact .lst q
 | fro ws=>cases hm
 | stt ws=>cases hm
 | rng lo hi=>cases hm
 | dic kvs=>obtain⟨vs,q,r⟩:=h; exact .ext q
 | frd ws=>cases hm
theorem StoreOk.lay {S:aa}{p:J4}{o:HO}(h:StoreOk wd K A H S)(hp:H p=gV):StoreOk wd K A (bZ H p o) S:=
 ⟨h.len,h.nd,λi b a e ea=>(h.obj i b a e ea).keep (.inl hp) (λhm z=>(h.obj i b a e ea).there hm (z ▸ hp)) (c9 (.inl hp))⟩
theorem StoreOk.pushO {S:aa}{p:J4}{n:O}{u:HO}(h:StoreOk wd K A H S)(hp:H p=gV)(r:ObjRel wd K (A++[p]) (bZ H p u) p n):StoreOk wd K (A++[p]) (bZ H p u) (S++[n]):=by
 have ex:Ext K A H (A++[p]) (bZ H p u):=da hp;have old:∀ {i:J3} {o:O} {a:J4},(S++[n])[i]?=ba o->(A++[p])[i]?=ba a->i < S.length->S[i]?=ba o/\A[i]?=ba a:=λ{i o a} e ea hl=>by
  rw[K9 hl]at e;rw[K9 (h.len ▸ hl)]at ea;exact⟨e,ea⟩
 have new:∀ {i:J3} {o:O} {a:J4},(S++[n])[i]?=ba o->(A++[p])[i]?=ba a->¬ i < S.length->i=S.length/\o=n/\a=p:=λ{i o a} e ea hl=>by
  have hi:i=S.length:=by
   have:=(J9.mp e).1;simp at this;omega
  subst hi;simp at e;rw[<- h.len]at ea;simp at ea;exact⟨rfl,e.symm,ea.symm⟩
 refine⟨by simp[h.len],λi j a o u e1 m1 e2 m2 a1 a2=>?_,λi o a e ea=>?_⟩
 ·by_cases hi:i < S.length <;> by_cases hj:j < S.length
  ·obtain⟨x1,y1⟩:=old e1 a1 hi;obtain⟨x2,y2⟩:=old e2 a2 hj;exact h.nd i j a o u x1 m1 x2 m2 y1 y2
  ·obtain⟨x1,y1⟩:=old e1 a1 hi;obtain⟨_,_,z⟩:=new e2 a2 hj;subst z;exact absurd hp ((h.obj i o a x1 y1).there m1)
  ·obtain⟨x2,y2⟩:=old e2 a2 hj;obtain⟨_,_,z⟩:=new e1 a1 hi;subst z;exact absurd hp ((h.obj j u a x2 y2).there m2)
  ·rw[(new e1 a1 hi).1,(new e2 a2 hj).1]
 ·by_cases hi:i < S.length
  ·obtain⟨x1,y1⟩:=old e ea hi;exact(h.obj i o a x1 y1).keep (.inl hp) (λhm z=>(h.obj i o a x1 y1).there hm (z ▸ hp)) ex
  ·obtain⟨_,rfl,rfl⟩:=new e ea hi;exact r
theorem StoreOk.push {S:aa}{p:J4}{ws:JT W}{vs:JT V}(h:StoreOk wd K A H S)(hp:H p=gV)(r:RelL K A H ws vs):StoreOk wd K (A++[p]) (bZ H p (.lst vs)) (S++[.lst ws]):=
 h.pushO hp ⟨vs,bg,r.mono (da hp)⟩
theorem StoreOk.writeO {S:aa}{i:J3}{p:J4}{o0 n:O}{u:HO}(h:StoreOk wd K A H S)(e:S[i]?=ba o0)(m0:o0.mut=true)(ea:A[i]?=ba p)(r:ObjRel wd K A (bZ H p u) p n) :
  StoreOk wd K A (bZ H p u) (S.set i n)/\Ext K A H A (bZ H p u):=by
 have hw:Wr H p:=(h.obj i _ p e ea).wr m0;have ex:Ext K A H A (bZ H p u):=c9 hw;have hl:i < S.length:=(J9.mp e).1;refine⟨⟨by simp[h.len],λj k a o u e1 m1 e2 m2 a1 a2=>?_,λj o a e1 a1=>?_⟩,ex⟩
 ·have get:∀ {j:J3} {o:O},(S.set i n)[j]?=ba o->o.mut=true->∃o',S[j]?=ba o'/\o'.mut=true:=λ{j o} q m=>by
   rw[Mb]at q
   by_cases z:i=j
   ·subst z; exact⟨_,e,m0⟩
   ·rw[KF z]at q; exact⟨o,q,m⟩
  obtain⟨o',x1,m1'⟩:=get e1 m1;obtain⟨u',x2,m2'⟩:=get e2 m2;exact h.nd j k a o' u' x1 m1' x2 m2' a1 a2
 ·rw[Mb]at e1
  by_cases z:i=j
  ·subst z;rw[Ks rfl,Ks hl]at e1;cases e1;rw[ea]at a1; cases a1
   exact r
  ·rw[KF z]at e1;exact(h.obj j o a e1 a1).keep hw (λhm q=>z (h.nd i j p _ o e m0 e1 hm ea (q ▸ a1))) ex
theorem StoreOk.write {S:aa}{i:J3}{p:J4}{ws:JT W}{us:JT V}{ws0:JT W}(h:StoreOk wd K A H S)(e:S[i]?=ba (.lst ws0))(ea:A[i]?=ba p)(r:RelL K A H ws us) :
  StoreOk wd K A (bZ H p (.lst us)) (S.set i (.lst ws))/\Ext K A H A (bZ H p (.lst us)):=
 h.writeO e rfl ea ⟨us,bg,r.mono (c9 ((h.obj i _ p e ea).wr rfl))⟩
end
noncomputable def gf (S:aa)(i:J3):J1 (JT W):=match S[i]? with
 | some (.lst xs)=>ba xs
 | some (.fro xs)=>ba xs
 | _=>gV
noncomputable def qG (S:aa)(i:J3):J1 (JT W):=match S[i]? with
 | some (.lst xs)=>ba xs
 | _=>gV
noncomputable def mY (S:aa)(xs:JT W):J1 (W×aa):=if xs.length<=sizeLine then ba (.ref S.length,S++[.lst xs])else gV
noncomputable def sX (S:aa)(xs:JT W):J1 (W×aa):=if xs.length<=sizeLine then ba (.tup xs,S)else gV
noncomputable def Br (j:Kh):KD:=decide (0 < j)&&decide (j < 1073741824)
noncomputable def v8 (i j:Kh):KD:=(decide (-(2 ^ 64) < i)&&decide (i < 2 ^ 64))||(decide (-(2 ^ 64) < j)&&decide (j < 2 ^ 64))
noncomputable def Gn (i j:Kh):KD:=decide (0<=j)&&decide (j<=1000000)&&decide (i.natAbs < 2 ^ 64)
inductive BOp where|add|sub|mul|fdiv|mod|pow
 deriving Nk
noncomputable def AM (c:Kh->Kh->KD)(f:Kh->Kh->Kh)(x y:W)(S:aa):J1 (W×aa):=match x,y with
 | .int i,.int j=>if c i j then ba (.int (f i j),S)else gV
 | _,_=>gV
noncomputable def wa (x y:W)(S:aa):J1 (W×aa):=match x with
 | .int i=>match y with
  | .int j=>ba (.int (i+j),S)
  | _=>gV
 | .str x=>match y with
  | .str y=>if x.length+y.length<=sizeLine then ba (.str (x++y),S)else gV
  | _=>gV
 | .tup xs=>match y with
  | .tup ys=>sX S (xs++ys)
  | _=>gV
 | .ref i=>match y with
  | .ref j=>match qG S i,qG S j with
   | some xs,ba ys=>mY S (xs++ys)
   | _,_=>gV
  | _=>gV
 | _=>gV
noncomputable def xY (x y:W)(S:aa):J1 (W×aa):=match x with
 | .str x=>match y with
  | .int k=>if k < 2 ^ 24/\-(2 ^ 24)<=k/\x.length*k.toNat<=sizeLine then ba (.str (T3 x k),S)else gV
  | _=>gV
 | .ref i=>match y with
  | .int k=>match qG S i with
   | some xs=>if k < 2 ^ 24/\-(2 ^ 24)<=k/\xs.length*k.toNat<=sizeLine then mY S (KY k.toNat xs).flatten else gV
   | none=>gV
  | _=>gV
 | x=>AM v8 (· * ·) x y S
noncomputable def gg:BOp->W->W->aa->J1 (W×aa)
 | .add,x,y,S=>wa x y S
 | .sub,x,y,S=>AM (λ_ _=>true) (· - ·) x y S
 | .mul,x,y,S=>xY x y S
 | .fdiv,x,y,S=>AM (λ_ j=>Br j) (· / ·) x y S
 | .mod,x,y,S=>AM (λ_ j=>decide (0 < j)) (· % ·) x y S
 | .pow,x,y,S=>AM Gn (λi j=>i ^ j.toNat) x y S
noncomputable def BOp.py:BOp->QN
 | .add=>.Add|.sub=>.Sub|.mul=>.Mult|.fdiv=>.FloorDiv|.mod=>.Mod|.pow=>.Pow
section
variable (X:Cx)
noncomputable def d0 (pins:JT (J4×LJ))(σ:L2.St)(A:JT J4)(H:Hp)(S':aa)(w:W)(u:JW)(s':JY):Prop:=
 ∃v H' A',Inv X pins σ H' s'/\RelV v u/\Ext X.K A H A' H'/\StoreOk X.w X.K A' H' S'/\Rel X.K A' H' w v
noncomputable abbrev FE:=Fm->aa->J1 (W×aa)
noncomputable def LOp (f:JW->JW->SQ JW)(g:W->W->aa->J1 (W×aa)):Prop:=
 ∀(pins:JT (J4×LJ)) (s:JY) (σ:L2.St) (H:Hp) (A:JT J4) (S:aa) (x y:W) (a b:V) (u v:JW) (w:W) (S':aa),Inv X pins σ H s->StoreOk X.w X.K A H S->
  Rel X.K A H x a->RelV a u->Rel X.K A H y b->RelV b v->g x y S=ba (w,S')->wpAny (model X.prog X.w) X.A (f u v) (d0 X pins σ A H S' w) X.xe s
end
section
variable{X:Cx}
theorem lD {S:aa}{i:J3}{xs:JT W}(h:qG S i=ba xs):S[i]?=ba (.lst xs):=by
 unfold qG at h;split at h
 ·cases h; assumption
 ·cases h
theorem fj {A:JT J4}{H:Hp}{S:aa}{i:J3}{xs:JT W}{a:J4}(so:StoreOk X.w X.K A H S)(h:qG S i=ba xs)(ea:A[i]?=ba a):∃vs,H a=ba (.lst vs)/\RelL X.K A H xs vs:=
 so.obj i _ a (lD h) ea
theorem bN {A:JT J4}{H:Hp}{S:aa}{i:J3}{xs:JT W}{a:J4}(so:StoreOk X.w X.K A H S)(h:gf S i=ba xs)(ea:A[i]?=ba a):∃vs,SqL X.K H a vs/\RelL X.K A H xs vs:=by
 unfold gf at h;split at h
 ·cases h;obtain⟨vs,q,r⟩:=so.obj i _ a ‹_› ea;exact⟨vs,.of q,r⟩
 ·cases h;obtain⟨vs,q,r⟩:=so.obj i _ a ‹_› ea;exact⟨vs,q.sq,r⟩
 ·cases h
theorem lc {S S':aa}{xs:JT W}{w:W}(h:mY S xs=ba (w,S')):xs.length<=sizeLine/\w=.ref S.length/\S'=S++[.lst xs]:=by
 unfold mY at h;split at h
 ·cases h; exact⟨by assumption,rfl,rfl⟩
 ·cases h
theorem uB {S S':aa}{xs:JT W}{w:W}(h:sX S xs=ba (w,S')):xs.length<=sizeLine/\w=.tup xs/\S'=S:=by
 unfold sX at h;split at h
 ·cases h; exact⟨by assumption,rfl,rfl⟩
 ·cases h
theorem Bs {A:JT J4}{H:Hp}{S:aa}{ws:JT W}{vs:JT V}{Q:VK}{p:J4}(so:StoreOk X.w X.K A H S)(r:RelL X.K A H ws vs)(hp:H p=gV)
  (q:∀v H' A',Ext X.K A H A' H'->StoreOk X.w X.K A' H' (S++[.lst ws])->Rel X.K A' H' (.ref S.length) v->Q v H'):Q (.ref p) (bZ H p (.lst vs)):=
 q _ _ (A++[p]) (da hp) (so.push hp r) (.ref (by rw[<- so.len]; simp))
theorem Bt {A:JT J4}{H:Hp}{S:aa}{ws:JT W}{vs:JT V}{Q:VK}{p:J4}(so:StoreOk X.w X.K A H S)(r:RelL X.K A H ws vs)(hp:H p=gV)
  (q:∀v H' A',Ext X.K A H A' H'->StoreOk X.w X.K A' H' S->Rel X.K A' H' (.tup ws) v->Q v H'):Q (.ref p) (bZ H p (.tup vs)):=
 q _ _ A (c9 (.inl hp)) (so.lay hp) (.tup (.of bg) (r.mono (c9 (.inl hp))))
noncomputable def Go (K:Kb):R2:=λx y H Q=>∃a b xs ys,x=.ref a/\y=.ref b/\SqT K H a xs/\SqT K H b ys/\xs.length+ys.length<=sizeLine/\
 (xs=[]->Q (.ref b) H)/\(ys=[]->Q (.ref a) H)/\(∀p,H p=gV->Q (.ref p) (bZ H p (.tup (xs++ys))))
theorem Bu:OpR X (binaryOp .Add) (Go X.K):=by
 intro pins s σ H x y v u Q I rx ry h;obtain⟨a,b,xs,ys,rfl,rfl,ha,hb,hz,q0,q1,q2⟩:=h;cases rx;cases ry;obtain⟨its,r1,p1,_⟩:=I.tuple ha;obtain⟨its2,r2,p2,_⟩:=I.tuple hb
 by_cases hx:xs=[]
 ·obtain⟨⟨cls,dd,data,sl⟩,ho,hc,n,hd⟩:=id p1;obtain⟨⟨cls2,dd2,data2,sl2⟩,ho2,hc2,n2,hd2⟩:=id p2;simp only at hc hd hc2 hd2;subst hc hd hc2 hd2;exact QQ ⟨_,ho,rfl⟩ ⟨_,ho2,rfl⟩ Pb Qn NV NQ (NG _ _)
   (tuple_addW0 a b its.toArray its2.toArray n n2 dd dd2 sl sl2 (by simp[r1.nil_iff.mpr hx])) ⟨ho,ho2,⟨.ref b,H,I,rfl,q0 hx⟩⟩
 ·refine HT.Be p1 p2 (λz=>hx (r1.nil_iff.mp z)) (λz=>⟨.ref a,H,I,rfl,q1 (r2.nil_iff.mp z)⟩) (λz=>?_) (by rw[<- r1.length,<- r2.length]; exact hz)
  refine⟨.ref s.heap.objs.size,_,I.laid (t':=s.toks) (o:=.tup (xs++ys)) (λb ob q=>JX _ q) (J7 _) ?_,rfl,q2 _ (I.hok.fresh (J7 _))⟩
  exact⟨by rw[J8]; exact hz,_,r1.append r2,Rg _ _⟩
theorem RelL.nil_iff {K:Kb}{A:JT J4}{H:Hp}{ws:JT W}{vs:JT V}(r:RelL K A H ws vs):vs=[]↔ws=[]:=by
 cases r <;> simp
theorem sY:OpR X (binaryOp .Mult) (λx y H Q=>∃z k,x=.str z/\y=.int k/\MulOk z k/\Q (.str (T3 z k)) H):=by
 intro pins s σ H x y v u Q I rx ry h;obtain⟨z,k,rfl,rfl,ok,q⟩:=h;obtain⟨t,rfl⟩:=rx;obtain⟨t',rfl⟩:=ry;exact SB.mul ok λt2 k2=>⟨.str _,H,I.tok _,⟨_,rfl⟩,q⟩
theorem xZ {x:Kn}{k:Kh}(h1:k < 16777216)(h2 : -16777216<=k)(h3:x.length*k.toNat<=sizeLine):MulOk x k:=by
 have hs:sizeLine=16777216:=K8;rw[hs]at h3;refine⟨?_,λa b=>?_,λ_ _=>?_⟩
 ·rw[Bool.or_eq_false_iff];exact⟨KN (by omega),KN (by omega)⟩
 ·have hk:0 < k:=by omega
  have e:(x.length:Kh)*k=((x.length*k.toNat:J3):Kh):=by
   rw[PB,Qi (by omega)]
  intro hgt;have h4:(2 ^ 63 - 1:Kh) < (x.length:Kh)*k:=(Int.ediv_lt_iff_lt_mul hk).mp hgt;rw[e]at h4;generalize x.length*k.toNat=z at h3 h4;omega
 ·unfold R7;rw[hs];exact KN (by omega)
noncomputable def EndV (wd:KT)(K:Kb)(A:JT J4)(H:Hp)(S':aa)(w:W):VK:=λv H'=>∃A',Ext K A H A' H'/\StoreOk wd K A' H' S'/\Rel K A' H' w v
theorem EndV.here {A:JT J4}{H:Hp}{S:aa}{w:W}{v:V}(so:StoreOk X.w X.K A H S)(r:Rel X.K A H w v):EndV X.w X.K A H S w v H:=⟨A,.refl,so,r⟩
theorem EndV.lst {A:JT J4}{H:Hp}{S:aa}{ws:JT W}{vs:JT V}{p:J4}(so:StoreOk X.w X.K A H S)(r:RelL X.K A H ws vs)(hp:H p=gV):EndV X.w X.K A H (S++[.lst ws]) (.ref S.length) (.ref p) (bZ H p (.lst vs)):=
 Bs (Q:=EndV X.w X.K A H (S++[.lst ws]) (.ref S.length)) so r hp λv H' A' a b c=>⟨A',a,b,c⟩
theorem EndV.tup {A:JT J4}{H:Hp}{S:aa}{ws:JT W}{vs:JT V}{p:J4}(so:StoreOk X.w X.K A H S)(r:RelL X.K A H ws vs)(hp:H p=gV):EndV X.w X.K A H S (.tup ws) (.ref p) (bZ H p (.tup vs)):=
 Bt (Q:=EndV X.w X.K A H S (.tup ws)) so r hp λv H' A' a b c=>⟨A',a,b,c⟩
theorem EP.post {pins:JT (J4×LJ)}{σ:L2.St}{A:JT J4}{H:Hp}{S':aa}{w:W}{u:JW}{s':JY}(h:EP X pins σ (EndV X.w X.K A H S' w) u s'):d0 X pins σ A H S' w u s':=by
 obtain⟨v,H',I',r,A',x,y,z⟩:=h;exact⟨v,H',A',I',r,x,y,z⟩
theorem OpR.go {f:JW->JW->SQ JW}{r:R2}(h:OpR X f r){pins:JT (J4×LJ)}{σ:L2.St}{A:JT J4}{H:Hp}{S':aa}{w:W}{s:JY}{a b:V}{u v:JW}(I:Inv X pins σ H s)(ru:RelV a u)(rv:RelV b v)
  (q:r a b H (EndV X.w X.K A H S' w)):wpAny (model X.prog X.w) X.A (f u v) (d0 X pins σ A H S' w) X.xe s:=bS (h pins s σ H a b u v _ I ru rv q) λ_ _=>EP.post
theorem Bv:LOp X (binaryOp .Add) (gg .add):=by
 intro pins s σ H A S x y a b u v w S' I so rx ru ry rv e;cases rx with
 | int=>cases ry with
  | int=>cases e; exact OpR.go DV I ru rv ⟨_,_,rfl,rfl,.here so .int⟩
  | _=>cases e
 | str=>cases ry with
  | str=>
   simp only[gg,wa]at e;split at e
   ·cases e; exact OpR.go sR I ru rv ⟨_,_,rfl,rfl,by assumption,.here so .str⟩
   ·cases e
  | _=>cases e
 | tup h1 r1=>cases ry with
  | tup h2 r2=>
   obtain⟨hl,rfl,rfl⟩:=uB (show sX S _=_ from e)
   rw[J8,r1.length,r2.length]at hl;refine OpR.go Bu I ru rv ⟨_,_,_,_,rfl,rfl,h1,h2,hl,λz=>?_,λz=>?_,λp hp=>.tup so (r1.append r2) hp⟩
   ·have z':=r1.nil_iff.mp z;subst z';exact .here so (.tup h2 r2)
   ·have z':=r2.nil_iff.mp z;subst z';rw[LW];exact .here so (.tup h1 r1)
  | _=>cases e
 | ref h1=>cases ry with
  | ref h2=>
   simp only[gg,wa]at e;split at e
   ·obtain⟨hl,rfl,rfl⟩:=lc e;obtain⟨vs,q1,r1⟩:=fj so ‹_› h1;obtain⟨us,q2,r2⟩:=fj so ‹_› h2;rw[J8,r1.length,r2.length]at hl;exact OpR.go Ei I ru rv ⟨_,_,_,_,rfl,rfl,q1,q2,hl,λp hp=>.lst so (r1.append r2) hp⟩
   ·cases e
  | _=>cases e
 | _=>cases e
theorem qQ {f:JW->JW->SQ JW}{c:Kh->Kh->KD}{g:Kh->Kh->Kh}{r:R2}(h:OpR X f r)(hr:∀i j H Q,c i j=true->Q (.int (g i j)) H->r (.int i) (.int j) H Q):LOp X f (AM c g):=by
 intro pins s σ H A S x y a b u v w S' I so rx ru ry rv e;cases rx with
 | int=>cases ry with
  | int=>
   unfold AM at e;dsimp only at e;split at e
   ·cases e; exact OpR.go h I ru rv (hr _ _ _ _ ‹_› (.here so .int))
   ·cases e
  | _=>cases e
 | _=>cases e
theorem Bw:LOp X (binaryOp .Sub) (gg .sub):=qQ DW λ_ _ _ _ _ q=>⟨_,_,rfl,rfl,q⟩
theorem Bx {i j:Kh}(h:v8 i j=true):CMul i j:=by
 unfold v8 at h;rw[LX,J2,J2,Kq,Kq,Kq,Kq]at h;exact h
theorem By:LOp X (binaryOp .Mult) (gg .mul):=by
 have hI:LOp X (binaryOp .Mult) (AM v8 (· * ·)):=qQ DX λ_ _ _ _ h q=>⟨_,_,rfl,rfl,Bx h,q⟩
 intro pins s σ H A S x y a b u v w S' I so rx ru ry rv e;cases x with
 | str z=>
  cases rx with
  | str=>cases ry with
   | int=>
    simp only[gg,xY]at e;split at e
    ·rename_i hc;cases e; exact OpR.go sY I ru rv ⟨_,_,rfl,rfl,xZ (by omega) (by omega) hc.2.2,.here so .str⟩
    ·cases e
   | _=>cases e
 | ref z=>
  cases rx with
  | ref h1=>cases ry with
   | int=>
    simp only[gg,xY]at e;split at e
    ·split at e
     ·rename_i hc;obtain⟨hl,rfl,rfl⟩:=lc e;obtain⟨vs,q1,r1⟩:=fj so ‹_› h1;rw[r1.length]at hc;exact OpR.go Ej I ru rv ⟨_,_,_,rfl,rfl,q1,by omega,by omega,hc.2.2,λp hp=>.lst so (r1.rep _) hp⟩
     ·cases e
    ·cases e
   | _=>cases e
 | _=>exact hI _ _ _ _ _ _ _ _ _ _ _ _ _ _ I so rx ru ry rv e
theorem x5:LOp X (binaryOp .FloorDiv) (gg .fdiv):=qQ A7 λ_ _ _ _ h q=>⟨_,_,rfl,rfl,by
 unfold Br at h;rw[J2,Kq,Kq]at h;exact h,q⟩
theorem Bz:LOp X (binaryOp .Mod) (gg .mod):=qQ DY λ_ _ _ _ h q=>⟨_,_,rfl,rfl,KQ h,q⟩
theorem BA:LOp X (binaryOp .Pow) (gg .pow):=qQ DZ λ_ _ _ _ h q=>⟨_,_,rfl,rfl,by
 unfold Gn at h;rw[J2,J2,Kq,Kq,Kq]at h;exact⟨h.1.1,h.1.2,h.2⟩,q⟩
theorem uC (o:BOp):LOp X (binaryOp o.py) (gg o):=by
 cases o
 ·exact Bv
 ·exact Bw
 ·exact By
 ·exact x5
 ·exact Bz
 ·exact BA
end
noncomputable def kM (f:W->W->J1 KD):JT W->JT W->J1 KD
 | [],[]=>ba true
 | [],_::_=>ba false
 | _::_,[]=>ba false
 | x::xs,y::ys=>match f x y,kM f xs ys with
  | some a,ba b=>ba (a&&b)
  | _,_=>gV
noncomputable def b2 (b:KD):Kh:=if b then 1 else 0
noncomputable def kq (S:aa):J3->W->W->J1 KD
 | _,.non,y=>match y with
  | .non=>ba true
  | _=>gV
 | _,.bl a,y=>match y with
  | .bl b=>ba (a==b)
  | _=>gV
 | _,.int a,y=>match y with
  | .int b=>ba (a==b)
  | _=>gV
 | _,.str a,y=>match y with
  | .str b=>ba (a==b)
  | _=>gV
 | 0,_,_=>gV
 | d+1,.tup xs,y=>match y with
  | .tup ys=>kM (kq S d) xs ys
  | _=>gV
 | d+1,.ref i,y=>match y with
  | .ref j=>match qG S i,qG S j with
   | some xs,ba ys=>if xs.length=ys.length then kM (kq S d) xs ys else ba false
   | _,_=>gV
  | _=>gV
section
variable{X:Cx}{pins:JT (J4×LJ)}{σ:L2.St}{H:Hp}{s:JY}{A:JT J4}{S:aa}
noncomputable def RU (K:Kb)(A:JT J4)(H:Hp)(w:W)(u:JW):Prop:=∃v,Rel K A H w v/\RelV v u
theorem uD {ws:JT W}{vs:JT V}{us:JT JW}(r:RelL X.K A H ws vs)(q:Vals vs us):∀(j:J3) (h1:j < ws.length) (h2:j < us.length),RU X.K A H ws[j] us[j]:=by
 induction ws generalizing vs us with
 | nil=>intro j h1; simp at h1
 | cons w ws ih=>
  cases r with
  | cons r1 rr=>
   cases q with
   | cons q1 qq=>
    intro j h1 h2;cases j with
    | zero=>exact⟨_,r1,q1⟩
    | succ j=>exact ih rr qq j (by simpa using h1) (by simpa using h2)
theorem ya {ws:JT W}{u:JW}(I:Inv X pins σ H s)(h:RU X.K A H (.tup ws) u):∃a its,u=.ref a/\QJ s.heap a its/\its.size=ws.length/\ws.length<=sizeLine/\∀(j:J3) (h1:j < ws.length) (h2:j < its.size),RU X.K A H ws[j] its[j]:=by
 obtain⟨v,r,q⟩:=h;cases r with
 | tup sq rl=>
  obtain⟨its,rv,ht,hz⟩:=I.tuple sq;refine⟨_,its.toArray,q,ht,by rw[Kg,<- rv.length,rl.length],by rw[rl.length]; exact hz,λj h1 h2=>?_⟩
  have:=uD rl rv j h1 (by simpa using h2)
  simpa using this
theorem yb {i:J3}{ws:JT W}{u:JW}(I:Inv X pins σ H s)(so:StoreOk X.w X.K A H S)(e:qG S i=ba ws)(h:RU X.K A H (.ref i) u):∃a its,u=.ref a/\A[i]?=ba a/\s.heap.IsList a its/\its.size=ws.length/\ws.length<=sizeLine/\∀(j:J3) (h1:j < ws.length) (h2:j < its.size),RU X.K A H ws[j] its[j]:=by
 obtain⟨v,r,q⟩:=h;cases r with
 | ref ea=>
  obtain⟨vs,hq,rl⟩:=fj so e ea;obtain⟨its,rv,ht,hz⟩:=I.list (.of hq);refine⟨_,its.toArray,q,ea,ht.isList,by rw[Kg,<- rv.length,rl.length],by rw[rl.length]; exact hz,λj h1 h2=>?_⟩
  have:=uD rl rv j h1 (by simpa using h2)
  simpa using this
theorem lE {f:W->W->J1 KD}:∀ {xs ys:JT W} {k:KD},kM f xs ys=ba k->∃e:J3->KD,(∀(j:J3) (h1:j < xs.length) (h2:j < ys.length),f xs[j] ys[j]=ba (e j))/\
  k=((KA (min xs.length ys.length)).all e&&xs.length==ys.length)
 | [],[],k,h=>⟨λ_=>true,λj h1=>by simp at h1,by cases h; rfl⟩
 | [],_::_,k,h=>⟨λ_=>true,λj h1=>by simp at h1,by cases h; simp⟩
 | _::_,[],k,h=>⟨λ_=>true,λj h1 h2=>by simp at h2,by cases h; simp⟩
 | x::xs,y::ys,k,h=>by
  simp only[kM]at h;split at h
  ·rename_i a b ha hb;cases h;obtain⟨e,h1,h2⟩:=lE hb;refine⟨λj=>match j with|0=>a|j+1=>e j,λj hj1 hj2=>?_,?_⟩
   ·cases j with
    | zero=>exact ha
    | succ j=>exact h1 j (by simpa using hj1) (by simpa using hj2)
   ·subst h2;simp only[La,Nat.add_min_add_right,Pr,Le,SD,Bool.and_assoc];congr 2;simp
  ·cases h
theorem BB (I:Inv X pins σ H s)(so:StoreOk X.w X.K A H S):∀(d:J3) {x y:W} {v:V} {k:KD},Rel X.K A H x v->Rel X.K A H y v->kq S d x y=ba k->k=true:=by
 intro d
 induction d with
 | zero=>
  intro x y v k rx ry e;cases rx with
  | non=>cases ry; cases e; rfl
  | bl=>cases ry; cases e; exact Lc _
  | int=>cases ry; cases e; exact Lc _
  | str=>cases ry; cases e; exact Lc _
  | tup _ _=>cases e
  | ref _=>cases e
 | succ d ih=>
  have lists:∀ {xs ys:JT W} {vs:JT V} {k:KD},RelL X.K A H xs vs->RelL X.K A H ys vs->kM (kq S d) xs ys=ba k->k=true:=by
   intro xs
   induction xs with
   | nil=>
    intro ys vs k r1 r2 e;cases r1; cases r2; cases e; rfl
   | cons x xs ihx=>
    intro ys vs k r1 r2 e;cases r1 with
    | cons p1 q1=>
     cases r2 with
     | cons p2 q2=>
      simp only[kM]at e;split at e
      ·rename_i a b ha hb;cases e;rw[ih p1 p2 ha,ihx q1 q2 hb];rfl
      ·cases e
  intro x y v k rx ry e;cases rx with
  | non=>cases ry; cases e; rfl
  | bl=>cases ry; cases e; exact Lc _
  | int=>cases ry; cases e; exact Lc _
  | str=>cases ry; cases e; exact Lc _
  | tup h1 r1=>
   cases ry with
   | tup h2 r2=>
    rw[I.tuple_inj h1 h2]at r1;exact lists r1 r2 e
   | ref ea=>cases e
  | ref ea=>
   cases ry with
   | tup h2 r2=>cases e
   | ref eb=>
    simp only[kq]at e;split at e
    ·rename_i xs ys hx hy;have:=so.nd _ _ _ _ _ (lD hx) rfl (lD hy) rfl ea eb;subst this;rw[hx]at hy; cases hy
     rw[Ks rfl]at e;obtain⟨vs,q,r⟩:=fj so hx ea;exact lists r r e
    ·cases e
theorem bh (A:KP):A.in1.units=A.units+1:=rfl
noncomputable abbrev FH (B:KP)(s:JY)(u v:JW)(k:KD):Prop:=SeqAt.RcAt B s u v k/\SeqAt.RcNeAt B s u v (!k)/\OC B s u v k
open SeqAt in
theorem C6 (I:Inv X pins σ H s)(so:StoreOk X.w X.K A H S):∀(d:J3) (B:KP) {x y:W} {u v:JW} {k:KD},B.units+d < cLine->RU X.K A H x u->RU X.K A H y v->kq S d x y=ba k->FH B s u v k:=by
 have non:∀ {B:KP} {y:W} {u v:JW} {k:KD} {d:J3},RU X.K A H .non u->RU X.K A H y v->kq S d .non y=ba k->FH B s u v k:=by
  intro B y u v k d ⟨_,rx,ra⟩ ⟨_,ry,rb⟩ e;cases rx;cases(show u=K7 from ra)
  cases y with
  | non=>
   have e:ba (true)=ba k:=by cases d <;> exact e
   cases e;cases ry;cases(show v=K7 from rb)
   exact⟨.none_none,.none_none,.same _⟩
  | _=>cases d <;> cases e
 have bl:∀ {B:KP} {b:KD} {y:W} {u v:JW} {k:KD} {d:J3},RU X.K A H (.bl b) u->RU X.K A H y v->kq S d (.bl b) y=ba k->FH B s u v k:=by
  intro B b y u v k d ⟨_,rx,ra⟩ ⟨_,ry,rb⟩ e;cases rx;cases(show u=Nl _ from ra)
  cases y with
  | bl c=>
   have e:ba (b==c)=ba k:=by cases d <;> exact e
   cases e;cases ry;cases(show v=Nl _ from rb)
   exact⟨.bool_bool _ _,.bool_bool _ _,.bool_bool _ _⟩
  | _=>cases d <;> cases e
 have int:∀ {B:KP} {b:Kh} {y:W} {u v:JW} {k:KD} {d:J3},RU X.K A H (.int b) u->RU X.K A H y v->kq S d (.int b) y=ba k->FH B s u v k:=by
  intro B b y u v k d ⟨_,rx,ra⟩ ⟨_,ry,rb⟩ e;cases rx;obtain⟨t0,rfl⟩ : ∃t,u=Pa _ t:=ra;cases y with
  | int c=>
   have e:ba (b==c)=ba k:=by cases d <;> exact e
   cases e;cases ry;obtain⟨t,rfl⟩ : ∃t,v=Pa _ t:=rb;exact⟨.int_int _ _ _ _,.int_int _ _ _ _,.int_int _ _ _ _⟩
  | _=>cases d <;> cases e
 have str:∀ {B:KP} {b:Kn} {y:W} {u v:JW} {k:KD} {d:J3},RU X.K A H (.str b) u->RU X.K A H y v->kq S d (.str b) y=ba k->FH B s u v k:=by
  intro B b y u v k d ⟨_,rx,ra⟩ ⟨_,ry,rb⟩ e;cases rx;obtain⟨t0,rfl⟩ : ∃t,u=N5 _ t:=ra;cases y with
  | str c=>
   have e:ba (b==c)=ba k:=by cases d <;> exact e
   cases e;cases ry;obtain⟨t,rfl⟩ : ∃t,v=N5 _ t:=rb;exact⟨.str_str _ _ _ _,.str_str _ _ _ _,.str_str _ _ _ _⟩
  | _=>cases d <;> cases e
 intro d
 induction d with
 | zero=>
  intro B x y u v k hu rx ry e;cases x with
  | non=>exact non rx ry e
  | bl b=>exact bl rx ry e
  | int b=>exact int rx ry e
  | str b=>exact str rx ry e
  | _=>cases e
 | succ d ih=>
  intro B x y u v k hu rx ry e;have hu0:B.units < cLine:=by omega
  have hu1:B.in1.units+d < cLine:=by rw[bh]; omega
  have rx0:=rx;have ry0:=ry;have fin:∀ {a b:J4},u=.ref a->v=.ref b->RcAt B s u v k->RcNeAt B s u v (!k)->FH B s u v k:=by
   intro a b ea eb h1 h2;subst ea eb;refine⟨h1,h2,?_⟩
   by_cases hab:a=b
   ·subst hab;obtain⟨v1,q1,z1⟩:=rx0;obtain⟨v2,q2,z2⟩:=ry0;have e12:v1=v2:=z1.inj z2;subst e12;have:=BB I so (d+1) q1 q2 e;subst this;exact EqAt.same _
   ·exact EqAt.of_refs hab h1
  cases x with
  | non=>exact non rx ry e
  | bl b=>exact bl rx ry e
  | int b=>exact int rx ry e
  | str b=>exact str rx ry e
  | tup xs=>
   cases y with
   | tup ys=>
    obtain⟨a,its,rfl,ht,hs,_,hi⟩:=ya I rx;obtain⟨b,its2,rfl,ht2,hs2,_,hi2⟩:=ya I ry;obtain⟨f,h1,h2⟩:=lE (show kM (kq S d) xs ys=ba k from e)
    have he:∀j (h1:j < its.size) (h2:j < its2.size),EqAt B.in1 s its[j] its2[j] (f j):=λj j1 j2=>
     (ih B.in1 hu1 (hi j (hs ▸ j1) j1) (hi2 j (hs2 ▸ j2) j2) (h1 j (hs ▸ j1) (hs2 ▸ j2))).2.2
    rw[<- hs,<- hs2]at h2;subst h2;exact fin rfl rfl (RcAt.tuples ht ht2 hu0 he) (RcNeAt.tuples ht ht2 hu0 he)
   | _=>cases e
  | ref i=>
   cases y with
   | ref j=>
    simp only[kq]at e;split at e
    ·rename_i ws ws2 hw hw2;obtain⟨a,its,rfl,_,hl,hs,_,hi⟩:=yb I so hw rx;obtain⟨b,its2,rfl,_,hl2,hs2,_,hi2⟩:=yb I so hw2 ry;split at e
     ·rename_i hlen;obtain⟨f,h1,h2⟩:=lE e;have he:∀j (h1:j < its.size) (h2:j < its2.size),EqAt B.in1 s its[j] its2[j] (f j):=λj j1 j2=>
       (ih B.in1 hu1 (hi j (hs ▸ j1) j1) (hi2 j (hs2 ▸ j2) j2) (h1 j (hs ▸ j1) (hs2 ▸ j2))).2.2
      have hk:k=(KA its.size).all f:=by rw[h2,hs,hlen]; simp
      subst hk;exact fin rfl rfl (RcAt.lists hl hl2 (by rw[hs,hs2,hlen]) hu0 he) (RcNeAt.lists hl hl2 (by rw[hs,hs2,hlen]) hu0 he)
     ·rename_i hlen;cases e;have hb:(its.size != its2.size)=true:=by rw[hs,hs2]; simpa using hlen
      exact fin rfl rfl (RcAt.lists_lengths hl hl2 hb hu0) (RcNeAt.lists_lengths hl hl2 hb hu0)
    ·cases e
   | _=>cases e
end
noncomputable def C7 (fe fl:W->W->J1 KD):JT W->JT W->J1 KD
 | [],[]=>ba false
 | [],_::_=>ba true
 | _::_,[]=>ba false
 | x::xs,y::ys=>match fe x y with
  | some true=>C7 fe fl xs ys
  | some false=>fl x y
  | none=>gV
noncomputable def JL (S:aa):J3->W->W->J1 KD
 | _,.int a,.int b=>ba (decide (a < b))
 | _,.str a,.str b=>ba (decide (a.cps.toList < b.cps.toList))
 | d+1,.tup xs,.tup ys=>C7 (kq S d) (JL S d) xs ys
 | _,_,_=>gV
noncomputable def LtAt (B:KP)(s:JY)(u v:JW)(k:KD):Prop:=
 ∀(prog:KJ) (w:KT) (E:JW->JY->Prop) (Q:JW->JY->Prop),Q (.bool k) s->wpAny (model prog w) B (richCompare .Lt u v) Q E s
inductive LexR (B:KP)(s:JY):JT JW->JT JW->KD->Prop
 | nn:LexR B s [] [] false
 | nc {v:JW} {vs:JT JW}:LexR B s [] (v::vs) true
 | cn {v:JW} {vs:JT JW}:LexR B s (v::vs) [] false
 | eq {u v:JW} {us vs:JT JW} {k:KD}:OC B s u v true->LexR B s us vs k->LexR B s (u::us) (v::vs) k
 | ne {u v:JW} {us vs:JT JW} {k:KD}:OC B s u v false->LtAt B s u v k->LexR B s (u::us) (v::vs) k
section
open PySem.SeqAt
open PySem.AutoSeq1 (wpAny_loadPart')
open PySem.MeetsSeq PySem.MeetsSeq2 PySem.MeetsSeq3
theorem pA (l b:J4)(items items2:KC JW)(n n2:J3)(dd dd2:J1 J4)(sl sl2:KC (J1 JW))(k:KD) :
  Meets (Ng.«tuple.__lt__» ⟨[.ref l,.ref b],[]⟩)
   (λB R s=>s.heap.get? l=ba { cls:=.type "tuple",dict:=dd,data:=.seq items n,slots:=sl }/\s.heap.get? b=ba { cls:=.type "tuple",dict:=dd2,data:=.seq items2 n2,slots:=sl2 }/\
    LexR B.in1 s items.toList items2.toList k/\R (.ok (.ret (.bool k))) s):=
 .of_wp λprog w A R s h=>by
  obtain⟨hp,g,d,tk,os⟩:=s; obtain⟨hl,hb,hx,h⟩:=h
  have f2:=Si;have z1:items.toList.length=items.size:=by simp
  have z2:items2.toList.length=items2.size:=by simp
  wp_walk using Oh hl,Oh hb,Nv _ (λbT b s'=>b.1=gV/\s'=⟨hp,g,d,tk,os⟩/\∃(vs ws:JT JW),bT=vs.zip ws/\
   LexR A.in1 ⟨hp,g,d,tk,os⟩ vs ws k/\vs.length+items2.size=ws.length+items.size) _
  case turn=>
   rintro⟨y,x⟩ bT b s' ⟨hb',rfl,vs,ws,hz,hlx,hlen⟩;cases hlx with
   | nn=>rw[QX]at hz; cases hz
   | nc=>rw[QX]at hz; cases hz
   | cn=>rw[List.zip_nil_right]at hz; cases hz
   | eq he hr=>
    rw[M8]at hz;injection hz with hyx hrest
    injection hyx with hy hx
    subst hy hx;simp only[La]at hlen;refine JU (he prog w _ _ ?_)
    wp_walk
    exact⟨rfl,rfl,_,_,hrest,hr,by omega⟩
   | ne he hr=>
    rw[M8]at hz;injection hz with hyx hrest
    injection hyx with hy hx
    subst hy hx;refine JU (he prog w _ _ ?_);have hri:=hr prog w
    wp_walk using hri
    exact⟨_,rfl,by simpa using h⟩
  case fin=>
   rintro⟨b1,b2⟩ s' ⟨hb',rfl,vs,ws,hz,hlx,hlen⟩;simp only at hb';subst hb';have hv:k=decide (items.size < items2.size):=by
    cases hlx with
    | nn=>simp only[Mg]at hlen; exact(KN (by omega)).symm
    | nc=>simp only[Mg,La]at hlen; exact(Ly (by omega)).symm
    | cn=>simp only[Mg,La]at hlen; exact(KN (by omega)).symm
    | eq _ _=>rw[M8]at hz; cases hz
    | ne _ _=>rw[M8]at hz; cases hz
   subst hv
   wp_walk
   exact⟨_,rfl,by simpa [Rc]using h⟩
  case h=>
   exact⟨rfl,rfl,items.toList,items2.toList,rfl,hx,by omega⟩
end
theorem LtAt.tuples {B:KP}{s:JY}{l b:J4}{items items2:KC JW}{k:KD}(hl:QJ s.heap l items)(hb:QJ s.heap b items2)(hu:B.units < cLine)(hx:LexR B.in1 s items.toList items2.toList k) :
  LtAt B s (.ref l) (.ref b) k:=λprog w E Q h=>by
 obtain⟨⟨cls,dd,data,sl⟩,ho,hc,n,hd⟩:=id hl;obtain⟨⟨cls2,dd2,data2,sl2⟩,ho2,hc2,n2,hd2⟩:=id hb;simp only at hc hd hc2 hd2;subst hc hd hc2 hd2;exact richCompare_meets_room (op:=.Lt) ⟨_,ho,rfl⟩ ⟨_,ho2,rfl⟩ PySem.F.slot_tuple_lt PySem.F.entry_tuple_lt (PySem.F.args_tuple_lt_2 _ _) (pA l b items items2 n n2 dd dd2 sl sl2 k)
  ⟨ho,ho2,hx,show Nl k≠Value.notImplemented/\Q (.bool k) s from⟨(λx=>nomatch x),h⟩⟩ hu
inductive COp where|eq|ne|lt|le|gt|ge|isin|notin|is|isnot
 deriving Nk
noncomputable def COp.py:COp->Sy
 | .eq=>.Eq|.ne=>.NotEq|.lt=>.Lt|.le=>.LtE|.gt=>.Gt|.ge=>.GtE|.isin=>.In|.notin=>.NotIn|.is=>.Is|.isnot=>.IsNot
noncomputable def cG:W->KD
 | .non=>true
 | .bl _=>true
 | .int _=>true
 | .str _=>true
 | _=>false
noncomputable def AN:W->W->KD
 | .non,.non=>true
 | .bl a,.bl b=>a==b
 | .bl a,.int b=>b2 a==b
 | .int a,.bl b=>a==b2 b
 | .int a,.int b=>a==b
 | .str a,.str b=>a==b
 | _,_=>false
noncomputable def fD (S:aa):W->J1 (JT W)
 | .tup xs=>ba xs
 | .ref i=>gf S i
 | _=>gV
noncomputable abbrev iu:J3:=20
noncomputable def C8 (x y:W)(S:aa):J1 KD:=match fD S y with
 | some ys=>if cG x&&ys.all cG then ba (ys.any λz=>AN z x)else gV
 | none=>gV
noncomputable def yc:W->KD
 | .non=>true
 | _=>false
noncomputable def yd (f:Kh->Kh->KD):W->W->J1 KD
 | .int i,.int j=>ba (f i j)
 | _,_=>gV
noncomputable def FJ:COp->W->W->aa->J1 KD
 | .eq,x,y,S=>kq S iu x y
 | .ne,x,y,S=>(kq S iu x y).map (!·)
 | .lt,x,y,_=>yd (λi j=>decide (i < j)) x y
 | .le,x,y,_=>yd (λi j=>decide (i<=j)) x y
 | .gt,x,y,_=>yd (λi j=>decide (j < i)) x y
 | .ge,x,y,_=>yd (λi j=>decide (j<=i)) x y
 | .isin,x,y,S=>C8 x y S
 | .notin,x,y,S=>(C8 x y S).map (!·)
 | .is,x,y,_=>if yc y then ba (yc x)else gV
 | .isnot,x,y,_=>if yc y then ba (!yc x)else gV
noncomputable def jG (o:COp)(x y:W)(S:aa):J1 (W×aa):=(FJ o x y S).map λk=>(.bl k,S)
section
variable{X:Cx}
theorem uE {pins:JT (J4×LJ)}{σ:L2.St}{H:Hp}{s:JY}{A:JT J4}{S:aa}{k:KD}(I:Inv X pins σ H s)(so:StoreOk X.w X.K A H S):d0 X pins σ A H S (.bl k) (.bool k) s:=
 ⟨.bl k,H,A,I,rfl,.refl,so,.bl⟩
theorem BC {o:COp}{x y w:W}{S S':aa}(h:jG o x y S=ba (w,S')):∃k,FJ o x y S=ba k/\w=.bl k/\S'=S:=by
 unfold jG at h;rw[J0]at h;obtain⟨k,h1,h2⟩:=h;cases h2;exact⟨k,h1,rfl,rfl⟩
theorem qR {A:JT J4}{H:Hp}{w:W}{v:V}(r:Rel X.K A H w v)(f:cG w=true):hW v=true:=by
 cases r <;> first|rfl|cases f
theorem n6 {A:JT J4}{H:Hp}:∀ {ws:JT W} {vs:JT V},RelL X.K A H ws vs->ws.all cG=true->vs.all hW=true
 | _,_,.nil,_=>rfl
 | _,_,.cons r t,f=>by
  rw[Le,J2]at f ⊢;exact⟨qR r f.1,n6 t f.2⟩
theorem BE {A:JT J4}{H:Hp}{x y:W}{u v:V}(r:Rel X.K A H x u)(q:Rel X.K A H y v)(fx:cG x=true)(fy:cG y=true):Bl u v=AN x y:=by
 cases r <;> cases q <;> first|rfl|cases fx|cases fy
theorem uF {A:JT J4}{H:Hp}{y:W}{v:V}(q:Rel X.K A H y v)(fy:cG y=true):∀ {ws:JT W} {vs:JT V},RelL X.K A H ws vs->ws.all cG=true->HJ v vs=ws.any λz=>AN z y
 | _,_,.nil,_=>rfl
 | _,_,.cons r t,f=>by
  rw[Le,J2]at f;have:=uF q fy t f.2;unfold HJ at this ⊢;rw[Mz,Mz,BE r q f.1 fy,this]
theorem pB {pins:JT (J4×LJ)}{σ:L2.St}{H:Hp}{s:JY}{A:JT J4}{S:aa}{y:W}{b:V}{ys:JT W}(so:StoreOk X.w X.K A H S)(r:Rel X.K A H y b)(e:fD S y=ba ys):∃p vs,b=.ref p/\(SqL X.K H p vs\/SqT X.K H p vs)/\RelL X.K A H ys vs:=by
 cases r with
 | tup h1 r1=>cases e; exact⟨_,_,rfl,.inr h1,r1⟩
 | ref ea=>
  obtain⟨vs,h1,r1⟩:=bN so e ea;exact⟨_,vs,rfl,.inl h1,r1⟩
 | _=>cases e
theorem ye {neg:KD}{o:Sy}(ho:OpR X (compareOp o) (IG X.K neg)){pins:JT (J4×LJ)}{σ:L2.St}{H:Hp}{s:JY}{A:JT J4}{S:aa}{x y:W}{a b:V}{u v:JW}{ys:JT W}(I:Inv X pins σ H s)(so:StoreOk X.w X.K A H S)
  (rx:Rel X.K A H x a) (ru:RelV a u) (ry:Rel X.K A H y b) (rv:RelV b v) (e:fD S y=ba ys) (f:(cG x&&ys.all cG)=true) :
  wpAny (model X.prog X.w) X.A (compareOp o u v) (d0 X pins σ A H S (.bl (if neg then !ys.any λz=>AN z x else ys.any λz=>AN z x))) X.xe s:=by
 obtain⟨p,vs,rfl,hq,rl⟩:=pB (pins:=pins) (σ:=σ) (s:=s) so ry e;rw[J2]at f;refine OpR.go ho I ru rv ⟨p,vs,rfl,hq,qR rx f.1,n6 rl f.2,?_⟩;rw[uF rx f.1 rl f.2];exact .here so .bl
theorem BF (hu:X.A.units+iu < cLine)(o:COp):LOp X (compareOp o.py) (jG o):=by
 intro pins s σ H A S x y a b u v w S' I so rx ru ry rv e;obtain⟨k,ek,e1,e2⟩:=BC e;subst e1;subst e2;clear e
 rename aa=>S
 have twoI:∀ {f:Kh->Kh->KD},yd f x y=ba k->∃i j,x=.int i/\y=.int j/\k=f i j:=by
  intro f h;cases x with
  | int i=>cases y with
   | int j=>cases h; exact⟨i,j,rfl,rfl,rfl⟩
   | _=>cases h
  | _=>cases h
 have hu1:X.A.units+1 < cLine:=by have:iu=20:=rfl; omega
 have ofSq:∀ {c:KD},C8 x y S=ba c->(∃ys,fD S y=ba ys/\(cG x&&ys.all cG)=true/\c=ys.any λz=>AN z x):=by
  intro c h;unfold C8 at h;split at h
  ·split at h
   ·cases h; exact⟨_,by assumption,by assumption,rfl⟩
   ·cases h
  ·cases h
 have ofN:∀ {c:KD},(if yc y then ba c else gV)=ba k->y=.non/\k=c:=by
  intro c h;cases y with
  | non=>cases h; exact⟨rfl,rfl⟩
  | _=>cases h
 cases o with
 | eq=>exact(C6 I so iu X.A hu ⟨a,rx,ru⟩ ⟨b,ry,rv⟩ ek).1 _ _ _ _ (uE I so)
 | ne=>
  obtain⟨k',h1,rfl⟩:=J0.mp ek;exact(C6 I so iu X.A hu ⟨a,rx,ru⟩ ⟨b,ry,rv⟩ h1).2.1 _ _ _ _ (uE I so)
 | lt=>
  obtain⟨i,j,rfl,rfl,rfl⟩:=twoI ek;cases rx; cases ry
  exact OpR.go Ga I ru rv ⟨_,_,rfl,rfl,.here so .bl⟩
 | le=>
  obtain⟨i,j,rfl,rfl,rfl⟩:=twoI ek;cases rx; cases ry
  exact OpR.go Gb I ru rv ⟨_,_,rfl,rfl,.here so .bl⟩
 | gt=>
  obtain⟨i,j,rfl,rfl,rfl⟩:=twoI ek;cases rx; cases ry
  exact OpR.go Gc I ru rv ⟨_,_,rfl,rfl,.here so .bl⟩
 | ge=>
  obtain⟨i,j,rfl,rfl,rfl⟩:=twoI ek;cases rx; cases ry
  exact OpR.go Gd I ru rv ⟨_,_,rfl,rfl,.here so .bl⟩
 | isin=>
  obtain⟨ys,h1,h2,rfl⟩:=ofSq ek;exact ye (neg:=false) vX I so rx ru ry rv h1 h2
 | notin=>
  obtain⟨c,h,rfl⟩:=J0.mp ek;obtain⟨ys,h1,h2,rfl⟩:=ofSq h;exact ye (neg:=true) ph I so rx ru ry rv h1 h2
 | is=>
  obtain⟨rfl,rfl⟩:=ofN ek;cases ry;refine OpR.go D2 I ru rv ⟨rfl,?_⟩;cases rx <;> exact .here so .bl
 | isnot=>
  obtain⟨rfl,rfl⟩:=ofN ek;cases ry;refine OpR.go Ba I ru rv ⟨rfl,?_⟩;cases rx <;> exact .here so .bl
end
end Mi
namespace HT
open PySem PyProof.Rows
section
variable{prog:KJ}{w:KT}{A:KP}{E:JW->JY->Prop}{s:JY}
theorem gQ {t sl:J4}{items:KC JW}{vl vu:JW}{lo hi:J1 Kh}{Q:JW->JY->Prop}(ht:QJ s.heap t items)(hs:s.heap.IsSliceOf sl vl vu .none)(pl:OA vl lo)(pu:OA vu hi)
  (hw:cJ items.size 0 lo=0/\cJ items.size items.size hi=items.size) (h:Q (.ref t) s):wpAny (model prog w) A (getItem (.ref t) (.ref sl)) Q E s:=by
 obtain⟨os,hos,hcs,hds⟩:=id hs;have hTs:s.TypeIs (.ref sl) "slice":=⟨os,hos,hcs⟩;unfold getItem
 try with_reducible refine Li ?_
 first|refine JU (JZ ?_)|skip
 refine JU (QR ht.typeIs (by decide) ?_)
 refine JU (Lk (name:=Ml "__getitem__") ht.typeIs Mh
  (Ll Mh ht.typeIs Qh ?_ (Qv _ _)))
 show wpAny _ _ (Nn (.ref t) >>= _) _ _ s;refine JU (Sd ht ?_);refine JU (M7 hTs ?_);rw[Ks (by decide)]
 refine JU (fA hs pl pu ?_);have hyes:((((cJ items.size 0 lo:J3):Kh)==0&&(1:Kh)==1&&(cJ items.size items.size hi - cJ items.size 0 lo)==items.size)=true):=by
  rw[hw.1,hw.2];simp
 show wpAny _ _ (if (((cJ items.size 0 lo:J3):Kh)==0&&(1:Kh)==1&&(cJ items.size items.size hi - cJ items.size 0 lo)==items.size)=true then _ else _) _ _ s
 rw[Ks hyes];unfold RY;refine JU (JU (M7 ht.typeIs (JZ ?_)));rw[Ks (by decide)]
 exact JU (Pl (JU (JZ (JZ ⟨_,rfl,JZ h⟩))))
end
end HT
namespace Mi
open PySem PySem.Spec PyProof.Rows L2
noncomputable def wb (x y:W)(S:aa):J1 (W×aa):=match x,y with
 | .tup xs,.int i=>(qO xs i).map λw=>(w,S)
 | .ref r,.int i=>match gf S r with
  | some xs=>(qO xs i).map λw=>(w,S)
  | none=>gV
 | .str x,.int i=>if x.length<=sizeLine then(qO x.cps.toList i).map λc=>(.str ⟨[c].toArray⟩,S)else gV
 | _,_=>gV
noncomputable def jH (xs:JT W)(lo hi:J1 Kh):JT W:=(xs.drop (HT.cJ xs.length 0 lo)).take (HT.cJ xs.length xs.length hi - HT.cJ xs.length 0 lo)
noncomputable def pE (x:W)(lo hi:J1 Kh)(S:aa):J1 (W×aa):=match x with
 | .tup xs=>ba (.tup (jH xs lo hi),S)
 | .ref r=>match gf S r with
  | some xs=>ba (.ref S.length,S++[.lst (jH xs lo hi)])
  | none=>gV
 | _=>gV
noncomputable def wc (o i v:W)(S:aa):J1 aa:=match o,i with
 | .ref r,.int k=>match qG S r with
  | some xs=>match uy xs.length k with
   | some j=>ba (S.set r (.lst (xs.set j v)))
   | none=>gV
  | none=>gV
 | _,_=>gV
section
variable (X:Cx)
noncomputable def LIx (g:W->W->aa->J1 (W×aa)):Prop:=
 ∀(value slice:Kw) (pins:JT (J4×LJ)) (s:JY) (σ:L2.St) (H:Hp) (A:JT J4) (S:aa) (x y:W) (a b:V) (u v:JW) (w:W) (S':aa),Inv X pins σ H s->StoreOk X.w X.K A H S->
  Rel X.K A H x a->RelV a u->Rel X.K A H y b->RelV b v->g x y S=ba (w,S')->subscripted slice false u v=operate [u,v] (getItem u v)->wpAny (model X.prog X.w) X.A (subscriptTail value slice u v) (d0 X pins σ A H S' w) X.xe s
noncomputable def LSl (g:W->J1 Kh->J1 Kh->aa->J1 (W×aa)):Prop:=
 ∀(pins:JT (J4×LJ)) (s:JY) (σ:L2.St) (H:Hp) (A:JT J4) (S:aa) (x:W) (a:V) (v vl vu:JW) (lo hi:J1 Kh) (sl:J4) (w:W) (S':aa),Inv X pins σ H s->StoreOk X.w X.K A H S->
  Rel X.K A H x a->RelV a v->s.heap.IsSliceOf sl vl vu .none->OA vl lo->OA vu hi->g x lo hi S=ba (w,S')->
  ∃T id,typeLookup (.type T) "__getitem__" = pure (ba (.builtin id))/\s.TypeIs v T/\wpAny (model X.prog X.w) X.A (getItem v (.ref sl)) (d0 X pins σ A H S' w) X.xe s
noncomputable def LSet (g:W->W->W->aa->J1 aa):Prop:=
 ∀(pins:JT (J4×LJ)) (s:JY) (σ:L2.St) (H:Hp) (A:JT J4) (S:aa) (o i x:W) (ao ai ax:V) (uo ui ux:JW) (S':aa),Inv X pins σ H s->StoreOk X.w X.K A H S->
  Rel X.K A H o ao->RelV ao uo->Rel X.K A H i ai->RelV ai ui->Rel X.K A H x ax->RelV ax ux->g o i x S=ba S'->
  wpAny (model X.prog X.w) X.A (setItem uo ui ux) (λ_ s'=>∃H' A',Inv X pins σ H' s'/\Ext X.K A H A' H'/\StoreOk X.w X.K A' H' S') X.xe s
noncomputable def LCall (f:JW)(g:JT W->aa->J1 (W×aa)):Prop:=
 ∀(pins:JT (J4×LJ)) (s:JY) (σ:L2.St) (H:Hp) (A:JT J4) (S:aa) (xs:JT W) (vs:JT V) (us:JT JW) (w:W) (S':aa),Inv X pins σ H s->StoreOk X.w X.K A H S->
  RelL X.K A H xs vs->Vals vs us->g xs S=ba (w,S')->wpAny (model X.prog X.w) X.A (call f us) (d0 X pins σ A H S' w) X.xe s
noncomputable def LMeth (id:LB)(g:W->JT W->aa->J1 (W×aa)):Prop:=
 ∀(pins:JT (J4×LJ)) (s:JY) (σ:L2.St) (H:Hp) (A:JT J4) (S:aa) (x:W) (a:V) (u:JW) (xs:JT W) (vs:JT V) (us:JT JW) (w:W) (S':aa),Inv X pins σ H s->StoreOk X.w X.K A H S->
  Rel X.K A H x a->RelV a u->RelL X.K A H xs vs->Vals vs us->g x xs S=ba (w,S')->wpAny (model X.prog X.w) X.A (call (.builtin id) (u::us)) (d0 X pins σ A H S' w) X.xe s
end
section
variable{X:Cx}{pins:JT (J4×LJ)}{σ:L2.St}{H:Hp}{s:JY}{A:JT J4}{S:aa}
theorem IxR.go {r:R2}(h:IxR X r){S':aa}{w:W}{a b:V}{u v:JW}{value slice:Kw}(I:Inv X pins σ H s)(ru:RelV a u)(rv:RelV b v)(q:r a b H (EndV X.w X.K A H S' w))(hs:subscripted slice false u v=operate [u,v] (getItem u v)) :
  wpAny (model X.prog X.w) X.A (subscriptTail value slice u v) (d0 X pins σ A H S' w) X.xe s:=bS (h value slice pins s σ H a b u v _ I ru rv q hs) λ_ _=>EP.post
theorem CallR.go {f:JW}{r:JT V->Hp->VK->Prop}(h:CallR X f r){S':aa}{w:W}{vs:JT V}{us:JT JW}(I:Inv X pins σ H s)(rv:Vals vs us)(q:r vs H (EndV X.w X.K A H S' w)) :
  wpAny (model X.prog X.w) X.A (call f us) (d0 X pins σ A H S' w) X.xe s:=bS (h pins s σ H vs us _ I rv q) λ_ _=>EP.post
theorem MtR.go {id:LB}{r:V->JT V->Hp->VK->Prop}(h:MtR X id r){S':aa}{w:W}{a:V}{u:JW}{vs:JT V}{us:JT JW}(I:Inv X pins σ H s)(ru:RelV a u)(rv:Vals vs us)(q:r a vs H (EndV X.w X.K A H S' w)) :
  wpAny (model X.prog X.w) X.A (call (.builtin id) (u::us)) (d0 X pins σ A H S' w) X.xe s:=bS (h pins s σ H a vs u us _ I ru rv q) λ_ _=>EP.post
theorem uG {xs:JT W}{vs:JT V}{i:Kh}{w:W}(r:RelL X.K A H xs vs)(e:qO xs i=ba w):∃v,qO vs i=ba v/\Rel X.K A H w v:=by
 unfold qO at e ⊢;rw[r.length]at e;cases q:uy vs.length i with
 | none=>rw[q]at e; cases e
 | some j=>
  rw[q]at e;obtain⟨v,h1,h2⟩:=r.get (show xs[j]?=ba w from e)
  exact⟨v,h1,h2⟩
theorem JM (hu:X.A.units+10 < cLine):LIx X wb:=by
 intro value slice pins s σ H A S x y a b u v w S' I so rx ru ry rv e hs;cases rx with
 | tup h1 r1=>cases ry with
  | int=>
   simp only[wb,J0]at e;obtain⟨w',e1,e2⟩:=e;cases e2;obtain⟨z,h2,r2⟩:=uG r1 e1;exact IxR.go Ee I ru rv ⟨_,_,_,_,rfl,rfl,h1,h2,.here so r2⟩ hs
  | _=>cases e
 | ref ea=>cases ry with
  | int=>
   simp only[wb]at e;split at e
   ·rename_i ws hw;rw[J0]at e;obtain⟨w',e1,e2⟩:=e;cases e2;obtain⟨vs,h1,r1⟩:=bN so hw ea;obtain⟨z,h2,r2⟩:=uG r1 e1;exact IxR.go Bj I ru rv ⟨_,_,_,_,rfl,rfl,h1,h2,.here so r2⟩ hs
   ·cases e
  | _=>cases e
 | str=>cases ry with
  | int=>
   simp only[wb]at e;split at e
   ·rw[J0]at e;obtain⟨c,e1,e2⟩:=e;cases e2;exact IxR.go Ef I ru rv ⟨_,_,_,rfl,rfl,by assumption,e1,.here so .str⟩ hs
   ·cases e
  | _=>cases e
 | _=>cases ry <;> cases e
theorem pG {xs:JT W}{vs:JT V}{lo hi:J1 Kh}(r:RelL X.K A H xs vs):RelL X.K A H (jH xs lo hi) (lC vs lo hi):=by
 unfold jH lC;rw[r.length];exact(r.drop _).take _
theorem BG:Gj X (λx lo hi H Q=>∃a xs,x=.ref a/\SqT X.K H a xs/\(lC xs lo hi=xs->Q (.ref a) H)/\∀p,H p=gV->Q (.ref p) (bZ H p (.tup (lC xs lo hi)))):=by
 intro pins s σ H x v vl vu lo hi sl Q I rx hs pl pu h;obtain⟨a,xs,rfl,hx,q0,q⟩:=h
 by_cases hw:(HT.cJ xs.length 0 lo=0/\HT.cJ xs.length xs.length hi=xs.length)
 ·cases rx;obtain⟨its,r,ht,hz⟩:=I.tuple hx;have hlen:its.toArray.size=xs.length:=by rw[Kg]; exact r.length.symm
  refine⟨"tuple",_,PyProof.Rows.slot_tuple_getitem.lookup,ht.typeIs,?_⟩;refine HT.gQ ht hs pl pu (by rw[hlen]; exact hw) ⟨.ref a,H,I,rfl,q0 ?_⟩
  unfold lC;rw[hw.1,hw.2];simp
 ·exact Ed pins s σ H (.ref a) v vl vu lo hi sl Q I rx hs pl pu ⟨a,xs,rfl,hx,hw,q⟩
theorem JN:LSl X pE:=by
 intro pins s σ H A S x a v vl vu lo hi sl w S' I so rx rv hs pl pu e;cases rx with
 | tup h1 r1=>
  cases e;obtain⟨T,id,z1,z2,z3⟩:=BG pins s σ H _ v vl vu lo hi sl (EndV X.w X.K A H S (.tup (jH _ lo hi))) I rv hs pl pu ⟨_,_,rfl,h1,λq=>.here so (.tup h1 (by have:=pG (lo:=lo) (hi:=hi) r1; rw[q]at this; exact this)),λp hp=>.tup so (pG r1) hp⟩
  exact⟨T,id,z1,z2,bS z3 λ_ _=>EP.post⟩
 | ref ea=>
  simp only[pE]at e;split at e
  ·rename_i ws hw;cases e;obtain⟨vs,h1,r1⟩:=bN so hw ea;obtain⟨T,id,z1,z2,z3⟩:=Bk pins s σ H _ v vl vu lo hi sl (EndV X.w X.K A H (S++[.lst (jH ws lo hi)]) (.ref S.length)) I rv hs pl pu ⟨_,_,rfl,h1,λp hp=>.lst so (pG r1) hp⟩
   exact⟨T,id,z1,z2,bS z3 λ_ _=>EP.post⟩
  ·cases e
 | _=>cases e
theorem lset (hu:X.A.units+10 < cLine):LSet X wc:=by
 intro pins s σ H A S o i x ao ai ax uo ui ux S' I so ro ruo ri rui rx rux e;cases ro with
 | ref ea=>cases ri with
  | int=>
   simp only[wc]at e;split at e
   ·rename_i ws hw;split at e
    ·rename_i j hj;cases e;obtain⟨vs,h1,r1⟩:=fj so hw ea;rw[r1.length]at hj;obtain⟨so',ex⟩:=so.write (lD hw) ea (r1.set rx j);exact bS (xP pins s σ H _ _ _ uo ui ux (λH'=>H'=bZ H _ (.lst (vs.set j ax))) I ruo rui rux ⟨_,_,_,_,rfl,rfl,h1,hj,rfl⟩) λ_ s' ⟨H',I',e'⟩=>⟨_,A,e' ▸ I',ex,so'⟩
    ·cases e
   ·cases e
  | _=>cases e
 | _=>cases ri <;> cases e
noncomputable def sZ (xs:JT W)(S:aa):J1 (W×aa):=match xs with
 | [.tup ys]=>ba (.int ys.length,S)
 | [.str y]=>if y.length<=sizeLine then ba (.int y.length,S)else gV
 | [.ref i]=>(gf S i).map λys=>(.int ys.length,S)
 | _=>gV
theorem we:LCall X (.builtin "len") sZ:=by
 intro pins s σ H A S xs vs us w S' I so rl rv e;cases rl with
 | nil=>cases e
 | cons r t=>
  cases t with
  | cons _ _=>cases r <;> cases e
  | nil=>
   cases r with
   | tup h1 r1=>cases e; rw[r1.length]; exact CallR.go lz I rv ⟨_,_,rfl,.inr ⟨_,h1,rfl⟩,.here so .int⟩
   | str=>
    simp only[sZ]at e;split at e
    ·cases e; exact CallR.go lz I rv ⟨_,_,rfl,⟨by assumption,rfl⟩,.here so .int⟩
    ·cases e
   | ref ea=>
    simp only[sZ,J0]at e;obtain⟨ws,hw,e2⟩:=e;cases e2;obtain⟨vs',h1,r1⟩:=bN so hw ea;rw[r1.length];exact CallR.go lz I rv ⟨_,_,rfl,.inl ⟨_,h1,rfl⟩,.here so .int⟩
   | _=>cases e
noncomputable def iW (xs:JT W)(S:aa):J1 (W×aa):=match xs with
 | [x]=>match fD S x with
  | some ys=>ba (.ref S.length,S++[.lst ys])
  | none=>gV
 | _=>gV
theorem iw:LCall X (.type "list") iW:=by
 intro pins s σ H A S xs vs us w S' I so rl rv e;cases rl with
 | nil=>cases e
 | cons r t=>
  cases t with
  | cons _ _=>cases e
  | nil=>
   simp only[iW]at e;split at e
   ·rename_i ys hy;cases e;obtain⟨p,vs',rfl,hq,r1⟩:=pB (pins:=pins) (σ:=σ) (s:=s) so r hy;exact CallR.go po I rv ⟨p,vs',rfl,hq,λl hl=>.lst so r1 hl⟩
   ·cases e
noncomputable def lF (xs:JT W)(S:aa):J1 (W×aa):=match xs with
 | [.tup ys]=>ba (.tup ys,S)
 | [.ref i]=>match gf S i with
  | some ys=>ba (.tup ys,S)
  | none=>gV
 | _=>gV
theorem kw:LCall X (.type "tuple") lF:=by
 intro pins s σ H A S xs vs us w S' I so rl rv e;cases rl with
 | nil=>cases e
 | cons r t=>
  cases t with
  | cons _ _=>cases r <;> cases e
  | nil=>
   cases r with
   | tup h1 r1=>cases e; exact CallR.go hX I rv ⟨_,_,rfl,.inr ⟨h1,.here so (.tup h1 r1)⟩⟩
   | ref ea=>
    simp only[lF]at e;split at e
    ·rename_i ys hy;cases e;obtain⟨vs',h1,r1⟩:=bN so hy ea;exact CallR.go hX I rv ⟨_,_,rfl,.inl ⟨h1,λl hl=>.tup so r1 hl⟩⟩
    ·cases e
   | _=>cases e
noncomputable def Gp (xs:JT W)(S:aa):J1 (W×aa):=match xs with
 | [.int i]=>ba (.int i,S)
 | [.bl b]=>ba (.int (if b then 1 else 0),S)
 | _=>gV
theorem wf:LCall X (.type "int") Gp:=by
 intro pins s σ H A S xs vs us w S' I so rl rv e;cases rl with
 | nil=>cases e
 | cons r t=>
  cases t with
  | cons _ _=>cases r <;> cases e
  | nil=>
   cases r with
   | int=>cases e; exact CallR.go nT I rv (.inl ⟨_,rfl,.here so .int⟩)
   | bl=>cases e; exact CallR.go nT I rv (.inr ⟨_,rfl,.here so .int⟩)
   | _=>cases e
noncomputable def iX (x:W)(xs:JT W)(S:aa):J1 (W×aa):=match x,xs with
 | .ref i,[y]=>match qG S i with
  | some ys=>if ys.length < sizeLine then ba (.non,S.set i (.lst (ys++[y])))else gV
  | none=>gV
 | _,_=>gV
theorem jI {i:J3}{p:J4}{ws ws0:JT W}{us:JT V}(so:StoreOk X.w X.K A H S)(e:qG S i=ba ws0)(ea:A[i]?=ba p)(r:RelL X.K A H ws us){w:W}{v:V}(rw':Rel X.K A H w v) :
  EndV X.w X.K A H (S.set i (.lst ws)) w v (bZ H p (.lst us)):=by
 obtain⟨so',ex⟩:=so.write (lD e) ea r;exact⟨A,ex,so',rw'.mono ex⟩
theorem pH:LMeth X "list.append" iX:=by
 intro pins s σ H A S x a u xs vs us w S' I so rx ru rl rv e;cases rx with
 | ref ea=>
  cases rl with
  | nil=>cases e
  | cons r t=>
   cases t with
   | cons _ _=>cases e
   | nil=>
    simp only[iX]at e;split at e
    ·rename_i ys hy;split at e
     ·rename_i hl;cases e;obtain⟨vs',h1,r1⟩:=fj so hy ea;rw[r1.length]at hl;exact MtR.go vY I ru rv ⟨_,_,_,rfl,rfl,h1,hl,jI so hy ea (r1.append (.cons r .nil)) .non⟩
     ·cases e
    ·cases e
 | _=>cases e
noncomputable def iY (x:W)(xs:JT W)(S:aa):J1 (W×aa):=match x,xs with
 | .ref i,[.ref j]=>match qG S i,qG S j with
  | some ys,ba zs=>if ys.length+zs.length<=sizeLine then ba (.non,S.set i (.lst (ys++zs)))else gV
  | _,_=>gV
 | _,_=>gV
theorem pI:LMeth X "list.extend" iY:=by
 intro pins s σ H A S x a u xs vs us w S' I so rx ru rl rv e;cases rx with
 | ref ea=>
  cases rl with
  | nil=>cases e
  | cons r t=>
   cases t with
   | cons _ _=>cases r <;> cases e
   | nil=>
    cases r with
    | ref eb=>
     simp only[iY]at e;split at e
     ·rename_i ys zs hy hz;split at e
      ·rename_i hl;cases e;obtain⟨vs',h1,r1⟩:=fj so hy ea;obtain⟨vs2,h2,r2⟩:=fj so hz eb;rw[r1.length,r2.length]at hl;exact MtR.go vZ I ru rv ⟨_,_,_,_,rfl,rfl,h1,h2,hl,jI so hy ea (r1.append r2) .non⟩
      ·cases e
     ·cases e
    | _=>cases e
 | _=>cases e
noncomputable def BH (x:W)(xs:JT W)(S:aa):J1 (W×aa):=match x,xs with
 | .ref i,[.int k]=>match qG S i with
  | some ys=>if -(2 ^ 63)<=k/\k < 2 ^ 63 then match seqIndex? k ys.length with
   | some j=>match ys[j]? with
    | some y=>ba (y,S.set i (.lst (ys.eraseIdx j)))
    | none=>gV
   | none=>gV
   else gV
  | none=>gV
 | _,_=>gV
theorem wg:LMeth X "list.pop" BH:=by
 intro pins s σ H A S x a u xs vs us w S' I so rx ru rl rv e;cases rx with
 | ref ea=>
  cases rl with
  | nil=>cases e
  | cons r t=>
   cases t with
   | cons _ _=>cases r <;> cases e
   | nil=>
    cases r with
    | int=>
     simp only[BH]at e;split at e
     ·rename_i ys hy;split at e
      ·rename_i hk;split at e
       ·rename_i j hj;split at e
        ·rename_i y hyj;cases e;obtain⟨vs',h1,r1⟩:=fj so hy ea;obtain⟨v',h2,r2⟩:=r1.get hyj;rw[r1.length]at hj;exact MtR.go xS I ru rv ⟨_,_,_,_,_,rfl,rfl,h1,hk.1,hk.2,hj,h2,jI so hy ea (r1.eraseIdx j) r2⟩
        ·cases e
       ·cases e
      ·cases e
     ·cases e
    | _=>cases e
 | _=>cases e
noncomputable def jJ:JT W->J1 (JT Kn)
 | []=>ba []
 | .str x::xs=>(jJ xs).map (x :: ·)
 | _::_=>gV
noncomputable def uH (x:W)(xs:JT W)(S:aa):J1 (W×aa):=match x,xs with
 | .str x,[y]=>match fD S y with
  | some ys=>match jJ ys with
   | some zs=>if (zs.map (·.length)).sum+zs.length*x.length<=16777216 then ba (.str (SY x zs),S)else gV
   | none=>gV
  | none=>gV
 | _,_=>gV
theorem lG:∀ {ws:JT W} {vs:JT V} {us:JT JW} {zs:JT Kn},RelL X.K A H ws vs->Vals vs us->jJ ws=ba zs->StrsAre us zs
 | _,_,_,zs,.nil,.nil,e=>by cases e; exact .nil
 | _,_,_,zs,.cons r t,.cons q p,e=>by
  cases r with
  | str=>
   simp only[jJ,J0]at e;obtain⟨z,e1,e2⟩:=e;subst e2;obtain⟨tk,rfl⟩ : ∃t,_=N5 _ t:=q;exact .cons _ tk (lG t p e1)
  | _=>cases e
theorem tf:LMeth X "str.join" uH:=by
 intro pins s σ H A S x a u xs vs us w S' I so rx ru rl rv e;cases rx with
 | str=>
  cases rl with
  | nil=>cases e
  | cons r t=>
   cases t with
   | cons _ _=>cases e
   | nil=>
    simp only[uH]at e;split at e
    ·rename_i ys hy;split at e
     ·rename_i zs hz;split at e
      ·rename_i hl;cases e;obtain⟨p,vs',rfl,hq,r1⟩:=pB (pins:=pins) (σ:=σ) (s:=s) so r hy;obtain⟨t0,rfl⟩ : ∃t,u=N5 _ t:=ru;obtain⟨u1,rfl,ru1⟩:=nS rv;have ru1':u1=KO p:=ru1;subst ru1';rcases hq with hq|hq
       ·obtain⟨its,rr,pl,hz'⟩:=I.list hq;exact join_list pl.isList (by simpa using lG r1 rr hz) hl λt' k=>⟨.str _,H,A,I.tok _,⟨_,rfl⟩,.refl,so,.str⟩
       ·obtain⟨its,rr,pl,hz'⟩:=I.tuple hq;exact join_tuple pl (by simpa using lG r1 rr hz) hl λt' k=>⟨.str _,H,A,I.tok _,⟨_,rfl⟩,.refl,so,.str⟩
      ·cases e
     ·cases e
    ·cases e
 | _=>cases e
noncomputable def gh (S:aa):W->J1 KD
 | .non=>ba false
 | .bl b=>ba b
 | .int i=>ba (i != 0)
 | .str y=>if y.length<=sizeLine then ba ((y.length:Kh) != 0)else gV
 | .tup xs=>ba (!xs.isEmpty)
 | .ref i=>(gf S i).map λxs=>!xs.isEmpty
theorem kz {ws:JT W}{vs:JT V}(r:RelL X.K A H ws vs):(!ws.isEmpty) = !vs.isEmpty:=by cases r <;> rfl
theorem IL {x:W}{a:V}{u:JW}{k:KD}{Q:KD->JY->Prop}(I:Inv X pins σ H s)(so:StoreOk X.w X.K A H S)(rx:Rel X.K A H x a)(ru:RelV a u)(e:gh S x=ba k)(hq:∀s',Inv X pins σ H s'->Q k s') :
  wpAny (model X.prog X.w) X.A (truthy u) Q X.xe s:=by
 refine bS (D6 pins s σ H a u (λb H'=>b=k/\H'=H) I ru ⟨k,?_,rfl,rfl⟩) λb s' ⟨H',I',e1,e2⟩=>?_
 ·cases rx with
  | non=>cases e; rfl
  | bl=>cases e; rfl
  | int=>cases e; rfl
  | str=>
   simp only[gh]at e;split at e
   ·cases e; exact⟨by assumption,rfl⟩
   ·cases e
  | tup h1 r1=>cases e; exact .inr (.inl ⟨_,h1,kz r1⟩)
  | ref ea=>
   simp only[gh,J0]at e;obtain⟨ws,hw,e2⟩:=e;subst e2;obtain⟨vs,h1,r1⟩:=bN so hw ea;exact .inl ⟨_,h1,kz r1⟩
 ·subst e1 e2;exact hq s' I'
end
noncomputable def cN (w:KT):LJ:={ cls:=.type "set",dict:=gV,data:=.set #[] 0 (.fresh 0 0 (!fB w)) }
section
variable{prog:KJ}{w:KT}{A:KP}{E:JW->JY->Prop}{s:JY}{R:Rh->JY->Prop}{I:J4}{fp wr:JT J4}{G:KC PY->KC PY->Prop}{n:J3}{P:J3->JW->Prop}{St:J3->JY->Prop}
theorem yf (a:JW){Q₁:JW->JY->Prop}(h:Q₁ (.ref s.heap.objs.size) { s with heap:=s.heap.push (cN w) }):codeAny (model prog w) A (.call (.builtin "set.__new__") ⟨[.type "set",a],[]⟩) (wants Q₁ E) s:=by
 refine PC ?_;show wpAny _ A.in1 (checkBuiltinCall "set.__new__" ⟨[.type "set",a],[]⟩ >>= λ_=>again (.builtin "set.__new__" ⟨[.type "set",a],[]⟩)) _ _ s
 refine JU (NR (F.newCall_set_1 a) (JZ ⟨L7 F.plain_set_new _,Ln F.entry_set_new ?_⟩));rw[Ld F.plain_set_new _];unfold Ng.«set.__new__» RZ;have hsub:=Qx;obtain⟨hp,g,d,tk,os⟩:=s;dsimp only
 wp_walk
 refine M1 (JZ ?_);dsimp only;simp only[newObj];exact JU (SZ (JZ (JZ h)))
end
theorem gk:Slot "set_iterator" "__next__" "set_iterator.__next__":=.of (owner:="set_iterator") (n:="__next__") (by rw[RE,PM]; kernel_rfl) (by decide +kernel) (by decide +kernel) (by decide +kernel) (by first|exact .inl (by decide +kernel)|exact .inr (by decide +kernel)) (by rw[R0]; kernel_rfl)
theorem qS:Slot "set_iterator" "__iter__" "set_iterator.__iter__":=.of (owner:="set_iterator") (n:="__iter__") (by rw[RE,PM]; kernel_rfl) (by decide +kernel) (by decide +kernel) (by decide +kernel) (by first|exact .inl (by decide +kernel)|exact .inr (by decide +kernel)) (by rw[R0]; kernel_rfl)
theorem wj:entryFor table "set_iterator.__next__" = ba Ng.«set_iterator.__next__»:=entryFor_of_tree (by kernel_rfl)
theorem tj:entryFor table "set.__iter__" = ba Ng.«frozenset.__iter__»:=R1 (id':="frozenset.__iter__") (by kernel_rfl) rfl (by decide +kernel) (by kernel_rfl)
theorem yg (a:JW):argsOk "set_iterator.__next__" ⟨[a],[]⟩:=by unfold argsOk; kernel_rfl
section
variable{α:Type}{prog:KJ}{w:KT}{A:KP}{E:JW->JY->Prop}{s:JY}
theorem wl {src:Source}{n:J3}{Q:J3->JY->Prop}(hn:n≠0)(h:∀i dr,i < n->Q i { s with drawn:=dr }):wpAny (model prog w) A (choose src n) Q E s:=λ_ _ _=>⟨hn,h _ _ (Ps _ (Nat.pos_of_ne_zero hn))⟩
theorem iZ:∀ {l:JT α} {i:J3} (h:i < l.length),(l[i]::l.eraseIdx i).Perm l
 | x::l,0,_=>.refl _
 | x::l,i+1,h=>(TV _ _ _).trans ((iZ (l:=l) (i:=i) (by simpa using h)).cons x)
theorem lH:∀(n:J3) (xs:JT α) {s:JY} {Q:JT α->JY->Prop},xs.length=n->(∀ys dr,ys.Perm xs->Q ys { s with drawn:=dr })->wpAny (model prog w) A (drawOrder n xs) Q E s
 | 0,xs,s,Q,hl,h=>by
  obtain rfl:=Ms.mp hl;exact JZ (h [] s.drawn .nil)
 | n+1,[],s,Q,hl,h=>by cases hl
 | n+1,x::xs,s,Q,hl,h=>by
  unfold drawOrder;refine JU (wl (by simp) λi dr hi=>?_)
  rw[J5 hi];dsimp only;refine JU (lH n _ (by rw[No hi,hl]; rfl) λys dr' hp=>JZ (h _ dr' ?_))
  exact(hp.cons _).trans (iZ hi)
theorem uI {next:J3->J3}:∀(f k:J3) (left:JT α) (out:KC α),f=left.length->(pickOrder.go next f k left out).toList.Perm (out.toList++left)
 | 0,k,left,out,h=>by
  obtain rfl:=Ms.mp h.symm;simp[pickOrder.go]
 | f+1,k,left,out,h=>by
  unfold pickOrder.go;have hp:0 < left.length:=by omega
  have hi:next k % left.length < left.length:=Ps _ hp;rw[J5 hi];dsimp only;refine(uI f (k+1) _ _ (by rw[No hi]; omega)).trans ?_
  rw[OV,Mq];exact(iZ hi).append_left _
theorem gF {next:J3->J3}{xs:KC α}:(pickOrder next xs).toList.Perm xs.toList:=by
 have:=uI (next:=next) xs.size 0 xs.toList #[] (by simp)
 simpa [pickOrder]using this
noncomputable def SIt (I:J4)(f r:JW)(i n ep:J3)(h:K6):Prop:=h.get? I=ba { cls:=.type "set_iterator",data:=.fields [f,.int i 0,r,.int n 0,.int ep 0].toArray }
theorem SIt.type {I:J4}{f r:JW}{i n ep:J3}(x:SIt I f r i n ep s.heap):s.TypeIs (.ref I) "set_iterator":=⟨_,x,rfl⟩
theorem qT {I:J4}{Q:J1 JW->JY->Prop}{f r:JW}{i n ep:J3}(x:SIt I f r i n ep s.heap)(h:wpAny (model prog w) A.in1 (Ng.«set_iterator.__next__» ⟨[.ref I],[]⟩) (λfin s'=>∃v,fin=.done (.ret v)/\Q (ba v) s') (λe s'=>wpAny (model prog w) A (do if <- isInstance e (.type "StopIteration")then pure gV else throw e) Q E s') s):wpAny (model prog w) A (pyNext (.ref I)) Q E s:=by
 unfold pyNext;refine JU (Oc (Lk (name:=Ml "__next__") x.type gk (Ll gk x.type wj ?_ (yg _))));exact L0 h (λ_ _ ⟨v,e,q⟩=>⟨v,e,JZ q⟩) λ_ _ q=>q
noncomputable def Gq (prog:KJ)(w:KT)(A:KP)(Q:J1 JW->JY->Prop)(E:JW->JY->Prop)(e:JW)(s':JY):Prop:=wpAny (model prog w) A (do if <- isInstance e (.type "StopIteration")then pure gV else throw e) Q E s'
theorem qU {Q:J1 JW->JY->Prop}{Q2:TC->JY->Prop}(hh:A.handled=gV)(h:∀h',(∀b o,s.heap.get? b=ba o->h'.get? b=ba o)->Q gV { s with heap:=h' }):wpAny (model prog w) A.in1 (newExc (.type "StopIteration") [] >>= λx=>raiseNew x) Q2 (Gq prog w A Q E) s:=by
 refine JU ?_;simp only[newExc,newTuple];refine JU (KW ?_ (by size_fits))
 refine JU (m:=firstArgMember _ _) (NR (a:=K7) (by first|rfl|(simp only[firstArgMember]; rfl)) ?_)
 refine KW ?_ (by size_fits)
 simp only[raiseNew];refine JU (Qp ?_);rw[show A.in1.handled=gV from hh]
 refine JU (JZ (Rx ?_));refine JU (Nw (T:="StopIteration") (b:=true) ⟨_,Ke _ rfl,rfl⟩ P0 ?_);exact JZ (h _ λb o e=>JX _ (JX _ e))
section
variable{I a:J4}{f r:JW}{i n ep sl:J3}{o:LJ}{es:KC (Kh×JW)}{t:Lq}{Q:J1 JW->JY->Prop}
theorem gG {Q:Unit->JY->Prop}{vs:KC JW}{k:J3}{v:JW}(x:s.heap.get? I=ba { cls:=.type "set_iterator",data:=.fields vs })(hk:k < vs.size)(h:∀h',h'.get? I=ba { cls:=.type "set_iterator",data:=.fields (vs.setIfInBounds k v) }->L9 I s.heap h'->Q () { s with heap:=h' }):wpAny (model prog w) A (setField (.ref I) k v) Q E s:=M9 x hk h
theorem gH (x:SIt I (.int sl 0) (.ref a) i n ep s.heap)(ho:s.heap.get? a=ba o)(hd:o.data=.set es ep t)(hf:t.fits es.size=true)(hn:es.size=n)(hh:A.handled=gV){rs:J1 (JW×J3)}
  (hx:∀Q':J1 (JW×J3)->JY->Prop,Q' rs s->wpAny (model prog w) A.in1 (setNext a sl i ep) Q' (Gq prog w A Q E) s)
  (h1:∀v sl',rs=ba (v,sl')->∀h',SIt I (.int sl' 0) (.ref a) (i+1) n ep h'->(∀b o,b≠I->s.heap.get? b=ba o->h'.get? b=ba o)->Q (ba v) { s with heap:=h' })
  (h2:rs=gV->∀h',(∀b o,b≠I->s.heap.get? b=ba o->h'.get? b=ba o)->Q gV { s with heap:=h' }):wpAny (model prog w) A (pyNext (.ref I)) Q E s:=by
 refine qT x ?_;refine JU (JZ ?_);show wpAny _ _ (fieldsOf (.ref I) >>= _) _ _ s;refine JU (OF x rfl ?_);refine JU (Oo ho hd hf ?_);rw[KF (by simp[hn])]
 refine JU (hx _ ?_);cases rs with
 | some p=>
  obtain⟨v,sl'⟩:=p;dsimp only;refine JU (gG x (by simp) λh' x' sb'=>?_)
  refine JU (gG x' (by simp) λh2 x2 sb2=>?_)
  refine JZ ⟨v,rfl,h1 v sl' rfl h2 ?_ λb o hb e=>?_⟩
  ·simpa [SIt,rawInt]using x2
  ·rw[sb2.2 b hb,sb'.2 b hb]; exact e
 | none=>
  dsimp only;refine JU (gG x (by simp) λh' x' sb'=>?_)
  refine qU hh λh'' k=>h2 rfl h'' λb o hb e=>k b o (by rw[sb'.2 b hb]; exact e)
theorem og {tp:J4}{ps:JT J3}(x:SIt I (.ref tp) (.ref a) i n ep s.heap)(ho:s.heap.get? a=ba o)(hd:o.data=.set es ep t)(hf:t.fits es.size=true)(hn:es.size=n)(hh:A.handled=gV)
  (ht:s.heap.get? tp=ba { cls:=.type "tuple",data:=.seq (ps.map λk=>rawInt (k:J3)).toArray 0 })
  (h1:∀p e,ps[i]?=ba p->es[p]?=ba e->∀h',SIt I (.ref tp) (.ref a) (i+1) n ep h'->(∀b o,b≠I->s.heap.get? b=ba o->h'.get? b=ba o)->Q (ba e.2) { s with heap:=h' })
  (hp:∀p,ps[i]?=ba p->∃e,es[p]?=ba e)
  (h2:ps[i]?=gV->∀h',(∀b o,b≠I->s.heap.get? b=ba o->h'.get? b=ba o)->Q gV { s with heap:=h' }):wpAny (model prog w) A (pyNext (.ref I)) Q E s:=by
 refine qT x ?_;refine JU (JZ ?_);show wpAny _ _ (fieldsOf (.ref I) >>= _) _ _ s;refine JU (OF x rfl ?_);refine JU (Oo ho hd hf ?_);rw[KF (by simp[hn])]
 refine JU (LF ht rfl ?_);dsimp only;have hg:(ps.map λk=>rawInt (k:J3)).toArray[(i:Kh).toNat]?=(ps[i]?).map λk=>rawInt (k:J3):=by simp
 rw[hg];cases q:ps[i]? with
 | some p=>
  obtain⟨e,he⟩:=hp p q;show wpAny _ _ (setNextDrawn a (p:Kh).toNat (ep:Kh).toNat >>= _) _ _ s;unfold setNextDrawn;refine JU (JU (Lv ho hd hf ?_));dsimp only;rw[KF (by simp)]
  simp only[Km,he];refine JZ ?_;refine JU (gG x (by simp) λh' x' sb'=>?_)
  refine JZ ⟨e.2,rfl,h1 p e q he h' ?_ λb o hb z=>?_⟩
  ·simpa [SIt,rawInt]using x'
  ·rw[sb'.2 b hb]; exact z
 | none=>
  dsimp only[Option.map_none];refine JU (gG x (by simp) λh' x' sb'=>?_)
  refine JU (gG x' (by simp) λh3 x3 sb3=>?_)
  refine qU hh λh'' k=>h2 q h'' λb o hb e=>k b o (by rw[sb3.2 b hb,sb'.2 b hb]; exact e)
theorem oh {E:JW->JY->Prop}{Q:J1 (JW×J3)->JY->Prop}(ho:s.heap.get? a=ba o)(hd:o.data=.set es ep t)(hf:t.fits es.size=true)(hb:fB w=true)(h:Q ((((pickOrder (w.params.setOrder a ep) es).toList.map (·.2))[i]?).map λv=>(v,sl)) s):wpAny (model prog w) A (setNext a sl i ep) Q E s:=by
 unfold setNext;refine JU (Lv ho hd hf ?_);dsimp only;have ask1:∀ {Q:KD->JY->Prop},Q true s->wpAny (model prog w) A setsByText Q E s:=λ{Q} hq=>by
  unfold setsByText;refine JU (M1 (JZ ?_));show Q (fB w) s;rw[hb]; exact hq
 refine JU (ask1 ?_);rw[Ks rfl,KF (by simp)]
 refine JU ?_;unfold setWalk;refine JU (Lv ho hd hf ?_);dsimp only;refine JU (ask1 ?_);rw[Ks rfl];refine JU (M1 (JZ (JZ ?_)));have e:(((pickOrder (w.params.setOrder a ep) es)[i]?).map λe=>(e.2,sl))=((((pickOrder (w.params.setOrder a ep) es).toList.map (·.2))[i]?).map λv=>(v,sl)):=by
  rw[J6,Ls,Option.map_map]; rfl
 show Q (((pickOrder (w.params.setOrder a ep) es)[i]?).map λe=>(e.2,sl)) s
 rw[e]; exact h
theorem qV {E:JW->JY->Prop}{Q:J1 (JW×J3)->JY->Prop}(ho:s.heap.get? a=ba o)(hd:o.data=.set es ep t)(hf:t.fits es.size=true)(hb:fB w=false)(hl:t.led=true)(h1:es.size<=1)(hi:i=0/\sl=0\/i=es.size/\sl=(t.place.getD 0 0)+1)
  (h:Q (((es.toList.map (·.2))[i]?).map λv=>(v,t.place.getD 0 0+1)) s):wpAny (model prog w) A (setNext a sl i ep) Q E s:=by
 unfold setNext;refine JU (Lv ho hd hf ?_);dsimp only;have ask1:∀ {Q:KD->JY->Prop},Q false s->wpAny (model prog w) A setsByText Q E s:=λ{Q} hq=>by
  unfold setsByText;refine JU (M1 (JZ ?_));show Q (fB w) s;rw[hb]; exact hq
 refine JU (ask1 ?_);rw[KF Ku];refine Nb (λhc=>absurd hc (by show ¬ ((!t.plain&&decide (es.size > 1))=true); simp; omega)) (λ_=>?_)
 refine JU ?_;show wpAny _ _ (if (!t.led && !es.isEmpty)=true then unsupported "set:maker-not-led" else pure ()) _ _ s
 rw[KF (by simp[hl])]
 refine JZ (JZ ?_);obtain⟨es⟩:=es;obtain⟨mk,pl,dm,fg,ld,mv,pn⟩:=t;obtain⟨pl⟩:=pl;simp only[Sj,J2,beq_iff_eq]at hf
 match es,pl,hf.1,h1 with
 | [],[],_,_=>
  have:i=0:=by rcases hi with z|z <;> simpa using z.1
  subst this;exact h
 | [e],[j],_,_=>
  rcases hi with⟨rfl,rfl⟩|⟨rfl,rfl⟩
  ·exact h
  ·have e1:M0 [j].toArray (j+1)=1:=by
    show QY [j].toArray (j+1) 1 0 1=1;simp[QY]
   have e2:(({ mask:=mk,place:=[j].toArray,dummies:=dm,finger:=fg,led:=ld,moves:=mv,plain:=pn }:Lq).place.getD 0 0)=j:=rfl;show Q (match ([e].toArray:KC (Kh×JW))[M0 [j].toArray (j+1)]?,([j].toArray:KC J3)[M0 [j].toArray (j+1)]? with|some (_,x),ba j=>ba (x,j+1)|_,_=>gV) s
   rw[e1];exact h
 | e::e'::es,_,_,z=>simp at z
 | [],_::_,z,_=>simp at z
 | [_],[],z,_=>simp at z
 | [_],_::_::_,z,_=>simp at z
theorem lI {E:JW->JY->Prop}{Q:J1 (JW×J3)->JY->Prop}(ho:s.heap.get? a=ba o)(hd:o.data=.set es ep t)(hf:t.fits es.size=true)(hb:fB w=false)(hl:t.led=true)(hp:t.plain=true)(hw:M0 t.place sl=i)
  (h:Q (((es.toList.map (·.2))[i]?).map λv=>(v,t.place.getD i 0+1)) s):wpAny (model prog w) A (setNext a sl i ep) Q E s:=by
 unfold setNext;refine JU (Lv ho hd hf ?_);dsimp only;have ask1:∀ {Q:KD->JY->Prop},Q false s->wpAny (model prog w) A setsByText Q E s:=λ{Q} hq=>by
  unfold setsByText;refine JU (M1 (JZ ?_));show Q (fB w) s;rw[hb]; exact hq
 refine JU (ask1 ?_);rw[KF Ku];refine Nb (λhc=>absurd hc (by show ¬ ((!t.plain&&decide (es.size > 1))=true); simp[hp])) (λ_=>?_)
 refine JU ?_;show wpAny _ _ (if (!t.led && !es.isEmpty)=true then unsupported "set:maker-not-led" else pure ()) _ _ s
 rw[KF (by simp[hl])]
 refine JZ (JZ ?_);rw[hw];have hz:t.place.size=es.size:=by
  simp only[Sj,J2,beq_iff_eq]at hf;exact hf.1
 rw[J6,Ls]at h
 by_cases hi:i < es.size
 ·have e1:es[i]?=ba es[i]:=by simp[hi]
  have e2:t.place[i]?=ba (t.place.getD i 0):=by simp[NM,hz,hi]
  rw[e1]at h ⊢;rw[e2];exact h
 ·have e1:es[i]?=gV:=by simp; omega
  rw[e1]at h ⊢;exact h
end
end
theorem wm:entryFor table "set_iterator.__iter__" = ba Ng.«dict_keyiterator.__iter__»:=R1 (id':="dict_keyiterator.__iter__") (by kernel_rfl) rfl (by decide +kernel) (by kernel_rfl)
theorem yh (a:JW):argsOk "set_iterator.__iter__" ⟨[a],[]⟩:=by unfold argsOk; kernel_rfl
section
variable{prog:KJ}{w:KT}{A:KP}{E:JW->JY->Prop}{s:JY}{I a tp:J4}{f r:JW}{i n ep sl:J3}{o:LJ}{es:KC (Kh×JW)}{t:Lq}
theorem i3 {Q:JW->JY->Prop}(x:SIt I f r i n ep s.heap)(h:Q (.ref I) s):wpAny (model prog w) A (pyIter (.ref I)) Q E s:=by
 refine OW x.type qS (Ll qS x.type wm ?_ (yh _));show wpAny _ _ (ret (.ref I)) _ _ s;exact JZ ⟨_,rfl,"set_iterator",_,x.type,gk.lookup,h⟩
theorem qW {b x y:J4}(h:b∉[x]):b≠x:=λz=>h (by simp[z])
theorem tm (hh:A.handled=gV)(hne:a≠I)(hd:o.data=.set es ep t)(hf:t.fits es.size=true)(hb:fB w=true) :
  Ry prog w A I [I,a] [I] es.size (λi v=>((pickOrder (w.params.setOrder a ep) es).toList.map (·.2))[i]?=ba v) (λi h=>SIt I (.int 0 0) (.ref a) i es.size ep h/\h.get? a=ba o) where
 sub:=λb hb=>by simp at hb; simp[hb]
 frame:=λ_ _ _ st hk=>⟨hk I (by simp) _ st.1,hk a (by simp) _ st.2⟩
 item:=λi s Q E hi st hQ=>by
  have hl:((pickOrder (w.params.setOrder a ep) es).toList.map (·.2)).length=es.size:=by rw[JV,gF.length_eq,Ki]
  refine gH (sl:=0) st.1 st.2 hd hf rfl hh (λQ' hq=>oh st.2 hd hf hb hq) (λv sl' e h' x' k=>?_) λe h' k=>?_
  ·obtain⟨v',q,e⟩:=J0.mp e;cases e;exact hQ v h' s.toks q ⟨x',k a _ hne st.2⟩ λb o hb e=>k b o (qW (y:=b) hb) e
  ·rw[NX,Lf]at e;omega
 done:=λs Q E st hQ=>by
  have hl:((pickOrder (w.params.setOrder a ep) es).toList.map (·.2)).length=es.size:=by rw[JV,gF.length_eq,Ki]
  refine gH (sl:=0) st.1 st.2 hd hf rfl hh (λQ' hq=>oh st.2 hd hf hb hq) (λv sl' e h' x' k=>?_) λe h' k=>hQ h' s.toks λb o hb e=>k b o (qW (y:=b) hb) e
  obtain⟨v',q,e⟩:=J0.mp e;have:=(J9.mp q).1;omega
 self:=λ_ _ _ _ st hQ=>i3 st.1 hQ
theorem wn (hh:A.handled=gV)(hne:a≠I)(hd:o.data=.set es ep t)(hf:t.fits es.size=true)(hb:fB w=false)(hl:t.led=true)(h1:es.size<=1) :
  Ry prog w A I [I,a] [I] es.size (λi v=>(es.toList.map (·.2))[i]?=ba v) (λi h=>SIt I (.int ((if i=0 then 0 else t.place.getD 0 0+1:J3):Kh) 0) (.ref a) i es.size ep h/\h.get? a=ba o) where
 sub:=λb hb=>by simp at hb; simp[hb]
 frame:=λ_ _ _ st hk=>⟨hk I (by simp) _ st.1,hk a (by simp) _ st.2⟩
 item:=λi s Q E hi st hQ=>by
  have i0:i=0:=by omega
  subst i0;refine gH st.1 st.2 hd hf rfl hh (λQ' hq=>qV st.2 hd hf hb hl h1 (.inl ⟨rfl,rfl⟩) hq) (λv sl' e h' x' k=>?_) λe h' k=>?_
  ·obtain⟨v',q,e⟩:=J0.mp e;cases e;exact hQ v h' s.toks q ⟨x',k a _ hne st.2⟩ λb o hb e=>k b o (qW (y:=b) hb) e
  ·rw[NX,Lf,JV,Ki]at e;omega
 done:=λs Q E st hQ=>by
  refine gH st.1 st.2 hd hf rfl hh (λQ' hq=>qV st.2 hd hf hb hl h1 ?_ hq) (λv sl' e h' x' k=>?_) λe h' k=>hQ h' s.toks λb o hb e=>k b o (qW (y:=b) hb) e
  ·by_cases h0:es.size=0
   ·exact .inl ⟨h0,by rw[Ks h0]⟩
   ·exact .inr ⟨rfl,by rw[KF h0]⟩
  ·obtain⟨v',q,e⟩:=J0.mp e;have:=(J9.mp q).1;rw[JV,Ki]at this;omega
 self:=λ_ _ _ _ st hQ=>i3 st.1 hQ
theorem qX (hh:A.handled=gV)(hne:a≠I)(hd:o.data=.set es ep t)(hf:t.fits es.size=true)(hb:fB w=false)(hl:t.led=true)(hp:t.plain=true)(hw:fM t es.size=true) :
  Ry prog w A I [I,a] [I] es.size (λi v=>(es.toList.map (·.2))[i]?=ba v) (λi h=>SIt I (.int ((if i=0 then 0 else t.place.getD (i - 1) 0+1:J3):Kh) 0) (.ref a) i es.size ep h/\h.get? a=ba o):=by
 have go:∀i,i<=es.size->M0 t.place (if i=0 then 0 else t.place.getD (i - 1) 0+1)=i:=λi hi=>by
  simp only[fM,J2,Kq,Kr,KU]at hw
  by_cases h0:i=0
  ·rw[Ks h0,h0]; exact hw.1
  ·rw[KF h0,hw.2 (i - 1) (by omega)]; omega
 exact {
  sub:=λb hb=>by simp at hb; simp[hb]
  frame:=λ_ _ _ st hk=>⟨hk I (by simp) _ st.1,hk a (by simp) _ st.2⟩
  item:=λi s Q E hi st hQ=>by
   refine gH st.1 st.2 hd hf rfl hh (λQ' hq=>lI st.2 hd hf hb hl hp (go i (L8 ‹_›)) hq) (λv sl' e h' x' k=>?_) λe h' k=>?_
   ·obtain⟨v',q,e⟩:=J0.mp e;cases e;exact hQ v h' s.toks q ⟨by rw[KF (Rm i)]; exact x',k a _ hne st.2⟩ λb o hb e=>k b o (qW (y:=b) hb) e
   ·rw[NX,Lf,JV,Ki]at e;omega
  done:=λs Q E st hQ=>by
   refine gH st.1 st.2 hd hf rfl hh (λQ' hq=>lI st.2 hd hf hb hl hp (go _ (J7 _)) hq) (λv sl' e h' x' k=>?_) λe h' k=>hQ h' s.toks λb o hb e=>k b o (qW (y:=b) hb) e
   obtain⟨v',q,e⟩:=J0.mp e;have:=(J9.mp q).1;rw[JV,Ki]at this;omega
  self:=λ_ _ _ _ st hQ=>i3 st.1 hQ }
theorem qY {ps:JT J3}(hh:A.handled=gV)(hne:a≠I)(hnt:tp≠I)(hd:o.data=.set es ep t)(hf:t.fits es.size=true)(hp:ps.Perm (KA es.size)) :
  Ry prog w A I [I,a,tp] [I] es.size (λi v=>(ps.map λp=>(es.getD p (0,.none)).2)[i]?=ba v) (λi h=>SIt I (.ref tp) (.ref a) i es.size ep h/\h.get? a=ba o/\h.get? tp=ba { cls:=.type "tuple",data:=.seq (ps.map λk=>rawInt (k:J3)).toArray 0 }) where
 sub:=λb hb=>by simp at hb; simp[hb]
 frame:=λ_ _ _ st hk=>⟨hk I (by simp) _ st.1,hk a (by simp) _ st.2.1,hk tp (by simp) _ st.2.2⟩
 item:=λi s Q E hi st hQ=>by
  have lt:∀ {p},ps[i]?=ba p->p < es.size:=λq=>KU.mp (hp.mem_iff.mp (Kf q))
  refine og st.1 st.2.1 hd hf rfl hh st.2.2 (λp e q qe h' x' k=>?_) (λp q=>⟨es[p]'(lt q),by simp[lt q]⟩) λe h' k=>?_
  ·refine hQ e.2 h' s.toks ?_ ⟨x',k a _ hne st.2.1,k tp _ hnt st.2.2⟩ λb o hb e=>k b o (qW (y:=b) hb) e
   rw[J6,q];simp[NM,lt q];rw[Mj (lt q)]at qe;cases qe; rfl
  ·rw[Lf,hp.length_eq,KI]at e;omega
 done:=λs Q E st hQ=>by
  refine og st.1 st.2.1 hd hf rfl hh st.2.2 (λp e q qe h' x' k=>?_) (λp q=>?_) λe h' k=>hQ h' s.toks λb o hb e=>k b o (qW (y:=b) hb) e
  ·have:=(J9.mp q).1;rw[hp.length_eq,KI]at this;omega
  ·have:=(J9.mp q).1;rw[hp.length_eq,KI]at this;omega
 self:=λ_ _ _ _ st hQ=>i3 st.1 hQ
end
section
variable{prog:KJ}{w:KT}{A:KP}{E:JW->JY->Prop}{s:JY}{a:J4}{o:LJ}{xs:JT Kn}{es:KC (Kh×JW)}{ep:J3}{t:Lq}
structure SetWalk (prog:KJ)(w:KT)(A:KP)(s:JY)(a:J4)(es:KC (Kh×JW))(I:J4)(h':K6):Prop where
 ex:∃(fp:JT J4) (St:J3->K6->Prop) (us:JT JW) (n:J3),us.Perm (es.toList.map (·.2))/\us.length=n/\Ry prog w A I fp [I] n (λi v=>us[i]?=ba v) St/\St 0 h'/\∀b∈fp,b=a\/s.heap.objs.size<=b/\b < h'.objs.size
 new:s.heap.objs.size<=I
 keep:∀b u,s.heap.get? b=ba u->h'.get? b=ba u
theorem yi {Q:JW->JY->Prop}(hh:A.handled=gV)(ho:s.heap.get? a=ba o)(hex:o.ExactSet)(hd:o.data=.set es ep t)(hz:es.size<=sizeLine)(fit:t.fits es.size=true)(led:t.led = !fB w)(pl:t.plain=true->es.size=0\/fM t es.size=true)(h:∀I h' dr,SetWalk prog w A s a es I h'->Q (.ref I) { s with heap:=h',drawn:=dr }):wpAny (model prog w) A (pyIter (.ref a)) Q E s:=by
 have hT:s.TypeIs (.ref a) "set":=⟨o,ho,hex.1⟩;have ha:a < s.heap.objs.size:=Kl ho;refine OW hT F.slot_set_iter (Ll F.slot_set_iter hT tj ?_ (F.args_set_iter_1 _));unfold Ng.«frozenset.__iter__»;refine JU (JU (JZ ?_));show wpAny _ _ (pure a) _ _ s;refine JZ ?_;unfold Sk setDrawn;refine JU (JU (Oo ho hd fit (JZ ?_)));refine JU (JU (Lv ho hd fit ?_));dsimp only;unfold setsByText;refine JU (JU (M1 (JZ (JZ ?_))));have oI:∀(f:JW) (h0:K6),(h0.push { cls:=.type "set_iterator",data:=.fields [f,rawInt 0,.ref a,rawInt es.size,rawInt ep].toArray }).get? h0.objs.size=ba { cls:=.type "set_iterator",data:=.fields [f,rawInt 0,.ref a,rawInt es.size,rawInt ep].toArray }:=λf h0=>Ke _ rfl
 refine Nb (λhc=>?_) (λhc=>?_)
 ·refine JU (lH es.size _ KI λps dr hp=>?_)
  refine JU (P1 ?_ (by rw[JV,hp.length_eq,KI]; exact hz))
  have o1:=JX (seqObj "tuple" (ps.map λk=>rawInt (k:J3)).toArray 0) ho
  refine JU (QZ o1 hd fit ?_);refine JU (KW (JZ ⟨_,rfl,"set_iterator",_,⟨_,oI _ _,rfl⟩,gk.lookup,?_⟩));have z1:(s.heap.push (seqObj "tuple" (ps.map λk=>rawInt (k:J3)).toArray 0)).objs.size=s.heap.objs.size+1:=LV ..
  have W:=qY (prog:=prog) (w:=w) (A:=A) (a:=a) (I:=(s.heap.push (seqObj "tuple" (ps.map λk=>rawInt (k:J3)).toArray 0)).objs.size) (tp:=s.heap.objs.size) (ps:=ps) hh (by rw[z1]; exact Kt (MQ ha)) (by rw[z1]; exact Kt (L5 _)) hd fit hp
  have eL:(ps.map λp=>(es.getD p (0,K7)).2).length=es.size:=by rw[JV,hp.length_eq,KI]
  refine h _ _ dr ⟨⟨_,_,ps.map λp=>(es.getD p (0,K7)).2,_,?_,eL,W,⟨oI _ _,JX _ o1,JX _ (Ke _ rfl)⟩,λb hb=>?_⟩,by rw[z1]; exact MO _,λb u e=>JX _ (JX _ e)⟩
  ·refine(hp.map _).trans ?_;have e:((KA es.size).map λp=>(es.getD p (0,K7)).2)=es.toList.map λe=>e.2:=by
    apply Nx
    ·simp
    ·intro k h1 h2;simp only[JV,KI]at h1;simp[NM,h1]
   rw[e]
  ·rw[LV,z1];simp only[Kz,Lg,ME]at hb;rcases hb with rfl|rfl|rfl
   ·exact .inr ⟨by rw[z1]; exact MO _,by rw[z1]; exact L5 _⟩
   ·exact .inl rfl
   ·exact .inr ⟨J7 _,MQ (L5 _)⟩
 ·refine JU (JZ (JU (QZ ho hd fit ?_)));refine JU (KW (JZ ⟨_,rfl,"set_iterator",_,⟨_,oI _ _,rfl⟩,gk.lookup,?_⟩));have near:∀b∈[s.heap.objs.size,a],b=a\/s.heap.objs.size<=b/\b < (s.heap.push { cls:=.type "set_iterator",data:=.fields [rawInt 0,rawInt 0,.ref a,rawInt es.size,rawInt ep].toArray }).objs.size:=λb hb=>by
   rw[LV];simp only[Kz,Lg,ME]at hb;rcases hb with rfl|rfl
   ·exact .inr ⟨J7 _,L5 _⟩
   ·exact .inl rfl
  cases hb:fB w with
  | true=>
   have W:=tm (prog:=prog) (A:=A) (I:=s.heap.objs.size) hh (Kt ha) hd fit hb;have eL:((pickOrder (w.params.setOrder a ep) es).toList.map (·.2)).length=es.size:=by rw[JV,gF.length_eq,Ki]
   refine h _ _ s.drawn ⟨⟨[s.heap.objs.size,a],_,(pickOrder (w.params.setOrder a ep) es).toList.map (·.2),_,gF.map _,eL,W,⟨oI _ _,JX _ ho⟩,near⟩,J7 _,λb u e=>JX _ e⟩
  | false=>
   have hl:t.led=true:=by rw[led,hb]; rfl
   have eL:(es.toList.map (·.2)).length=es.size:=by rw[JV,Ki]
   by_cases hpw:t.plain=true/\fM t es.size=true
   ·have W:=qX (prog:=prog) (A:=A) (I:=s.heap.objs.size) hh (Kt ha) hd fit hb hl hpw.1 hpw.2;refine h _ _ s.drawn ⟨⟨[s.heap.objs.size,a],_,es.toList.map (·.2),_,.refl _,eL,W,⟨oI _ _,JX _ ho⟩,near⟩,J7 _,λb u e=>JX _ e⟩
   have h1:es.size<=1:=by
    cases hp:t.plain with
    | true=>
     rcases pl hp with z|z
     ·rw[z]; exact LR _
     ·exact absurd ⟨hp,z⟩ hpw
    | false=>
     refine Rl λz=>hc ?_
     show((!fB w)&&((!t.plain)&&decide (es.size > 1)))=true;rw[hb,hp]
     simpa using z
   have W:=wn (prog:=prog) (A:=A) (I:=s.heap.objs.size) hh (Kt ha) hd fit hb hl h1;refine h _ _ s.drawn ⟨⟨[s.heap.objs.size,a],_,es.toList.map (·.2),_,.refl _,eL,W,⟨oI _ _,JX _ ho⟩,near⟩,J7 _,λb u e=>JX _ e⟩
theorem yj {Q:KD->JY->Prop}(hT:s.TypeIs (.ref a) "set")(h:Q false s):wpAny (model prog w) A (Ou (.ref a)) Q E s:=by
 unfold Ou;refine JU (PD hT F.slot_set_len.lookup ?_);generalize hid:("set.__len__" : LB)=k0
 wp_delta
 rw[show splitId k0=ba ("set","__len__")from by subst hid; decide +kernel]
 subst hid;refine JU (Nw (T:="set") (b:=true) hT Qx ?_);refine Nb (λz=>absurd z (by decide)) (λ_=>Nb (λ_=>?_) (λz=>absurd (by decide +kernel) z))
 exact JU (M7 hT (JZ h))
theorem qZ {Q:JT JW->JY->Prop}(hh:A.handled=gV)(ho:s.heap.get? a=ba o)(hex:o.ExactSet)(hd:o.data=.set es ep t)(hz:es.size<=sizeLine)(fit:t.fits es.size=true)(led:t.led = !fB w)(pl:t.plain=true->es.size=0\/fM t es.size=true)
  (hQ:∀h' tk dr us,(∀b u,s.heap.get? b=ba u->h'.get? b=ba u)->s.heap.objs.size<=h'.objs.size->us.Perm (es.toList.map (·.2))->Q us { s with heap:=h',toks:=tk,drawn:=dr }):wpAny (model prog w) A (collect (.ref a)) Q E s:=by
 have ha:a < s.heap.objs.size:=Kl ho;unfold collect;refine JU (NY (Ln F.entry_proto_collect ?_));rw[Ld F.plain_proto_collect _];show wpAny _ A.in1 (newList [] >>= λl=>again (.builtin "list.__iadd__" ⟨[l,.ref a],[]⟩)) _ _ s
 refine JU (KW ?_);have oL:(s.heap.push { cls:=.type "list",data:=.seq ([]:JT JW).toArray }).get? s.heap.objs.size=ba { cls:=.type "list",data:=.seq #[] 0 }:=Ke _ rfl;have o1:=JX { cls:=.type "list",data:=.seq ([]:JT JW).toArray } ho;have z1:(s.heap.push { cls:=.type "list",data:=.seq ([]:JT JW).toArray }).objs.size=s.heap.objs.size+1:=LV ..;refine JZ ⟨L7 F.plain_list_iadd _,Ln F.entry_list_iadd ?_⟩;rw[Ld F.plain_list_iadd _];show wpAny _ A.in1 (LI (.ref s.heap.objs.size) (.ref a) (.ref s.heap.objs.size)) _ _ _;unfold LI;refine JU (M7 (T:="set") ⟨o,o1,hex.1⟩ ?_);have n1:O3 (.ref s.heap.objs.size) (.ref a)=false:=by
  have:s.heap.objs.size≠a:=KM ha;simp[O3,this]
 have n2:(LZ "set" == LZ "list")=false:=by decide
 have n3:(LZ "set" == LZ "tuple")=false:=by decide
 simp only[n1,n2,n3,Qo,Ky,Lr];refine JU (yi (A:=A.in1) (by simp[hh]) o1 hex hd hz fit led pl λI h' dr W=>?_)
 obtain⟨⟨fp,St,us,n,hP,hn,W,st,hfp⟩,hI,kp⟩:=W;rw[z1]at hI;have oa:=kp a o o1;refine JU (Li (yj ⟨o,oa,hex.1⟩ ?_));have oL1:=kp _ _ oL;have hD:s.heap.objs.size∉fp:=λz=>by
  rcases hfp _ z with e|⟨e,_⟩
  ·exact KM ha e
  ·rw[z1]at e; exact Nat.not_succ_le_self _ e
 refine Nb (λ_=>?_) (λz=>absurd (by decide +kernel) z)
 refine JU (Pl (JU ?_));show wpAny _ _ (updateSeq s.heap.objs.size (·.push .none) >>= λ_=>updateSeq s.heap.objs.size (·.pop)) _ _ _
 refine JU (NK oL1 rfl ?_);have oL2:=LH (LC (·.push K7)) oL1 rfl
 refine NK (hz:=by seq_fits) oL2 rfl ?_
 have oL3:=LH (LC (·.pop)) oL2 rfl
 have hnl:n<=sizeLine:=by rw[<- hn,hP.length_eq,JV,Ki]; exact hz
 refine JZ ⟨L7 PySem.F.plain_extend_loop _,codeAny_extend_loopS W.toS hnl s.heap.objs.size hD (.ref s.heap.objs.size) n 0 _ #[] _ rfl (LR _) (W.frame 0 _ _ st λb hb u e=>?_) oL3 (ItemsOf.nil _) λs' acc c' mv oS hacc=>?_⟩
 ·have hb':b≠s.heap.objs.size:=λz=>hD (z ▸ hb)
  exact(K5 _ _ (Ne.symm hb')).trans ((K5 _ _ (Ne.symm hb')).trans e)
 ·rw[Sl mv];show wpAny (model prog w) A (do
    let o <- load s.heap.objs.size
    match o.data with
    | .seq xs _=>pure xs.toList
    | _=>unsupported "internal:collect") Q E _
  refine JU (Pn oS (JZ ?_));have eU:acc.toList=us:=by
   apply OX;intro i
   by_cases hi:i < n
   ·have h1:i < acc.size:=by rw[hacc.1]; exact hi
    have:=hacc.2 i acc[i] (by simp[h1])
    rw[this,Ls]; simp[h1]
   ·rw[Nd (by rw[Ki,hacc.1]; omega),Nd (by omega)]
  rw[eU];refine hQ _ _ dr us (λb u e=>?_) (L8 (Kl oS)) hP
  have hb:=Kl e;have hb':b≠s.heap.objs.size:=Kt hb;refine mv.heap b u (λz=>?_) ((K5 _ _ (Ne.symm hb')).trans ((K5 _ _ (Ne.symm hb')).trans (kp b u (JX _ e))))
  simp only[Kz,Lg,ME]at z;rcases z with z|z
  ·exact hb' z
  ·rw[z]at hb; exact LA _ (Kx (MQ hb) hI)
end
noncomputable def yk (S:aa)(i:J3):J1 (Kh×Kh):=match S[i]? with
 | some (.rng lo hi)=>ba (lo,hi)
 | _=>gV
noncomputable def lJ (xs:JT W)(S:aa):J1 (W×aa):=match xs with
 | [.int j]=>if -(2 ^ 62)<=j/\j < 2 ^ 62 then ba (.ref S.length,S++[.rng 0 j])else gV
 | _=>gV
noncomputable def BI (lo:Kh)(n:J3):JT W:=(KA n).map λ(k:J3)=>.int (lo+(k:Kh))
noncomputable def kA (xs:JT W)(S:aa):J1 (W×aa):=match xs with
 | [.ref i]=>match yk S i with
  | some (lo,hi)=>if -(2 ^ 62)<=lo/\lo < 2 ^ 62/\-(2 ^ 62)<=hi/\hi < 2 ^ 62/\(hi - lo).toNat<=sizeLine then ba (.ref S.length,S++[.lst (BI lo (hi - lo).toNat)])else gV
  | none=>iW [.ref i] S
 | xs=>iW xs S
section
variable{X:Cx}{pins:JT (J4×LJ)}{σ:L2.St}{H:Hp}{s:JY}{A:JT J4}{S:aa}
theorem Inv.drawn (I:Inv X pins σ H s)(d:TN):Inv X pins σ H { s with drawn:=d }:=⟨I.ok,I.os,I.bare,I.base,I.loc,I.cell,I.free,I.freeC,I.pin,I.hok,I.len⟩
theorem i4 {h':K6}{tk:J3}{dr:TN}{D:J4}{n:O}{u:HO}(I:Inv X pins σ H s)(so:StoreOk X.w X.K A H S)(hk:∀b o,s.heap.get? b=ba o->h'.get? b=ba o)(hD:s.heap.objs.size<=D)(new:ObjOk X.prog X.w (bZ H D u) h' D u)
  (r:H D=gV->ObjRel X.w X.K (A++[D]) (bZ H D u) D n):d0 X pins σ A H (S++[n]) (.ref S.length) (.ref D) { s with heap:=h',toks:=tk,drawn:=dr }:=by
 have hn:H D=gV:=I.hok.fresh hD;refine⟨.ref D,_,A++[D],Mi.Inv.drawn (I.laid (a:=D) (o:=u) (t':=tk) hk hD new) dr,rfl,da hn,so.pushO hn (r hn),.ref ?_⟩;rw[<- so.len]; simp
theorem pJ:∀ {vs:JT V} {us:JT JW},vs.length=us.length->(∀(i:J3) v u,vs[i]?=ba v->us[i]?=ba u->L2.RelV v u)->Vals vs us
 | [],[],_,_=>.nil
 | v::vs,u::us,hl,h=>.cons (h 0 v u rfl rfl) (pJ (by simpa using hl) λi v u a b=>h (i+1) v u (by simpa using a) (by simpa using b))
 | [],_::_,hl,_=>by cases hl
 | _::_,[],hl,_=>by cases hl
theorem pK {K:Kb}{lo:Kh}:∀(l:JT J3),RelL K A H (l.map λ(k:J3)=>W.int (lo+(k:Kh))) (l.map λ(k:J3)=>V.int (lo+(k:Kh)))
 | []=>.nil
 | _::l=>.cons .int (pK l)
theorem lg {xs:JT W}{vs:JT V}{us:JT JW}{i:J3}(rl:RelL X.K A H [.ref i] vs)(rv:Vals vs us):∃a,A[i]?=ba a/\us=[.ref a]:=by
 cases rl with
 | cons r t=>
  cases t;cases r with
  | @ref _ a ea=>
   cases rv with
   | cons ru rv=>
    cases rv;obtain rfl:_=KO a:=ru;exact⟨a,ea,rfl⟩
theorem q8:LCall X (.type "range") lJ:=by
 intro pins s σ H A S xs vs us w S' I so rl rv e;unfold lJ at e;split at e
 ·rename_i j;split at e
  ·rename_i hb;cases e;cases rl with
   | cons r t=>
    cases t;cases r;cases rv with
    | cons ru rv=>
     cases rv;obtain⟨tk,rfl⟩:=ru;exact SC (i4 (dr:=s.drawn) (u:=.rng 0 j) I so (λb o e=>JX _ e) (J7 _) ⟨_,_,_,Ke _ rfl⟩ λ_=>bg)
  ·cases e
 ·cases e
theorem q9 (hh:X.A.handled=gV):LCall X (.type "list") kA:=by
 intro pins s σ H A S xs vs us w S' I so rl rv e;unfold kA at e;split at e
 ·rename_i i;split at e
  ·rename_i lo hi hr;split at e
   ·rename_i hb;cases e;obtain⟨a,ea,rfl⟩:=lg (xs:=[]) rl rv;obtain⟨b1,b2,b3,b4,b5⟩:=hb;have hH:H a=ba (.rng lo hi):=by
     unfold yk at hr;split at hr
     ·rename_i hx; cases hr; exact so.obj i _ a hx ea
     ·cases hr
    obtain⟨t,u,v,ho⟩:=I.hok a _ hH;have hn:L3 lo hi 1=((hi - lo).toNat:J3):=by rw[Qm]; split <;> omega
    refine call_list_range hh ho (Sx b1 b2 b3 b4) hn b5 λh' tk acc c hk hD hacc=>?_
    have hv:Vals ((KA (hi - lo).toNat).map λ(k:J3)=>V.int (lo+(k:Kh))) acc.toList:=by
     refine pJ (by rw[JV,KI,Ki,hacc.1]) λi v u e1 e2=>?_
     rw[J6,J0]at e1;obtain⟨k,e1,rfl⟩:=e1;obtain⟨hk,rfl⟩:=J9.mp e1;obtain⟨t,rfl⟩:=hacc.2 i u (by rw[<- Ls]; exact e2)
     exact⟨t,by simp⟩
    refine i4 (dr:=s.drawn) (u:=.lst ((KA (hi - lo).toNat).map λ(k:J3)=>V.int (lo+(k:Kh)))) I so hk (J7 _) ⟨by simpa using b5,acc.toList,c,hv,by simpa using hD⟩ λhn=>⟨_,bg,?_⟩
    exact pK _
   ·cases e
  ·exact iw pins s σ H A S _ vs us w S' I so rl rv e
 ·exact iw pins s σ H A S _ vs us w S' I so rl rv e
end
mutual
inductive IsT (h:K6):T->JW->Prop
 | int {i:Kh} {t:T0}:IsT h (.int i) (.int i t)
 | str {x:Kn} {t:T0}:IsT h (.str x) (.str x t)
 | tup {ks:JT T} {a:J4} {o:LJ} {items:KC JW} {n:J3}:h.get? a=ba o->o.cls=.type "tuple"->o.data=.seq items n->IsTs h ks items.toList->IsT h (.tup ks) (.ref a)
inductive IsTs (h:K6):JT T->JT JW->Prop
 | nil:IsTs h [] []
 | cons {k:T} {v:JW} {ks:JT T} {vs:JT JW}:IsT h k v->IsTs h ks vs->IsTs h (k::ks) (v::vs)
end
mutual
theorem IsT.inj {h:K6}:∀ {x y:T} {v:JW},IsT h x v->IsT h y v->x=y
 | _,_,_,.int,h2=>by cases h2; rfl
 | _,_,_,.str,h2=>by cases h2; rfl
 | _,_,_,.tup a1 _ d1 t1,h2=>by
  cases h2 with
  | tup a2 _ d2 t2=>
   rw[a1]at a2; cases a2
   rw[d1]at d2; cases d2
   rw[IsTs.inj t1 t2]
theorem IsTs.inj {h:K6}:∀ {x y:JT T} {v:JT JW},IsTs h x v->IsTs h y v->x=y
 | _,_,_,.nil,h2=>by cases h2; rfl
 | _,_,_,.cons a b,h2=>by
  cases h2 with
  | cons c d=>rw[IsT.inj a c,IsTs.inj b d]
end
mutual
theorem IsT.keeps {h h':K6}{d:J4}{o:LJ}{es:KC Mr}{ep:J3}(ho:h.get? d=ba o)(hd:o.data=.dict es ep)(hs:L9 d h h'):∀ {x:T} {v:JW},IsT h x v->IsT h' x v
 | _,_,.int=>.int
 | _,_,.str=>.str
 | _,_,.tup (a:=a) a1 c1 d1 t1=>by
  have hne:a≠d:=by
   rintro rfl;rw[a1]at ho; cases ho
   rw[d1]at hd; cases hd
  exact .tup ((hs.2 a hne).trans a1) c1 d1 (IsTs.keeps ho hd hs t1)
theorem IsTs.keeps {h h':K6}{d:J4}{o:LJ}{es:KC Mr}{ep:J3}(ho:h.get? d=ba o)(hd:o.data=.dict es ep)(hs:L9 d h h'):∀ {x:JT T} {v:JT JW},IsTs h x v->IsTs h' x v
 | _,_,.nil=>.nil
 | _,_,.cons a b=>.cons (IsT.keeps ho hd hs a) (IsTs.keeps ho hd hs b)
end
theorem IsTs.length {h:K6}:∀ {x:JT T} {v:JT JW},IsTs h x v->x.length=v.length
 | _,_,.nil=>rfl
 | _,_,.cons _ b=>by simp[IsTs.length b]
theorem IsTs.get {h:K6}:∀ {x:JT T} {v:JT JW},IsTs h x v->∀(j:J3) (h1:j < x.length) (h2:j < v.length),IsT h x[j] v[j]
 | _,_,.cons a _,0,_,_=>a
 | _,_,.cons _ b,j+1,h1,h2=>IsTs.get b j (by simpa using h1) (by simpa using h2)
theorem cK:∀ {ks:JT T} (j:J3) (h:j < ks.length),(ks[j]).depth<=T.depths ks
 | k::ks,0,_=>by simp only[T.depths,List.getElem_cons_zero]; omega
 | k::ks,j+1,h=>by
  have:=cK (ks:=ks) j (by simpa using h)
  simp only[T.depths,List.getElem_cons_succ]; omega
section
variable{prog:KJ}{w:KT}{E:JW->JY->Prop}
mutual
theorem rc:∀(k:T) (v:JW) (A:KP) (s:JY) (Q:Kh->JY->Prop),IsT s.heap k v->A.units+k.depth < cLine->Q (eT w k) { s with toks:=s.toks+k.draws }->wpAny (model prog w) A (pyHash v) Q E s
 | .int i,_,A,s,Q,x,_,h=>by cases x; exact Re h
 | .str y,_,A,s,Q,x,_,h=>by cases x; exact Rf h
 | .tup ks,_,A,s,Q,x,hu,h=>by
  cases x with
  | @tup _ a o items n hg hc hd hw=>
   simp only[T.depth]at hu;refine PySem.W.pyHash_slot (T:="tuple") ⟨_,hg,hc⟩ F.slot_tuple_hash F.entry_tuple_hash (F.args_tuple_hash_1 _) (beq_builtin_none _) (.inr (by omega)) ?_
   show wpAny _ _ (Nn (.ref a) >>= _) _ _ s;refine JU (wpAny_tupleItemsOf hg hd ?_);refine JU ?_;rw[<- NN];refine lK ks items.toList A.in1 s #[] _ hw (by rw[bh]; omega) λb hb=>?_
   show wpAny _ _ (retInt (Nz b.toList)) _ _ _;rw[hb];refine JU (Ta (JZ ⟨_,_,rfl,?_⟩))
   simpa [T.draws,Sn,eT]using h
theorem lK:∀(ks:JT T) (vs:JT JW) (A:KP) (s:JY) (b:KC Kh) (Q:KC Kh->JY->Prop),IsTs s.heap ks vs->A.units+T.depths ks < cLine->
  (∀b',b'.toList=b.toList++iq w ks->Q b' { s with toks:=s.toks+T.drawss ks })->
  wpAny (model prog w) A (forIn vs b λx r=>do let h <- pyHash x; pure Qy; pure (LY (r.push h))) Q E s
 | [],_,A,s,b,Q,x,_,h=>by cases x; exact JZ (h b (by simp[iq]))
 | k::ks,_,A,s,b,Q,x,hu,h=>by
  cases x with
  | cons x1 x2=>
   simp only[T.depths]at hu;rw[Oi];refine JU (JU (rc k _ A s _ x1 (by omega) ?_))
   refine JU (JZ (JZ ?_));refine lK ks _ A _ _ Q x2 (by omega) λb' hb=>?_
   have:=h b' (by simp[hb,iq])
   simpa [T.drawss,Sn]using this
end
open SeqAt in
theorem ym:∀(d:J3) (x y:T) (u v:JW) (B:KP) (s:JY),x.depth<=d->IsT s.heap x u->IsT s.heap y v->B.units+d < cLine->B.units+y.depth < cLine->EqAt B s u v (decide (x=y))
 | d,.int i,y,_,_,B,s,_,h1,h2,hu,hv=>by
  cases h1;cases h2 with
  | int=>
   rename_i j t2;have:decide (T.int i=T.int j)=(i==j):=by by_cases e:i=j <;> simp[e]
   rw[this]; exact .int_int _ _ _ _
  | str=>rw[KN (by simp)]; exact .int_str _ _ _ _
  | tup a c dd t=>rw[KN (by simp)]; exact .int_tuple _ _ ⟨_,a,c,_,dd⟩ (by simp only[T.depth]at hv; omega)
 | d,.str z,y,_,_,B,s,_,h1,h2,hu,hv=>by
  cases h1;cases h2 with
  | int=>rw[KN (by simp)]; exact .str_int _ _ _ _
  | str=>
   rename_i z2 t2;have:decide (T.str z=T.str z2)=(z==z2):=by by_cases e:z=z2 <;> simp[e]
   rw[this]; exact .str_str _ _ _ _
  | tup a c dd t=>rw[KN (by simp)]; exact .str_tuple _ _ ⟨_,a,c,_,dd⟩ (by simp only[T.depth]at hv; omega)
 | 0,.tup ks,y,_,_,B,s,hd,h1,h2,hu,hv=>by simp[T.depth]at hd
 | d+1,.tup ks,y,_,_,B,s,hd,h1,h2,hu,hv=>by
  have h1':=h1;cases h1 with
  | @tup _ a o items n a1 c1 d1 t1=>
   have hT:s.heap.IsTuple a items:=⟨_,a1,c1,_,d1⟩;simp only[T.depth]at hd;cases h2 with
   | int=>rw[KN (by simp)]; exact .tuple_int _ _ hT (by omega)
   | str=>rw[KN (by simp)]; exact .tuple_str _ _ hT (by omega)
   | @tup ks2 b o2 items2 n2 a2 c2 d2 t2=>
    have hT2:s.heap.IsTuple b items2:=⟨_,a2,c2,_,d2⟩
    by_cases hab:a=b
    ·subst hab;have:T.tup ks=T.tup ks2:=h1'.inj (.tup a2 c2 d2 t2);rw[Ly this];exact EqAt.same _
    ·refine EqAt.of_refs hab ?_;simp only[T.depth]at hv;have l1:items.size=ks.length:=by rw[<- Ki,t1.length]
     have l2:items2.size=ks2.length:=by rw[<- Ki,t2.length]
     let e:J3->KD:=λj=>if h:j < ks.length/\j < ks2.length then decide (ks[j]'h.1=ks2[j]'h.2)else true
     have he:∀j (h1:j < items.size) (h2:j < items2.size),EqAt B.in1 s items[j] items2[j] (e j):=λj j1 j2=>by
      have g1:=t1.get j (l1 ▸ j1) (by simpa using j1)
      have g2:=t2.get j (l2 ▸ j2) (by simpa using j2)
      have q1:=cK (ks:=ks) j (l1 ▸ j1);have q2:=cK (ks:=ks2) j (l2 ▸ j2);have:=ym d _ _ _ _ B.in1 s (by omega) g1 g2 (by rw[bh]; omega) (by rw[bh]; omega)
      show EqAt B.in1 s items[j] items2[j] (if h:j < ks.length/\j < ks2.length then decide (ks[j]'h.1=ks2[j]'h.2)else true)
      rw[Tv ⟨l1 ▸ j1,l2 ▸ j2⟩]
      simpa using this
     have:=RcAt.tuples hT hT2 (by omega) he
     have hk:((KA (min items.size items2.size)).all e&&items.size==items2.size)=decide (T.tup ks=T.tup ks2):=by
      rw[l1,l2]
      by_cases hl:ks.length=ks2.length
      ·by_cases hq:ks=ks2
       ·subst hq;simp only[SF,Lc,NH,Rz,Kr,KU];intro j hj;show(if h:j < ks.length/\j < ks.length then decide (ks[j]'h.1=ks[j]'h.2)else true)=true
        rw[Tv ⟨hj,hj⟩]; simp
       ·rw[KN (by simpa using hq)]
        have:∃j,∃h:j < ks.length,ks[j]≠ks2[j]'(hl ▸ h):=by
         apply OP;intro hn;exact hq (Nx hl λj h1 h2=>OP λz=>hn ⟨j,h1,z⟩)
        obtain⟨j,hj,hne⟩:=this;rw[PN];left;rw[List.all_eq_false];refine⟨j,by rw[KU,<- hl,SF]; exact hj,?_⟩
        show ¬ (if h:j < ks.length/\j < ks2.length then decide (ks[j]'h.1=ks2[j]'h.2)else true)=true
        rw[Tv ⟨hj,hl ▸ hj⟩]
        simpa using hne
      ·rw[KN (by simp; intro z; exact hl (by rw[z])),PN]
       right
       simpa using hl
     rw[hk]at this;exact this
theorem ol {n:J3}{v:JW}(h:∀a,v≠.ref a):eqIsQuiet n v=pure true:=by
 cases v with
 | ref a=>exact absurd rfl (h a)
 | _=>first|rfl|simp[eqIsQuiet]|(unfold eqIsQuiet; rfl)
theorem lh:∀(d:J3) (k:T) (v:JW) (A:KP) (s:JY) (Q:KD->JY->Prop),k.depth<=d->IsT s.heap k v->Q true s->wpAny (model prog w) A (eqIsQuiet d v) Q E s
 | d,.int i,_,A,s,Q,_,x,h=>by cases x; rw[ol (λa=>by simp)]; exact JZ h
 | d,.str i,_,A,s,Q,_,x,h=>by cases x; rw[ol (λa=>by simp)]; exact JZ h
 | 0,.tup ks,_,A,s,Q,hd,x,h=>by simp[T.depth]at hd
 | d+1,.tup ks,_,A,s,Q,hd,x,h=>by
  cases x with
  | @tup _ a o items n ho hc hdt hi=>
   simp only[T.depth]at hd;have hT:s.TypeIs (.ref a) "tuple":=⟨_,ho,hc⟩;unfold eqIsQuiet;refine JU (PD hT F.slot_tuple_eq.lookup ?_);show wpAny _ _ (isInstance (.ref a) (.type "tuple") >>= _) _ _ s;refine JU (Nw hT isSubtype_tuple_tuple ?_);simp only[MV,Ky,Lr];refine JU (LF ho hdt ?_);refine JU ?_;show wpAny _ _ (forIn items _ _) _ _ s;rw[<- NN];refine Nv _ (λbT r s'=>r.1=gV/\s'=s/\∃kk,IsTs s.heap kk bT/\T.depths kk<=d) _ ?_ ?_ _ _ ⟨rfl,rfl,ks,hi,by omega⟩
   ·rintro v bT r s' ⟨hr,rfl,kk,hall,hdk⟩;cases hall with
    | cons q1 q2=>
     simp only[T.depths]at hdk;refine JU (lh d _ v _ _ _ (by omega) q1 ?_)
     simp only[MV,Ky,Lr];exact JZ ⟨rfl,rfl,_,q2,by omega⟩
   ·rintro⟨r1,r2⟩ s' ⟨hr,rfl,_⟩;simp only at hr;subst hr;exact JZ h
end
noncomputable def bC (prog:KJ)(w:KT):HeapKind prog w T where
 is:=λh k a=>IsT h k (.ref a)/\k.depth<=aG
 hash:=eT w
 draws:=T.draws
 room:=λA=>A.units+aG < cLine
 inj:=λhx hy=>hx.1.inj hy.1
 keeps:=λx ho hd hs=>⟨x.1.keeps ho hd hs,x.2⟩
 pyHash:=λhu hk h=>rc _ _ _ _ _ hk.1 (by have:=hk.2; omega) h
 eqBool:=λhu hx hy h=>ym aG _ _ _ _ _ _ hx.2 hx.1 hy.1 hu (by have:=hy.2; omega) _ _ _ _ h
 quiet:=λhk h=>lh 8 _ _ _ _ _ (by have:=hk.2; unfold aG at this; exact Kc ‹_› (Kd rfl)) hk.1 h
section
variable{prog:KJ}{w:KT}{E:JW->JY->Prop}
theorem om {n:J3}{v:JW}(h:∀a,v≠.ref a):ofAClassStatement n v=pure false:=by
 cases v with
 | ref a=>exact absurd rfl (h a)
 | _=>first|rfl|simp[ofAClassStatement]|(unfold ofAClassStatement; rfl)
theorem pL:∀(d:J3) (k:T) (v:JW) (A:KP) (s:JY) (Q:KD->JY->Prop),k.depth<=d->IsT s.heap k v->Q false s->wpAny (model prog w) A (ofAClassStatement d v) Q E s
 | d,.int i,_,A,s,Q,_,x,h=>by cases x; rw[om (λa=>by simp)]; exact JZ h
 | d,.str i,_,A,s,Q,_,x,h=>by cases x; rw[om (λa=>by simp)]; exact JZ h
 | 0,.tup ks,_,A,s,Q,hd,x,h=>by simp[T.depth]at hd
 | d+1,.tup ks,_,A,s,Q,hd,x,h=>by
  cases x with
  | @tup _ a o items n ho hc hdt hi=>
   simp only[T.depth]at hd;have hT:s.TypeIs (.ref a) "tuple":=⟨_,ho,hc⟩;unfold ofAClassStatement;refine JU (M7 hT ?_);dsimp only;rw[Ks (show("tuple" == "tuple")=true by decide)]
   refine JU (JZ ?_);simp only[MV,Ky,Lr];refine JU (LF ho hdt ?_);refine JU ?_;show wpAny _ _ (forIn items _ _) _ _ s;rw[<- NN];refine Nv _ (λbT r s'=>r.1=gV/\s'=s/\∃kk,IsTs s.heap kk bT/\T.depths kk<=d) _ ?_ ?_ _ _ ⟨rfl,rfl,ks,hi,by omega⟩
   ·rintro v bT r s' ⟨hr,rfl,kk,hall,hdk⟩;cases hall with
    | cons q1 q2=>
     simp only[T.depths]at hdk;refine JU (pL d _ v _ _ _ (by omega) q1 ?_)
     simp only[Ky,Lr];exact JZ ⟨rfl,rfl,_,q2,by omega⟩
   ·rintro⟨r1,r2⟩ s' ⟨hr,rfl,_⟩;simp only at hr;subst hr;exact JZ h
theorem yn {A:KP}{s:JY}{Q:KD->JY->Prop}{x:T}{b:J4}{ys:JT JW}(hx:IsT s.heap x (.ref b))(hdx:x.depth<=aG)(hy:∀v∈ys,∃y c,v=.ref c/\IsT s.heap y (.ref c)/\y.depth<=aG)(h:Q false s):wpAny (model prog w) A (searchCouldBeSeen (.ref b) ys) Q E s:=by
 unfold searchCouldBeSeen;refine JU ?_;refine Nv _ (λbT r s'=>r.1=gV/\s'=s/\∀v∈bT,∃y c,v=.ref c/\IsT s.heap y (.ref c)/\y.depth<=aG) _ ?_ ?_ _ _ ⟨rfl,rfl,hy⟩
 ·rintro v bT r s' ⟨hr,rfl,hall⟩;obtain⟨y,c,rfl,q,hdy⟩:=hall v (.head _);have hrest:∀v∈bT,∃y c,v=.ref c/\IsT s'.heap y (.ref c)/\y.depth<=aG:=λv hv=>hall v (.tail _ hv)
  have k6:aG<=8:=by unfold aG; decide
  dsimp only;split
  ·exact JZ ⟨rfl,rfl,hrest⟩
  ·refine JU (lh 8 _ _ _ _ _ (Kc ‹_› ‹_›) hx ?_);simp only[MV,Ky,Lr];refine JU (lh 8 _ _ _ _ _ (Kc ‹_› ‹_›) q ?_);simp only[MV,Ky,Lr];refine JU (pL 8 _ _ _ _ _ (Kc ‹_› ‹_›) hx ?_);simp only[Ky,Lr];refine JU (pL 8 _ _ _ _ _ (Kc ‹_› ‹_›) q ?_);simp only[Ky,Lr];exact JZ ⟨rfl,rfl,hrest⟩
 ·rintro⟨r1,r2⟩ s' ⟨hr,rfl,_⟩;simp only at hr;subst hr;exact JZ h
end
set_option genInjectivity false in
inductive Sf where|there|free (slot:J3)
noncomputable def d8 (es:KC (Kh×T))(t:Lq)(x:T)(h:Kh):J3->J1 OG->J1 Sf
 | 0,_=>gV
 | f+1,stand=>match t.probe (λi=>(es[i]?.map (·.1)).getD 0) h (stand.getD (t.probeStart h))with
  | none=>gV
  | some (.empty j gV)=>ba (.free j)
  | some (.empty _ (ba _))=>gV
  | some (.candidate j i next)=>match es[i]? with
   | none=>gV
   | some (_,y)=>if y=x then ba .there else if t.slot j=.live i then d8 es t x h f (ba next)else gV
structure SE (h:K6)(es0:KC (Kh×T))(es:KC (Kh×JW)):Prop where
 size:es0.size=es.size
 ent:∀(i:J3) (hh:Kh) (y:T),es0[i]?=ba (hh,y)->∃b:J4,es[i]?=ba (hh,KO b)/\IsT h y (.ref b)/\y.depth<=aG
theorem SE.hash {h:K6}{es0:KC (Kh×T)}{es:KC (Kh×JW)}(R:SE h es0 es):(λ(i:J3)=>(es0[i]?.map (λp=>p.1)).getD 0)=λ(i:J3)=>(es[i]?.map (λp=>p.1)).getD 0:=by
 funext i
 cases e:es0[i]? with
 | none=>
  have:es[i]?=gV:=by rw[Array.getElem?_eq_none_iff]at e ⊢; rw[<- R.size]; exact e
  rw[this]; rfl
 | some p=>
  obtain⟨b,e2,_⟩:=R.ent i p.1 p.2 e;rw[e2]; rfl
theorem SE.vals {h:K6}{es0:KC (Kh×T)}{es:KC (Kh×JW)}(R:SE h es0 es):∀e∈es.toList,∃y c,e.2=.ref c/\IsT h y (.ref c)/\y.depth<=aG:=λe he=>by
 obtain⟨i,hi,rfl⟩:=Mm.mp he;rw[Ki]at hi;have hi0:i < es0.size:=by rw[R.size]; exact hi
 obtain⟨b,e2,q⟩:=R.ent i es0[i].1 es0[i].2 (Mj hi0);rw[Mj hi]at e2;refine⟨_,b,?_,q⟩;rw[Oe,Lh e2]
section
variable{prog:KJ}{w:KT}{E:JW->JY->Prop}{A:KP}{s:JY}
theorem yo {a b:J4}{o:LJ}{es0:KC (Kh×T)}{es:KC (Kh×JW)}{ep:J3}{t:Lq}{x:T}{h:Kh}{Q:SetFound->JY->Prop}(ho:s.heap.get? a=ba o)(hd:o.data=.set es ep t)(hf:t.fits es.size=true)(hg:t.gaveWay=false)(R:SE s.heap es0 es)
    (hx:IsT s.heap x (.ref b)) (hdx:x.depth<=aG) (hu:(bC prog w).room A):∀(f F:J3) (stand:J1 OG) (r:Sf),d8 es0 t x h f stand=ba r->f<=F->(r=.there->Q (.there gV) s)->(∀j,r=.free j->Q (.free j false) s)->
    wpAny (model prog w) A (setSearchFrom a (.ref b) h true F stand) Q E s:=by
  intro f
  induction f with
  | zero=>intro F stand r e; cases e
  | succ f ih=>
    intro F stand r e hF h1 h2;obtain⟨F,rfl⟩ : ∃F',F=F'+1:=⟨F - 1,by omega⟩
    unfold setSearchFrom;refine JU (Lv ho hd hf ?_);dsimp only;rw[hg];simp only[Ky,Lr];unfold d8 at e;rw[R.hash]at e;split
    · rename_i met hm
      have hm:t.probe (λi=>(es[i]?.map (·.1)).getD 0) h (stand.getD (t.probeStart h))=ba met:=hm
      rw[hm]at e;cases met with
      | empty j dm=>
        cases dm with
        | none=>cases e; exact JZ (h2 j rfl)
        | some d=>cases e
      | candidate j i next=>
        dsimp only at e ⊢;cases ei:es0[i]? with
        | none=>rw[ei]at e; cases e
        | some p=>
          obtain⟨hh,y⟩:=p;rw[ei]at e;dsimp only at e;obtain⟨c,ec,qy,hdy⟩:=R.ent i hh y ei;rw[ec];dsimp only;have sm:t.sameMemory t.moves t.mask=ba true:=by unfold Tl; rw[Ks (Lc _)]
          have hv:∀v∈List.map (λx=>x.snd) (Array.filter (λx=>x.fst==h) es).toList,∃y c,v=KO c/\IsT s.heap y (.ref c)/\y.depth<=aG:=λv hv=>by
            obtain⟨p,hp,rfl⟩:=Ko.mp hv;rw[Array.toList_filter]at hp;exact R.vals p (Mt.mp hp).1
          cases hl:t.led
          · simp only[P2,LQ]
            refine JU (yn hx hdx hv ?_);simp only[Ky,Lr];refine JU (Li ((bC prog w).eqBool hu ⟨qy,hdy⟩ ⟨hx,hdx⟩ ?_));refine JU (Lv ho hd hf ?_)
            by_cases hyx:y=x
            · rw[Ks hyx]at e
              cases e;simp only[hyx,Rz,NH,LQ];exact JZ (h1 rfl)
            · rw[KF hyx]at e
              split at e
              · rename_i hsl
                simp only[hyx,SG,OE,Ky,Lr,sm,LQ,hsl,ec];refine JU (PP ?_);refine JU (JZ ?_);simp only[LQ];exact ih F (ba next) r e (by omega) h1 h2
              · cases e
          · simp only[MV,Ky,Lr]
            refine JU (Li ((bC prog w).eqBool hu ⟨qy,hdy⟩ ⟨hx,hdx⟩ ?_));refine JU (Lv ho hd hf ?_)
            by_cases hyx:y=x
            · rw[Ks hyx]at e
              cases e;simp only[hyx,Rz,NH,LQ];exact JZ (h1 rfl)
            · rw[KF hyx]at e
              split at e
              · rename_i hsl
                simp only[hyx,SG,OE,Ky,Lr,sm,LQ,hsl,ec];refine JU (PP ?_);refine JU (JZ ?_);simp only[LQ];exact ih F (ba next) r e (by omega) h1 h2
              · cases e
    · rename_i hm
      have hm:t.probe (λi=>(es[i]?.map (·.1)).getD 0) h (stand.getD (t.probeStart h))=gV:=by
        first|exact hm|(cases hp:t.probe (λi=>(es[i]?.map (·.1)).getD 0) h (stand.getD (t.probeStart h))with
          | none=>rfl
          | some m=>exact absurd hp (hm m))
      rw[hm]at e;cases e
end
mutual
noncomputable def eD:T->KD
 | .int _=>true
 | .str _=>false
 | .tup xs=>db xs
noncomputable def db:JT T->KD
 | []=>true
 | x::xs=>eD x&&db xs
end
section
variable{prog:KJ}{w:KT}{E:JW->JY->Prop}
theorem uJ:∀(d:J3) (k:T) (v:JW) (A:KP) (s:JY) (Q:KD->JY->Prop),eD k=true->k.depth<=d->IsT s.heap k v->Q true s->wpAny (model prog w) A (hashByValue d v) Q E s
 | d,.int i,_,A,s,Q,_,_,x,h=>by
  cases x;have:∀t,hashByValue d (.int i t)=pure true:=λt=>by cases d <;> rfl
  rw[this]; exact JZ h
 | d,.str i,_,A,s,Q,hn,_,x,h=>by cases hn
 | 0,.tup ks,_,A,s,Q,_,hd,x,h=>by simp[T.depth]at hd
 | d+1,.tup ks,_,A,s,Q,hn,hd,x,h=>by
  cases x with
  | @tup _ a o items n ho hc hdt hi=>
   simp only[T.depth]at hd;have hn:db ks=true:=hn;have hT:s.TypeIs (.ref a) "tuple":=⟨_,ho,hc⟩;unfold hashByValue;refine JU (PD hT F.slot_tuple_hash.lookup ?_);refine JU (LF ho hdt ?_);refine JU ?_;show wpAny _ _ (forIn items _ _) _ _ s;rw[<- NN];refine Nv _ (λbT r s'=>r.1=gV/\s'=s/\∃kk,IsTs s.heap kk bT/\T.depths kk<=d/\db kk=true) _ ?_ ?_ _ _ ⟨rfl,rfl,ks,hi,by omega,hn⟩
   ·rintro v bT r s' ⟨hr,rfl,kk,hall,hdk,hnk⟩;cases hall with
    | cons q1 q2=>
     simp only[T.depths]at hdk;simp only[db,J2]at hnk;refine JU (uJ d _ v _ _ _ hnk.1 (by omega) q1 ?_)
     simp only[MV,Ky,Lr];exact JZ ⟨rfl,rfl,_,q2,by omega,hnk.2⟩
   ·rintro⟨r1,r2⟩ s' ⟨hr,rfl,_⟩;simp only at hr;subst hr;exact JZ h
end
noncomputable abbrev Ze:=Kh×T×J4
noncomputable def zT (z:Ze):Kh×T:=(z.1,z.2.1)
noncomputable def zV (z:Ze):Kh×JW:=(z.1,.ref z.2.2)
noncomputable def ZOk (h:K6)(zs:KC Ze):Prop:=∀z∈zs.toList,IsT h z.2.1 (.ref z.2.2)/\z.2.1.depth<=aG
theorem ZOk.se {h:K6}{zs:KC Ze}(k:ZOk h zs):SE h (zs.map zT) (zs.map zV):=⟨by simp,λi hh y e=>by
 rw[OH,J0]at e;obtain⟨z,hz,e⟩:=e;cases e;exact⟨z.2.2,by rw[OH,hz]; rfl,k z (by rw[Np]; exact N3 hz)⟩⟩
theorem i5 {α β:Type}{f:α->β}{xs:KC α}{p:J3}{x:α}:KR (xs.map f) p (f x)=(KR xs p x).map f:=by
 unfold KR;simp[Array.map_extract]
noncomputable def dL (t:Lq)(n:J3):KD:=t.fits n && !t.gaveWay&&decide (n<=1000)
noncomputable def bO (hf:T->Kh)(st:KC (Kh×T)×Lq)(x:T):J1 (KC (Kh×T)×Lq):=
 match d8 st.1 st.2 x (hf x) 100 gV with
 | none=>gV
 | some .there=>ba st
 | some (.free slot)=>
  if dL (st.2.put slot).1 (KR st.1 (st.2.put slot).2 (hf x,x)).size then
   if (st.2.put slot).1.tooFull then
    if OI (NZ (st.1.size+1))<=sizeLine then
     match (st.2.put slot).1.relaid ((KR st.1 (st.2.put slot).2 (hf x,x)).map (·.1)) (NZ (st.1.size+1))with
     | none=>gV
     | some (t2,order)=>
      if (order.filterMap ((KR st.1 (st.2.put slot).2 (hf x,x))[·]?)).size=(KR st.1 (st.2.put slot).2 (hf x,x)).size/\dL t2 (order.filterMap ((KR st.1 (st.2.put slot).2 (hf x,x))[·]?)).size=true then ba (order.filterMap ((KR st.1 (st.2.put slot).2 (hf x,x))[·]?),t2)else gV
    else gV
   else ba (KR st.1 (st.2.put slot).2 (hf x,x),(st.2.put slot).1)
  else gV
theorem filterMap_map {α β:Type}{f:α->β}{xs:KC α}{order:KC J3}:order.filterMap ((xs.map f)[·]?)=(order.filterMap (xs[·]?)).map f:=by
 rw[Array.map_filterMap];congr 1
 funext i
 exact OH ..
theorem tq {b:J4}{es:KC (Kh×JW)}:byScan (.ref b) es=false:=rfl
theorem lL {t:Lq}{n:J3}(h:dL t n=true):t.fits n=true/\t.gaveWay=false/\n<=1000:=by
 unfold dL at h;simp only[J2,OY,Kq]at h;exact⟨h.1.1,h.1.2,h.2⟩
section
variable{prog:KJ}{w:KT}{E:JW->JY->Prop}{A:KP}{s:JY}
theorem tu {a:J4}{o:LJ}{es es1:KC (Kh×JW)}{ep:J3}{t t1:Lq}{Q:Unit->JY->Prop}(ho:s.heap.get? a=ba o)(hd:o.data=.set es ep t)(hz:es1.size<=1000)
  (h:∀h',L9 a s.heap h'->h'.get? a=ba { o with data:=.set es1 (ep+1) t1 }->Q () { s with heap:=h' }):wpAny (model prog w) A (storeSet a es1 t1) Q E s:=by
 refine wpAny_storeSet_of ho hd (h _ (MY ..) ?_) (Kc hz (by rw[K8]; decide))
 have:=LH (Obj.putSet es1 t1) ho (by rw[putSet_of es1 t1 hd]; rfl)
 rw[putSet_of es1 t1 hd]at this;exact this
theorem Gr {a b:J4}{o:LJ}{zs:KC Ze}{ep:J3}{t:Lq}{x:T}{hf:T->Kh}{es1:KC (Kh×T)}{t1:Lq}{Q:KD->JY->Prop}(ho:s.heap.get? a=ba o)(hd:o.data=.set (zs.map zV) ep t)(hft:dL t zs.size=true)(hz:ZOk s.heap zs)
  (hx:IsT s.heap x (.ref b)) (hdx:x.depth<=aG) (hnx:eD x=true) (hu:(bC prog w).room A) (e:bO hf (zs.map zT,t) x=ba (es1,t1))
  (k:∀(bb:KD) (h':K6) (zs':KC Ze) (ep':J3),zs'.map zT=es1->dL t1 zs'.size=true->L9 a s.heap h'->h'.get? a=ba { o with data:=.set (zs'.map zV) ep' t1 }->(∀z∈zs'.toList,z∈zs.toList\/z=(hf x,x,b))->Q bb { s with heap:=h' }) :
  wpAny (model prog w) A (setAddHashed a (.ref b) (hf x)) Q E s:=by
 obtain⟨f1,f2,f3⟩:=lL hft;have f1':t.fits (zs.map zV).size=true:=by rw[Lz]; exact f1
 unfold setAddHashed setAddHashedIn;refine Li (JU (Lv ho hd f1' ?_));dsimp only;rw[tq];simp only[Ky,Lr];unfold bO at e;cases hs:d8 (zs.map zT) t x (hf x) 100 gV with
 | none=>rw[hs]at e; cases e
 | some r=>
  rw[hs]at e;dsimp only at e;refine JU ?_;unfold setSearch;refine yo ho hd f1' f2 hz.se hx hdx hu 100 100000 gV r hs (by decide) (λhr=>?_) λslot hr=>?_
  ·subst hr;cases e;exact JZ (k false s.heap zs ep rfl hft (Q1 ..) (by rw[<- hd]; exact ho) λz h=>.inl h)
  ·subst hr;dsimp only at e ⊢;refine JU (Lv ho hd f1' ?_);dsimp only;split at e
   ·rename_i hok1;have eI:KR (zs.map zT) (t.put slot).2 (hf x,x)=(KR zs (t.put slot).2 (hf x,x,b)).map zT:=i5 (f:=zT) (x:=(hf x,x,b));have eV:KR (zs.map zV) (t.put slot).2 (hf x,.ref b)=(KR zs (t.put slot).2 (hf x,x,b)).map zV:=i5 (f:=zV) (x:=(hf x,x,b));have hmem:∀z∈(KR zs (t.put slot).2 (hf x,x,b)).toList,z∈zs.toList\/z=(hf x,x,b):=λz h=>by
     unfold KR at h;simp only[Op,OV,K2,Kk]at h;rcases h with(h|h)|h
     ·rw[Nq]at h;exact .inl (by rw[OQ]at h; exact Nr (MR h))
     ·exact .inr h
     ·rw[Nq]at h;exact .inl (by rw[OQ]at h; exact Nr (MR h))
    rw[eI]at e hok1;rw[Lz]at hok1;obtain⟨g1,g2,g3⟩:=lL hok1;rw[eV];have hfst:∀z1:KC Ze,M2 (λx=>x.fst) (M2 zV z1)=M2 (λx=>x.fst) (M2 zT z1):=λz1=>by
     rw[So,So]; rfl
    simp only[Lz]at e ⊢;generalize(t.put slot).1=tt at e hok1 g1 g2 ⊢;generalize KR zs (t.put slot).2 (hf x,x,b)=z1 at e hok1 g1 g3 hmem ⊢;clear eI eV;have k8:x.depth<=8:=Kc hdx (by unfold aG; decide)
    have g1v:tt.fits (M2 zV z1).size=true:=by rw[Lz]; exact g1
    have tail:∀h1:K6,L9 a s.heap h1->h1.get? a=ba { o with data:=.set (M2 zV z1) (ep+1) tt }->wpAny (model prog w) A (if (!false&&tt.tooFull)=true then do setRelay a (NZ (zs.size+1)); pure true else pure true) Q E { s with heap:=h1 }:=by
     intro h1 sb1 q1;cases htf:tt.tooFull with
     | false=>
      rw[htf]at e;simp only[Ky,Lr]at e;cases e;simp only[P2,OE,Ky,Lr];exact JZ (k true h1 z1 (ep+1) rfl hok1 sb1 q1 hmem)
     | true=>
      rw[htf]at e;simp only[LQ]at e;simp only[P2,NH,LQ];split at e
      ·rename_i hle;cases hrel:tt.relaid (M2 (λx=>x.fst) (M2 zT z1)) (NZ (zs.size+1))with
       | none=>rw[hrel]at e; cases e
       | some p=>
        obtain⟨t2,order⟩:=p;rw[hrel]at e;dsimp only at e;rw[filterMap_map,Lz]at e;split at e
        ·rename_i hc;cases e;obtain⟨c1,c2⟩:=hc;obtain⟨d1,d2,d3⟩:=lL c2;unfold setRelay;refine JU (JU (Lv q1 rfl g1v ?_));dsimp only;rw[KF (Qz.mpr hle)];rw[hfst,hrel];refine JU (NR (a:=(M2 zV (RF (λx=>z1[x]?) order),t1)) ?_ ?_)
         ·show(if ((RF (λx=>(M2 zV z1)[x]?) order).size != (M2 zV z1).size)=true then _ else _)=_
          rw[filterMap_map,Lz,Lz,c1];rw[KF (by simp)]
         ·dsimp only;refine tu (s:={ s with heap:=h1 }) q1 rfl (by rw[Lz]; exact d3) λh2 sb2 q2=>JZ (k true h2 _ (ep+1+1) rfl c2 (sb1.trans sb2) q2 λz hz=>hmem z ?_)
          obtain⟨i,hi,e⟩:=Array.mem_filterMap.mp (Np.mp hz);exact Np.mpr (N3 e)
        ·cases e
      ·cases e
    cases hp:tt.plain with
    | false=>
     simp only[Ky,Lr];refine JU (JZ ?_);simp only[LQ];exact JU (tu ho hd (by rw[Lz]; exact g3) λh1 sb1 q1=>tail h1 sb1 q1)
    | true=>
     simp only[LQ];refine JU (uJ 8 _ _ _ _ _ hnx k8 hx ?_);simp only[LQ];exact JU (tu ho hd (by rw[Lz]; exact g3) λh1 sb1 q1=>tail h1 sb1 q1)
   ·cases e
end
noncomputable def gI (h h':K6):Prop:=∀c o,h.get? c=ba o->o.cls=.type "tuple"->h'.get? c=ba o
mutual
theorem IsT.stay {h h':K6}(k:gI h h'):∀ {x:T} {v:JW},IsT h x v->IsT h' x v
 | _,_,.int=>.int
 | _,_,.str=>.str
 | _,_,.tup a b c d=>.tup (k _ _ a b) b c (IsTs.stay k d)
theorem IsTs.stay {h h':K6}(k:gI h h'):∀ {x:JT T} {v:JT JW},IsTs h x v->IsTs h' x v
 | _,_,.nil=>.nil
 | _,_,.cons a b=>.cons (IsT.stay k a) (IsTs.stay k b)
end
theorem ZOk.stay {h h':K6}{zs:KC Ze}(k:gI h h')(z:ZOk h zs):ZOk h' zs:=λy hy=>⟨(z y hy).1.stay k,(z y hy).2⟩
section
variable{prog:KJ}{w:KT}{A:KP}{E:JW->JY->Prop}{s:JY}{R:Rh->JY->Prop}{I:J4}{fp wr:JT J4}{G:KC PY->KC PY->Prop}{n:J3}{P:J3->JW->Prop}{St:J3->JY->Prop}
noncomputable def lM (w:KT)(zs:KC Ze)(ep:J3)(t:Lq):LJ:={ cN w with data:=.set (zs.map zV) ep t }
theorem wo (W:WalksS prog w A.in1 I fp wr G n P St){D:J4}(hD:D∉fp)(hwr:∀i s b o,St i s->b∈wr->s.heap.get? b=ba o->o.cls≠.type "tuple"){ks:JT T}{res:KC (Kh×T)×Lq}{Y:T->J4->Prop}(hl:ks.length=n)(hk:∀x∈ks,eD x=true/\x.depth<=aG)(hP:∀i v,P i v->∃x b,ks[i]?=ba x/\v=.ref b/\Y x b)(hu:(bC prog w).room A.in1) :
  ∀(k i:J3) (s:JY) (zs:KC Ze) (ep:J3) (t:Lq),n - i=k->i<=n->St i s->s.heap.get? D=ba (lM w zs ep t)->dL t zs.size=true->ZOk s.heap zs->(∀z∈zs.toList,Y z.2.1 z.2.2)->(∀j v x,P j v->ks[j]?=ba x->IsT s.heap x v)->(ks.drop i).foldlM (bO (eT w)) (zs.map zT,t)=ba res->
   (∀s' zs' ep',Moved (D::wr) G s s'->s'.heap.get? D=ba (lM w zs' ep' res.2)->zs'.map zT=res.1->dL res.2 zs'.size=true->ZOk s'.heap zs'->(∀z∈zs'.toList,Y z.2.1 z.2.2)->R (.ok (.ret .none)) s')->codeAny (model prog w) A (.builtin "set.update.loop" ⟨[.ref D,.ref I],[]⟩) R s:=by
 have hw:D∉wr:=λz=>hD (W.sub _ z)
 have up:∀b∈wr,b∈D::wr:=λb z=>Lp _ z
 intro k
 induction k with
 | zero=>
  intro i s zs ep t hk' hi st ho hok hz hy hT hsim hR;obtain rfl:i=n:=by omega
  refine Ln F.entry_set_update_loop ?_;rw[Ld F.plain_set_update_loop _];show wpAny _ A.in1 (pyNext (.ref I) >>= _) _ _ s;refine JU (W.done s _ _ st λs' mv=>?_)
  rw[N1 (by omega)]at hsim
  cases hsim;have ts:gI s.heap s'.heap:=λc o q hc=>mv.heap c o (λz=>hwr _ _ _ _ st z q hc) q
  exact JZ (hR s' zs ep (mv.mono up) (mv.heap D _ hw ho) rfl hok (hz.stay ts) hy)
 | succ k ih=>
  intro i s zs ep t hk' hi st ho hok hz hy hT hsim hR;have hlt:i < n:=by omega
  refine Ln F.entry_set_update_loop ?_;rw[Ld F.plain_set_update_loop _];show wpAny _ A.in1 (pyNext (.ref I) >>= _) _ _ s;refine JU (W.item i s _ _ hlt st λv s1 pv st1 mv=>?_)
  obtain⟨x,b,hx,rfl,yx⟩:=hP i v pv;have ts1:gI s.heap s1.heap:=λc o q hc=>mv.heap c o (λz=>hwr _ _ _ _ st z q hc) q
  obtain⟨hn,hdp⟩:=hk x (Kf hx);have isx:IsT s1.heap x (.ref b):=(hT i _ x pv hx).stay ts1;have o1:s1.heap.get? D=ba (lM w zs ep t):=mv.heap D _ hw ho;have hd1:ks.drop i=x::ks.drop (i+1):=by
   obtain⟨h1,h2⟩:=J9.mp hx;rw[List.drop_eq_getElem_cons h1,h2]
  rw[hd1,M3]at hsim;cases hs:bO (eT w) (zs.map zT,t) x with
  | none=>rw[hs]at hsim; cases hsim
  | some bm=>
   obtain⟨es1,t1⟩:=bm;rw[hs]at hsim;have hsim:(ks.drop (i+1)).foldlM (bO (eT w)) (es1,t1)=ba res:=hsim;show wpAny _ A.in1 (holding [KO b] (setAdd D (.ref b)) >>= _) _ _ s1;refine JU (Li ?_);unfold setAdd;refine Li (JU ((bC prog w).pyHash hu ⟨isx,hdp⟩ ?_));refine Gr (s:={ s1 with toks:=s1.toks+x.draws }) (hf:=eT w) o1 rfl hok (hz.stay ts1) isx hdp hn hu hs λbb h' zs' ep' e1 hok' sb ho' hmem=>?_
   have ts2:gI s1.heap h':=λc o q hc=>by
    refine sb.extBut c o (λz=>?_) q
    subst z;rw[o1]at q;cases q;exact absurd hc (by show ¬ (LZ "set" = LZ "tuple"); simp)
   have hz':ZOk h' zs':=λz hzm=>by
    rcases hmem z hzm with h|rfl
    ·exact((hz.stay ts1).stay ts2) z h
    ·exact⟨isx.stay ts2,hdp⟩
   refine JZ ⟨L7 F.plain_set_update_loop _,ih (i+1) { s1 with heap:=h',toks:=s1.toks+x.draws } zs' ep' t1 (by omega) hlt (W.frame _ s1 _ _ st1 (M4 _ _) λc hc u q=>?_) ho' hok' hz' (λz hzm=>by
    rcases hmem z hzm with h|rfl
    ·exact hy z h
    ·exact yx) (λj v y pj hy=>((hT j v y pj hy).stay ts1).stay ts2) (by rw[e1]; exact hsim) λs2 zs2 ep2 mv2 ho2 e2 hok2 hz2 hy2=>?_⟩
   ·rw[sb.2 c λz=>hD (z ▸ hc)]; exact q
   ·refine hR s2 zs2 ep2 (Moved.trans W.gtrans ((mv.mono up).then_heap (M4 _ _) λc u hc q=>?_) mv2) ho2 e2 hok2 hz2 hy2
    rw[sb.2 c λz=>hc (z ▸ Lx)]
    exact q
end
section
variable{prog:KJ}{w:KT}{A:KP}{E:JW->JY->Prop}{s:JY}
theorem yp (l:KD):dL (.fresh 0 0 l) (#[]:KC Ze).size=true:=by cases l <;> decide
set_option maxHeartbeats 4000000 in
theorem wp {l:J4}{its:KC JW}{ks:JT T}{res:KC (Kh×T)×Lq}{Q:JW->JY->Prop}(hh:A.handled=gV)(hl:s.heap.IsList l its)(hi:IsTs s.heap ks its.toList)(hk:∀x∈ks,eD x=true/\x.depth<=aG)(hrf:∀(i:J3) (v:JW),its[i]?=ba v->∃b,v=.ref b)(hu:(bC prog w).room A.in1.in1.in1)(hsim:ks.foldlM (bO (eT w)) (#[],.fresh 0 0 (!fB w))=ba res)
  (h:∀(h':K6) (tk:J3) (zs:KC Ze) (ep:J3),h'.get? s.heap.objs.size=ba (lM w zs ep res.2)->zs.map zT=res.1->dL res.2 zs.size=true->ZOk h' zs->(∀z∈zs.toList,∃i:J3,ks[i]?=ba z.2.1/\its[i]?=ba (KO z.2.2))->(∀b u,s.heap.get? b=ba u->h'.get? b=ba u)->Q (.ref s.heap.objs.size) { s with heap:=h',toks:=tk }):wpAny (model prog w) A (call (.type "set") [.ref l]) Q E s:=by
 obtain⟨c,tl,hmro⟩:=F.called_set.mro;have hmade:=F.called_set.made;have hsub:=F.called_set.sub;have hn1:=F.called_set.notType;have hn2:=F.called_set.canCreate;have hct:=F.typeCall_set_1 (.ref l);refine wpAny_call (PC ?_);show wpAny _ _ (callAny (.type "set") _) _ _ _;refine JZ ⟨QA _ (by decide +kernel),Ln F.entry_type_call ?_⟩
 rw[Around.under_plain (weight_type_call_type "set" [.ref l] []) rfl]
 repeat (any_goals (first|assumption|wp_step))
 refine NU (yf (w:=w) (.ref l) (E:=E) (Q₁:=λobj s1=>obj=.ref s.heap.objs.size/\s1={ s with heap:=s.heap.push (cN w) }) ⟨rfl,rfl⟩) λr s1 hr=>?_
 match r,hr with
 | .ok (.ret obj),hr=>
  obtain⟨rfl,rfl⟩:=hr;have oS:(s.heap.push (cN w)).get? s.heap.objs.size=ba (cN w):=Ke _ rfl;have tS:Shared.TypeIs { s with heap:=s.heap.push (cN w) } (.ref s.heap.objs.size) "set":=⟨_,oS,rfl⟩
  have hli:=F.called_set.init.lookup;have hbi:=F.called_set.init.bind (.ref s.heap.objs.size)
  repeat (any_goals (first|assumption|wp_step))
  refine NU (codeAny_call_builtin (R:=wants (λr s2=>r=.none/\∃h' tk zs ep,s2={ s with heap:=h',toks:=tk }/\h'.get? s.heap.objs.size=ba (lM w zs ep res.2)/\zs.map zT=res.1/\dL res.2 zs.size=true/\ZOk h' zs/\(∀z∈zs.toList,∃i:J3,ks[i]?=ba z.2.1/\its[i]?=ba (KO z.2.2))/\∀b u,s.heap.get? b=ba u->h'.get? b=ba u) E) F.called_set.init.plain F.entry_set_init (check_set_init_1 tS ?_)) λr2 s2 hr2=>?_
  ·obtain⟨⟨oc,od,ot,osl⟩,hol,hcl,nl,hdl⟩:=id hl;simp only at hcl hdl;subst hcl hdl;have hol1:=JX (cN w) hol;have l1:(s.heap.push (cN w)).IsList l its:=⟨_,hol1,rfl,nl,rfl⟩;have e1:=F.sub_list_set;have e2:=F.sub_list_frozenset;have e3:(LZ "list" == LZ "dict")=false:=by decide
   unfold Ng.«set.__init__» noKeywords RG;generalize hPI:pyIter=PI
   wp_walk
   subst hPI;refine Nh l1 (JU (NY ?_));have ls:l < s.heap.objs.size:=Kl hol;have sz:(s.heap.push (cN w)).objs.size=s.heap.objs.size+1:=LV ..;have ne:l≠(s.heap.push (cN w)).objs.size:=by rw[sz]; exact Kt (MQ ls)
   have oS':(s.heap.push (cN w)).get? s.heap.objs.size=ba (lM w #[] 0 (.fresh 0 0 (!fB w))):=by
    rw[oS]; unfold lM cN; simp
   have len:ks.length=its.size:=by rw[hi.length,Ki]
   refine wo ((R3 (A:=A.in1.in1.in1) (by simp[hh]) _ l ne its).toS) (D:=s.heap.objs.size) (ks:=ks) (res:=res) (Y:=λx b=>∃i:J3,ks[i]?=ba x/\its[i]?=ba (KO b)) (by rw[sz]; simp only[Kz,Lg,ME,SH]; exact⟨Kt (L5 _),KM ls⟩) (λi s b o st hb q=>?_) len hk (λi v q=>?_) hu _ 0 _ #[] 0 (.fresh 0 0 (!fB w)) rfl (LR _)
    ⟨⟨_,Ke _ rfl,rfl,rfl⟩,l1.push _⟩ (JX _ oS') (yp _) (λz hz=>by simp at hz) (λz hz=>by simp at hz) (λj v x q hx=>?_) (by rw[P3,show M2 zT #[]=#[] by simp]; exact hsim) λs3 zs3 ep3 mv ho3 e3 hok3 hz3 hy3=>?_
   ·obtain⟨⟨o',e,hc,_⟩,_⟩:=st;rw[Kk.mp hb]at q;rw[q]at e;cases e;rw[hc];simp
   ·obtain⟨b,rfl⟩:=hrf i v q;have hi':i < ks.length:=by rw[len]; exact(LM.mp q).1
    exact⟨ks[i],b,J5 hi',rfl,i,J5 hi',q⟩
   ·have hj:=(J9.mp hx);have q':=(LM.mp q);obtain⟨h1,rfl⟩:=hj;obtain⟨h2,rfl⟩:=q';have:=hi.get j h1 (by rw[Ki]; exact h2)
    rw[Oe]at this;exact this.stay λc o q hc=>JX _ (JX _ q)
   ·rw[Sl mv];refine JZ (JZ ⟨rfl,s3.heap,s3.toks,zs3,ep3,rfl,ho3,e3,hok3,hz3,hy3,λb u q=>?_⟩)
    have hb:=Kl q;exact mv.heap b u (by rw[sz]; simp only[Kz,Lg,ME,SH]; exact⟨Kt hb,Kt (MQ hb)⟩) (JX _ (JX _ q))
  ·match r2,hr2 with
   | .ok (.ret r),hr2=>
    obtain⟨rfl,h',tk,zs,ep,rfl,g1,g2,g3,g4,g5,g6⟩:=hr2
    repeat (any_goals (first|assumption|wp_step))
    exact h h' tk zs ep g1 g2 g3 g4 g5 g6
   | .ok .next,hr2=>exact hr2.elim
   | .ok .brk,hr2=>exact hr2.elim
   | .ok .cont,hr2=>exact hr2.elim
   | .error e,hr2=>exact hr2
 | .ok .next,hr=>exact hr.elim
 | .ok .brk,hr=>exact hr.elim
 | .ok .cont,hr=>exact hr.elim
 | .error e,hr=>exact hr
end
noncomputable def kB (S:aa)(i:J3):J1 (JT (T×W)):=match S[i]? with
 | some (.dic kvs)=>ba kvs
 | some (.frd kvs)=>ba kvs
 | _=>gV
noncomputable def pM (S:aa)(i:J3):J1 (JT (T×W)):=match S[i]? with
 | some (.dic kvs)=>ba kvs
 | _=>gV
noncomputable def cV (kvs:JT (T×W))(k:T):J1 W:=(kvs.find? λp=>decide (p.1=k)).map (·.2)
noncomputable def fm (kvs:JT (T×W))(k:T)(v:W):JT (T×W):=
 if (kvs.any λp=>decide (p.1=k))=true then kvs.map (λp=>if p.1=k then(p.1,v)else p)else kvs++[(k,v)]
noncomputable def gR (w:W):J1 T:=match W.t w with
 | some k=>if k.isTup=true/\k.depth<=aG then ba k else gV
 | none=>gV
theorem eu {w:W}{k:T}(h:gR w=ba k):k.w=w/\k.isTup=true/\k.depth<=aG:=by
 unfold gR at h;split at h
 ·rename_i k' hk;split at h
  ·rename_i hc;cases h;exact⟨W.t_w hk,hc.1,hc.2⟩
  ·cases h
 ·cases h
theorem dM (kvs:JT (T×W))(k:T)(v:W):(fm kvs k v).length<=kvs.length+1:=by
 unfold fm;split
 ·rw[JV]; omega
 ·rw[J8,La,Mg]; omega
section
variable{X:Cx}{pins:JT (J4×LJ)}{σ:L2.St}{H:Hp}{s:JY}{A:JT J4}{S:aa}
mutual
theorem pN (I:Inv X pins σ H s):∀(k:T) {v:V} {u:JW},Rel X.K A H k.w v->RelV v u->IsT s.heap k u
 | .int i,_,_,r,q=>by
  cases r;obtain⟨t,rfl⟩ : ∃t,_=Pa _ t:=q;exact .int
 | .str x,_,_,r,q=>by
  cases r;obtain⟨t,rfl⟩ : ∃t,_=N5 _ t:=q;exact .str
 | .tup ks,_,_,r,q=>by
  simp only[T.w]at r;cases r with
  | tup sq rl=>
   obtain⟨its,rv,⟨o,h1,h2,n,h3⟩,hz⟩:=I.tuple sq;obtain rfl:_=KO _:=q;exact .tup h1 h2 h3 (fN I ks rl (by simpa using rv))
theorem fN (I:Inv X pins σ H s):∀(ks:JT T) {vs:JT V} {us:JT JW},RelL X.K A H (T.ws ks) vs->Vals vs us->IsTs s.heap ks us
 | [],_,_,r,q=>by
  simp only[T.ws]at r;cases r; cases q; exact .nil
 | k::ks,_,_,r,q=>by
  simp only[T.ws]at r;cases r with
  | cons r1 r2=>
   cases q with
   | cons q1 q2=>exact .cons (pN I k r1 q1) (fN I ks r2 q2)
end
theorem jK (I:Inv X pins σ H s){k:T}{b:J4}(r:Rel X.K A H k.w (.ref b))(hd:k.depth<=aG):(bC X.prog X.w).is s.heap k b:=⟨pN I k r rfl,hd⟩
theorem i6 {w:W}{k:T}{v:V}{u:JW}(hk:gR w=ba k)(r:Rel X.K A H w v)(q:RelV v u):∃b,v=.ref b/\u=.ref b/\Rel X.K A H k.w (.ref b):=by
 obtain⟨h1,h2,h3⟩:=eu hk;subst h1;cases k with
 | tup ks=>
  simp only[T.w]at r;cases r with
  | tup a b=>exact⟨_,rfl,q,by simp only[T.w]; exact .tup a b⟩
 | _=>cases h2
theorem KRel.is {kvs:JT (T×W)}{xs:JT (T×J4×JW)}(I:Inv X pins σ H s)(r:KRel X.K A H kvs xs):∀x∈xs,(bC X.prog X.w).is s.heap x.1 x.2.1:=by
 unfold KRel at r
 induction r with
 | nil=>intro x hx; exact nomatch hx
 | @cons p q ps qs h t ih=>
  intro x hx;rcases Kz.mp hx with e|hx
  ·subst e;obtain⟨h1,h2,h3,h4,_⟩:=h;rw[h1]at h3 h4;exact jK I h4 h3
  ·exact ih x hx
theorem KRel.length {kvs:JT (T×W)}{xs:JT (T×J4×JW)}(r:KRel X.K A H kvs xs):kvs.length=xs.length:=O1 r
theorem KRel.val {kvs:JT (T×W)}{xs:JT (T×J4×JW)}(r:KRel X.K A H kvs xs)(k:T) :
  (∀w,cV kvs k=ba w->∃p v,atKey xs k=ba p/\Rel X.K A H w v/\RelV v p.2)/\(cV kvs k=gV->atKey xs k=gV):=by
 unfold KRel at r
 induction r with
 | nil=>exact⟨λw h=>(nomatch h),λ_=>rfl⟩
 | @cons p q ps qs h t ih=>
  obtain⟨h1,_,_,_,v,h5,h6⟩:=h
  by_cases e:p.1=k
  ·have e':q.1=k:=h1.symm.trans e;have a1:cV (p::ps) k=ba p.2:=by simp[cV,Nc,e]
   have a2:atKey (q::qs) k=ba q.2:=by simp[atKey,Nc,e']
   rw[a1,a2];exact⟨λw hw=>(by cases hw; exact⟨_,v,rfl,h5,h6⟩),λh=>nomatch h⟩
  ·have e':¬ q.1=k:=λz=>e (h1.trans z)
   have a1:cV (p::ps) k=cV ps k:=by simp[cV,Nc,e]
   have a2:atKey (q::qs) k=atKey qs k:=by simp[atKey,Nc,e']
   rw[a1,a2];exact ih
theorem KRel.repl {kvs:JT (T×W)}{xs:JT (T×J4×JW)}(r:KRel X.K A H kvs xs)(k:T){w:W}{v:V}{u:JW}(rw':Rel X.K A H w v)(rv:RelV v u) :
  KRel X.K A H (kvs.map λp=>if p.1=k then(p.1,w)else p) (xs.map (putAt k u)):=by
 unfold KRel at r ⊢
 induction r with
 | nil=>exact .nil
 | @cons p q ps qs h t ih=>
  rw[Lu,Lu];refine .cons ?_ ih;obtain⟨h1,h2,h3,h4,h5⟩:=h;unfold putAt
  by_cases e:p.1=k
  ·rw[Ks e,Ks (h1.symm.trans e)]; exact⟨h1,h2,h3,h4,v,rw',rv⟩
  ·rw[KF e,KF (λz=>e (h1.trans z))]; exact⟨h1,h2,h3,h4,h5⟩
theorem re (k:T):∀kvs:JT (T×W),(kvs.any λp=>decide (p.1=k))=(cV kvs k).isSome
 | []=>rfl
 | p::r=>by
  rw[Mz]
  by_cases e:p.1=k
  ·have a1:cV (p::r) k=ba p.2:=by simp[cV,Nc,e]
   rw[a1,Ly e]; rfl
  ·have a1:cV (p::r) k=cV r k:=by simp[cV,Nc,e]
   rw[a1,KN e,O4]; exact re k r
theorem KRel.put {kvs:JT (T×W)}{xs:JT (T×J4×JW)}(r:KRel X.K A H kvs xs){k:T}{b:J4}{w:W}{v:V}{u:JW}(h1:k.isTup=true)(h2:k.depth<=aG)(h3:Rel X.K A H k.w (.ref b))(rw':Rel X.K A H w v)(rv:RelV v u) :
  KRel X.K A H (fm kvs k w) (storedH xs k b u):=by
 have e:(kvs.any λp=>decide (p.1=k))=(atKey xs k).isSome:=by
  rw[re];cases q:cV kvs k with
  | none=>rw[(r.val k).2 q]; rfl
  | some x=>obtain⟨p,_,h,_⟩:=(r.val k).1 x q; rw[h]; rfl
 unfold fm storedH;rw[e]
 by_cases q:(atKey xs k).isSome=true
 ·rw[Ks q,Ks q]; exact r.repl k rw' rv
 ·rw[KF q,KF q]; exact Paired.snoc r ⟨rfl,h1,h2,h3,v,rw',rv⟩
theorem DicAt.of {h:K6}{a:J4}{xs:JT (T×J4×JW)}(hz:xs.length<=sizeLine)(hs:(a==sysModules)=false)(d:h.DictOfH (bC X.prog X.w) a xs):DicAt X.w a xs h:=
 let ⟨o,es,ep,h1,h2,h3,h4,_,h6⟩:=d; ⟨hz,hs,h6,o,es,ep,h1,h2,h3,h4⟩
theorem DicAt.stay {wd:KT}{h h':K6}{a:J4}{xs:JT (T×J4×JW)}(d:DicAt wd a xs h)(k:∀o,h.get? a=ba o->h'.get? a=ba o):DicAt wd a xs h':=
 let ⟨h0,hs,hn,o,es,ep,h1,h2⟩:=d; ⟨h0,hs,hn,o,es,ep,k _ h1,h2⟩
theorem DicAt.ok {P:KJ}{h:K6}{wd:KT}{a:J4}{xs:JT (T×J4×JW)}(d:DicAt wd a xs h):ObjOk P wd H h a (eC wd a xs):=
 ⟨d,let ⟨_,_,_,o,_,_,h1,_⟩:=d; ⟨o,h1⟩,λ_ _ p k=>p.stay k⟩
theorem cO {a:J4}{xs:JT (T×J4×JW)}(I:Inv X pins σ H s)(e:Rd H a (eC X.w a xs)):DicAt X.w a xs s.heap:=(show ObjOk X.prog X.w H s.heap a (eC X.w a xs)from e.ok I.hok).1
theorem DicAt.dict {kvs:JT (T×W)}{a:J4}{xs:JT (T×J4×JW)}(d:DicAt X.w a xs s.heap)(I:Inv X pins σ H s)(r:KRel X.K A H kvs xs):s.heap.DictOfH (bC X.prog X.w) a xs:=
 let ⟨_,_,hn,o,es,ep,h1,h2,h3,h4⟩:=d; ⟨o,es,ep,h1,h2,h3,h4,r.is I,hn⟩
theorem gm {i:J3}{kvs:JT (T×W)}{a:J4}(so:StoreOk X.w X.K A H S)(e:kB S i=ba kvs)(ea:A[i]?=ba a):∃xs,Rd H a (eC X.w a xs)/\KRel X.K A H kvs xs:=by
 unfold kB at e;split at e
 ·rename_i k h;cases e;obtain⟨xs,q,r⟩:=so.obj i _ a h ea;exact⟨xs,.inl q,r⟩
 ·rename_i k h;cases e;obtain⟨o,xs,q,r⟩:=so.obj i _ a h ea;exact⟨xs,.inr ⟨o,q⟩,r⟩
 ·cases e
theorem i7 {i:J3}{kvs:JT (T×W)}(e:pM S i=ba kvs):S[i]?=ba (.dic kvs):=by
 unfold pM at e;split at e
 ·rename_i h; cases e; exact h
 ·cases e
theorem uK {i:J3}{kvs:JT (T×W)}{a:J4}(so:StoreOk X.w X.K A H S)(e:pM S i=ba kvs)(ea:A[i]?=ba a):∃xs,H a=ba (eC X.w a xs)/\KRel X.K A H kvs xs:=
 so.obj i _ a (i7 e) ea
theorem rf {B:KP}(hu:B.units+10 < cLine):(bC X.prog X.w).room B.in1:=by
 show B.in1.units+aG < cLine;rw[bh]; unfold aG; omega
noncomputable def qH (x y:W)(S:aa):J1 (W×aa):=match x,y with
 | .ref r,.tup ks=>match kB S r,gR (.tup ks)with
  | some kvs,ba k=>(cV kvs k).map λw=>(w,S)
  | _,_=>gV
 | x,y=>wb x y S
theorem IM (hu:X.A.units+10 < cLine):LIx X qH:=by
 intro value slice pins s σ H A S x y a b u v w S' I so rx ru ry rv e hs
 by_cases hxy:∃r ks,x=.ref r/\y=.tup ks
 ·obtain⟨r,ks,rfl,rfl⟩:=hxy;simp only[qH]at e;split at e
  ·rename_i kvs k hk1 hk2;rw[J0]at e;obtain⟨w',e1,e2⟩:=e;cases e2;cases rx with
   | ref ea=>
    obtain⟨xs,rd,kr⟩:=gm so hk1 ea;have d:=cO I rd;have dd:=d.dict I kr;obtain⟨bk,rfl,rfl,rk⟩:=i6 hk2 ry rv;obtain⟨p,vv,h1,h2,h3⟩:=(kr.val k).1 _ e1;obtain rfl:u=KO _:=ru;refine NW (x:=p.2) dd.typeIs slot_dict_getitem.lookup
     (wpAny_getItem_heap (Q:=λr s'=>r=p.2/\d0 X pins σ A H S w r s') (rf hu) (jK I rk (eu hk2).2.2) dd h1 ⟨rfl,vv,H,A,I.tok _,h3,.refl,so,h2⟩) hs
  ·cases e
 ·have:qH x y S=wb x y S:=by
   cases x <;> cases y <;> first|rfl|exact absurd ⟨_,_,rfl,rfl⟩ hxy
  rw[this]at e;exact JM hu value slice pins s σ H A S x y a b u v w S' I so rx ru ry rv e hs
noncomputable def i8 (o i v:W)(S:aa):J1 aa:=match o,i with
 | .ref r,.tup ks=>match pM S r,gR (.tup ks)with
  | some kvs,ba k=>if kvs.length < sizeLine then ba (S.set r (.dic (fm kvs k v)))else gV
  | _,_=>gV
 | o,i=>wc o i v S
theorem Gs (hu:X.A.units+10 < cLine):LSet X i8:=by
 intro pins s σ H A S o i x ao ai ax uo ui ux S' I so ro ruo ri rui rx rux e
 by_cases hxy:∃r ks,o=.ref r/\i=.tup ks
 ·obtain⟨r,ks,rfl,rfl⟩:=hxy;simp only[i8]at e;split at e
  ·rename_i kvs k hk1 hk2;split at e
   ·rename_i hl;cases e;cases ro with
    | ref ea=>
     obtain⟨xs,hH,kr⟩:=uK so hk1 ea;have d:=cO I (.inl hH);have dd:=d.dict I kr;obtain⟨bk,rfl,rfl,rk⟩:=i6 hk2 ri rui;obtain⟨q1,q2,q3⟩:=eu hk2;obtain rfl:uo=KO _:=ruo;have hz:xs.length<=sizeLine:=by rw[<- kr.length]; exact L8 ‹_›
     refine wpAny_setItem_heap (hsz:=hz) (rf hu) (jK I rk q3) dd λh' dd' hs=>?_
     have kr':=kr.put q2 q3 rk rx rux;have hz':(storedH xs k bk ux).length<=sizeLine:=by
      rw[<- kr'.length];have:=dM kvs k x;omega
     have dn:DicAt X.w _ (storedH xs k bk ux) h':=.of hz' d.2.1 dd';obtain⟨so',ex⟩:=so.writeO (i7 hk1) rfl ea (u:=eC X.w _ (storedH xs k bk ux)) (n:=.dic (fm kvs k x)) ⟨_,bg,kr'.mono (c9 (.ext hH))⟩;exact⟨_,A,pr I (by rw[hH]; exact N7) hs (let ⟨q,_,_,hq,_⟩:=dd'; ⟨q,hq⟩) dn.ok,ex,so'⟩
   ·cases e
  ·cases e
 ·have:i8 o i x S=wc o i x S:=by
   cases o <;> cases i <;> first|rfl|exact absurd ⟨_,_,rfl,rfl⟩ hxy
  rw[this]at e;exact lset hu pins s σ H A S o i x ao ai ax uo ui ux S' I so ro ruo ri rui rx rux e
noncomputable def uL (x:W)(xs:JT W)(S:aa):J1 (W×aa):=match x,xs with
 | .ref r,[y,z]=>match kB S r,gR y with
  | some kvs,ba k=>ba ((cV kvs k).getD z,S)
  | _,_=>gV
 | _,_=>gV
theorem tw (hu:X.A.units+10 < cLine):LMeth X "dict.get" uL:=by
 intro pins s σ H A S x a u xs vs us w S' I so rx ru rl rv e;cases rx with
 | ref ea=>
  cases rl with
  | nil=>cases e
  | cons r1 t1=>
   cases t1 with
   | nil=>cases e
   | cons r2 t2=>
    cases t2 with
    | cons _ _=>cases e
    | nil=>
     simp only[uL]at e;split at e
     ·rename_i kvs k hk1 hk2;cases e;obtain⟨xs,rd,kr⟩:=gm so hk1 ea;have d:=cO I rd;have dd:=d.dict I kr;cases rv with
      | cons v1 rv2=>
       cases rv2 with
       | cons v2 rv3=>
        cases rv3;obtain⟨bk,rfl,rfl,rk⟩:=i6 hk2 r1 v1;obtain rfl:u=KO _:=ru;refine call_meetsIn PQ dd.typeIs PySem.F.entry_dict_get (PySem.F.args_dict_get_3 _ _ _) (meetsH_dict_get_default (bC X.prog X.w) _ bk d.2.1 _) ⟨rf hu,k,xs,jK I rk (eu hk2).2.2,dd,?_⟩;cases q:cV kvs k with
        | none=>
         rw[(kr.val k).2 q];exact⟨_,H,A,I.tok _,v2,.refl,so,r2⟩
        | some w'=>
         obtain⟨p,vv,h1,h2,h3⟩:=(kr.val k).1 _ q;rw[h1];exact⟨vv,H,A,I.tok _,h3,.refl,so,h2⟩
     ·cases e
 | _=>cases e
noncomputable def HK (x:W)(i:J3)(S:aa):J1 KD:=match W.t x,gf S i with
 | some k,ba ys=>match W.ts ys with
  | some ks=>if k.depth<=aG/\T.depths ks<=aG then ba (decide (k∈ks))else gV
  | none=>gV
 | _,_=>gV
theorem uM {h:K6}:∀ {ks:JT T} {vs:JT JW},IsTs h ks vs->∀v∈vs,∃k∈ks,IsT h k v
 | _,_,.cons a b,v,hv=>by
  rcases Kz.mp hv with rfl|hv
  ·exact⟨_,.head _,a⟩
  ·obtain⟨k,hk,q⟩:=uM b v hv;exact⟨k,.tail _ hk,q⟩
noncomputable def Ek (h:K6)(k:T)(v:JW):KD:=@decide (IsT h k v) (Sz _)
theorem yq {h:K6}{k k':T}{v:JW}(x:IsT h k' v):Ek h k v=decide (k'=k):=by
 unfold Ek
 by_cases e:k'=k
 ·subst e; simp[x]
 ·have:¬ IsT h k v:=λy=>e (x.inj y)
  simp[e,this]
theorem uN {h:K6}{k:T}:∀ {ks:JT T} {vs:JT JW},IsTs h ks vs->vs.any (Ek h k)=decide (k∈ks)
 | _,_,.nil=>by simp
 | _,_,.cons (k:=k') a b=>by
  rw[Mz,yq a,uN b]
  by_cases e:k'=k
  ·simp[e]
  ·have:¬ k=k':=λz=>e z.symm
   simp[e,this]
theorem rg:∀ {ks:JT T} {k:T},k∈ks->k.depth<=T.depths ks
 | x::ks,k,h=>by
  simp only[T.depths];rcases Kz.mp h with rfl|h
  ·omega
  ·have:=rg h; omega
theorem yr {x:W}{i:J3}{a b:V}{u v:JW}{c:KD}(hu:X.A.units+10 < cLine)(I:Inv X pins σ H s)(so:StoreOk X.w X.K A H S)(rx:Rel X.K A H x a)(ru:RelV a u)(ry:Rel X.K A H (.ref i) b)(rv:RelV b v)(e:HK x i S=ba c) :
  ∃l its k ks,v=.ref l/\s.heap.IsList l its/\(∀y,y∈its->OC X.A.in1 s y u (Ek s.heap k y))/\its.any (Ek s.heap k)=c/\c=decide (k∈(ks:JT T)):=by
 unfold HK at e;split at e
 ·rename_i k ys h1 h2;split at e
  ·rename_i ks h3;split at e
   ·rename_i h4;cases e;cases ry with
    | ref ea=>
     obtain⟨vs,g1,g2⟩:=bN so h2 ea;obtain⟨its,rv',p,_⟩:=I.list g1;obtain rfl:v=KO _:=rv;have hT:IsTs s.heap ks its:=fN I ks ((W.ts_w h3).symm ▸ g2) rv';have hk:IsT s.heap k u:=pN I k ((W.t_w h1).symm ▸ rx) ru;refine⟨_,its.toArray,k,ks,rfl,p.isList,λy hy=>?_,by rw[List.any_toArray]; exact uN hT,rfl⟩
     obtain⟨k',hk',q⟩:=uM hT y (by simpa using hy)
     rw[yq q];have:=rg hk';have kl:aG=6:=rfl;exact ym aG k' k _ _ _ _ (by omega) q hk (by rw[bh]; omega) (by rw[bh]; omega)
   ·cases e
  ·cases e
 ·cases e
noncomputable def eQ (o:COp)(x y:W)(S:aa):J1 (W×aa):=match o,y with
 | .isin,.ref i=>match kB S i with
  | some kvs=>(gR x).map λk=>(.bl (cV kvs k).isSome,S)
  | none=>match x with
   | .tup xs=>(HK (.tup xs) i S).map λb=>(.bl (b),S)
   | x=>jG .isin x (.ref i) S
 | .notin,.ref i=>match kB S i with
  | some kvs=>(gR x).map λk=>(.bl (!(cV kvs k).isSome),S)
  | none=>match x with
   | .tup xs=>(HK (.tup xs) i S).map λb=>(.bl (!b),S)
   | x=>jG .notin x (.ref i) S
 | o,y=>jG o x y S
theorem rh (hu:X.A.units+iu < cLine)(o:COp):LOp X (compareOp o.py) (eQ o):=by
 intro pins s σ H A S x y a b u v w S' I so rx ru ry rv e;have get:∀ {i:J3} {kvs:JT (T×W)} {k:T},y=.ref i->kB S i=ba kvs->gR x=ba k->∃d c xs,v=.ref d/\u=.ref c/\(d==sysModules)=false/\(bC X.prog X.w).is s.heap k c/\s.heap.DictOfH (bC X.prog X.w) d xs/\(cV kvs k).isSome=(atKey xs k).isSome:=by
  intro i kvs k hy hk1 hk2;subst hy;cases ry with
  | ref ea=>
   obtain⟨xs,rd,kr⟩:=gm so hk1 ea;have d:=cO I rd;obtain⟨bk,rfl,rfl,rk⟩:=i6 hk2 rx ru;obtain rfl:v=KO _:=rv;refine⟨_,bk,xs,rfl,rfl,d.2.1,jK I rk (eu hk2).2.2,d.dict I kr,?_⟩;cases q:cV kvs k with
   | none=>rw[(kr.val k).2 q]; rfl
   | some w'=>obtain⟨p,_,h1,_⟩:=(kr.val k).1 _ q; rw[h1]; rfl
 have old:jG o x y S=ba (w,S')->wpAny (model X.prog X.w) X.A (compareOp o.py u v) (d0 X pins σ A H S' w) X.xe s:=λh=>BF hu o pins s σ H A S x y a b u v w S' I so rx ru ry rv h
 have hu':X.A.units+10 < cLine:=by have:iu=20:=rfl; omega
 unfold eQ at e;split at e
 ·split at e
  ·rename_i kvs hk1;rw[J0]at e;obtain⟨k,hk2,e2⟩:=e;cases e2;obtain⟨d,c,xs,rfl,rfl,q1,q2,q3,q4⟩:=get rfl hk1 hk2;rw[q4];exact wpAny_in_heap (rf hu') q2 q1 q3 ⟨.bl _,H,A,I.tok _,rfl,.refl,so,.bl⟩
  ·split at e
   ·rw[J0]at e;obtain⟨c,hc,e⟩:=e;cases e;obtain⟨l,its,k,ks,rfl,p1,p2,p3,_⟩:=yr hu' I so rx ru ry rv hc;refine RD (Ek s.heap k) p1 p2 ?_;rw[p3];exact⟨.bl _,H,A,I,rfl,.refl,so,.bl⟩
   ·exact old e
 ·split at e
  ·rename_i kvs hk1;rw[J0]at e;obtain⟨k,hk2,e2⟩:=e;cases e2;obtain⟨d,c,xs,rfl,rfl,q1,q2,q3,q4⟩:=get rfl hk1 hk2;rw[q4];exact wpAny_notIn_heap (rf hu') q2 q1 q3 ⟨.bl _,H,A,I.tok _,rfl,.refl,so,.bl⟩
  ·split at e
   ·rw[J0]at e;obtain⟨c,hc,e⟩:=e;cases e;obtain⟨l,its,k,ks,rfl,p1,p2,p3,_⟩:=yr hu' I so rx ru ry rv hc;refine Qw (Ek s.heap k) p1 p2 ?_;rw[p3];exact⟨.bl _,H,A,I,rfl,.refl,so,.bl⟩
   ·exact old e
 ·exact old e
end
noncomputable def RawD (d:J4)(es:KC Mr)(ep:J3)(h:K6):Prop:=∃o,h.get? d=ba o/\o.ExactDict/\o.data=.dict es ep
theorem RawD.at {d:J4}{es:KC Mr}{ep:J3}{h h':K6}(x:RawD d es ep h)(e:∀o,h.get? d=ba o->h'.get? d=ba o):RawD d es ep h':=let ⟨o,ho,r⟩:=x; ⟨o,e _ ho,r⟩
theorem RawD.lt {d:J4}{es:KC Mr}{ep:J3}{h:K6}(x:RawD d es ep h):d < h.objs.size:=let ⟨_,ho,_⟩:=x; Kl ho
theorem RawD.type {d:J4}{es:KC Mr}{ep:J3}{s:JY}(x:RawD d es ep s.heap):s.TypeIs (.ref d) "dict":=let ⟨o,ho,hc,_⟩:=x; ⟨o,ho,hc.1⟩
section
variable{prog:KJ}{w:KT}{A:KP}{E:JW->JY->Prop}{s:JY}{it d:J4}{i ep:J3}{es:KC Mr}
theorem rj {Q:JW->JY->Prop}(hd:(d==sysModules)=false)(hm:RawD d es ep s.heap)
  (hQ:Q (.ref s.heap.objs.size) { s with heap:=s.heap.push { cls:=.type "dict_keyiterator",data:=.fields [.ref d,.int 0 0,.int es.size 0,.int ep 0].toArray } }):wpAny (model prog w) A (pyIter (.ref d)) Q E s:=by
 have hT:=hm.type;obtain⟨o,ho,hc,hdat⟩:=id hm;refine OW hT F.slot_dict_iter (Ll F.slot_dict_iter hT F.entry_dict_iter ?_ (F.args_dict_iter_1 _));unfold Ng.«dict.__iter__» R8;refine JU (JU (wpAny_notOrdered_dict hT ?_));show wpAny _ _ (pure (KO d)) _ _ s;refine JZ ?_;show wpAny _ _ (PR d >>= _) _ _ s;unfold PR;rw[KF (by rw[hd]; exact Ku)]
 refine JU (JZ (JU (N2 ho hdat (JU (PF ho hdat ?_)))));refine JU (KW (JZ ⟨_,rfl,"dict_keyiterator",_,⟨_,Ke _ rfl,rfl⟩,F.slot_dict_keyiterator_next.lookup,?_⟩))
 simpa [rawInt]using hQ
theorem rm {Q:J1 JW->JY->Prop}(hit:s.heap.IsKeyIter it d i es.size ep)(hm:RawD d es ep s.heap)(hi:i < es.size)
  (hQ:∀h',h'.IsKeyIter it d (i+1) es.size ep->L9 it s.heap h'->Q (ba es[i].key) { s with heap:=h' }):wpAny (model prog w) A (pyNext (.ref it)) Q E s:=by
 obtain⟨o,ho,hc,hd⟩:=id hit;obtain⟨od,hod,hcd,hdd⟩:=id hm;unfold pyNext;refine JU (Oc (Lk (name:=Ml "__next__") hit.typeIs F.slot_dict_keyiterator_next
  (Ll F.slot_dict_keyiterator_next hit.typeIs F.entry_dict_keyiterator_next ?_ (F.args_dict_keyiterator_next_1 _))))
 refine JU (JZ (JU (JU ?_)))
 first|refine JU (Mn hit.typeIs (JZ ?_))|refine JU (MW hit.typeIs (JZ ?_))
 refine JU (OF ho hd ?_);have hown:Oj "dict_keyiterator" = false:=by decide
 simp only[hown,Ky,Lr];show wpAny _ _ (if (KO d==K7)=true then _ else _) _ _ s
 rw[KF (show ¬ ((KO d==K7)=true)from Ku)]
 refine JU (JZ (JU (N2 hod hdd ?_)));rw[KF (by simp)]
 refine JU (JZ (JU (PF hod hdd ?_)));rw[KF (by simp)]
 refine JZ ?_;simp only[show ¬ ((i:Kh) < 0)from by omega,Lr,Km,Mj hi]
 refine JU ?_
 first|refine JU (Mn hit.typeIs (JZ ?_))|refine JU (MW hit.typeIs (JZ ?_))
 refine JU (PU hit.typeIs ?_);show wpAny _ _ (setField (.ref it) 1 (rawInt ((i:Kh)+1)) >>= _) _ _ s;refine JU (OJ ho hd (by simp) ?_)
 have hit':(s.heap.update it (Sq (·.setIfInBounds 1 (rawInt ((i:Kh)+1))))).IsKeyIter it d (i+1) es.size ep:=
  ⟨_,LH _ ho (PV (NO hd _)),(Q5 ..).trans hc,by rw[NO hd]; simp[rawInt]⟩
 refine JU (Li ?_);refine JU (PU (s:={ s with heap:=s.heap.update it (Sq (·.setIfInBounds 1 (rawInt ((i:Kh)+1)))) }) hit'.typeIs ?_)
 show wpAny _ _ (pure es[i].key) _ _ _;exact JZ (JZ ⟨_,rfl,JZ (hQ _ hit' (MY ..))⟩)
theorem uO {Q:J1 JW->JY->Prop}(hh:A.handled=gV)(hit:s.heap.IsKeyIter it d i es.size ep)(hm:RawD d es ep s.heap)(hge:es.size<=i)
  (hQ:∀h',RA it s.heap h'->Q gV { s with heap:=h' }):wpAny (model prog w) A (pyNext (.ref it)) Q E s:=by
 obtain⟨o,ho,hc,hd⟩:=id hit;obtain⟨od,hod,hcd,hdd⟩:=id hm;unfold pyNext;refine JU (Oc (Lk (name:=Ml "__next__") hit.typeIs F.slot_dict_keyiterator_next
  (Ll F.slot_dict_keyiterator_next hit.typeIs F.entry_dict_keyiterator_next ?_ (F.args_dict_keyiterator_next_1 _))))
 refine JU (JZ (JU (JU ?_)))
 first|refine JU (Mn hit.typeIs (JZ ?_))|refine JU (MW hit.typeIs (JZ ?_))
 refine JU (OF ho hd ?_);have hown:Oj "dict_keyiterator" = false:=by decide
 simp only[hown,Ky,Lr];show wpAny _ _ (if (KO d==K7)=true then _ else _) _ _ s
 rw[KF (show ¬ ((KO d==K7)=true)from Ku)]
 refine JU (JZ (JU (N2 hod hdd ?_)));rw[KF (by simp)]
 refine JU (JZ (JU (PF hod hdd ?_)));rw[KF (by simp)]
 refine JZ ?_;simp only[show ¬ ((i:Kh) < 0)from by omega,Lr,Km,Array.getElem?_eq_none hge]
 refine JU ?_
 first|refine JU (Mn hit.typeIs (JZ ?_))|refine JU (MW hit.typeIs (JZ ?_))
 show wpAny _ _ (setField (.ref it) 0 .none >>= _) _ _ s;refine JU (OJ ho hd (by simp) ?_)
 show wpAny _ _ (newExc (.type "StopIteration") [] >>= _) _ _ _;refine JU ?_;simp only[newExc,newTuple];refine JU (KW ?_ (by size_fits))
 refine JU (m:=firstArgMember _ _) (NR (a:=K7) (by first|rfl|(simp only[firstArgMember]; rfl)) ?_)
 refine KW ?_ (by size_fits)
 simp only[raiseNew];refine JU (Qp ?_);rw[show A.in1.handled=gV from hh]
 refine JU (JZ (Rx ?_));refine JU (Nw (T:="StopIteration") (b:=true) ⟨_,Ke _ rfl,rfl⟩ P0 ?_);exact JZ (hQ _ (((MY ..).extBut.push _).push _))
theorem wq (hh:A.handled=gV)(I d:J4)(hne:d≠I)(es:KC Mr)(ep:J3) :
  Ry prog w A I [I,d] [I] es.size (λi v=>∃e,es[i]?=ba e/\e.key=v) (λi h=>h.IsKeyIter I d i es.size ep/\RawD d es ep h) where
 sub:=λb hb=>by simp at hb; simp[hb]
 frame:=λ_ _ _ st hk=>⟨st.1.at λo e=>hk I (by simp) o e,st.2.at λo e=>hk d (by simp) o e⟩
 item:=λi s Q E hi st hQ=>
  rm st.1 st.2 hi λh' hit' hs'=>hQ _ h' s.toks ⟨es[i],by simp[hi],rfl⟩ ⟨hit',st.2.at λo e=>(hs'.2 d hne).trans e⟩ λb o hb e=>hs'.extBut b o (λh=>hb (by simp[h])) e
 done:=λs Q E st hQ=>uO hh st.1 st.2 (J7 _) λh' he'=>hQ h' s.toks λb o hb e=>he' b o (λh=>hb (by simp[h])) e
 self:=λ_ _ _ _ st hQ=>P4 st.1 hQ
theorem uP (lo:(d==sysModules)=false):P5 prog w "dict" d d es.size (λi v=>∃e,es[i]?=ba e/\e.key=v) (RawD d es ep) where
 type:=λ_ hm=>hm.type
 there:=λ_ hm=>⟨hm.lt,hm.lt⟩
 keep:=λ_ _ hm hk=>hm.at λo e=>hk d (.inl rfl) o e
 notList:=by decide
 notTuple:=by decide
 hint:=λ_ _ _ _ hm hq=>PySem.W.kdl_hint_dict hm.type hq
 iter:=λ_ _ hh hm=>⟨_,_,(λ_ _ hq=>rj lo hm hq),wq hh _ d (Kt hm.lt) es ep,⟨⟨_,Ke _ rfl,rfl,rfl⟩,hm.at λo e=>JX _ e⟩⟩
theorem yt {T:LB}{r d S:J4}{n:J3}{P:J3->JW->Prop}{OK:K6->Prop}{R:Rh->JY->Prop}(K:P5 prog w T r d n P OK)(hh:A.handled=gV)(hok:OK s.heap)(hn:n<=sizeLine)(hSr:S≠r)(hSd:S≠d)
  (hS:s.heap.get? S=ba { cls:=.type "list",data:=.seq #[] 0 })
  (hR:∀h' tk acc' c',(∀b o,b≠S->s.heap.get? b=ba o->h'.get? b=ba o)->h'.get? S=ba { cls:=.type "list",dict:=gV,data:=.seq acc' c',slots:=#[] }->Pu P acc' n->R (.ok (.ret (.ref S))) { s with heap:=h',toks:=tk }) :
  codeAny (model prog w) A (.builtin "list.__iadd__" ⟨[.ref S,.ref r],[]⟩) R s:=by
 refine Ln F.entry_list_iadd ?_;rw[Ld F.plain_list_iadd _];show wpAny _ A.in1 (LI (.ref S) (.ref r) (.ref S)) _ _ _;exact PySem.W.kdl_extend K hh hok S hSr hSd _ 0 hS hR hn
theorem rn {T:LB}{r d:J4}{n:J3}{P:J3->JW->Prop}{OK:K6->Prop}{Q:JT JW->JY->Prop}(K:P5 prog w T r d n P OK)(hh:A.handled=gV)(hok:OK s.heap)(hn:n<=sizeLine)
  (hQ:∀h' tk acc,(∀b o,s.heap.get? b=ba o->h'.get? b=ba o)->s.heap.objs.size<=h'.objs.size->Pu P acc n->Q acc.toList { s with heap:=h',toks:=tk }):wpAny (model prog w) A (collect (.ref r)) Q E s:=by
 unfold collect;refine JU (NY (Ln F.entry_proto_collect ?_));rw[Ld F.plain_proto_collect _];show wpAny _ A.in1 (newList [] >>= λl=>again (.builtin "list.__iadd__" ⟨[l,.ref r],[]⟩)) _ _ s
 refine JU (KW ?_);have hlt:=K.there _ hok;refine JZ ⟨L7 F.plain_list_iadd _,yt (s:={ s with heap:=s.heap.push { cls:=.type "list",data:=.seq ([]:JT JW).toArray } }) K hh (K.keep _ _ hok λb _ o e=>JX _ e) hn (KM hlt.1) (KM hlt.2) (Ke _ rfl) λh' tk acc' c' hk hS' hacc=>?_⟩
 show wpAny (model prog w) A (do
   let o <- load s.heap.objs.size
   match o.data with
   | .seq xs _=>pure xs.toList
   | _=>unsupported "internal:collect") Q E { s with heap:=h',toks:=tk }
 refine JU (Pn hS' ?_);exact JZ (hQ h' tk acc' (λb o e=>hk b o (Kt (Kl e)) (JX _ e)) (L8 (Kl hS')) hacc)
end
mutual
noncomputable def hZ:T->T->J1 KD
 | .int a,.int b=>ba (decide (a < b))
 | .str a,.str b=>ba (decide (a.cps.toList < b.cps.toList))
 | .tup xs,.tup ys=>dt xs ys
 | _,_=>gV
noncomputable def dt:JT T->JT T->J1 KD
 | [],[]=>ba false
 | [],_::_=>ba true
 | _::_,[]=>ba false
 | x::xs,y::ys=>if x=y then dt xs ys else hZ x y
end
mutual
theorem IsT.kept {h h':K6}(hk:∀b o,o.cls=.type "tuple"->h.get? b=ba o->h'.get? b=ba o):∀ {x:T} {v:JW},IsT h x v->IsT h' x v
 | _,_,.int=>.int
 | _,_,.str=>.str
 | _,_,.tup a1 c1 d1 t1=>.tup (hk _ _ c1 a1) c1 d1 (IsTs.kept hk t1)
theorem IsTs.kept {h h':K6}(hk:∀b o,o.cls=.type "tuple"->h.get? b=ba o->h'.get? b=ba o):∀ {x:JT T} {v:JT JW},IsTs h x v->IsTs h' x v
 | _,_,.nil=>.nil
 | _,_,.cons a b=>.cons (IsT.kept hk a) (IsTs.kept hk b)
end
theorem Gu {B:KP}{s:JY}{d:J3}(hu:B.units+d < cLine)(hl:∀(x y:T) (u v:JW) (k:KD),x.depth<=d->y.depth<=d->IsT s.heap x u->IsT s.heap y v->hZ x y=ba k->LtAt B s u v k) :
  ∀(xs ys:JT T) (us vs:JT JW) (k:KD),T.depths xs<=d->T.depths ys<=d->IsTs s.heap xs us->IsTs s.heap ys vs->dt xs ys=ba k->LexR B s us vs k
 | [],[],_,_,k,_,_,h1,h2,e=>by cases h1; cases h2; cases e; exact .nn
 | [],y::ys,_,_,k,_,_,h1,h2,e=>by cases h1; cases h2; cases e; exact .nc
 | x::xs,[],_,_,k,_,_,h1,h2,e=>by cases h1; cases h2; cases e; exact .cn
 | x::xs,y::ys,_,_,k,d1,d2,h1,h2,e=>by
  simp only[T.depths]at d1 d2;cases h1 with
  | cons p1 q1=>
   cases h2 with
   | cons p2 q2=>
    have he:=ym d x y _ _ B s (by omega) p1 p2 hu (by omega)
    simp only[dt]at e
    by_cases hxy:x=y
    ·rw[Ks hxy]at e;rw[Ly hxy]at he;exact .eq he (Gu hu hl xs ys _ _ k (by omega) (by omega) q1 q2 e)
    ·rw[KF hxy]at e;rw[KN hxy]at he;exact .ne he (hl x y _ _ k (by omega) (by omega) p1 p2 e)
theorem Gv:∀(d:J3) (x y:T) (u v:JW) (B:KP) (s:JY) (k:KD),x.depth<=d->y.depth<=d->IsT s.heap x u->IsT s.heap y v->B.units+d < cLine->hZ x y=ba k->LtAt B s u v k:=by
 intro d
 induction d with
 | zero=>
  intro x y u v B s k d1 d2 h1 h2 hu e;cases h1 with
  | int=>cases h2 with
   | int=>cases e; exact λprog w E Q h=>(Qj h:wpAny (model prog w) B (compareOp .Lt _ _) Q E s)
   | _=>cases e
  | str=>cases h2 with
   | str=>cases e; exact λprog w E Q h=>(lt_str h:wpAny (model prog w) B (compareOp .Lt _ _) Q E s)
   | _=>cases e
  | tup _ _ _ _=>simp[T.depth]at d1
 | succ d ih=>
  intro x y u v B s k d1 d2 h1 h2 hu e;cases h1 with
  | int=>cases h2 with
   | int=>cases e; exact λprog w E Q h=>(Qj h:wpAny (model prog w) B (compareOp .Lt _ _) Q E s)
   | _=>cases e
  | str=>cases h2 with
   | str=>cases e; exact λprog w E Q h=>(lt_str h:wpAny (model prog w) B (compareOp .Lt _ _) Q E s)
   | _=>cases e
  | tup a1 c1 e1 t1=>cases h2 with
   | tup a2 c2 e2 t2=>
    simp only[T.depth]at d1 d2;have hu1:B.in1.units+d < cLine:=by rw[bh]; omega
    exact LtAt.tuples ⟨_,a1,c1,_,e1⟩ ⟨_,a2,c2,_,e2⟩ (by omega) (Gu hu1 (λx y u v k q1 q2 q3 q4 q5=>ih x y u v B.in1 s k q1 q2 q3 q4 hu1 q5) _ _ _ _ k (by omega) (by omega) t1 t2 e)
   | _=>cases e
section
variable{prog:KJ}{w:KT}{A:KP}{R:Rh->JY->Prop}{I S:J4}{fp wr:JT J4}{n:J3}{P:J3->JW->Prop}{St:J3->K6->Prop}{Ok:K6->Prop}{bt:J3->J3->KD}
noncomputable def yu (prog:KJ)(w:KT)(A:KP)(P:J3->JW->Prop)(Ok:K6->Prop)(bt:J3->J3->KD):Prop:=
 ∀i j vi vj (s:JY) (Q:JW->JY->Prop) (E:JW->JY->Prop),Ok s.heap->P i vi->P j vj->Q (.bool (bt i j)) s->wpAny (model prog w) A (richCompare .Lt vi vj) Q E s
theorem yv (W:Ry prog w A.in1 I fp wr n P St)(hcmp:yu prog w A.in1 P Ok bt)(hSf:S∉fp)(hok:∀h h',Ok h->(∀b o,b∉wr->b≠S->h.get? b=ba o->h'.get? b=ba o)->Ok h') :
  ∀(k j:J3) (s:JY) (vb:JW) (c:J3),n - (j+1)=k->j < n->St (j+1) s.heap->P (argBest bt j) vb->Ok s.heap->s.heap.get? S=ba { cls:=.type "list",dict:=gV,data:=.seq [vb,vb].toArray c,slots:=#[] }->
  (∀v h' tk,P (argBest bt (n - 1)) v->(∀b o,b∉wr->b≠S->s.heap.get? b=ba o->h'.get? b=ba o)->R (.ok (.ret v)) { s with heap:=h',toks:=tk })->
  codeAny (model prog w) A (.builtin "min.loop" ⟨[.ref I,.none,.ref S],[]⟩) R s:=by
 have hSw:S∉wr:=λh=>hSf (W.sub _ h)
 have hname:(toString "min" ++ toString ".loop" : LB) = "min.loop":=by decide
 intro k
 induction k with
 | zero=>
  intro j s vb c hk hj hst hPb hO hS hR;have hin:j+1=n:=by omega
  refine Ln F.entry_min_loop ?_;rw[Ld F.plain_min_loop _];show wpAny _ A.in1 (seqItems? (.ref S) >>= _) _ _ s;refine JU (LF hS rfl ?_);show wpAny _ A.in1 (tryCatch (pyNext (.ref I)) _ >>= _) _ _ s;refine JU (OL (W.done s _ _ (hin ▸ hst) λh' tk hk'=>?_))
  have hS':=hk' S _ hSw hS;show wpAny _ A.in1 (updateSeq S (λ_=>#[]) >>= _) _ _ _
  refine JU (NK hS' rfl (JU (NS (JZ ?_))));have e:j=n - 1:=by omega
  exact hR vb _ tk (e ▸ hPb) λb o hbw hbS e=>(K5 _ _ (Ne.symm hbS)).trans (hk' b o hbw e)
 | succ k ih=>
  intro j s vb c hk hj hst hPb hO hS hR;have hlt:j+1 < n:=by omega
  refine Ln F.entry_min_loop ?_;rw[Ld F.plain_min_loop _];show wpAny _ A.in1 (seqItems? (.ref S) >>= _) _ _ s;refine JU (LF hS rfl ?_);show wpAny _ A.in1 (tryCatch (pyNext (.ref I)) _ >>= _) _ _ s;refine JU (OL (W.item (j+1) s _ _ hlt hst λv h' tk hP hst' hk'=>?_))
  have hS':=hk' S _ hSw hS;have hO':Ok h':=hok _ _ hO λb o hb _ e=>hk' b o hb e
  show wpAny _ A.in1 (tryCatch (holding [v,v] (richCompare .Lt v vb >>= _)) _ >>= _) _ _ _;refine JU (OL (Li (JU (hcmp (j+1) (argBest bt j) v vb _ _ _ hO' hP hPb ?_))));refine JU (Li (Mp ?_));refine JU (NS (JZ ?_));cases hb:bt (j+1) (argBest bt j)with
  | true=>
   simp only[LQ];refine JU (NK hS' rfl (JU (NS ?_)));rw[hname];refine JZ ⟨L7 F.plain_min_loop _,ih (j+1) _ v _ (by omega) hlt (W.frame _ _ _ hst' λb hbf o e=>?_) (by simp only[argBest,hb,LQ]; exact hP) (hok _ _ hO' λb o _ hbS e=>(K5 _ _ (Ne.symm hbS)).trans e) (LH _ hS' rfl)
    λv' h'' tk'' hP' hk''=>?_⟩
   ·exact(K5 _ _ (λh:S=b=>hSf (by rw[h]; exact hbf))).trans e
   ·exact hR v' h'' tk'' hP' λb o hbw hbS e=>hk'' b o hbw hbS ((K5 _ _ (Ne.symm hbS)).trans (hk' b o hbw e))
  | false=>
   simp only[Ky,Lr];refine JU (NS ?_);rw[hname];refine JZ ⟨L7 F.plain_min_loop _,ih (j+1) _ vb c (by omega) hlt hst' (by simp only[argBest,hb,Ky,Lr]; exact hPb) hO' hS' λv' h'' tk'' hP' hk''=>?_⟩
   exact hR v' h'' tk'' hP' λb o hbw hbS e=>hk'' b o hbw hbS (hk' b o hbw e)
theorem wt (W:Ry prog w A.in1 I fp wr n P St)(hcmp:yu prog w A.in1 P Ok bt)(hSf:S∉fp)(hok:∀h h',Ok h->(∀b o,b∉wr->b≠S->h.get? b=ba o->h'.get? b=ba o)->Ok h')(hn:0 < n){s:JY}{c:J3}(hst:St 0 s.heap)(hO:Ok s.heap)
  (hS:s.heap.get? S=ba { cls:=.type "list",dict:=gV,data:=.seq #[] c,slots:=#[] })
  (hR:∀v h' tk,P (argBest bt (n - 1)) v->(∀b o,b∉wr->b≠S->s.heap.get? b=ba o->h'.get? b=ba o)->R (.ok (.ret v)) { s with heap:=h',toks:=tk }) :
  codeAny (model prog w) A (.builtin "min.loop" ⟨[.ref I,.none,.ref S],[]⟩) R s:=by
 have hSw:S∉wr:=λh=>hSf (W.sub _ h)
 have hname:(toString "min" ++ toString ".loop" : LB) = "min.loop":=by decide
 refine Ln F.entry_min_loop ?_;rw[Ld F.plain_min_loop _];show wpAny _ A.in1 (seqItems? (.ref S) >>= _) _ _ s;refine JU (LF hS rfl ?_);show wpAny _ A.in1 (tryCatch (pyNext (.ref I)) _ >>= _) _ _ s;refine JU (OL (W.item 0 s _ _ hn hst λv h' tk hP hst' hk'=>?_))
 have hS':=hk' S _ hSw hS;show wpAny _ A.in1 (updateSeq S (λ_=>[v,v].toArray) >>= _) _ _ _
 refine JU (NK hS' rfl ?_);rw[hname];have hO':Ok h':=hok _ _ hO λb o hb _ e=>hk' b o hb e
 refine JZ ⟨L7 F.plain_min_loop _,yv W hcmp hSf hok _ 0 _ v _ rfl hn (W.frame _ _ _ hst' λb hbf o e=>?_) hP (hok _ _ hO' λb o _ hbS e=>(K5 _ _ (Ne.symm hbS)).trans e) (LH _ hS' rfl) λv' h'' tk'' hP' hk''=>?_⟩
 ·exact(K5 _ _ (λh:S=b=>hSf (by rw[h]; exact hbf))).trans e
 ·exact hR v' h'' tk'' hP' λb o hbw hbS e=>hk'' b o hbw hbS ((K5 _ _ (Ne.symm hbS)).trans (hk' b o hbw e))
end
section
variable{prog:KJ}{w:KT}{A:KP}{E:JW->JY->Prop}{s:JY}
theorem yw {l:J4}{items:KC JW}{bt:J3->J3->KD}{Q:JW->JY->Prop}(hh:A.handled=gV)(hl:s.heap.IsList l items)(hn:0 < items.size)
  (hcmp:yu prog w A.in1 (λi v=>items[i]?=ba v) (λh=>∀b o,s.heap.get? b=ba o->h.get? b=ba o) bt)
  (hQ:∀v h' tk,items[argBest bt (items.size - 1)]?=ba v->(∀b o,s.heap.get? b=ba o->h'.get? b=ba o)->Q v { s with heap:=h',toks:=tk }) :
  wpAny (model prog w) A (call (.builtin "min") [.ref l]) Q E s:=by
 have hname:(toString "min" ++ toString ".loop" : LB) = "min.loop":=by decide
 refine call_function_tree F.kind_min F.plain_min F.entry_min (F.args_min1 _) ?_;show wpAny _ A.in1 (Ov "min" ["key","default"] 0 ⟨[],[]⟩ >>= _) _ _ s;refine JU (NR (show Ov "min" ["key","default"] 0 ⟨[],[]⟩=pure [gV,gV]from rfl) ?_)
 refine JU (JZ ?_);refine JU (Nh hl ?_);refine JU (KW ?_);rw[hname];have hlt:l < s.heap.objs.size:=let ⟨_,ho,_⟩:=hl; Kl ho
 have hne:l≠s.heap.objs.size:=Kt hlt;have W:=R3 (prog:=prog) (w:=w) (A:=A.in1) hh s.heap.objs.size l hne items;have hsz:∀o:LJ,(s.heap.push o).objs.size=s.heap.objs.size+1:=λo=>by simp[Heap.push]
 refine JZ ⟨L7 F.plain_min_loop _,wt (A:=A) (Ok:=λh=>∀b o,s.heap.get? b=ba o->h.get? b=ba o) W hcmp (λhm=>?_) (λh h' ho hk b o e=>?_) hn ⟨?_,?_⟩ (λb o e=>JX _ (JX _ e)) (Ke _ rfl) λv h' tk hv hk=>?_⟩
 ·rcases Kz.mp hm with e|hm
  ·exact absurd (show(s.heap.push _).objs.size=s.heap.objs.size from e) (by rw[hsz]; exact Nat.succ_ne_self _)
  ·have e:(s.heap.push _).objs.size=l:=Kk.mp hm;rw[hsz]at e;exact absurd hlt (by rw[<- e]; exact Qz.mpr (MO _))
 ·have hb:=Kl e;refine hk b o (λz=>?_) (λz=>?_) (ho b o e)
  ·rw[Kk.mp z]at hb; exact LA _ hb
  ·have z':b=(s.heap.push _).objs.size:=z;rw[hsz]at z';rw[z']at hb;exact absurd hb (Qz.mpr (MO _))
 ·exact⟨_,JX _ (Ke _ rfl),rfl,rfl⟩
 ·obtain⟨o,ho,hc⟩:=hl;exact⟨o,JX _ (JX _ ho),hc⟩
 ·refine hQ v h' tk hv λb o e=>hk b o (λz=>?_) (λz=>?_) (JX _ (JX _ e))
  ·have hb:=Kl e;rw[Kk.mp z]at hb; exact LA _ hb
  ·have hb:=Kl e;have z':b=(s.heap.push _).objs.size:=z;rw[hsz]at z';rw[z']at hb;exact absurd hb (Qz.mpr (MO _))
end
open PySem.W (KasT kas_sort kas_ask kas_cmp kas_item kas_asc kas_desc kas_tail3 kas_descPart kas_count kas_place kas_bin kas_rev)
noncomputable def cf {α:Type}(lt:J3->J3->KD):KasT α->α
 | .ret a=>a
 | .ask i j k=>cf lt (k (lt i j))
noncomputable def OkK {α:Type}(n:J3)(P:α->Prop):KasT α->Prop
 | .ret a=>P a
 | .ask i j k=>i < n/\j < n/\∀b,OkK n P (k b)
theorem rq {α:Type}{n:J3}{P:α->Prop}{lt:J3->J3->KD}:∀(t:KasT α),OkK n P t->P (cf lt t)
 | .ret _,h=>h
 | .ask i j k,h=>rq (k (lt i j)) (h.2.2 _)
theorem pO {α:Type}{n:J3}{P:α->Prop}{lt:J3->J3->KD}{t:KasT α}(h:OkK n P t):P (cf lt t):=rq t h
theorem OkK.bind {α β:Type}{n:J3}{P:α->Prop}{P':β->Prop}{f:α->KasT β}:∀ {t:KasT α},OkK n P t->(∀a,P a->OkK n P' (f a))->OkK n P' (t.bind f)
 | .ret a,h,hf=>hf a h
 | .ask _ _ _,h,hf=>⟨h.1,h.2.1,λb=>OkK.bind (h.2.2 b) hf⟩
theorem on {α:Type}{n:J3}{P:α->Prop}{lt:J3->J3->KD}{cmp:J3->J3->(KD->JY->Prop)->JY->Prop}{Q:α->JY->Prop}{s:JY}(hc:∀i j,i < n->j < n->∀C:KD->JY->Prop,C (lt i j) s->cmp i j C s) :
  ∀ {t:KasT α},OkK n P t->Q (cf lt t) s->t.kasWp cmp Q s
 | .ret _,_,h=>h
 | .ask i j k,h,hq=>hc i j h.1 h.2.1 _ (on hc (h.2.2 _) hq)
noncomputable def Pm (n:J3)(p:KC J3):Prop:=p.toList.Perm (KA n)
theorem Pm.size {n:J3}{p:KC J3}(h:Pm n p):p.size=n:=by rw[<- Ki,h.length_eq,KI]
theorem Pm.lt {n:J3}{p:KC J3}(h:Pm n p)(hn:0 < n)(i:J3):p.getD i 0 < n:=by
 by_cases hi:i < p.size
 ·have e:p.getD i 0=p[i]:=by simp[NM,hi]
  rw[e];have:p[i]∈p.toList:=by simp
  exact KU.mp (h.mem_iff.mp this)
 ·have e:p.getD i 0=0:=by simp[NM,hi]
  rw[e]; exact hn
theorem Pm.rev {n:J3}{p:KC J3}(h:Pm n p)(i j:J3):Pm n (kas_rev p i j):=(OM.mp (mirror_perm p i j _)).trans h
theorem Pm.bub {n:J3}{p:KC J3}(h:Pm n p)(i j:J3):Pm n (bubble p i j):=(OM.mp (bubble_perm p i j)).trans h
section
variable{n:J3}(hn:0 < n)
include hn
theorem tz {p:KC J3}(h:Pm n p):∀(f m:J3),OkK n (λ_=>QI) (kas_asc p f m)
 | 0,_=>trivial
 | f+1,m=>⟨h.lt hn _,h.lt hn _,λb=>by
  show OkK n _ (if b=true then _ else _)
  split
  ·trivial
  ·exact tz h f (m+1)⟩
theorem ll:∀(f:J3) (p:KC J3) (m q:J3),Pm n p->OkK n (λr=>Pm n r.1) (kas_desc f p m q)
 | 0,p,m,q,h=>h
 | f+1,p,m,q,h=>⟨h.lt hn _,h.lt hn _,λb=>by
  show OkK n _ (if b=true then _ else _)
  split
  ·split
   ·exact ll f _ _ _ (h.rev _ _)
   ·exact ll f _ _ _ h
  ·refine⟨h.lt hn _,h.lt hn _,λc=>?_⟩
   show OkK n _ (if c=true then _ else _)
   split
   ·exact h
   ·exact ll f _ _ _ h⟩
theorem uQ {p:KC J3}(h:Pm n p)(m k:J3):OkK n (λr=>Pm n r.2) (kas_tail3 m k p):=by
 unfold kas_tail3;exact OkK.bind (tz hn (h.rev 0 m) _ _) λa _=>h.rev 0 m
theorem kC {p:KC J3}(h:Pm n p)(m k:J3):OkK n (λr=>Pm n r.2) (kas_descPart m k p):=by
 unfold kas_descPart;refine OkK.bind (ll hn _ _ _ _ h) λr hr=>?_
 split
 ·exact uQ hn (hr.rev _ _) _ _
 ·exact uQ hn hr _ _
theorem yy {p:KC J3}(h:Pm n p)(k:J3):OkK n (λr=>Pm n r.2) (kas_count k p):=by
 unfold kas_count;refine OkK.bind (tz hn h _ _) λm _=>?_
 split
 ·exact h
 ·split
  ·refine⟨h.lt hn _,h.lt hn _,λc=>?_⟩
   show OkK n _ (if c=true then _ else _)
   split
   ·exact h
   ·exact kC hn (h.rev _ _) _ _
  ·exact kC hn h _ _
theorem lN {p:KC J3}(h:Pm n p)(k:J3):∀(f l r:J3),OkK n (λ_=>QI) (kas_place p k f l r)
 | 0,_,_=>trivial
 | f+1,l,r=>by
  unfold kas_place;split
  ·trivial
  ·refine⟨h.lt hn _,h.lt hn _,λc=>?_⟩
   show OkK n _ (if c=true then _ else _)
   split
   ·exact lN h k f _ _
   ·exact lN h k f _ _
theorem yz:∀(f:J3) (p:KC J3) (k:J3),Pm n p->OkK n (Pm n) (kas_bin f p k)
 | 0,p,k,h=>h
 | f+1,p,k,h=>by
  unfold kas_bin;exact OkK.bind (lN hn h k _ _ _) λl _=>yz f _ _ (h.bub _ _)
theorem lm:OkK n (Pm n) (kas_sort n):=by
 unfold kas_sort;refine OkK.bind (yy hn (by unfold Pm; simp) _) λr hr=>?_
 split
 ·exact yz hn _ _ _ hr
 ·exact hr
end
section
variable{prog:KJ}{w:KT}{A:KP}{E:JW->JY->Prop}{s:JY}{vs:JT JW}
noncomputable def dN (lt:J3->J3->KD){β:Type}(d:β)(vs:JT β):JT β:=if vs.length < 2 then vs else(cf lt (kas_sort vs.length)).toList.map λi=>vs.getD i d
theorem rz {lt:J3->J3->KD}{β:Type}{d:β}{vs:JT β}:(dN lt d vs).length=vs.length:=by
 unfold dN;split
 ·rfl
 ·rw[JV,Ki,(pO (lt:=lt) (lm (n:=vs.length) (by omega))).size]
theorem oo {a:J4}{n:J3}{lt:J3->J3->KD}{κ:Pc}{P:TC->JY->Prop}(ho:s.heap.get? a=ba (seqObj "list" vs.toArray n))(h64:vs.length < 64)
  (hkind:2<=vs.length->∀h',(∀b o,b≠a->s.heap.get? b=ba o->h'.get? b=ba o)->∀Q:Pc->JY->Prop,Q κ { s with heap:=h' }->wpAny (model prog w) A (keyKind' vs.toArray) Q (λ_ _=>Lw) { s with heap:=h' })
  (hlt:2<=vs.length->∀h',(∀b o,b≠a->s.heap.get? b=ba o->h'.get? b=ba o)->∀i j,i < vs.length->j < vs.length->∀Q:KD->JY->Prop,Q (lt i j) { s with heap:=h' }->
   wpAny (model prog w) A (keyLt' κ (vs.getD i K7) (vs.getD j K7)) Q (λ_ _=>Lw) { s with heap:=h' })
  (h:∀h' c,(∀b o,b≠a->s.heap.get? b=ba o->h'.get? b=ba o)->h'.get? a=ba (seqObj "list" (dN lt K7 vs).toArray c)->P (.done (.ret .none)) { s with heap:=h' }) :
  wpAny (model prog w) A (Ng.«list.sort» ⟨[.ref a],[]⟩) P E s:=by
 have ha:a < s.heap.objs.size:=Kl ho;obtain⟨e1,ho1⟩ : ∃e1,(s.heap.update a (LC λ_=>(#[]:KC JW))).get? a=ba (seqObj "list" #[] e1):=⟨_,PH ho λ_=>#[]⟩
 have keep:∀b o,b≠a->s.heap.get? b=ba o->(((s.heap.update a (LC λ_=>(#[]:KC JW))).push (seqObj "tuple" vs.toArray 0)).push (seqObj "list" #[] 0)).get? b=ba o:=λb o hb e=>
  JX _ (JX _ ((NE _ _ _ _ hb).trans e))
 have ho3:(((s.heap.update a (LC λ_=>(#[]:KC JW))).push (seqObj "tuple" vs.toArray 0)).push (seqObj "list" #[] 0)).get? a=ba (seqObj "list" #[] e1):=JX _ (JX _ ho1)
 have fin:∀(out:JT JW),out.length=vs.length->out=dN lt K7 vs->P (.done (.ret .none)) { s with heap:=(((s.heap.update a (LC λ_=>(#[]:KC JW))).push (seqObj "tuple" vs.toArray 0)).push (seqObj "list" #[] 0)).update a (LC λ_=>out.toArray) }:=λout hl e=>by
  obtain⟨c2,hc2⟩ : ∃c2,((((s.heap.update a (LC λ_=>(#[]:KC JW))).push (seqObj "tuple" vs.toArray 0)).push (seqObj "list" #[] 0)).update a (LC λ_=>out.toArray)).get? a=ba (seqObj "list" out.toArray c2):=⟨_,PH ho3 λ_=>out.toArray⟩
  exact h _ c2 (λb o hb q=>(NE _ _ _ _ hb).trans (keep b o hb q)) (e ▸ hc2)
 rw[list_sort_plain];refine JU (Q6 ho rfl ?_);refine JU (O5 ho rfl ?_ (by rw[Kg,K8]; omega) (LR _))
 refine JU (RB ho1 rfl ?_);refine JU (P1 ?_ (by show vs.length<=_; rw[K8]; omega))
 refine JU (O6 ?_ (LR _));refine Li ?_;show wpAny (model prog w) A _ P E { s with heap:=((s.heap.update a (LC λ_=>(#[]:KC JW))).push (seqObj "tuple" vs.toArray 0)).push (seqObj "list" #[] 0) }
 dsimp only
 by_cases h2:vs.length < 2
 ·rw[Ks (by rw[Kg]; exact h2),Ks (by rw[Kg]; exact h2)]
  refine JU (JZ (JU ?_));rw[StateT.run_pure];refine JZ ?_;dsimp only;refine JU (RB ho3 rfl ?_);have hs:((arrOf (SortSt.mk' general' (vs.toArray.zip vs.toArray) #[] 7 gV)).map (·.2))=vs.toArray:=by
   show(vs.toArray.zip vs.toArray).map (·.2)=vs.toArray
   apply Array.toList_inj.mp;rw[Pd,Array.toList_zip];exact List.map_snd_zip (J7 _)
  rw[hs];refine JU (O5 ho3 rfl ?_ (LR _) (by rw[Kg,K8]; omega))
  simp only[Q7,Ky,Lr];exact JZ (fin vs rfl (by unfold dN; rw[Ks h2]))
 ·have hn2:¬ vs.toArray.size < 2:=by rw[Kg]; exact h2
  have h2':2<=vs.length:=by omega
  rw[KF hn2,KF hn2];refine JU (L0 (hkind h2' _ keep (λ(k:Pc) (s':JY)=>k=κ/\s'={ s with heap:=((s.heap.update a (LC λ_=>(#[]:KC JW))).push (seqObj "tuple" vs.toArray 0)).push (seqObj "list" #[] 0) }) ⟨rfl,rfl⟩) ?_ λ_ _ x=>x.elim)
  rintro _ _ ⟨rfl,rfl⟩;refine JU (L0 (PySem.W.kat_run (Q:=λst' s'=>∃p:KC J3,p.size=vs.length/\arrOf st'=p.map (kas_item (vs.toArray.zip vs.toArray))/\failedOf st'=gV/\p=cf lt (kas_sort vs.length)/\s'={ s with heap:=((s.heap.update a (LC λ_=>(#[]:KC JW))).push (seqObj "tuple" vs.toArray 0)).push (seqObj "list" #[] 0) })
   (G:=λp s'=>p=cf lt (kas_sort vs.length)/\s'={ s with heap:=((s.heap.update a (LC λ_=>(#[]:KC JW))).push (seqObj "tuple" vs.toArray 0)).push (seqObj "list" #[] 0) }) rfl h2' h64 (λp' st' s' a1 a2 a3 a4=>⟨p',a1,a2,a3,a4⟩)
   (on (lt:=lt) (λi j hi hj C hC=>hlt h2' _ keep i j hi hj C hC) (lm (n:=vs.length) (by omega)) ⟨rfl,rfl⟩)) ?_ λ_ _ e=>e)
  rintro⟨⟨⟩,st'⟩ s' ⟨p,hp,har,hf,ep,rfl⟩;dsimp only;have hout:=PySem.W.kat_snds rfl har;have hsz:(p.toList.map λi=>vs.getD i K7).length=vs.length:=by rw[JV,Ki,hp]
  rw[hout];refine JU (RB ho3 rfl ?_);refine JU (O5 ho3 rfl ?_ (LR _) (by rw[Kg,hsz,K8]; omega))
  rw[hf];simp only[Q7,Ky,Lr];exact JZ (fin _ hsz (by unfold dN; rw[KF h2,ep]))
theorem wu {x:JW}{lt:J3->J3->KD}{κ:Pc}{Q:JW->JY->Prop}(h64:vs.length < 64)
  (hcol:∀Q':JT JW->JY->Prop,(∀h' tk,(∀b o,s.heap.get? b=ba o->h'.get? b=ba o)->s.heap.objs.size<=h'.objs.size->Q' vs { s with heap:=h',toks:=tk })->wpAny (model prog w) A.in1 (collect x) Q' E s)
  (hkind:2<=vs.length->∀h' tk,(∀b o,s.heap.get? b=ba o->h'.get? b=ba o)->∀Q:Pc->JY->Prop,Q κ { s with heap:=h',toks:=tk }->wpAny (model prog w) A.in1.in1 (keyKind' vs.toArray) Q (λ_ _=>Lw) { s with heap:=h',toks:=tk })
  (hlt:2<=vs.length->∀h' tk,(∀b o,s.heap.get? b=ba o->h'.get? b=ba o)->∀i j,i < vs.length->j < vs.length->∀Q:KD->JY->Prop,Q (lt i j) { s with heap:=h',toks:=tk }->
   wpAny (model prog w) A.in1.in1 (keyLt' κ (vs.getD i K7) (vs.getD j K7)) Q (λ_ _=>Lw) { s with heap:=h',toks:=tk })
  (h:∀D h' tk c,(∀b o,s.heap.get? b=ba o->h'.get? b=ba o)->s.heap.objs.size<=D->h'.get? D=ba (seqObj "list" (dN lt K7 vs).toArray c)->Q (.ref D) { s with heap:=h',toks:=tk }) :
  wpAny (model prog w) A (call (.builtin "sorted") [x]) Q E s:=by
 refine NA Tb SI SJ (SK _) ?_;unfold Ng.«sorted»;refine JU (m:=checkCount "sorted" 1 1 _) (JZ ?_);refine JU (hcol _ λh1 tk1 hk1 hle=>?_)
 refine JU (O6 ?_ (by rw[K8]; omega))
 have hoL:(h1.push (seqObj "list" vs.toArray 0)).get? h1.objs.size=ba (seqObj "list" vs.toArray 0):=Ke _ rfl;have kp:∀b o,s.heap.get? b=ba o->(h1.push (seqObj "list" vs.toArray 0)).get? b=ba o:=λb o e=>JX _ (hk1 b o e)
 have hne:∀b o,s.heap.get? b=ba o->b≠h1.objs.size:=λb o e=>Kt (Kx (Kl e) hle)
 show wpAny _ _ _ _ _ { s with heap:=h1.push (seqObj "list" vs.toArray 0),toks:=tk1 }
 refine JU (Li (Ll R4 ⟨_,hoL,rfl⟩ RH ?_ (R5 _)));refine oo (s:={ s with heap:=h1.push (seqObj "list" vs.toArray 0),toks:=tk1 }) (lt:=lt) (κ:=κ) hoL h64 (λh2 h' hk Q hq=>hkind h2 h' tk1 (λb o e=>hk b o (hne b o e) (kp b o e)) Q hq)
  (λh2 h' hk i j hi hj Q hq=>hlt h2 h' tk1 (λb o e=>hk b o (hne b o e) (kp b o e)) i j hi hj Q hq) λh' c hk hD=>?_
 exact⟨_,rfl,JZ ⟨_,rfl,h _ h' tk1 c (λb o e=>hk b o (hne b o e) (kp b o e)) hle hD⟩⟩
end
end Mi
namespace Mi
open PySem PySem.Spec PyProof.Rows L2
noncomputable def fX:T->LB
 | .int _=>"int"|.str _=>"str"|.tup _=>"tuple"
noncomputable def bP:T->J1 T
 | .tup (x::_)=>ba x
 | _=>gV
noncomputable def tB (ks:JT T):J1 J3:=
 if ks.all (λk=>fX k == "int")then ba 0
 else if ks.all (λk=>fX k == "str")then ba 1
 else if ks.all (λk=>(bP k).any λf=>fX f == "int")then ba 2
 else if ks.all (λk=>(bP k).any λf=>fX f == "str")then ba 3
 else if ks.all (λk=>(bP k).any λf=>fX f == "tuple")then ba 4
 else gV
noncomputable def uR:J3->Pc
 | 0=>oneType'|1=>oneType'|2=>tuples' true|3=>tuples' true|_=>tuples' false
noncomputable def eW (ks:JT T):KD:=ks.all λx=>ks.all λy=>(hZ x y).isSome
noncomputable def mV (ks:JT T)(i j:J3):KD:=(hZ (ks.getD i (.int 0)) (ks.getD j (.int 0))).getD false
theorem dW {ks:JT T}(h:eW ks=true){i j:J3}(hi:i < ks.length)(hj:j < ks.length):hZ (ks[i]) (ks[j])=ba (mV ks i j):=by
 unfold eW at h;rw[Kr]at h;have h1:=h ks[i] (K1 hi);rw[Kr]at h1;have h2:=h1 ks[j] (K1 hj);unfold mV;rw[show ks.getD i (.int 0)=ks[i] by simp[hi],show ks.getD j (.int 0)=ks[j] by simp[hj]]
 obtain⟨b,hb⟩:=Lb.mp h2;rw[hb]; rfl
noncomputable def JB (c:J3)(x y:T):Prop:=match c with|0=>fX x = "int"/\fX y = "int"|1=>fX x = "str"/\fX y = "str"|2=>∃f g,bP x=ba f/\bP y=ba g/\fX f = "int"/\fX g = "int"|3=>∃f g,bP x=ba f/\bP y=ba g/\fX f = "str"/\fX g = "str"|_=>∃f g,bP x=ba f/\bP y=ba g
section
variable{prog:KJ}{w:KT}{A:KP}{E:JW->JY->Prop}{s:JY}
theorem uS {h:K6}{k:T}{v:JW}(x:IsT h k v):Sr (model prog w) h (typeOf v) (.type (fX k)):=by
 cases x with
 | int=>exact .now
 | str=>exact .now
 | tup a c d t=>exact c ▸ ((TD a).andThen .now:Sr (model prog w) h (typeOf (.ref _)) _)
theorem IsTs.mem {h:K6}:∀ {ks:JT T} {vs:JT JW},IsTs h ks vs->∀v∈vs,∃k∈ks,IsT h k v
 | _,_,.cons a b,v,hv=>by
  rcases Kz.mp hv with rfl|hv
  ·exact⟨_,.head _,a⟩
  ·obtain⟨k,hk,q⟩:=IsTs.mem b v hv;exact⟨k,.tail _ hk,q⟩
theorem oq {h:K6}{p:T->KD}:∀ {ks:JT T} {vs:JT JW},IsTs h ks vs->ks.all (λk=>(bP k).any p)=true->∃fs,PySem.W.KatTups h vs fs/\fs.length=vs.length/\∀v∈fs,∃k,p k=true/\IsT h k v
 | _,_,.nil,_=>⟨[],.nil,rfl,λv hv=>nomatch hv⟩
 | k::ks,_,.cons a b,hp=>by
  rw[Le,J2]at hp;obtain⟨fs,h1,h2,h3⟩:=oq b hp.2;cases a with
  | int=>simp[bP]at hp
  | str=>simp[bP]at hp
  | @tup kk ad o items n a1 c1 d1 t1=>
   cases kk with
   | nil=>simp[bP]at hp
   | cons x xs=>
    have hx:p x=true:=by simpa [bP]using hp.1
    generalize hit:items.toList=its at t1;cases t1 with
    | @cons _ u _ us q1 q2=>
     refine⟨u::fs,.cons a1 c1 d1 (by rw[<- Ls,hit]; rfl) h1,by simp[h2],λv hv=>?_⟩
     rcases Kz.mp hv with rfl|hv
     ·exact⟨x,hx,q1⟩
     ·exact h3 v hv
theorem yA {ks:JT T}{vs:JT JW}{c:J3}{Q:Pc->JY->Prop}(h:IsTs s.heap ks vs)(h2:2<=vs.length)(hc:tB ks=ba c)(hq:Q (uR c) s):wpAny (model prog w) A (keyKind' vs.toArray) Q E s:=by
 have one:∀ty:LB,(LZ ty != LZ "tuple")=true->ks.all (λk=>fX k==ty)=true->Q oneType' s->wpAny (model prog w) A (keyKind' vs.toArray) Q E s:=λty hty hall hq=>
  PySem.W.kas_kind (T:=.type ty) h2 (λv hv=>by
   obtain⟨k,hk,x⟩:=h.mem v hv;have:=eq_of_beq (Kr.mp hall k hk);exact this ▸ uS x) hty (by simp) hq
 have tup:∀ty:LB,ks.all (λk=>(bP k).any λf=>fX f==ty)=true->Q (tuples' (LZ ty != LZ "tuple")) s->wpAny (model prog w) A (keyKind' vs.toArray) Q E s:=λty hall hq=>by
  obtain⟨fs,h1,h3,h4⟩:=oq h hall;exact PySem.W.kat_kind (T:=.type ty) h1 (by omega) (λv hv=>by
   obtain⟨k,hk,x⟩:=h4 v hv;have:=eq_of_beq hk;exact this ▸ uS x) (by simp) hq
 unfold tB at hc;split at hc
 ·cases hc; exact one "int" (by decide) ‹_› hq
 ·split at hc
  ·cases hc; exact one "str" (by decide) ‹_› hq
  ·split at hc
   ·cases hc; exact tup "int" ‹_› hq
   ·split at hc
    ·cases hc; exact tup "str" ‹_› hq
    ·split at hc
     ·cases hc; exact tup "tuple" ‹_› hq
     ·cases hc
theorem rA {b:KD}{Q:KD->JY->Prop}{d:J3}(hu:A.units+d < cLine):∀(xs ys:JT T) (us vs:JT JW) (i:J3) (k:KD),T.depths xs<=d->T.depths ys<=d->IsTs s.heap xs us->IsTs s.heap ys vs->dt xs ys=ba k->
  (b=true->i=0->∀x y,xs.head?=ba x->ys.head?=ba y->(fX x = "int"/\fX y = "int")\/(fX x = "str"/\fX y = "str"))->Q k s->PySem.W.KatLex prog w A b (decide (us.length < vs.length)) Q (us.zip vs) i s
 | [],[],_,_,i,k,_,_,h1,h2,e,hb,hq=>by cases h1; cases h2; cases e; exact PJ (by simpa using hq)
 | [],y::ys,_,_,i,k,_,_,h1,h2,e,hb,hq=>by cases h1; cases h2; cases e; exact PJ (by simpa using hq)
 | x::xs,[],_,_,i,k,_,_,h1,h2,e,hb,hq=>by cases h1; cases h2; cases e; exact PJ (by simpa using hq)
 | x::xs,y::ys,_,_,i,k,d1,d2,h1,h2,e,hb,hq=>by
  simp only[T.depths]at d1 d2;cases h1 with
  | @cons _ u _ us p1 q1=>
   cases h2 with
   | @cons _ v _ vs p2 q2=>
    have he:=ym d x y _ _ A s (by omega) p1 p2 hu (by omega)
    rw[M8];refine PySem.W.kat_cons (he prog w _ _ ?_);simp only[dt]at e;have hlen:decide ((u::us).length < (v::vs).length)=decide (us.length < vs.length):=by simp
    rw[hlen]
    by_cases hxy:x=y
    ·rw[Ks hxy]at e;rw[Ly hxy];exact PySem.W.kat_yes (rA hu xs ys us vs (i+1) k (by omega) (by omega) q1 q2 e (λ_ z=>absurd z (Rm _)) hq)
    ·rw[KF hxy]at e;rw[KN hxy];refine PySem.W.kat_no ?_
     by_cases hb0:b=true/\i=0
     ·obtain⟨rfl,rfl⟩:=hb0;rcases hb rfl rfl x y rfl rfl with⟨hx,hy⟩|⟨hx,hy⟩
      ·cases p1 with
       | int=>cases p2 with
        | int=>cases e; exact oneLt_int hq
        | _=>exact absurd hy (by simp[fX])
       | _=>exact absurd hx (by simp[fX])
      ·cases p1 with
       | str=>cases p2 with
        | str=>cases e; exact oneLt_str hq
        | _=>exact absurd hy (by simp[fX])
       | _=>exact absurd hx (by simp[fX])
     ·have hf:(b&&i==0)=false:=by
       cases b with
       | false=>rfl
       | true=>
        have:i≠0:=λz=>hb0 ⟨rfl,z⟩
        simpa using this
      rw[hf];exact PySem.W.kat_one _ _ ((Gv d x y _ _ A s k (by omega) (by omega) p1 p2 hu e) prog w _ _ hq)
theorem uT {c d:J3}{x y:T}{u v:JW}{k:KD}{Q:KD->JY->Prop}(hu:A.units+d < cLine)(d1:x.depth<=d)(d2:y.depth<=d)(h1:IsT s.heap x u)(h2:IsT s.heap y v)(e:hZ x y=ba k)
  (hc:JB c x y)
  (hq:Q k s):wpAny (model prog w) A (keyLt' (uR c) u v) Q E s:=by
 have tup:∀b:KD,(∃f g,bP x=ba f/\bP y=ba g/\(b=true->(fX f = "int"/\fX g = "int")\/(fX f = "str"/\fX g = "str")))->wpAny (model prog w) A (keyLt' (tuples' b) u v) Q E s:=by
  rintro b ⟨f,g,hf,hg,hb⟩;cases h1 with
  | int=>cases hf
  | str=>cases hf
  | @tup xs a o items n a1 c1 e1 t1=>
   cases h2 with
   | int=>cases hg
   | str=>cases hg
   | @tup ys a' o' items' n' a2 c2 e2 t2=>
    simp only[T.depth]at d1 d2;refine PySem.W.kat_lt a1 e1 a2 e2 ?_;have:=rA (prog:=prog) (w:=w) (b:=b) (Q:=Q) hu xs ys items.toList items'.toList 0 k (by omega) (by omega) t1 t2 e (λhb' _ p q hp hq'=>by
     cases xs with
     | nil=>cases hp
     | cons x0 xs=>cases ys with
      | nil=>cases hq'
      | cons y0 ys=>cases hp; cases hq'; cases hf; cases hg; exact hb hb') hq
    simpa using this
 match c,hc with
 | 0,⟨hx,hy⟩=>
  cases h1 with
  | int=>cases h2 with
   | int=>cases e; exact PySem.W.kat_lt_int hq
   | _=>exact absurd hy (by simp[fX])
  | _=>exact absurd hx (by simp[fX])
 | 1,⟨hx,hy⟩=>
  cases h1 with
  | str=>cases h2 with
   | str=>cases e; exact PySem.W.kas_lt_str hq
   | _=>exact absurd hy (by simp[fX])
  | _=>exact absurd hx (by simp[fX])
 | 2,⟨f,g,h1',h2',h3,h4⟩=>exact tup true ⟨f,g,h1',h2',λ_=>.inl ⟨h3,h4⟩⟩
 | 3,⟨f,g,h1',h2',h3,h4⟩=>exact tup true ⟨f,g,h1',h2',λ_=>.inr ⟨h3,h4⟩⟩
 | n+4,⟨f,g,h1',h2'⟩=>exact tup false ⟨f,g,h1',h2',λz=>nomatch z⟩
end
theorem uU {ks:JT T}{c:J3}(h:tB ks=ba c){x y:T}(hx:x∈ks)(hy:y∈ks) :
  JB c x y:=by
 have one:∀ {ty:LB},ks.all (λk=>fX k==ty)=true->fX x=ty/\fX y=ty:=λha=>⟨eq_of_beq (Kr.mp ha x hx),eq_of_beq (Kr.mp ha y hy)⟩
 have fst:∀ {ty:LB},ks.all (λk=>(bP k).any λf=>fX f==ty)=true->∃f g,bP x=ba f/\bP y=ba g/\fX f=ty/\fX g=ty:=λ{ty} ha=>by
  have h1:=Kr.mp ha x hx;have h2:=Kr.mp ha y hy;cases e1:bP x with
  | none=>rw[e1]at h1; cases h1
  | some f=>
   cases e2:bP y with
   | none=>rw[e2]at h2; cases h2
   | some g=>
    rw[e1]at h1; rw[e2]at h2
    exact⟨f,g,rfl,rfl,eq_of_beq (by simpa using h1),eq_of_beq (by simpa using h2)⟩
 unfold tB at h;split at h
 ·cases h; exact one ‹_›
 ·split at h
  ·cases h; exact one ‹_›
  ·split at h
   ·cases h; exact fst ‹_›
   ·split at h
    ·cases h; exact fst ‹_›
    ·split at h
     ·cases h;obtain⟨f,g,h1,h2,_⟩:=fst ‹_›;exact⟨f,g,h1,h2⟩
     ·cases h
noncomputable def eE (S:aa):W->J1 (JT W)
 | .tup xs=>ba xs
 | .ref i=>match gf S i with
  | some xs=>ba xs
  | none=>(kB S i).map λkvs=>kvs.map λp=>p.1.w
 | _=>gV
noncomputable def ci:J3:=8
noncomputable def iy (ks:JT T):KD:=decide (ks.length < 64)&&decide (T.depths ks<=ci)&&(decide (ks.length < 2)||((tB ks).isSome&&eW ks))
noncomputable def fO (xs:JT W)(S:aa):J1 (W×aa):=match xs with
 | [x]=>match eE S x with
  | some ws=>match W.ts ws with
   | some ks=>if iy ks then ba (.ref S.length,S++[.lst (dN (mV ks) .non ws)])else gV
   | none=>gV
  | none=>gV
 | _=>gV
noncomputable def ou (xs:JT W)(S:aa):J1 (W×aa):=match xs with
 | [.ref i]=>match kB S i with
  | some kvs=>ba (.ref S.length,S++[.lst (kvs.map λp=>p.1.w)])
  | none=>iW [.ref i] S
 | xs=>iW xs S
noncomputable def tD (xs:JT W)(S:aa):J1 (W×aa):=match xs with
 | [.ref i]=>match kB S i with
  | some kvs=>ba (.int kvs.length,S)
  | none=>sZ [.ref i] S
 | xs=>sZ xs S
noncomputable def iA (ks:JT T):J3:=argBest (mV ks) (ks.length - 1)
noncomputable def ww (xs:JT W)(S:aa):J1 (W×aa):=match xs with
 | [.ref i]=>match gf S i with
  | some ws=>match W.ts ws with
   | some ks=>if T.depths ks<=ci/\eW ks=true then(ws[iA ks]?).map λw=>(w,S)else gV
   | none=>gV
  | none=>gV
 | _=>gV
noncomputable def iB:JT W->J1 (JT KD)
 | []=>ba []
 | .bl b::ws=>(iB ws).map (b :: ·)
 | _::_=>gV
noncomputable def El (xs:JT W)(S:aa):J1 (W×aa):=match xs with
 | [.ref i]=>match gf S i with
  | some ws=>(iB ws).map λbs=>(.bl (bs.all id),S)
  | none=>gV
 | _=>gV
section
variable{X:Cx}{pins:JT (J4×LJ)}{σ:L2.St}{H:Hp}{s:JY}{A:JT J4}{S:aa}
theorem RelL.pick {K:Kb}{ws:JT W}{vs:JT V}(r:RelL K A H ws vs)(d:W)(d':V):∀(is:JT J3),(∀i∈is,i < ws.length)->RelL K A H (is.map λi=>ws.getD i d) (is.map λi=>vs.getD i d')
 | [],_=>.nil
 | i::is,h=>by
  have hi:=h i (.head _);obtain⟨v,h1,h2⟩:=r.get (J5 hi);refine .cons ?_ (RelL.pick r d d' is λj hj=>h j (.tail _ hj))
  have e1:ws.getD i d=ws[i]:=by simp[hi]
  have e2:vs.getD i d'=v:=by simp[h1]
  show Rel K A H (ws.getD i d) (vs.getD i d');rw[e1,e2]; exact h2
theorem Vals.pick {vs:JT V}{us:JT JW}(r:Vals vs us)(d:V)(d':JW):∀(is:JT J3),(∀i∈is,i < vs.length)->Vals (is.map λi=>vs.getD i d) (is.map λi=>us.getD i d')
 | [],_=>.nil
 | i::is,h=>by
  have hi:=h i (.head _);obtain⟨v,h1,h2⟩:=L2.Vals.get r (J5 hi);refine .cons ?_ (Vals.pick r d d' is λj hj=>h j (.tail _ hj))
  have e1:vs.getD i d=vs[i]:=by simp[hi]
  have e2:us.getD i d'=v:=by simp[h1]
  show L2.RelV (vs.getD i d) (us.getD i d');rw[e1,e2]; exact h2
theorem ln {n:J3}{lt:J3->J3->KD}(hn:0 < n):∀i∈(cf lt (M5 n)).toList,i < n:=λi hi=>KU.mp ((pO (lt:=lt) (lm hn)).mem_iff.mp hi)
theorem yB {K:Kb}{lt:J3->J3->KD}{ws:JT W}{vs:JT V}(r:RelL K A H ws vs):RelL K A H (dN lt .non ws) (dN lt .non vs):=by
 unfold dN;rw[r.length];split
 ·exact r
 ·exact r.pick _ _ _ λi hi=>by rw[r.length]; exact ln (by omega) i hi
theorem wx {lt:J3->J3->KD}{vs:JT V}{us:JT JW}(r:Vals vs us):Vals (dN lt .non vs) (dN lt .none us):=by
 unfold dN;rw[L2.Vals.length r];split
 ·exact r
 ·exact Vals.pick r _ _ _ λi hi=>by rw[L2.Vals.length r]; exact ln (by omega) i hi
theorem rB {prog:KJ}{w:KT}{B:KP}{E:JW->JY->Prop}{l:J4}{vs:JT JW}{Q:JT JW->JY->Prop}(hl:QJ s.heap l vs.toArray)(hsz:vs.length<=sizeLine)
  (h:∀h' tk,(∀b o,s.heap.get? b=ba o->h'.get? b=ba o)->s.heap.objs.size<=h'.objs.size->Q vs { s with heap:=h',toks:=tk }):wpAny (model prog w) B (collect (.ref l)) Q E s:=by
 obtain⟨o,ho,hc,n,hd⟩:=id hl;unfold collect;refine JU (NY (Ln entry_proto_collect' ?_));show wpAny _ _ (do again (.builtin "list.__iadd__" ⟨[<- newList [],.ref l],[]⟩)) _ _ s
 refine JU (O6 (JZ ⟨QA _ (by decide +kernel),Ln entry_list_iadd' ?_⟩))
 show wpAny _ _ (LI (.ref s.heap.objs.size) (.ref l) (.ref s.heap.objs.size)) _ _ { s with heap:=s.heap.push (seqObj "list" #[] 0) }
 unfold LI;have ho':(s.heap.push (seqObj "list" #[] 0)).get? l=ba o:=JX _ ho;refine JU (M7 (T:="tuple") ⟨o,ho',hc⟩ ?_);have ht:(LZ "tuple" == LZ "tuple")=true:=by rfl
 rw[Ks (by rw[ht]; simp)]
 refine JU (Q6 ho' hd ?_);refine JU (Q6 (xs:=#[]) (n:=0) (Ke _ rfl) rfl ?_);rw[KF (by simp)]
 refine JU (O5 (xs:=#[]) (n:=0) (Ke _ rfl) rfl ?_ (LR _) (by show(#[]++vs.toArray).size<=sizeLine+1; simp only[Array.size_append,Kg,Mg]; omega))
 refine JZ ?_;show wpAny (model prog w) B (do
   let o <- load s.heap.objs.size
   match o.data with
   | .seq xs _=>pure xs.toList
   | _=>unsupported "internal:collect") Q E { s with heap:=(s.heap.push (seqObj "list" #[] 0)).update s.heap.objs.size (LC (· ++ vs.toArray)) }
 refine JU (Pn (PH (Ke _ rfl) _) ?_);show wpAny _ _ (pure ((#[]:KC JW)++vs.toArray).toList) Q E _;rw[show((#[]:KC JW)++vs.toArray).toList=vs by simp]
 refine JZ (h _ s.toks (λb o' e=>(NE _ _ _ _ (Kt (Kl e))).trans (JX _ e)) ?_)
 rw[Rn,size_push'];exact MO _
theorem DicAt.raw {wd:KT}{a:J4}{xs:JT (T×J4×JW)}{h:K6}(d:DicAt wd a xs h):∃es ep,RawD a es ep h/\es.toList=xs.map (xW wd):=
 let ⟨_,_,_,o,es,ep,h1,h2,h3,h4⟩:=d; ⟨es,ep,⟨o,h1,h2,h3⟩,h4⟩
theorem KRel.keysL {kvs:JT (T×W)}{xs:JT (T×J4×JW)}(r:KRel X.K A H kvs xs):RelL X.K A H (kvs.map λp=>p.1.w) (xs.map λq=>V.ref q.2.1):=by
 unfold KRel at r
 induction r with
 | nil=>exact .nil
 | cons h t ih=>exact .cons h.2.2.2.1 ih
theorem ow (xs:JT (T×J4×JW)):Vals (xs.map λq=>V.ref q.2.1) (xs.map λq=>KO q.2.1):=by
 induction xs with
 | nil=>exact .nil
 | cons x xs ih=>exact .cons rfl ih
theorem lO {wd:KT}{es:KC Mr}{xs:JT (T×J4×JW)}(he:es.toList=xs.map (xW wd)){acc:KC JW}(ha:Pu (λi v=>∃e,es[i]?=ba e/\e.key=v) acc es.size):acc.toList=xs.map λq=>KO q.2.1:=by
 have hl:es.size=xs.length:=by rw[<- Ki,he,JV]
 apply Nx
 ·rw[Ki,ha.1,JV,hl]
 ·intro i h1 h2;rw[Ki]at h1;obtain⟨e,q1,q2⟩:=ha.2 i acc[i] (by simp[h1])
  rw[<- Ls,he,J6]at q1;rw[JV]at h2;rw[J5 h2]at q1;simp only[K4,KL]at q1;subst q1;rw[Ro,Oe];exact q2.symm
theorem wy {x:W}{a:V}{u:JW}{ws:JT W}(hh:X.A.handled=gV)(I:Inv X pins σ H s)(so:StoreOk X.w X.K A H S)(rx:Rel X.K A H x a)(ru:RelV a u)(e:eE S x=ba ws):∃vs us,RelL X.K A H ws vs/\Vals vs us/\us.length<=sizeLine/\
  ∀(B:KP) (hB:B.handled=gV) (E:JW->JY->Prop) (Q':JT JW->JY->Prop),(∀h' tk,(∀b o,s.heap.get? b=ba o->h'.get? b=ba o)->s.heap.objs.size<=h'.objs.size->Q' us { s with heap:=h',toks:=tk })->wpAny (model X.prog X.w) B (collect u) Q' E s:=by
 cases rx with
 | tup h1 r1=>
  cases e;obtain⟨its,rv,ht,hz⟩:=I.tuple h1;obtain rfl:u=KO _:=ru;exact⟨_,its,r1,rv,by rw[<- L2.Vals.length rv]; exact hz,λB hB E Q' h=>rB ht (by rw[<- L2.Vals.length rv]; exact hz) h⟩
 | ref ea=>
  simp only[eE]at e;split at e
  ·rename_i xs hx;cases e;obtain⟨vs,h1,r1⟩:=bN so hx ea;obtain⟨its,rv,p,hz⟩:=I.list h1;obtain rfl:u=KO _:=ru;refine⟨_,its,r1,rv,by rw[<- L2.Vals.length rv]; exact hz,λB hB E Q' h=>collect_list p.isList (h _ s.toks (λb o' e=>(NE _ _ _ _ (Kt (Kl e))).trans (JX _ e)) ?_) (by rw[<- L2.Vals.length rv]; exact hz)⟩
   rw[Rn,size_push'];exact MO _
  ·rw[J0]at e;obtain⟨kvs,hk,rfl⟩:=e;obtain⟨xs,rd,kr⟩:=gm so hk ea;have d:=cO I rd;obtain⟨es,ep,raw,he⟩:=d.raw;obtain rfl:u=KO _:=ru;have hl:es.size=xs.length:=by rw[<- Ki,he,JV]
   refine⟨_,_,kr.keysL,ow xs,by rw[JV]; exact d.1,λB hB E Q' h=>rn (uP d.2.1) hB raw (by rw[hl]; exact d.1) λh' tk acc hk' hle ha=>?_⟩
   rw[lO he ha];exact h h' tk hk' hle
 | _=>cases e
theorem ox {h':K6}{tk c:J3}{D:J4}{ws:JT W}{vs:JT V}{us:JT JW}(I:Inv X pins σ H s)(so:StoreOk X.w X.K A H S)(r:RelL X.K A H ws vs)(rv:Vals vs us)(hz:us.length<=sizeLine)(hk:∀b o,s.heap.get? b=ba o->h'.get? b=ba o)(hD:s.heap.objs.size<=D)
  (ho:h'.get? D=ba { cls:=.type "list",data:=.seq us.toArray c }):d0 X pins σ A H (S++[.lst ws]) (.ref S.length) (.ref D) { s with heap:=h',toks:=tk }:=by
 have hn:H D=gV:=I.hok.fresh hD;refine⟨.ref D,_,A++[D],I.laid (a:=D) (o:=.lst vs) (t':=tk) hk hD ⟨by rw[L2.Vals.length rv]; exact hz,us,c,rv,ho⟩,rfl,da hn,so.push hn r,.ref ?_⟩
 rw[<- so.len]; simp
theorem pP (hh:X.A.handled=gV)(hu:X.A.units+12 < cLine):LCall X (.builtin "sorted") fO:=by
 intro pins s σ H A S xs vs us w S' I so rl rv e;cases rl with
 | nil=>cases e
 | cons r t=>
  cases t with
  | cons _ _=>cases e
  | nil=>
   cases rv with
   | cons ru rv2=>
    cases rv2;simp only[fO]at e;split at e
    ·rename_i ws hw;split at e
     ·rename_i ks hk;split at e
      ·rename_i hok;cases e;obtain⟨vs',us',r1,rv1,hz,hcol⟩:=wy hh I so r ru hw;simp only[iy,J2,Kq]at hok;obtain⟨⟨h64,hd⟩,hok⟩:=hok;have hws:T.ws ks=ws:=W.ts_w hk;have hT:IsTs s.heap ks us':=fN I ks (hws ▸ r1) rv1;have hl:us'.length=ks.length:=hT.length.symm;have sk:2<=us'.length->(tB ks).isSome=true/\eW ks=true:=λh2=>by
        rcases LX _ _ ▸ hok with h|h
        ·simp only[Kq]at h; omega
        ·simpa using h
       refine wu (vs:=us') (lt:=mV ks) (κ:=uR ((tB ks).getD 0)) (by omega) (λQ' hQ'=>hcol X.A.in1 hh _ Q' hQ') (λh2 h' tk hk' Q hq=>?_) (λh2 h' tk hk' i j hi hj Q hq=>?_) λD h' tk c hk' hD ho=>?_
       ·obtain⟨q1,q2⟩:=sk h2;obtain⟨c,hc⟩:=Lb.mp q1;rw[hc]at hq;exact yA (s:={ s with heap:=h',toks:=tk }) (hT.kept λb o _ e=>hk' b o e) h2 hc hq
       ·obtain⟨q1,q2⟩:=sk h2;obtain⟨c,hc⟩:=Lb.mp q1;rw[hc];have hi':i < ks.length:=by omega
        have hj':j < ks.length:=by omega
        have g:=(hT.kept (h':=h') λb o _ e=>hk' b o e)
        have e1:us'.getD i K7=us'[i]:=by simp[hi]
        have e2:us'.getD j K7=us'[j]:=by simp[hj]
        rw[e1,e2];have b1:=cK (ks:=ks) i hi';have b2:=cK (ks:=ks) j hj';exact uT (s:={ s with heap:=h',toks:=tk }) (d:=ci) (c:=c) (by rw[bh,bh]; unfold ci; omega) (Kc ‹_› ‹_›) (Kc ‹_› ‹_›) (g.get i hi' hi) (g.get j hj' hj) (dW q2 hi' hj') (uU hc (K1 hi') (K1 hj')) hq
       ·exact ox I so (yB r1) (wx rv1) (by rw[rz]; exact hz) hk' hD ho
      ·cases e
     ·cases e
    ·cases e
theorem rC (hh:X.A.handled=gV):LCall X (.type "list") ou:=by
 intro pins s σ H A S xs vs us w S' I so rl rv e
 by_cases hd:∃i kvs,xs=[.ref i]/\kB S i=ba kvs
 ·obtain⟨i,kvs,rfl,hk⟩:=hd;simp only[ou,hk]at e;cases e;cases rl with
  | cons r t=>
   cases t;cases rv with
   | cons ru rv2=>
    cases rv2;cases r with
    | ref ea=>
     obtain⟨xs,rd,kr⟩:=gm so hk ea;have d:=cO I rd;obtain⟨es,ep,raw,he⟩:=d.raw;obtain rfl:_=KO _:=ru;have hl:es.size=xs.length:=by rw[<- Ki,he,JV]
     refine PySem.W.kdl_call (uP d.2.1) hh raw (by rw[hl]; exact d.1) λh' tk acc' c' hk' hD ha=>?_
     have ea':=lO he ha;refine ox (us:=acc'.toList) I so kr.keysL (ea' ▸ ow xs) (by rw[ea',JV]; exact d.1) hk' (J7 _) (c:=c') ?_
     simpa using hD
 ·have:ou xs S=iW xs S:=by
   unfold ou;split
   ·rename_i i;split
    ·rename_i kvs hk;exact absurd ⟨i,kvs,rfl,hk⟩ hd
    ·rfl
   ·rfl
  rw[this]at e;exact iw pins s σ H A S xs vs us w S' I so rl rv e
end
open PySem.W (KasT kas_sort kas_asc kas_desc kas_tail3 kas_descPart kas_count kas_place kas_bin kas_rev)
theorem ev {α β:Type}{lt:J3->J3->KD}{f:α->KasT β}:∀t:KasT α,cf lt (t.bind f)=cf lt (f (cf lt t))
 | .ret _=>rfl
 | .ask i j k=>ev (k (lt i j))
structure Lin (n:J3)(lt:J3->J3->KD):Prop where
 tr:∀i j k,i < n->j < n->k < n->lt i j=true->lt j k=true->lt i k=true
 as:∀i j,i < n->j < n->lt i j=true->lt j i=false
 to:∀i j,i < n->j < n->i≠j->lt j i=false->lt i j=true
noncomputable def gt (p:KC J3)(i:J3):J3:=p.getD i 0
theorem jL {p:KC J3}{i:J3}:gt p i=(p[i]?).getD 0:=by unfold gt; simp[Array.getD_eq_getD_getElem?]
theorem Pm.inj {n:J3}{p:KC J3}(h:Pm n p){i j:J3}(hi:i < n)(hj:j < n)(hne:i≠j):gt p i≠gt p j:=by
 have nd:p.toList.Nodup:=h.nodup_iff.mpr N8;have hi':i < p.toList.length:=by rw[Ki,h.size]; exact hi
 have hj':j < p.toList.length:=by rw[Ki,h.size]; exact hj
 intro e;have e1:gt p i=p.toList[i]:=by unfold gt; simp[NM,h.size,hi]
 have e2:gt p j=p.toList[j]:=by unfold gt; simp[NM,h.size,hj]
 rw[e1,e2]at e;have pw:=NB.mp nd;rcases QC hne with h|h
 ·exact pw i j hi' hj' h e
 ·exact pw j i hj' hi' h e.symm
noncomputable def Up (lt:J3->J3->KD)(p:KC J3)(m:J3):Prop:=∀i j,i < j->j < m->lt (gt p i) (gt p j)=true
section
variable{n:J3}{lt:J3->J3->KD}(L:Lin n lt)
include L
theorem Up.more {p:KC J3}{a:J3}(hp:Pm n p)(ha:1<=a)(han:a < n)(h:Up lt p a)(hl:lt (gt p (a - 1)) (gt p a)=true):Up lt p (a+1):=by
 have hn:0 < n:=by omega
 intro i j hij hj
 by_cases e:j=a
 ·subst e
  by_cases e2:i=j - 1
  ·subst e2; exact hl
  ·exact L.tr _ _ _ (hp.lt hn _) (hp.lt hn _) (hp.lt hn _) (h i (j - 1) (by omega) (by omega)) hl
 ·exact h i j hij (by omega)
theorem tF {p:KC J3}(hp:Pm n p):∀(f a:J3),1<=a->a+f=n->Up lt p a->Up lt p (cf lt (kas_asc p f a))/\a<=cf lt (kas_asc p f a)/\cf lt (kas_asc p f a)<=n/\(cf lt (kas_asc p f a) < n->lt (gt p (cf lt (kas_asc p f a))) (gt p (cf lt (kas_asc p f a) - 1))=true)
 | 0,a,h1,h2,h=>⟨h,J7 _,by show a<=n; omega,λz=>by have:a < n:=z; omega⟩
 | f+1,a,h1,h2,h=>by
  have hn:0 < n:=by omega
  have e:cf lt (kas_asc p (f+1) a)=cf lt (if lt (gt p a) (gt p (a - 1))=true then .ret a else kas_asc p f (a+1)):=rfl
  rw[e];cases c:lt (gt p a) (gt p (a - 1))with
  | true=>exact⟨h,J7 _,by show a<=n; omega,λ_=>c⟩
  | false=>
   have l:lt (gt p (a - 1)) (gt p a)=true:=L.to _ _ (hp.lt hn (a - 1)) (hp.lt hn a) (hp.inj (by omega) (by omega) (by omega)) c
   obtain⟨q1,q2,q3,q4⟩:=tF hp f (a+1) (by omega) (by omega) (Up.more L hp h1 (by omega) h l)
   exact⟨q1,by show a<=cf lt (kas_asc p f (a+1)); omega,q3,q4⟩
noncomputable def Dn (lt:J3->J3->KD)(p:KC J3)(m:J3):Prop:=∀i j,i < j->j < m->lt (gt p j) (gt p i)=true
theorem uV {p:KC J3}(hp:Pm n p):∀(f a:J3),1<=a->a+f=n->Dn lt p a->∃m,cf lt (kas_desc f p a 0)=(p,m,0)/\a<=m/\m<=n/\Dn lt p m
 | 0,a,h1,h2,h=>⟨a,rfl,J7 _,by omega,h⟩
 | f+1,a,h1,h2,h=>by
  have hn:0 < n:=by omega
  have e:cf lt (kas_desc (f+1) p a 0)=cf lt (if lt (gt p a) (gt p (a - 1))=true then(if 0 > 0 then kas_desc f (kas_rev p (a - (0+1)) a) (a+1) 0 else kas_desc f p (a+1) 0)else .ask (gt p (a - 1)) (gt p a) λd=>if d=true then .ret (p,a,0)else kas_desc f p (a+1) (0+1)):=rfl
  rw[e];cases c:lt (gt p a) (gt p (a - 1))with
  | true=>
   obtain⟨m,q1,q2,q3,q4⟩:=uV hp f (a+1) (by omega) (by omega) λi j hij hj=>by
    by_cases e:j=a
    ·subst e
     by_cases e2:i=j - 1
     ·subst e2; exact c
     ·exact L.tr _ _ _ (hp.lt hn _) (hp.lt hn _) (hp.lt hn _) c (h i (j - 1) (by omega) (by omega))
    ·exact h i j hij (by omega)
   exact⟨m,q1,by omega,q3,q4⟩
  | false=>
   have l:lt (gt p (a - 1)) (gt p a)=true:=L.to _ _ (hp.lt hn (a - 1)) (hp.lt hn a) (hp.inj (by omega) (by omega) (by omega)) c
   refine⟨a,?_,J7 _,by omega,h⟩
   show cf lt (if lt (gt p (a - 1)) (gt p a)=true then .ret (p,a,0)else kas_desc f p (a+1) (0+1))=_
   rw[l]; rfl
omit L in
theorem Em {p:KC J3}{m:J3}(hp:Pm n p)(hm:m<=n)(h:Dn lt p m):Up lt (kas_rev p 0 m) m:=by
 intro i j hij hj;have g:∀k,k < m->gt (kas_rev p 0 m) k=gt p (m - 1 - k):=λk hk=>by
  rw[jL,jL];show((mirror p 0 m ((m - 0) / 2))[k]?).getD 0=_;rw[getElem?_mirror_all (by rw[hp.size]; exact hm),Ks ⟨LR _,hk⟩,Nat.zero_add]
 rw[g i (by omega),g j hj]
 exact h _ _ (by omega) (by omega)
theorem yC {p:KC J3}(hp:Pm n p)(hn:1<=n):∃m p',cf lt (kas_count n p)=(m,p')/\Pm n p'/\1<=m/\m<=n/\Up lt p' m:=by
 unfold kas_count;rw[ev];obtain⟨q1,q2,q3,q4⟩:=tF L hp (n - 1) 1 (J7 _) (by omega) λi j hij hj=>by omega
 generalize cf lt (kas_asc p (n - 1) 1)=m at q1 q2 q3 q4
 by_cases hm:m=n
 ·subst hm;rw[Ks (Lc _)];exact⟨m,p,rfl,hp,q2,J7 _,q1⟩
 ·rw[KF (by simp[hm])]
  by_cases h1:m > 1
  ·rw[Ks h1];have l:=q1 0 (m - 1) (by omega) (by omega)
   refine⟨m,p,?_,hp,q2,q3,q1⟩;show cf lt (if lt (gt p 0) (gt p (m - 1))=true then .ret (m,p)else kas_descPart m n (kas_rev p 0 m))=_
   rw[l]; rfl
  ·rw[KF h1];obtain rfl:m=1:=by omega
   unfold kas_descPart;rw[ev];have l:=q4 (by omega)
   obtain⟨m,e,r1,r2,r3⟩:=uV L hp (n - (1+1)) (1+1) (by omega) (by omega) λi j hij hj=>by
    obtain rfl:j=1:=by omega
    obtain rfl:i=0:=by omega
    exact l
   rw[e];dsimp only;rw[KF (by omega)]
   unfold kas_tail3;rw[ev];have hp':Pm n (kas_rev p 0 m):=hp.rev 0 m;obtain⟨z1,z2,z3,z4⟩:=tF L hp' (n - m) m (by omega) (by omega) (Em hp r2 r3)
   exact⟨_,_,rfl,hp',by omega,z3,z1⟩
theorem lP {p:KC J3}{k:J3}(hp:Pm n p)(hk:k < n)(hu:Up lt p k):∀(f l r:J3),l<=r->r<=k->r - l<=f->(∀i,i < l->lt (gt p i) (gt p k)=true)->(∀i,r<=i->i < k->lt (gt p k) (gt p i)=true)->
  ∃m,cf lt (kas_place p k f l r)=m/\m<=k/\(∀i,i < m->lt (gt p i) (gt p k)=true)/\(∀i,m<=i->i < k->lt (gt p k) (gt p i)=true)
 | 0,l,r,h1,h2,h3,ha,hb=>⟨l,rfl,by omega,ha,λi hi=>hb i (by omega)⟩
 | f+1,l,r,h1,h2,h3,ha,hb=>by
  have hn:0 < n:=by omega
  unfold kas_place
  by_cases hge:l>=r
  ·rw[Ks hge];exact⟨l,rfl,by omega,ha,λi hi=>hb i (by omega)⟩
  ·rw[KF hge];show ∃m,cf lt (if lt (gt p k) (gt p ((l+r) / 2))=true then kas_place p k f l ((l+r) / 2)else kas_place p k f ((l+r) / 2+1) r)=m/\_
   cases c:lt (gt p k) (gt p ((l+r) / 2))with
   | true=>
    rw[Ks rfl];refine lP hp hk hu f l ((l+r) / 2) (by omega) (by omega) (by omega) ha λi hi hik=>?_
    by_cases e:i=(l+r) / 2
    ·rw[e]; exact c
    ·exact L.tr _ _ _ (hp.lt hn _) (hp.lt hn _) (hp.lt hn _) c (hu _ _ (by omega) hik)
   | false=>
    rw[KF Ku];have l':=L.to _ _ (hp.lt hn ((l+r) / 2)) (hp.lt hn k) (hp.inj (by omega) (by omega) (by omega)) c
    refine lP hp hk hu f ((l+r) / 2+1) r (by omega) h2 (by omega) (λi hi=>?_) hb
    by_cases e:i=(l+r) / 2
    ·rw[e]; exact l'
    ·exact L.tr _ _ _ (hp.lt hn _) (hp.lt hn _) (hp.lt hn _) (hu i ((l+r) / 2) (by omega) (by omega)) l'
theorem yD:∀(f:J3) (p:KC J3) (k:J3),Pm n p->k+f=n->Up lt p k->Pm n (cf lt (kas_bin f p k))/\Up lt (cf lt (kas_bin f p k)) n
 | 0,p,k,hp,h,hu=>by
  have:k=n:=by omega
  exact⟨hp,this ▸ hu⟩
 | f+1,p,k,hp,h,hu=>by
  unfold kas_bin;rw[ev];obtain⟨m,e,h1,ha,hb⟩:=lP L hp (by omega) hu k 0 k (LR _) (J7 _) (by omega) (λi hi=>by omega) λi h1 h2=>by omega
  rw[e];refine yD f _ (k+1) (hp.bub _ _) (by omega) λi j hij hj=>?_
  have g:∀i,gt (bubble p k (k - m)) i=if i=m then gt p k else if m < i/\i<=k then gt p (i - 1)else gt p i:=λi=>by
   rw[jL,jL,jL,jL,getElem?_bubble (by rw[hp.size]; omega) _ (by omega),show k - (k - m)=m by omega]
   split
   ·rfl
   ·split <;> rfl
  rw[g,g]
  repeat' split
  all_goals first
   | (exfalso; omega)
   | exact ha _ (by omega)
   | exact hb _ (by omega) (by omega)
   | exact hu _ _ (by omega) (by omega)
theorem BJ (hn:1<=n):Pm n (cf lt (kas_sort n))/\Up lt (cf lt (kas_sort n)) n:=by
 unfold kas_sort;rw[ev];obtain⟨m,p',e,h1,h2,h3,h4⟩:=yC L (p:=(KA n).toArray) (by unfold Pm; simp) hn
 rw[e];dsimp only
 by_cases hm:m < n
 ·rw[Ks hm];have:max m 1=m:=by omega
  rw[this];exact yD L _ _ _ h1 (by omega) h4
 ·rw[KF hm];have:m=n:=by omega
  exact⟨h1,this ▸ h4⟩
end
end Mi
namespace Mi
open PySem PySem.Spec PyProof.Rows L2
mutual
theorem lQ:∀x y:T,eD x=true->hZ x y=ba true->hZ y x=ba false
 | .int a,.int b,_,h=>by
  simp only[hZ,KL,Kq]at h;simp only[hZ,KL,Pe];omega
 | .str _,_,h,_=>by cases h
 | .tup xs,.tup ys,hn,h=>pQ xs ys hn h
 | .int _,.str _,_,h|.int _,.tup _,_,h|.tup _,.int _,_,h|.tup _,.str _,_,h=>by cases h
theorem pQ:∀xs ys:JT T,db xs=true->dt xs ys=ba true->dt ys xs=ba false
 | [],[],_,h=>by cases h
 | [],_::_,_,_=>rfl
 | _::_,[],_,h=>by cases h
 | x::xs,y::ys,hn,h=>by
  simp only[db,J2]at hn;simp only[dt]at h ⊢
  by_cases e:x=y
  ·rw[Ks e]at h;rw[Ks e.symm];exact pQ xs ys hn.2 h
  ·rw[KF e]at h;rw[KF (Ne.symm e)];exact lQ x y hn.1 h
end
mutual
theorem pR:∀x y:T,eD x=true->x≠y->hZ y x=ba false->hZ x y=ba true
 | .int a,.int b,_,hne,h=>by
  simp only[hZ,KL,Pe]at h;simp only[hZ,KL,Kq];have:a≠b:=λe=>hne (e ▸ rfl)
  omega
 | .str _,_,h,_,_=>by cases h
 | .tup xs,.tup ys,hn,hne,h=>uW xs ys hn (λe=>hne (e ▸ rfl)) h
 | .int _,.str _,_,_,h|.int _,.tup _,_,_,h|.tup _,.int _,_,_,h|.tup _,.str _,_,_,h=>by cases h
theorem uW:∀xs ys:JT T,db xs=true->xs≠ys->dt ys xs=ba false->dt xs ys=ba true
 | [],[],_,h,_=>absurd rfl h
 | [],_::_,_,_,_=>rfl
 | _::_,[],_,_,h=>by cases h
 | x::xs,y::ys,hn,hne,h=>by
  simp only[db,J2]at hn;simp only[dt]at h ⊢
  by_cases e:x=y
  ·rw[Ks e.symm]at h;rw[Ks e];exact uW xs ys hn.2 (λz=>hne (by rw[e,z])) h
  ·rw[KF (Ne.symm e)]at h;rw[KF e];exact pR x y hn.1 e h
end
mutual
theorem tH:∀x y z:T,eD x=true->eD y=true->hZ x y=ba true->hZ y z=ba true->hZ x z=ba true
 | .int a,.int b,.int c,_,_,h,h'=>by
  simp only[hZ,KL,Kq]at h h' ⊢;omega
 | .tup xs,.tup ys,.tup zs,hn,hn',h,h'=>uX xs ys zs hn hn' h h'
 | .str _,_,_,h,_,_,_=>by cases h
 | .int _,.str _,_,_,_,h,_|.int _,.tup _,_,_,_,h,_|.tup _,.int _,_,_,_,h,_|.tup _,.str _,_,_,_,h,_=>by cases h
 | .int _,.int _,.str _,_,_,_,h|.int _,.int _,.tup _,_,_,_,h|.tup _,.tup _,.int _,_,_,_,h|.tup _,.tup _,.str _,_,_,_,h=>by cases h
theorem uX:∀xs ys zs:JT T,db xs=true->db ys=true->dt xs ys=ba true->dt ys zs=ba true->dt xs zs=ba true
 | [],[],_,_,_,h,_=>by cases h
 | _::_,[],_,_,_,h,_=>by cases h
 | _,_::_,[],_,_,_,h=>by cases h
 | [],_::_,_::_,_,_,_,_=>rfl
 | x::xs,y::ys,z::zs,hn,hn',h,h'=>by
  simp only[db,J2]at hn hn';simp only[dt]at h h' ⊢
  by_cases e:x=y
  ·subst e;rw[Ks rfl]at h
   by_cases e':x=z
   ·rw[Ks e']at h' ⊢;exact uX xs ys zs hn.2 hn'.2 h h'
   ·rw[KF e']at h' ⊢;exact h'
  ·rw[KF e]at h
   by_cases e':y=z
   ·subst e';rw[KF e];exact h
   ·rw[KF e']at h';have t:=tH x y z hn.1 hn'.1 h h';have e2:x≠z:=λe2=>by
     subst e2;have:=lQ x x hn.1 t;rw[t]at this; cases this
    rw[KF e2];exact t
end
noncomputable def HL (ks:JT T):Prop:=ks.Pairwise λx y=>hZ x y=ba true
noncomputable def eX (ks:JT T):JT T:=dN (mV ks) (.int 0) ks
structure Nice (ks:JT T):Prop where
 num:∀x∈ks,eD x=true
 lt:eW ks=true
 nd:ks.Nodup
theorem Nice.lin {ks:JT T}(h:Nice ks):Lin ks.length (mV ks):=by
 have nm:∀i (hi:i < ks.length),eD ks[i]=true:=λi hi=>h.num _ (K1 hi)
 refine⟨λi j k hi hj hk a b=>?_,λi j hi hj a=>?_,λi j hi hj hne a=>?_⟩
 ·have e1:=dW h.lt hi hj;have e2:=dW h.lt hj hk;have e3:=dW h.lt hi hk;rw[a]at e1; rw[b]at e2
  rw[tH _ _ _ (nm i hi) (nm j hj) e1 e2]at e3;exact(Lh e3).symm
 ·have e1:=dW h.lt hi hj;have e2:=dW h.lt hj hi;rw[a]at e1;rw[lQ _ _ (nm i hi) e1]at e2;exact(Lh e2).symm
 ·have e1:=dW h.lt hj hi;have e2:=dW h.lt hi hj;rw[a]at e1;have hne':ks[i]≠ks[j]:=λe=>by
   have pw:=NB.mp h.nd;rcases QC hne with q|q
   ·exact pw i j hi hj q e
   ·exact pw j i hj hi q e.symm
  rw[pR _ _ (nm i hi) hne' e1]at e2;exact(Lh e2).symm
theorem fE {α:Type}{lt:J3->J3->KD}{d:α}{xs:JT α}:(dN lt d xs).Perm xs:=by
 unfold dN;split
 ·exact .refl _
 ·have p:Pm xs.length (cf lt (M5 xs.length)):=pO (lm (by omega))
  refine(TX _ p).trans ?_;have:(KA xs.length).map (λi=>xs.getD i d)=xs:=by
   apply Nx
   ·simp
   ·intro k h1 h2; simp[h2]
  rw[this]
theorem i9 {ks:JT T}(h:Nice ks):HL (eX ks):=by
 unfold eX dN HL;split
 ·rename_i hl
  match ks,hl with
  | [],_=>exact .nil
  | [x],_=>simp
  | _::_::_,hl=>simp only[La]at hl; omega
 ·rename_i hl;obtain⟨p,u⟩:=BJ h.lin (by omega)
  rw[NB];intro i j hi hj hij;rw[JV,Ki,p.size]at hi hj;have hn:0 < ks.length:=by exact Q8 ‹_›
  have l:=u i j hij hj;have e1:=dW h.lt (p.lt hn i) (p.lt hn j);have g:∀k (hk:k < ks.length),(cf (mV ks) (M5 ks.length)).getD k 0=(cf (mV ks) (M5 ks.length)).toList[k]'(by rw[Ki,p.size]; exact hk):=λk hk=>by simp[NM,p.size,hk]
  have l':mV ks ((cf (mV ks) (M5 ks.length)).getD i 0) ((cf (mV ks) (M5 ks.length)).getD j 0)=true:=l;rw[l']at e1;have gd:∀k (hk:k < ks.length),ks.getD k (.int 0)=ks[k]:=λk hk=>by simp[hk]
  simp only[Ro];rw[<- g i hi,<- g j hj,gd _ (p.lt hn i),gd _ (p.lt hn j)];exact e1
theorem lR:∀ {a b:JT T},(∀x∈a,eD x=true)->a.Perm b->HL a->HL b->a=b
 | [],b,_,p,_,_=>(TF p)
 | x::a,[],_,p,_,_=>absurd p.length_eq (by simp)
 | x::a,y::b,hn,p,h,h'=>by
  have e:x=y:=by
   rcases Kz.mp (p.mem_iff.mp (Lx))with e|e
   ·exact e
   ·rcases Kz.mp (p.mem_iff.mpr (Lx))with e'|e'
    ·exact e'.symm
    ·have l1:=OR h e';have l2:=OR h' e;have:=lQ _ _ (hn x (.head _)) l1;rw[l2]at this; cases this
  subst e;rw[lR (λz hz=>hn z (.tail _ hz)) ((List.perm_cons x).mp p) (QD.mp h).2 (QD.mp h').2]
theorem Nice.of_sub {ks us:JT T}(h:Nice ks)(hs:∀x∈us,x∈ks)(hd:us.Nodup):Nice us:=by
 refine⟨λx hx=>h.num x (hs x hx),?_,hd⟩
 have:=h.lt;unfold eW at this ⊢;rw[Kr]at this ⊢;intro x hx;have h2:=this x (hs x hx);rw[Kr]at h2 ⊢;exact λy hy=>h2 y (hs y hy)
theorem wz {us ks:JT T}(h:Nice ks)(p:us.Perm ks):eX us=eX ks:=by
 have hu:Nice us:=h.of_sub (λx hx=>p.mem_iff.mp hx) (p.nodup_iff.mpr h.nd)
 have pu:(eX us).Perm us:=fE;have pk:(eX ks).Perm ks:=fE;exact lR (λx hx=>hu.num x (pu.mem_iff.mp hx)) (pu.trans (p.trans pk.symm)) (i9 hu) (i9 h)
theorem yE {us ks:JT T}(h:Nice ks)(p:us.Sublist (eX ks)):eX us=us:=by
 have pk:(eX ks).Perm ks:=fE;have hu:Nice us:=h.of_sub (λx hx=>pk.mem_iff.mp (p.subset hx)) (p.nodup (pk.nodup_iff.mpr h.nd))
 have pu:(eX us).Perm us:=fE;exact lR (λx hx=>hu.num x (pu.mem_iff.mp hx)) pu (i9 hu) ((i9 h).sublist p)
mutual
noncomputable def oy:T->Kh
 | .int i=>hashInt i
 | .str _=>0
 | .tup xs=>reduceHash (Nz (pS xs))
noncomputable def pS:JT T->JT Kh
 | []=>[]
 | x::xs=>oy x::pS xs
end
mutual
theorem rD {w:KT}:∀x:T,eD x=true->eT w x=oy x
 | .int _,_=>rfl
 | .str _,h=>by cases h
 | .tup xs,h=>by simp only[eT,oy]; rw[oz xs h]
theorem oz {w:KT}:∀xs:JT T,db xs=true->iq w xs=pS xs
 | [],_=>rfl
 | x::xs,h=>by
  simp only[db,J2]at h;simp only[iq,pS];rw[rD x h.1,oz xs h.2]
end
theorem rE {w:KT}:∀(ks:JT T) (st:KC (Kh×T)×Lq),(∀x∈ks,eD x=true)->ks.foldlM (bO (eT w)) st=ks.foldlM (bO oy) st
 | [],_,_=>rfl
 | x::ks,st,h=>by
  rw[M3,M3];have e:bO (eT w) st x=bO oy st x:=by unfold bO; rw[rD x (h x (.head _))]
  rw[e];congr 1
  funext st'
  exact rE ks st' λy hy=>h y (.tail _ hy)
noncomputable def rF (l:KD)(ks:JT T):J1 (KC (Kh×T)×Lq):=ks.foldlM (bO oy) (#[],.fresh 0 0 l)
noncomputable def kD (ks:JT T):J1 (JT T):=match rF true ks with
 | some r=>if fM r.2 r.1.size then ba (r.1.toList.map (·.2))else gV
 | none=>gV
noncomputable def fZ (b:KD)(t:Lq):Lq:={ t with led:=b }
theorem tJ {b:KD}{t:Lq}{ha:J3->Kh}{h:Kh}:∀(f:J3) (p:OG),OZ (fZ b t) ha h f p=OZ t ha h f p
 | 0,_=>rfl
 | f+1,p=>by
  unfold OZ;rw[show(fZ b t).slot p.j=t.slot p.j from rfl]
  cases t.slot p.j with
  | empty=>rfl
  | dummy=>exact tJ f _
  | live i=>
   dsimp only;split
   ·rfl
   ·exact tJ f _
theorem kE {b:KD}{es:KC (Kh×T)}{t:Lq}{x:T}{h:Kh}:∀(f:J3) (st:J1 OG),d8 es (fZ b t) x h f st=d8 es t x h f st
 | 0,_=>rfl
 | f+1,st=>by
  unfold d8;have e:∀p,(fZ b t).probe (λi=>(es[i]?.map (·.1)).getD 0) h p=t.probe (λi=>(es[i]?.map (·.1)).getD 0) h p:=λp=>tJ _ _
  rw[show(fZ b t).probeStart h=t.probeStart h from rfl,e]
  split
  ·rfl
  ·rfl
  ·rfl
  ·rename_i j i next _;cases es[i]? with
   | none=>rfl
   | some q=>
    dsimp only;split
    ·rfl
    ·rw[show(fZ b t).slot j=t.slot j from rfl]
     split
     ·exact kE f _
     ·rfl
theorem tK {b:KD}{t:Lq}{hs:KC Kh}{n:J3}:(fZ b t).relaid hs n=(t.relaid hs n).map λr=>(fZ b r.1,r.2):=by
 unfold TK TY;show(do let owner <- Q9 (OI n - 1) hs; _)=_
 cases Q9 (OI n - 1) hs <;> rfl
theorem tL {b:KD}{hf:T->Kh}{es:KC (Kh×T)}{t:Lq}{x:T}:bO hf (es,fZ b t) x=(bO hf (es,t) x).map λr=>(r.1,fZ b r.2):=by
 unfold bO;dsimp only;rw[kE];cases d8 es t x (hf x) 100 gV with
 | none=>rfl
 | some f=>
  cases f with
  | there=>rfl
  | free slot=>
   dsimp only;rw[show(fZ b t).put slot=(fZ b (t.put slot).1,(t.put slot).2)from rfl]
   dsimp only;rw[show ∀n,dL (fZ b (t.put slot).1) n=dL (t.put slot).1 n from λ_=>rfl,show(fZ b (t.put slot).1).tooFull=(t.put slot).1.tooFull from rfl,tK]
   split
   ·split
    ·split
     ·cases(t.put slot).1.relaid ((KR es (t.put slot).2 (hf x,x)).map (·.1)) (NZ (es.size+1))with
      | none=>rfl
      | some q=>
       obtain⟨t2,order⟩:=q;dsimp only[K4];rw[show ∀n,dL (fZ b t2) n=dL t2 n from λ_=>rfl]
       split <;> rfl
     ·rfl
    ·rfl
   ·rfl
theorem rG {b:KD}{hf:T->Kh}:∀(ks:JT T) (es:KC (Kh×T)) (t:Lq),ks.foldlM (bO hf) (es,fZ b t)=(ks.foldlM (bO hf) (es,t)).map λr=>(r.1,fZ b r.2)
 | [],_,_=>rfl
 | x::ks,es,t=>by
  rw[M3,M3,tL];cases bO hf (es,t) x with
  | none=>rfl
  | some r=>exact rG ks r.1 r.2
theorem wD {ks us:JT T}(h:kD ks=ba us)(l:KD):∃r,rF l ks=ba r/\r.1.toList.map (·.2)=us/\r.2.led=l/\(r.2.plain=true->fM r.2 r.1.size=true):=by
 unfold kD at h;have e:rF l ks=(rF true ks).map λr=>(r.1,fZ l r.2):=rG (b:=l) ks #[] (.fresh 0 0 true)
 cases hr:rF true ks with
 | none=>rw[hr]at h; cases h
 | some r=>
  rw[hr]at h e;dsimp only at h;split at h
  ·rename_i hok;cases h;exact⟨_,e,rfl,rfl,λ_=>hok⟩
  ·cases h
theorem pT {α:Type}{xs:KC α}{p:J3}{x y:α}(h:y∈(KR xs p x).toList):y∈xs.toList\/y=x:=by
 unfold KR at h;rw[Op,OV,K2,K2]at h;rcases h with(h|h)|h
 ·rw[Nq]at h;refine .inl ?_;simp only[SL]at h;exact Nr (MR h)
 ·exact .inr (Kk.mp h)
 ·rw[Nq]at h;refine .inl ?_;simp only[SL]at h;exact Nr (MR h)
theorem tM {hf:T->Kh}{es:KC (Kh×T)}{t:Lq}{x:T}{r:KC (Kh×T)×Lq}(h:bO hf (es,t) x=ba r):∀y∈r.1.toList,y∈es.toList\/y.2=x:=by
 intro y hy;unfold bO at h;dsimp only at h;split at h
 ·cases h
 ·cases h; exact .inl hy
 ·rename_i slot _;have ins:∀y∈(KR es (t.put slot).2 (hf x,x)).toList,y∈es.toList\/y.2=x:=λy hy=>(pT hy).imp id λe=>by rw[e]
  split at h
  ·split at h
   ·split at h
    ·split at h
     ·cases h
     ·rename_i t2 order _;split at h
      ·cases h;refine ins y ?_;simp only[Array.toList_filterMap,Oz]at hy;obtain⟨i,_,hi⟩:=hy;rw[Np];exact N3 hi
      ·cases h
    ·cases h
   ·cases h; exact ins y hy
  ·cases h
theorem rH {hf:T->Kh}:∀(ks:JT T) (es:KC (Kh×T)) (t:Lq) (r:KC (Kh×T)×Lq),ks.foldlM (bO hf) (es,t)=ba r->∀y∈r.1.toList,y∈es.toList\/y.2∈ks
 | [],_,_,_,h,y,hy=>by cases h; exact .inl hy
 | x::ks,es,t,r,h,y,hy=>by
  rw[M3]at h;cases hs:bO hf (es,t) x with
  | none=>rw[hs]at h; cases h
  | some q=>
   rw[hs]at h;rcases rH ks q.1 q.2 r h y hy with h1|h1
   ·rcases tM hs y h1 with h2|h2
    ·exact .inl h2
    ·exact .inr (h2 ▸ Lx)
   ·exact .inr (.tail _ h1)
theorem yF {ks us:JT T}(h:kD ks=ba us):∀k∈us,k∈ks:=by
 unfold kD at h;split at h
 ·rename_i r hr;split at h
  ·cases h;intro k hk;obtain⟨y,hy,rfl⟩:=Ko.mp hk;rcases rH ks _ _ r hr y hy with h1|h1
   ·simp at h1
   ·exact h1
  ·cases h
 ·cases h
noncomputable def yG (k:T):KD:=eD k&&k.isTup&&decide (k.depth<=aG)
noncomputable def lS (xs:JT W)(S:aa):J1 (W×aa):=match xs with
 | [.ref i]=>match gf S i with
  | some ws=>match W.ts ws with
   | some ks=>if ks.all yG then(kD ks).map λus=>(.ref S.length,S++[.stt us])else gV
   | none=>gV
  | none=>gV
 | _=>gV
noncomputable def FK (S:aa)(i:J3):J1 (JT T):=match S[i]? with
 | some (.stt us)=>ba us
 | _=>gV
noncomputable def lT (us:JT T):KD:=us.all eD&&eW us&&decide us.Nodup&&iy us
noncomputable def dc (xs:JT W)(S:aa):J1 (W×aa):=match xs with
 | [.ref i]=>match FK S i with
  | some us=>if lT us then ba (.ref S.length,S++[.lst (T.ws (eX us))])else gV
  | none=>gV
 | _=>gV
noncomputable def lU (xs:JT W)(S:aa):J1 (W×aa):=match xs with
 | [.ref i]=>match yk S i with
  | some (lo,hi)=>if -(2 ^ 62)<=lo/\lo < 2 ^ 62/\-(2 ^ 62)<=hi/\hi < 2 ^ 62/\(hi - lo).toNat<=sizeLine then ba (.tup (BI lo (hi - lo).toNat),S)else gV
  | none=>lF [.ref i] S
 | xs=>lF xs S
theorem yH:∀ks:JT T,T.ws ks=ks.map T.w
 | []=>rfl
 | x::xs=>by simp only[T.ws,Lu,yH xs]
theorem wF {h:K6}{us vs:JT JW}(p:us.Perm vs):∀ {ks:JT T},IsTs h ks vs->∃js,IsTs h js us/\js.Perm ks:=by
 induction p with
 | nil=>intro ks i; exact⟨ks,i,.refl _⟩
 | cons x p ih=>
  intro ks i;cases i with
  | cons a b=>obtain⟨js,h1,h2⟩:=ih b; exact⟨_,.cons a h1,h2.cons _⟩
 | swap x y l=>
  intro ks i;cases i with
  | cons a b=>cases b with
   | cons b c=>exact⟨_,.cons b (.cons a c),.swap _ _ _⟩
 | trans p q ih1 ih2=>
  intro ks i;obtain⟨js,h1,h2⟩:=ih2 i;obtain⟨is,h3,h4⟩:=ih1 h1;exact⟨is,h3,h4.trans h2⟩
theorem yI {p:T->KD}{js ks:JT T}(h:js.Perm ks):js.all p=ks.all p:=by
 rw[Bool.eq_iff_iff,Kr,Kr];exact⟨λq x hx=>q x (h.mem_iff.mpr hx),λq x hx=>q x (h.mem_iff.mp hx)⟩
theorem yJ {js ks:JT T}(h:js.Perm ks):tB js=tB ks:=by unfold tB; simp only[yI h]
theorem ja:∀ {ks:JT T} {d:J3},(∀x∈ks,x.depth<=d)->T.depths ks<=d
 | [],_,_=>LR _
 | x::ks,d,h=>by
  have h1:=h x (.head _);have h2:=ja λy hy=>h y (.tail _ hy)
  simp only[T.depths]; omega
theorem oA {h:K6}{js:JT T}{us:JT JW}(r:IsTs h js us):∀is:JT J3,(∀i∈is,i < js.length)->IsTs h (is.map λi=>js.getD i (.int 0)) (is.map λi=>us.getD i .none)
 | [],_=>.nil
 | i::is,hl=>by
  have hi:=hl i (.head _);have hi':i < us.length:=by rw[<- r.length]; exact hi
  have e1:js.getD i (.int 0)=js[i]:=by simp[hi]
  have e2:us.getD i .none=us[i]:=by simp[hi']
  have:=r.get i hi hi';refine .cons ?_ (oA r is λj hj=>hl j (.tail _ hj))
  show IsT h (js.getD i (.int 0)) (us.getD i .none);rw[e1,e2]; exact this
theorem wH {h:K6}{lt:J3->J3->KD}{js:JT T}{us:JT JW}(r:IsTs h js us):IsTs h (dN lt (.int 0) js) (dN lt K7 us):=by
 unfold dN;rw[<- r.length];split
 ·exact r
 ·exact oA r _ λi hi=>ln (by omega) i hi
section
variable{prog:KJ}{w:KT}{A:KP}{E:JW->JY->Prop}{s:JY}
theorem mZ {Q:JT JW->JY->Prop}{r:J4}{a b c:Kh}{t u v:T0}{n:J3}(hh:A.handled=gV)(hr:Tw s.heap r a b c t u v)(hsmall:Oq a b c=true)
  (hn:L3 a b c=n) (hlen:n<=2 ^ 24)
  (hQ:∀h' tk (acc:KC JW),(∀b o,s.heap.get? b=ba o->h'.get? b=ba o)->s.heap.objs.size<=h'.objs.size->Pu (λi v=>∃t,v=.int (a+i*c) t) acc n->Q acc.toList { s with heap:=h',toks:=tk }):wpAny (model prog w) A (collect (.ref r)) Q E s:=by
 unfold collect;refine JU (NY (Ln F.entry_proto_collect ?_));rw[Ld F.plain_proto_collect _];show wpAny _ A.in1 (newList [] >>= λl=>again (.builtin "list.__iadd__" ⟨[l,.ref r],[]⟩)) _ _ s
 refine JU (KW ?_);refine JZ ⟨L7 F.plain_list_iadd _,Ln F.entry_list_iadd ?_⟩;rw[Ld F.plain_list_iadd _];show wpAny _ A.in1 (LI (.ref s.heap.objs.size) (.ref r) (.ref s.heap.objs.size)) _ _ _;have hS:(s.heap.push { cls:=.type "list",data:=.seq ([]:JT JW).toArray }).get? s.heap.objs.size=ba { cls:=.type "list",data:=.seq #[] 0 }:=Ke _ rfl;have fin':∀s',(∃h' tk acc c',s'={ s with heap:=h',toks:=tk }/\(∀b o,s.heap.get? b=ba o->h'.get? b=ba o)/\h'.get? s.heap.objs.size=ba { cls:=.type "list",dict:=gV,data:=.seq acc c',slots:=#[] }/\Pu (λi v=>∃t,v=.int (a+i*c) t) acc n)->wpAny (model prog w) A (do
   let o <- load s.heap.objs.size
   match o.data with
   | .seq xs _=>pure xs.toList
   | _=>unsupported "internal:collect") Q E s':=by
  rintro s' ⟨h',tk,acc,c',rfl,hk,hS',hacc⟩;exact JU (Pn hS' (JZ (hQ h' tk acc hk (L8 (Kl hS')) hacc)))
 refine L0 (wpAny_extend_range (A:=A) (s:={ s with heap:=s.heap.push { cls:=.type "list",data:=.seq ([]:JT JW).toArray } }) (R:=λr s'=>r=.ok (.ret (.ref s.heap.objs.size))/\∃h' tk acc c',s'={ s with heap:=h',toks:=tk }/\(∀b o,s.heap.get? b=ba o->h'.get? b=ba o)/\h'.get? s.heap.objs.size=ba { cls:=.type "list",dict:=gV,data:=.seq acc c',slots:=#[] }/\Pu (λi v=>∃t,v=.int (a+i*c) t) acc n) hh (JX _ hr) hsmall hn hlen _ _ 0 hS λh' tk acc' c' hk hS' hacc=>⟨rfl,h',tk,acc',c',rfl,λb o e=>hk b o (Kt (Kl e)) (JX _ e),hS',hacc⟩) (λfin s' h=>?_) (λe s' h=>?_)
 ·cases fin with
  | done f=>
   obtain⟨e,h⟩:=h;cases e;exact fin' s' h
  | again c'=>exact⟨h.1,NU h.2 λr s'' hr=>by obtain⟨rfl,hr⟩:=hr; exact fin' s'' hr⟩
 ·exact absurd h.1 (by simp)
theorem jM {Q₁:JW->JY->Prop}{r:J4}{a b c:Kh}{t u v:T0}{n:J3}(hh:A.handled=gV)(hr:Tw s.heap r a b c t u v)(hsmall:Oq a b c=true)
  (hn:L3 a b c=n) (hlen:n<=2 ^ 24)
  (h:∀(h':K6) (tk:J3) (acc:KC JW),(∀b o,s.heap.get? b=ba o->h'.get? b=ba o)->s.heap.objs.size<=h'.objs.size->Pu (λi v=>∃t,v=.int (a+i*c) t) acc n->Q₁ (.ref h'.objs.size) { s with heap:=h'.push { cls:=.type "tuple",data:=.seq acc },toks:=tk }) :
  codeAny (model prog w) A (.call (.builtin "tuple.__new__") ⟨[.type "tuple",.ref r],[]⟩) (wants Q₁ E) s:=by
 refine PC ?_;show wpAny _ A.in1 (do checkBuiltinCall "tuple.__new__" ⟨[.type "tuple",.ref r],[]⟩; again (.builtin "tuple.__new__" ⟨[.type "tuple",.ref r],[]⟩)) _ _ s
 refine JU (NR (F.newCall_tuple_1 _) (JZ ⟨L7 F.plain_tuple_new _,Ln F.entry_tuple_new ?_⟩));rw[Ld F.plain_tuple_new _];have hsub:=PySem.sub_tuple_self;have hinit:=PySem.init_tuple_lookup;have hmh:=PySem.madeHere_tuple;have hTI:s.TypeIs (.ref r) "range":=⟨_,hr,rfl⟩;have hh1:A.in1.handled=gV:=by simp[hh]
 wp_walk using M7 hTI,mZ (A:=A.in1) hh1 hr hsmall hn hlen
 intro h' tk acc hk hle hacc;show wpAny _ _ (LU acc.toList.toArray >>= λv=>ret v) _ _ _
 unfold LU;refine JU (KW ?_ (by show acc.toList.toArray.size<=sizeLine; simp only[Array.toArray_toList]; rw[hacc.1,K8]; assumption))
 refine JZ ?_;have e:acc.toList.toArray=acc:=by simp
 rw[e];exact h h' tk acc hk hle hacc
theorem jN {Q:JW->JY->Prop}{r:J4}{a b c:Kh}{t u v:T0}{n:J3}(hh:A.handled=gV)(hr:Tw s.heap r a b c t u v)(hsmall:Oq a b c=true)
  (hn:L3 a b c=n) (hlen:n<=2 ^ 24)
  (hQ:∀(h':K6) (tk:J3) (acc:KC JW),(∀b o,s.heap.get? b=ba o->h'.get? b=ba o)->s.heap.objs.size<=h'.objs.size->Pu (λi v=>∃t,v=.int (a+i*c) t) acc n->Q (.ref h'.objs.size) { s with heap:=h'.push { cls:=.type "tuple",data:=.seq acc },toks:=tk }) :
  wpAny (model prog w) A (call (.type "tuple") [.ref r]) Q E s:=by
 refine callType_codes (Q₁:=λobj s₁=>s₁.TypeIs obj "tuple"/\Q obj s₁) F.called_tuple (F.typeCall_tuple_1 _) F.entry_object_init
  (jM (by simp[hh]) hr hsmall hn hlen λh' tk acc hk hle hacc=>⟨⟨_,Ke _ rfl,rfl⟩,hQ h' tk acc hk hle hacc⟩) λobj s₁ h₁=>?_
 exact⟨h₁.1,F.args_object_init_2 obj _,object_init_meets F.called_tuple.init.lookup F.called_tuple.made (by decide) prog w A.in1 _ s₁ ⟨h₁.1,rfl,h₁.2⟩⟩
theorem rJ {a:J4}{o:LJ}{es:KC (Kh×JW)}{ep:J3}{t:Lq}{ks:JT T}{Q:JW->JY->Prop}(hh:A.handled=gV)(hu:A.units+12 < cLine)(ho:s.heap.get? a=ba o)(hex:o.ExactSet)(hd:o.data=.set es ep t)(hz:es.size<=sizeLine)(fit:t.fits es.size=true)(led:t.led = !fB w)(pl:t.plain=true->es.size=0\/fM t es.size=true)
  (hT:IsTs s.heap ks (es.toList.map (·.2))) (hok:lT ks=true)
  (h:∀D h' tk dr c us,(∀b u,s.heap.get? b=ba u->h'.get? b=ba u)->s.heap.objs.size<=D->h'.get? D=ba (seqObj "list" us.toArray c)->IsTs s.heap (eX ks) us->us.Perm (es.toList.map (·.2))->Q (.ref D) { s with heap:=h',toks:=tk,drawn:=dr }) :
  wpAny (model prog w) A (call (.builtin "sorted") [.ref a]) Q E s:=by
 simp only[lT,J2,Kq]at hok;obtain⟨⟨⟨hnum,halt⟩,hnd⟩,hok⟩:=hok;have hN:Nice ks:=⟨λx hx=>Kr.mp hnum x hx,halt,hnd⟩
 refine NA Tb SI SJ (SK _) ?_;unfold Ng.«sorted»;refine JU (m:=checkCount "sorted" 1 1 _) (JZ ?_);refine JU (qZ (A:=A.in1) (by simp[hh]) ho hex hd hz fit led pl λh1 tk dr us kp hle hP=>?_)
 obtain⟨js,hjs,hperm⟩:=wF hP hT;simp only[iy,J2,Kq]at hok;obtain⟨⟨h64,hdp⟩,hok⟩:=hok;have hl:us.length=ks.length:=by rw[hjs.length.symm,hperm.length_eq]
 have hJ:Nice js:=hN.of_sub (λx hx=>hperm.mem_iff.mp hx) (hperm.nodup_iff.mpr hN.nd)
 have hsk:2<=us.length->(tB js).isSome=true:=λh2=>by
  have h3:(tB ks).isSome=true:=by
   rcases LX _ _ ▸ hok with h|h
   ·simp only[Kq]at h; omega
   ·simp only[J2]at h; exact h.1
  rw[yJ hperm]; exact h3
 have hdj:T.depths js<=ci:=ja λx hx=>by
  obtain⟨i,hi,rfl⟩:=Mm.mp (hperm.mem_iff.mp hx);exact Kc (cK i hi) hdp
 refine JU (O6 ?_ (by rw[K8]; omega))
 have hoL:(h1.push (seqObj "list" us.toArray 0)).get? h1.objs.size=ba (seqObj "list" us.toArray 0):=Ke _ rfl;have kp2:∀b o,s.heap.get? b=ba o->(h1.push (seqObj "list" us.toArray 0)).get? b=ba o:=λb o e=>JX _ (kp b o e)
 have hne:∀b o,s.heap.get? b=ba o->b≠h1.objs.size:=λb o e=>Kt (Kx (Kl e) hle)
 show wpAny _ _ _ _ _ { s with heap:=h1.push (seqObj "list" us.toArray 0),toks:=tk,drawn:=dr }
 refine JU (Li (Ll R4 ⟨_,hoL,rfl⟩ RH ?_ (R5 _)));refine oo (s:={ s with heap:=h1.push (seqObj "list" us.toArray 0),toks:=tk,drawn:=dr }) (lt:=mV js) (κ:=uR ((tB js).getD 0)) hoL (by omega) (λh2 h' hk Q hq=>?_) (λh2 h' hk i j hi hj Q hq=>?_) λh' c hk hD=>?_
 ·obtain⟨c,hc⟩:=Lb.mp (hsk h2);rw[hc]at hq;exact yA (s:={ s with heap:=h',toks:=tk,drawn:=dr }) (hjs.kept λb o _ e=>hk b o (hne b o e) (kp2 b o e)) h2 hc hq
 ·obtain⟨c,hc⟩:=Lb.mp (hsk h2);rw[hc];have hjl:=hjs.length;have hi':i < js.length:=by omega
  have hj':j < js.length:=by omega
  have g:=(hjs.kept (h':=h') λb o _ e=>hk b o (hne b o e) (kp2 b o e))
  have e1:us.getD i K7=us[i]:=by simp[hi]
  have e2:us.getD j K7=us[j]:=by simp[hj]
  rw[e1,e2];have b1:=cK (ks:=js) i hi';have b2:=cK (ks:=js) j hj';exact uT (s:={ s with heap:=h',toks:=tk,drawn:=dr }) (d:=ci) (c:=c) (by rw[bh,bh]; unfold ci; omega) (Kc ‹_› ‹_›) (Kc ‹_› ‹_›) (g.get i hi' hi) (g.get j hj' hj) (dW hJ.lt hi' hj') (uU hc (K1 hi') (K1 hj')) hq
 ·refine⟨_,rfl,JZ ⟨_,rfl,h _ h' tk dr c (dN (mV js) K7 us) (λb o e=>hk b o (hne b o e) (kp2 b o e)) hle hD ?_ (fE.trans hP)⟩⟩
  rw[<- wz hN hperm];exact wH hjs
end
section
variable{X:Cx}{pins:JT (J4×LJ)}{σ:L2.St}{H:Hp}{s:JY}{A:JT J4}{S:aa}
theorem oB:∀as:JT J4,Vals (as.map V.ref) (as.map KO)
 | []=>.nil
 | _::as=>.cons rfl (oB as)
theorem yK:∀ {ks:JT T} {as:JT J4},RelL X.K A H (T.ws ks) (as.map V.ref)->∀b∈as,∃k∈ks,Rel X.K A H k.w (.ref b)
 | [],[],_,_,h=>nomatch h
 | [],_::_,r,_,_=>nomatch r
 | _::_,[],r,_,_=>nomatch r
 | k::ks,a::as,r,b,h=>by
  cases r with
  | cons r1 r2=>
   rcases Kz.mp h with rfl|h
   ·exact⟨k,.head _,r1⟩
   ·obtain⟨k',h1,h2⟩:=yK r2 b h;exact⟨k',.tail _ h1,h2⟩
theorem yL (I:Inv X pins σ H s):∀ {js:JT T} {us:JT JW},IsTs s.heap js us->(∀u∈us,∃k b,u=KO b/\Rel X.K A H (T.w k) (.ref b))->∃vs,RelL X.K A H (T.ws js) vs/\Vals vs us
 | _,_,.nil,_=>⟨[],.nil,.nil⟩
 | _,_,.cons a b,h=>by
  obtain⟨k,c,rfl,r⟩:=h _ (.head _);obtain⟨vs,h1,h2⟩:=yL I b λu hu=>h u (.tail _ hu)
  have:IsT s.heap k (.ref c):=pN I k r rfl;obtain rfl:=a.inj this;exact⟨.ref c::vs,.cons r h1,.cons rfl h2⟩
theorem rK (hh:X.A.handled=gV)(hu:X.A.units+12 < cLine):LCall X (.builtin "sorted") dc:=by
 intro pins s σ H A S xs vs us w S' I so rl rv e;unfold dc at e;split at e
 ·rename_i i;obtain⟨a,ea,rfl⟩:=lg (xs:=[]) rl rv;split at e
  ·rename_i ks hs;split at e
   ·rename_i hb;cases e;unfold FK at hs;split at hs
    ·rename_i us hx;cases hs;obtain⟨o,φ,as,q,⟨hex,es,ep,t,hd,hz,fit,led,pl,he⟩,r⟩:=so.obj i _ a hx ea;have ho:s.heap.get? a=ba o:=(show ObjOk X.prog X.w H s.heap a (.frz o (.ext φ))from I.hok a _ q).1
     have hT:IsTs s.heap ks (es.toList.map (·.2)):=by rw[he]; exact fN I ks r (oB as)
     refine rJ hh hu ho hex hd hz fit led pl hT hb λD h' tk dr c us hk hD oD hU hP=>?_
     obtain⟨vs,h1,h2⟩:=yL I hU λu hu=>by
      have:=hP.mem_iff.mp hu;rw[he]at this;obtain⟨b,hb,rfl⟩:=Ko.mp this;obtain⟨k,_,rk⟩:=yK r b hb;exact⟨k,b,rfl,rk⟩
     have hl:us.length<=sizeLine:=by rw[hP.length_eq,JV,Ki]; exact hz
     exact i4 (u:=.lst vs) I so hk hD ⟨by rw[L2.Vals.length h2]; exact hl,us,c,h2,oD⟩ λhn=>⟨_,bg,h1.mono (da hn)⟩
    ·cases hs
   ·cases e
  ·cases e
 ·cases e
theorem tN (hh:X.A.handled=gV)(hu:X.A.units+12 < cLine):LCall X (.type "set") lS:=by
 intro pins s σ H A S xs vs us w S' I so rl rv e;unfold lS at e;split at e
 ·rename_i i;obtain⟨a,ea,rfl⟩:=lg (xs:=[]) rl rv;split at e
  ·rename_i ws hw;split at e
   ·rename_i ks hs;split at e
    ·rename_i hb;rw[J0]at e;obtain⟨us,hp,e⟩:=e;cases e;have hkk:∀x∈ks,eD x=true/\x.isTup=true/\x.depth<=aG:=λx hx=>by
      have:=Kr.mp hb x hx;simp only[yG,J2,Kq]at this;exact⟨this.1.1,this.1.2,this.2⟩
     obtain⟨vs',h1,r1⟩:=bN so hw ea;obtain⟨its,rv',p,hzz⟩:=I.list h1;have hws:T.ws ks=ws:=W.ts_w hs;rw[<- hws]at r1;have hT:IsTs s.heap ks its:=fN I ks r1 rv';obtain⟨res,hplay,hkeys,hled,hpl⟩:=wD hp (!fB X.w);have itm:∀(j:J3) (u:JW),its[j]?=ba u->∃k b,ks[j]?=ba k/\u=KO b/\Rel X.K A H (T.w k) (.ref b):=λj u hj=>by
      have hjl:=(J9.mp hj).1;have hjk:j < ks.length:=by rw[hT.length]; exact hjl
      have hkw:(T.ws ks)[j]?=ba (T.w ks[j]):=by rw[yH,J6,J5 hjk]; rfl
      obtain⟨v,hv,rkv⟩:=r1.get hkw;obtain⟨u',hu',ruv⟩:=L2.Vals.get rv' hv;rw[hj]at hu';cases hu';have ht:=(hkk _ (K1 hjk)).2.1;generalize hk0:ks[j]=k0 at rkv ht;cases k0 with
      | int _=>cases ht
      | str _=>cases ht
      | tup ys=>
       cases rkv with
       | tup q1 q2=>
        obtain rfl:u=KO _:=ruv;exact⟨.tup ys,_,by rw[<- hk0]; exact J5 hjk,rfl,.tup q1 q2⟩
     refine wp (ks:=ks) (res:=res) hh p.isList (by simpa using hT) (λx hx=>⟨(hkk x hx).1,(hkk x hx).2.2⟩) (λj v hj=>?_) (by show _+aG < cLine; rw[bh,bh,bh]; unfold aG; omega) (by rw[rE ks _ λx hx=>(hkk x hx).1]; exact hplay) λh' tk zs ep ho ez hok hz hy hk=>?_
     ·obtain⟨k,b,_,hb,_⟩:=itm j v (by simpa using hj)
      exact⟨b,hb⟩
     ·have ezt:zs.toList.map (λz=>z.2.1)=us:=by
       rw[<- hkeys,<- ez,Pd,LN]; rfl
      have hsz:res.1.size=zs.size:=by rw[<- ez,Lz]
      refine i4 (dr:=s.drawn) (u:=.frz (lM X.w zs ep res.2) (.ext λh=>h.get? s.heap.objs.size=ba (lM X.w zs ep res.2))) I so hk (J7 _) ⟨ho,ho,⟨_,ho⟩,λh1 h2 q k=>k _ q⟩ λhn=>⟨_,_,zs.toList.map λz=>z.2.2,bg,⟨⟨rfl,rfl,rfl⟩,zs.map zV,ep,res.2,rfl,?_,?_,hled,?_,?_⟩,?_⟩
      ·rw[Lz,K8];simp only[dL,J2,Kq]at hok;have:=hok.2; exact Kc ‹_› (Kd rfl)
      ·rw[Lz];simp only[dL,J2,Kq]at hok;exact hok.1.1
      ·rw[Lz,<- hsz]; exact λz=>.inr (hpl z)
      ·rw[Pd,LN,LN]; rfl
      ·rw[<- ezt];have all:∀z∈zs.toList,Rel X.K (A++[s.heap.objs.size]) (bZ H s.heap.objs.size (.frz (lM X.w zs ep res.2) (.ext λh=>h.get? s.heap.objs.size=ba (lM X.w zs ep res.2)))) (T.w z.2.1) (.ref z.2.2):=λz hz'=>by
        obtain⟨j,g1,g2⟩:=hy z hz';obtain⟨k,b,g3,g4,g5⟩:=itm j _ (by simpa using g2)
        rw[g1]at g3;cases g3; cases g4
        exact g5.mono (da hn)
       clear hy ezt;generalize zs.toList=l at all
       induction l with
       | nil=>exact .nil
       | cons z l ih=>exact .cons (all z (.head _)) (ih λy hy=>all y (.tail _ hy))
    ·cases e
   ·cases e
  ·cases e
 ·cases e
theorem pU (hh:X.A.handled=gV):LCall X (.type "tuple") lU:=by
 intro pins s σ H A S xs vs us w S' I so rl rv e;unfold lU at e;split at e
 ·rename_i i;split at e
  ·rename_i lo hi hr;split at e
   ·rename_i hb;cases e;obtain⟨a,ea,rfl⟩:=lg (xs:=[]) rl rv;obtain⟨b1,b2,b3,b4,b5⟩:=hb;have hH:H a=ba (.rng lo hi):=by
     unfold yk at hr;split at hr
     ·rename_i hx; cases hr; exact so.obj i _ a hx ea
     ·cases hr
    obtain⟨t,u,v,ho⟩:=I.hok a _ hH;have hn:L3 lo hi 1=((hi - lo).toNat:J3):=by rw[Qm]; split <;> omega
    refine jN hh ho (Sx b1 b2 b3 b4) hn b5 λh' tk acc hk hle hacc=>?_
    have hv:Vals ((KA (hi - lo).toNat).map λ(k:J3)=>V.int (lo+(k:Kh))) acc.toList:=by
     refine pJ (by rw[JV,KI,Ki,hacc.1]) λi v u e1 e2=>?_
     rw[J6,J0]at e1;obtain⟨k,e1,rfl⟩:=e1;obtain⟨hk,rfl⟩:=J9.mp e1;obtain⟨t,rfl⟩:=hacc.2 i u (by rw[<- Ls]; exact e2)
     exact⟨t,by simp⟩
    have hnn:H h'.objs.size=gV:=I.hok.fresh hle;refine⟨.ref h'.objs.size,_,A,I.laid (a:=h'.objs.size) (o:=.tup ((KA (hi - lo).toNat).map λ(k:J3)=>V.int (lo+(k:Kh)))) (t':=tk) (λb o e=>JX _ (hk b o e)) hle ⟨by simpa using b5,acc.toList,hv,?_⟩,rfl,c9 (.inl hnn),so.lay hnn,.tup (.inl (.inl bg)) (pK _)⟩
    exact⟨_,Ke _ rfl,rfl,0,by simp⟩
   ·cases e
  ·exact kw pins s σ H A S _ vs us w S' I so rl rv e
 ·exact kw pins s σ H A S _ vs us w S' I so rl rv e
end
section
variable{X:Cx}{pins:JT (J4×LJ)}{σ:L2.St}{H:Hp}{s:JY}{A:JT J4}{S:aa}
theorem wI (hh:X.A.handled=gV)(hu:X.A.units+12 < cLine):LCall X (.builtin "min") ww:=by
 intro pins s σ H A S xs vs us w S' I so rl rv e;cases rl with
 | nil=>cases e
 | cons r t=>
  cases t with
  | cons _ _=>cases r <;> cases e
  | nil=>
   cases rv with
   | cons ru rv2=>
    cases rv2;cases r with
    | ref ea=>
     simp only[ww]at e;split at e
     ·rename_i ws hw;split at e
      ·rename_i ks hk;split at e
       ·rename_i hc;rw[J0]at e;obtain⟨w',e1,e2⟩:=e;cases e2;obtain⟨vs',h1,r1⟩:=bN so hw ea;obtain⟨its,rv1,p,hz⟩:=I.list h1;obtain rfl:_=KO _:=ru;have hws:T.ws ks=ws:=W.ts_w hk;have hT:IsTs s.heap ks its:=fN I ks (hws ▸ r1) rv1;have hl:its.length=ks.length:=hT.length.symm;have hlw:ws.length=ks.length:=by rw[r1.length,L2.Vals.length rv1,hl]
        have hn:0 < ks.length:=by
         have:=(J9.mp e1).1;omega
        refine yw (items:=its.toArray) (bt:=mV ks) hh p.isList (by simpa [hl]using hn) (λi j vi vj s' Q E hk' hi hj hq=>?_) λv h' tk hv hk'=>?_
        ·have hi':i < ks.length:=by
          have:=(LM.mp hi).1
          simpa [hl]using this
         have hj':j < ks.length:=by
          have:=(LM.mp hj).1
          simpa [hl]using this
         have g:=hT.kept (h':=s'.heap) λb o _ e=>hk' b o e
         have e1:vi=its[i]'(by omega):=by
          have:=(LM.mp hi).2
          simpa using this.symm
         have e2:vj=its[j]'(by omega):=by
          have:=(LM.mp hj).2
          simpa using this.symm
         subst e1 e2;have b1:=cK (ks:=ks) i hi';have b2:=cK (ks:=ks) j hj';exact Gv ci _ _ _ _ X.A.in1 s' _ (by omega) (by omega) (g.get i hi' (by omega)) (g.get j hj' (by omega)) (by rw[bh]; unfold ci; omega) (dW hc.2 hi' hj') X.prog X.w _ _ hq
        ·have hv':its[iA ks]?=ba v:=by
          have:its.toArray.size=ks.length:=by simpa using hl
          rw[this]at hv
          simpa [iA]using hv
         obtain⟨v',q1,q2⟩:=r1.get e1;obtain⟨u',q3,q4⟩:=L2.Vals.get rv1 q1;rw[hv']at q3;cases q3;exact⟨v',H,A,I.kept hk',q4,.refl,so,q2⟩
       ·cases e
      ·cases e
     ·cases e
    | _=>cases e
theorem oE:∀ {ws:JT W} {bs:JT KD},iB ws=ba bs->ws=bs.map W.bl
 | [],bs,h=>by cases h; rfl
 | .bl b::ws,bs,h=>by
  simp only[iB,J0]at h;obtain⟨r,h1,h2⟩:=h;subst h2;rw[oE h1]; rfl
 | .non::_,_,h|.int _::_,_,h|.str _::_,_,h|.tup _::_,_,h|.ref _::_,_,h=>by cases h
theorem tP {bs:JT KD}{vs:JT V}{us:JT JW}(r:RelL X.K A H (bs.map W.bl) vs)(rv:Vals vs us):us=bs.map Nl:=by
 induction bs generalizing vs us with
 | nil=>cases r; cases rv; rfl
 | cons b bs ih=>
  cases r with
  | cons r1 r2=>
   cases rv with
   | cons v1 v2=>
    cases r1;obtain rfl:_=Nl b:=v1;rw[ih r2 v2]; rfl
theorem wJ (bs:JT KD):(KA bs.length).all (λi=>bs.getD i false)=bs.all id:=by
 induction bs with
 | nil=>rfl
 | cons b bs ih=>simp[Pr,SD,Ra]at ih ⊢; rw[ih]
theorem En {id:LB}{fb:JT KD->KD}{g:JT W->aa->J1 (W×aa)}(hg:∀xs S,g xs S=match xs with|[.ref i]=>(match gf S i with|some ws=>(iB ws).map λbs=>(.bl (fb bs),S)|none=>gV)|_=>gV)
  (hcall:∀ {s:JY} {x:JW} {Q:JW->JY->Prop} {E:JW->JY->Prop} {bs:JT KD},wpAny (model X.prog X.w) X.A.in1 (pyIter x) (λit s₂=>∃I fp wr P St,it=.ref I/\Ry X.prog X.w X.A.in1 I fp wr bs.length P St/\St 0 s₂.heap/\TruthOf X.prog X.w X.A.in1 P (λi=>bs.getD i false)/\
   ∀h' tk,(∀b o,b∉wr->s₂.heap.get? b=ba o->h'.get? b=ba o)->Q (.bool (fb bs)) { s₂ with heap:=h',toks:=tk }) E s->wpAny (model X.prog X.w) X.A (call (.builtin id) [x]) Q E s)
  (hh:X.A.handled=gV):LCall X (.builtin id) g:=by
 intro pins s σ H A S xs vs us w S' I so rl rv e;rw[hg]at e;cases rl with
 | nil=>cases e
 | cons r t=>
  cases t with
  | cons _ _=>cases r <;> cases e
  | nil=>
   cases rv with
   | cons ru rv2=>
    cases rv2;cases r with
    | @ref ri ad ea=>
     simp only at e;split at e
     ·rename_i ws hw;rw[J0]at e;obtain⟨bs,e1,e2⟩:=e;cases e2;obtain⟨vs',h1,r1⟩:=bN so hw ea;obtain⟨its,rv1,p,hz⟩:=I.list h1;obtain rfl:_=KO _:=ru;rw[oE e1]at r1;have hits:=tP r1 rv1;refine hcall (bs:=bs) ?_;refine Nh p.isList ?_;have hlt:ad < s.heap.objs.size:=by obtain⟨_,ho,_⟩:=p.isList; exact Kl ho
      have W:=R3 (prog:=X.prog) (w:=X.w) (A:=X.A.in1) hh s.heap.objs.size ad (Kt hlt) its.toArray;have hsz:its.toArray.size=bs.length:=by rw[Kg,hits,JV]
      rw[hsz]at W;refine⟨_,_,_,_,_,rfl,W,⟨⟨_,Ke _ rfl,rfl,rfl⟩,?_⟩,λi v s' Q E hi hq=>?_,λh' tk hk=>?_⟩
      ·obtain⟨o,ho,hc⟩:=p.isList;exact⟨o,JX _ ho,hc⟩
      ·have hb:bs[i]?.map Nl=ba v:=by rw[<- J6,<- hits]; simpa using hi
       cases q:bs[i]? with
       | none=>rw[q]at hb; cases hb
       | some b=>
        rw[q]at hb;cases hb;have eb:bs.getD i false=b:=by simp[q]
        have hq:Q (bs.getD i false) s':=hq;rw[eb]at hq;exact Mp hq
      ·refine⟨.bl (fb bs),H,A,I.kept (λb o e=>hk b o (λz=>?_) (JX _ e)),rfl,.refl,so,.bl⟩
       have hb:=Kl e;rw[Kk.mp z]at hb;exact LA _ hb
     ·cases e
    | _=>cases e
theorem wK (hh:X.A.handled=gV):LCall X (.builtin "all") El:=
 En (fb:=λbs=>bs.all id) (λxs S=>rfl) (λ{s x Q E bs} h=>call_all_walk (L0 h (λit s₂ ⟨I,fp,wr,P,St',a,b,c,d,f⟩=>⟨I,fp,wr,_,P,St',_,a,b,c,d,λh' tk hk=>by rw[wJ]; exact f h' tk hk⟩) λ_ _ e=>e)) hh
end
noncomputable abbrev FA:=Fm->aa->J1 (JT W×aa)
noncomputable abbrev FT:=Fm->aa->J1 (KD×aa)
inductive Out where
 | nx (ρ:Fm)|rt (w:W)|bk (ρ:Fm)|ct (ρ:Fm)
noncomputable abbrev FS:=Fm->aa->J1 (Out×aa)
section
variable (X:Cx)
noncomputable def tE (f:FE):TE:=λσ H Q=>∃A ρ S w S',EnvRel X.K A H ρ σ/\StoreOk X.w X.K A H S/\f ρ S=ba (w,S')/\∀v H',EndV X.w X.K A H S' w v H'->Q v H'
noncomputable def EndB (A:JT J4)(H:Hp)(S':aa)(k:KD):KD->Hp->Prop:=λb H'=>b=k/\∃A',Ext X.K A H A' H'/\StoreOk X.w X.K A' H' S'
noncomputable def tT (f:FT):TT:=λσ H Q=>∃A ρ S k S',EnvRel X.K A H ρ σ/\StoreOk X.w X.K A H S/\f ρ S=ba (k,S')/\∀b H',EndB X A H S' k b H'->Q b H'
noncomputable def Eo (A:JT J4)(H:Hp)(S':aa)(ws:JT W):JT V->Hp->Prop:=λvs H'=>∃A',Ext X.K A H A' H'/\StoreOk X.w X.K A' H' S'/\RelL X.K A' H' ws vs
noncomputable def tA (f:FA):TA:=λσ H Q=>∃A ρ S ws S',EnvRel X.K A H ρ σ/\StoreOk X.w X.K A H S/\f ρ S=ba (ws,S')/\∀vs H',Eo X A H S' ws vs H'->Q vs H'
noncomputable def EndS (A:JT J4)(H:Hp)(o:Out)(S':aa):Ends where
 nx:=λσ' H'=>∃ρ' A',o=.nx ρ'/\Ext X.K A H A' H'/\StoreOk X.w X.K A' H' S'/\EnvRel X.K A' H' ρ' σ'
 rt:=λv H'=>∃w A',o=.rt w/\Ext X.K A H A' H'/\StoreOk X.w X.K A' H' S'/\Rel X.K A' H' w v
 bk:=λσ' H'=>∃ρ' A',o=.bk ρ'/\Ext X.K A H A' H'/\StoreOk X.w X.K A' H' S'/\EnvRel X.K A' H' ρ' σ'
 ct:=λσ' H'=>∃ρ' A',o=.ct ρ'/\Ext X.K A H A' H'/\StoreOk X.w X.K A' H' S'/\EnvRel X.K A' H' ρ' σ'
structure Imp (E D:Ends):Prop where
 nx:∀σ H,E.nx σ H->D.nx σ H
 rt:∀v H,E.rt v H->D.rt v H
 bk:∀σ H,E.bk σ H->D.bk σ H
 ct:∀σ H,E.ct σ H->D.ct σ H
noncomputable def tS (f:FS):TS:=λD σ H=>∃A ρ S o S',EnvRel X.K A H ρ σ/\StoreOk X.w X.K A H S/\f ρ S=ba (o,S')/\Imp (EndS X A H o S') D
noncomputable abbrev GE (e:Kw)(f:FE):Prop:=PE X e (tE X f)
noncomputable abbrev GT (e:Kw)(f:FT):Prop:=PT X e (tT X f)
noncomputable abbrev GW (e:Kw)(f:FT):Prop:=PW X e (tT X f)
noncomputable abbrev GA (es:JT Kw)(f:FA):Prop:=PA X es (tA X f)
noncomputable abbrev GS (st:MT)(f:FS):Prop:=PS X st (tS X f)
noncomputable abbrev GSs (sts:JT MT)(f:FS):Prop:=PSs X sts (tS X f)
end
theorem Imp.trans {E D F:Ends}(a:Imp E D)(b:Imp D F):Imp E F:=⟨λ_ _ h=>b.nx _ _ (a.nx _ _ h),λ_ _ h=>b.rt _ _ (a.rt _ _ h),λ_ _ h=>b.bk _ _ (a.bk _ _ h),λ_ _ h=>b.ct _ _ (a.ct _ _ h)⟩
section
variable{X:Cx}
theorem GE.of {e:Kw}{t:TE}{f:FE}(h:PE X e t)(hf:∀(σ:L2.St) (H:Hp) (A:JT J4) (ρ:Fm) (S:aa) (w:W) (S':aa),EnvRel X.K A H ρ σ->StoreOk X.w X.K A H S->f ρ S=ba (w,S')->∀Q:VK,(∀v H',EndV X.w X.K A H S' w v H'->Q v H')->t σ H Q):GE X e f:=
 λpins s σ H Q I ⟨A,ρ,S,w,S',er,so,e1,hq⟩=>h pins s σ H Q I (hf σ H A ρ S w S' er so e1 Q hq)
theorem GT.of {e:Kw}{t:TT}{f:FT}(h:PT X e t)(hf:∀(σ:L2.St) (H:Hp) (A:JT J4) (ρ:Fm) (S:aa) (k:KD) (S':aa),EnvRel X.K A H ρ σ->StoreOk X.w X.K A H S->f ρ S=ba (k,S')->∀Q:KD->Hp->Prop,(∀b H',EndB X A H S' k b H'->Q b H')->t σ H Q):GT X e f:=
 λpins s σ H Q I ⟨A,ρ,S,w,S',er,so,e1,hq⟩=>h pins s σ H Q I (hf σ H A ρ S w S' er so e1 Q hq)
theorem GW.of {e:Kw}{t:TT}{f:FT}(h:PW X e t)(hf:∀(σ:L2.St) (H:Hp) (A:JT J4) (ρ:Fm) (S:aa) (k:KD) (S':aa),EnvRel X.K A H ρ σ->StoreOk X.w X.K A H S->f ρ S=ba (k,S')->∀Q:KD->Hp->Prop,(∀b H',EndB X A H S' k b H'->Q b H')->t σ H Q):GW X e f:=
 λwh pins s σ H Q I ⟨A,ρ,S,w,S',er,so,e1,hq⟩=>h wh pins s σ H Q I (hf σ H A ρ S w S' er so e1 Q hq)
theorem GA.of {es:JT Kw}{t:TA}{f:FA}(h:PA X es t)(hf:∀(σ:L2.St) (H:Hp) (A:JT J4) (ρ:Fm) (S:aa) (ws:JT W) (S':aa),EnvRel X.K A H ρ σ->StoreOk X.w X.K A H S->f ρ S=ba (ws,S')->∀Q:JT V->Hp->Prop,(∀vs H',Eo X A H S' ws vs H'->Q vs H')->t σ H Q):GA X es f:=
 λpos pins s σ H Q I ⟨A,ρ,S,w,S',er,so,e1,hq⟩=>h pos pins s σ H Q I (hf σ H A ρ S w S' er so e1 Q hq)
theorem GS.of {st:MT}{t:TS}{f:FS}(h:PS X st t)(hf:∀(σ:L2.St) (H:Hp) (A:JT J4) (ρ:Fm) (S:aa) (o:Out) (S':aa),EnvRel X.K A H ρ σ->StoreOk X.w X.K A H S->f ρ S=ba (o,S')->∀D:Ends,Imp (EndS X A H o S') D->t D σ H):GS X st f:=
 λpins s σ H D I ⟨A,ρ,S,o,S',er,so,e1,hq⟩=>h pins s σ H D I (hf σ H A ρ S o S' er so e1 D hq)
theorem GSs.of {st:JT MT}{t:TS}{f:FS}(h:PSs X st t)(hf:∀(σ:L2.St) (H:Hp) (A:JT J4) (ρ:Fm) (S:aa) (o:Out) (S':aa),EnvRel X.K A H ρ σ->StoreOk X.w X.K A H S->f ρ S=ba (o,S')->∀D:Ends,Imp (EndS X A H o S') D->t D σ H):GSs X st f:=
 λpins s σ H D I ⟨A,ρ,S,o,S',er,so,e1,hq⟩=>h pins s σ H D I (hf σ H A ρ S o S' er so e1 D hq)
theorem EndV.after {A A1:JT J4}{H H1:Hp}{S':aa}{w:W}{v:V}{H':Hp}(e:Ext X.K A H A1 H1)(h:EndV X.w X.K A1 H1 S' w v H'):EndV X.w X.K A H S' w v H':=by
 obtain⟨A',x,y,z⟩:=h;exact⟨A',e.trans x,y,z⟩
theorem EndB.after {A A1:JT J4}{H H1:Hp}{S':aa}{k b:KD}{H':Hp}(e:Ext X.K A H A1 H1)(h:EndB X A1 H1 S' k b H'):EndB X A H S' k b H':=by
 obtain⟨h1,A',x,y⟩:=h;exact⟨h1,A',e.trans x,y⟩
theorem EndS.after {A A1:JT J4}{H H1:Hp}{S':aa}{o:Out}(e:Ext X.K A H A1 H1):Imp (EndS X A1 H1 o S') (EndS X A H o S'):=
 ⟨λ_ _ ⟨ρ',A',a,b,c,d⟩=>⟨ρ',A',a,e.trans b,c,d⟩,λ_ _ ⟨ρ',A',a,b,c,d⟩=>⟨ρ',A',a,e.trans b,c,d⟩,λ_ _ ⟨ρ',A',a,b,c,d⟩=>⟨ρ',A',a,e.trans b,c,d⟩,λ_ _ ⟨ρ',A',a,b,c,d⟩=>⟨ρ',A',a,e.trans b,c,d⟩⟩
noncomputable def fC (w:W):FE:=λ_ S=>ba (w,S)
noncomputable def fV (i:J3):FE:=λρ S=>match ρ[i]? with
 | some (ba w)=>ba (w,S)
 | _=>gV
theorem rL {e:Kw}{v:V}{w:W}(h:PE X e (tC v))(r:∀A H,Rel X.K A H w v):GE X e (fC w):=
 GE.of h λσ H A ρ S w' S' er so e Q hq=>by cases e; exact hq _ _ (.here so (r A H))
theorem IN {i:J3}{e:Kw}(h:PE X e (DB i)):GE X e (fV i):=GE.of h λσ H A ρ S w S' er so e Q hq=>by
 unfold fV at e;split at e
 ·rename_i w' hw;cases e;obtain⟨v,h1,h2⟩:=er.2 i _ hw;exact⟨v,h1,hq _ _ (.here so h2)⟩
 ·cases e
noncomputable def BK (g:W->W->aa->J1 (W×aa))(fa fb:FE):FE:=λρ S=>match fa ρ S with
 | some (x,S1)=>match fb ρ S1 with
  | some (y,S2)=>g x y S2
  | none=>gV
 | none=>gV
theorem HM {fa fb:FE}{g:W->W->aa->J1 (W×aa)}{ρ:Fm}{S:aa}{r:W×aa}(e:BK g fa fb ρ S=ba r):∃x S1 y S2,fa ρ S=ba (x,S1)/\fb ρ S1=ba (y,S2)/\g x y S2=ba r:=by
 unfold BK at e;split at e
 ·rename_i x S1 h1;split at e
  ·rename_i y S2 h2;exact⟨x,S1,y,S2,h1,h2,e⟩
  ·cases e
 ·cases e
theorem jb {fa fb:FE}{ρ:Fm}{S S1 S2:aa}{x y:W}{σ:L2.St}{H:Hp}{A:JT J4}{R:V->V->Hp->Prop}(er:EnvRel X.K A H ρ σ)(so:StoreOk X.w X.K A H S)(h1:fa ρ S=ba (x,S1))(h2:fb ρ S1=ba (y,S2))
  (h:∀a b H2 A2,Ext X.K A H A2 H2->StoreOk X.w X.K A2 H2 S2->Rel X.K A2 H2 x a->Rel X.K A2 H2 y b->R a b H2):tE X fa σ H λa H1=>tE X fb σ H1 λb H2=>R a b H2:=by
 refine⟨A,ρ,S,x,S1,er,so,h1,λa H1 ⟨A1,e1,o1,r1⟩=>?_⟩
 refine⟨A1,ρ,S1,y,S2,er.mono e1,o1,h2,λb H2 ⟨A2,e2,o2,r2⟩=>?_⟩
 exact h a b H2 A2 (e1.trans e2) o2 (r1.mono e2) r2
theorem LOp.opr {f:JW->JW->SQ JW}{g:W->W->aa->J1 (W×aa)}(h:LOp X f g):OpR X f (λa b H Q=>∃A S x y w S',StoreOk X.w X.K A H S/\Rel X.K A H x a/\Rel X.K A H y b/\g x y S=ba (w,S')/\∀v H',EndV X.w X.K A H S' w v H'->Q v H'):=by
 intro pins s σ H a b u v Q I ru rv ⟨A,S,x,y,w,S',so,rx,ry,e,hq⟩;exact bS (h pins s σ H A S x y a b u v w S' I so rx ru ry rv e) λu' s' ⟨v',H',A',I',r',e1,o1,z1⟩=>⟨v',H',I',r',hq v' H' ⟨A',e1,o1,z1⟩⟩
theorem C9 {a b:Kw}{op:QN}{pos:MB}{fa fb:FE}{g:W->W->aa->J1 (W×aa)}(ho:LOp X (binaryOp op) g)(ha:GE X a fa)(hb:GE X b fb):GE X (.BinOp a op b pos) (BK g fa fb):=
 GE.of (F7 ho.opr ha hb) λσ H A ρ S w S' er so e Q hq=>by
  obtain⟨x,S1,y,S2,h1,h2,h3⟩:=HM e;exact jb er so h1 h2 λa b H2 A2 e2 o2 r1 r2=>⟨A2,S2,x,y,w,S',o2,r1,r2,h3,λv H' z=>hq v H' (z.after e2)⟩
noncomputable def yM (fa:FE):FE:=λρ S=>match fa ρ S with
 | some (.int i,S1)=>ba (.int (-i),S1)
 | _=>gV
theorem yN {a:Kw}{pos:MB}{fa:FE}(ha:GE X a fa):GE X (.UnaryOp .USub a pos) (yM fa):=
 GE.of (F8 D0 ha) λσ H A ρ S w S' er so e Q hq=>by
  unfold yM at e;split at e
  ·rename_i i S1 h1;cases e;refine⟨A,ρ,S,_,_,er,so,h1,λv H1 ⟨A1,e1,o1,r1⟩=>?_⟩
   cases r1;exact⟨_,rfl,hq _ _ ⟨A1,e1,o1,.int⟩⟩
  ·cases e
noncomputable def BL (o:COp)(fa fb:FE):FE:=BK (eQ o) fa fb
theorem Er {a b:Kw}{o:COp}{pos:MB}{fa fb:FE}(hu:X.A.units+iu < cLine)(ha:GE X a fa)(hb:GE X b fb)(hm:behindInMarks o.py b=false):GE X (.Compare a [o.py] [b] pos) (BL o fa fb):=
 GE.of (Bb (rh hu o).opr ha hb hm) λσ H A ρ S w S' er so e Q hq=>by
  obtain⟨x,S1,y,S2,h1,h2,h3⟩:=HM e;exact jb er so h1 h2 λa b H2 A2 e2 o2 r1 r2=>⟨A2,S2,x,y,w,S',o2,r1,r2,h3,λv H' z=>hq v H' (z.after e2)⟩
noncomputable def yO (f:FE):FT:=λρ S=>match f ρ S with
 | some (.bl k,S')=>ba (k,S')
 | _=>gV
theorem Et {a b:Kw}{o:COp}{pos:MB}{fa fb:FE}(hu:X.A.units+iu < cLine)(ha:GE X a fa)(hb:GE X b fb)(hm:behindInMarks o.py b=false):GT X (.Compare a [o.py] [b] pos) (yO (BL o fa fb)):=
 GT.of (Bc (rh hu o).opr ha hb hm) λσ H A ρ S k S' er so e Q hq=>by
  unfold yO at e;split at e
  ·rename_i k' S'' h0;cases e;obtain⟨x,S1,y,S2,h1,h2,h3⟩:=HM h0;refine jb er so h1 h2 λa b H2 A2 e2 o2 r1 r2=>⟨A2,S2,x,y,_,_,o2,r1,r2,h3,λv H' ⟨A',z1,z2,z3⟩=>?_⟩
   cases z3;exact⟨k,rfl,hq _ _ ⟨rfl,A',e2.trans z1,z2⟩⟩
  ·cases e
noncomputable def gS (f:FE):FT:=λρ S=>match f ρ S with
 | some (w,S')=>(gh S' w).map λk=>(k,S')
 | none=>gV
theorem cW {e:Kw}{f:FE}(h:GE X e f)(he:∀whole,isTrue e X.env whole=(do let v <- whole; standAt e.pos; holding [v] (truthy v))):GT X e (gS f):=by
 intro pins s σ H Q I ⟨A,ρ,S,k,S',er,so,e1,hq⟩;unfold gS at e1;split at e1
 ·rename_i w S1 h1;rw[J0]at e1;obtain⟨k',ek,e2⟩:=e1;cases e2;refine isTrue_plain (bS (h pins s σ H (EndV X.w X.K A H _ w) I ⟨A,ρ,S,w,_,er,so,h1,λ_ _ z=>z⟩) λv s1 ⟨x,H1,I1,r1,A1,e1,o1,z1⟩=>?_) (he _)
  exact IL I1 o1 z1 r1 ek λs' I'=>⟨H1,I',hq _ _ ⟨rfl,A1,e1,o1⟩⟩
 ·cases e1
noncomputable def yP (f g:FT):FT:=λρ S=>match f ρ S with
 | some (true,S1)=>g ρ S1
 | some (false,S1)=>ba (false,S1)
 | none=>gV
noncomputable def Gw (f g:FT):FT:=λρ S=>match f ρ S with
 | some (true,S1)=>ba (true,S1)
 | some (false,S1)=>g ρ S1
 | none=>gV
noncomputable def BM (f:FT):FT:=λρ S=>match f ρ S with
 | some (k,S1)=>ba (!k,S1)
 | none=>gV
theorem yQ {f g:FT}{σ:L2.St}{H:Hp}{A:JT J4}{ρ:Fm}{S:aa}{k:KD}{S':aa}(er:EnvRel X.K A H ρ σ)(so:StoreOk X.w X.K A H S)(e:yP f g ρ S=ba (k,S'))(Q:KD->Hp->Prop)(hq:∀b H',EndB X A H S' k b H'->Q b H') :
  FQ (tT X f) (tT X g) σ H Q:=by
 unfold yP at e;split at e
 ·rename_i S1 h1;refine⟨A,ρ,S,true,S1,er,so,h1,λb H1 ⟨z0,A1,z1,z2⟩=>?_⟩
  subst z0;rw[Ks rfl];exact⟨A1,ρ,S1,k,S',er.mono z1,z2,e,λb H' q=>hq b H' (q.after z1)⟩
 ·rename_i S1 h1;cases e;refine⟨A,ρ,S,false,_,er,so,h1,λb H1 ⟨z0,A1,z1,z2⟩=>?_⟩
  subst z0;rw[KF Ku];exact hq _ _ ⟨rfl,A1,z1,z2⟩
 ·cases e
theorem BN {f g:FT}{σ:L2.St}{H:Hp}{A:JT J4}{ρ:Fm}{S:aa}{k:KD}{S':aa}(er:EnvRel X.K A H ρ σ)(so:StoreOk X.w X.K A H S)(e:Gw f g ρ S=ba (k,S'))(Q:KD->Hp->Prop)(hq:∀b H',EndB X A H S' k b H'->Q b H') :
  Jz (tT X f) (tT X g) σ H Q:=by
 unfold Gw at e;split at e
 ·rename_i S1 h1;cases e;refine⟨A,ρ,S,true,_,er,so,h1,λb H1 ⟨z0,A1,z1,z2⟩=>?_⟩
  subst z0;rw[Ks rfl];exact hq _ _ ⟨rfl,A1,z1,z2⟩
 ·rename_i S1 h1;refine⟨A,ρ,S,false,S1,er,so,h1,λb H1 ⟨z0,A1,z1,z2⟩=>?_⟩
  subst z0;rw[KF Ku];exact⟨A1,ρ,S1,k,S',er.mono z1,z2,e,λb H' q=>hq b H' (q.after z1)⟩
 ·cases e
theorem BO {a:Kw}{pos:MB}{f:FT}(h:GT X a f):GW X (.BoolOp .And [a] pos) f:=AU h
theorem Eu {a:Kw}{pos:MB}{f:FT}(h:GT X a f):GW X (.BoolOp .Or [a] pos) f:=DC h
theorem Ev {a b:Kw}{r:JT Kw}{pos:MB}{f g:FT}(h:GT X a f)(h2:GW X (.BoolOp .And (b::r) pos) g):GW X (.BoolOp .And (a::b::r) pos) (yP f g):=
 GW.of (DD h h2) λσ H A ρ S k S' er so e Q hq=>yQ er so e Q hq
theorem Gx {a b:Kw}{r:JT Kw}{pos:MB}{f g:FT}(h:GT X a f)(h2:GW X (.BoolOp .Or (b::r) pos) g):GW X (.BoolOp .Or (a::b::r) pos) (Gw f g):=
 GW.of (FR h h2) λσ H A ρ S k S' er so e Q hq=>BN er so e Q hq
theorem Ew {a:Kw}{pos:MB}{f:FT}(h:GT X a f):GT X (.UnaryOp .Not a pos) (BM f):=
 GT.of (DE h) λσ H A ρ S k S' er so e Q hq=>by
  unfold BM at e;split at e
  ·rename_i k1 S1 h1;cases e;refine⟨A,ρ,S,k1,_,er,so,h1,λb H1 ⟨z0,A1,z1,z2⟩=>?_⟩
   subst z0;exact hq _ _ ⟨rfl,A1,z1,z2⟩
  ·cases e
noncomputable def uY (f g:FE):FE:=λρ S=>match f ρ S with
 | some (.bl true,S1)=>g ρ S1
 | some (.bl false,S1)=>ba (.bl false,S1)
 | _=>gV
noncomputable def BP (f g:FE):FE:=λρ S=>match f ρ S with
 | some (.bl true,S1)=>ba (.bl true,S1)
 | some (.bl false,S1)=>g ρ S1
 | _=>gV
noncomputable def uZ (f:FE):FE:=λρ S=>match f ρ S with
 | some (.bl k,S1)=>ba (.bl (!k),S1)
 | _=>gV
theorem Ex {a:Kw}{op:Ts}{pos:MB}{f:FE}(h:GE X a f):GE X (.BoolOp op [a] pos) f:=DF h
theorem Ey {a b:Kw}{r:JT Kw}{pos:MB}{f g:FE}(h:GE X a f)(h2:GE X (.BoolOp .And (b::r) pos) g):GE X (.BoolOp .And (a::b::r) pos) (uY f g):=
 GE.of (DG h h2) λσ H A ρ S w S' er so e Q hq=>by
  unfold uY at e;split at e
  ·rename_i S1 h1;refine⟨A,ρ,S,_,S1,er,so,h1,λv H1 ⟨A1,z1,z2,z3⟩=>?_⟩
   cases z3;refine⟨true,rfl,?_⟩;rw[Ks rfl];exact⟨A1,ρ,S1,w,S',er.mono z1,z2,e,λb H' q=>hq b H' (q.after z1)⟩
  ·rename_i S1 h1;cases e;refine⟨A,ρ,S,_,_,er,so,h1,λv H1 ⟨A1,z1,z2,z3⟩=>?_⟩
   cases z3;refine⟨false,rfl,?_⟩;rw[KF Ku];exact hq _ _ ⟨A1,z1,z2,.bl⟩
  ·cases e
theorem Gy {a b:Kw}{r:JT Kw}{pos:MB}{f g:FE}(h:GE X a f)(h2:GE X (.BoolOp .Or (b::r) pos) g):GE X (.BoolOp .Or (a::b::r) pos) (BP f g):=
 GE.of (FW h h2) λσ H A ρ S w S' er so e Q hq=>by
  unfold BP at e;split at e
  ·rename_i S1 h1;cases e;refine⟨A,ρ,S,_,_,er,so,h1,λv H1 ⟨A1,z1,z2,z3⟩=>?_⟩
   cases z3;refine⟨true,rfl,?_⟩;rw[Ks rfl];exact hq _ _ ⟨A1,z1,z2,.bl⟩
  ·rename_i S1 h1;refine⟨A,ρ,S,_,S1,er,so,h1,λv H1 ⟨A1,z1,z2,z3⟩=>?_⟩
   cases z3;refine⟨false,rfl,?_⟩;rw[KF Ku];exact⟨A1,ρ,S1,w,S',er.mono z1,z2,e,λb H' q=>hq b H' (q.after z1)⟩
  ·cases e
theorem Ez {a:Kw}{pos:MB}{f:FE}(h:GE X a f):GE X (.UnaryOp .Not a pos) (uZ f):=
 GE.of (DH h) λσ H A ρ S w S' er so e Q hq=>by
  unfold uZ at e;split at e
  ·rename_i k1 S1 h1;cases e;refine⟨A,ρ,S,_,_,er,so,h1,λb H1 ⟨A1,z1,z2,z3⟩=>?_⟩
   cases z3;exact⟨_,rfl,hq _ _ ⟨A1,z1,z2,.bl⟩⟩
  ·cases e
noncomputable def BQ (c:FT)(f g:FE):FE:=λρ S=>match c ρ S with
 | some (true,S1)=>f ρ S1
 | some (false,S1)=>g ρ S1
 | none=>gV
theorem EA {c a b:Kw}{pos:MB}{fc:FT}{f g:FE}(hc:GT X c fc)(ha:GE X a f)(hb:GE X b g):GE X (.IfExp c a b pos) (BQ fc f g):=
 GE.of (xB hc ha hb) λσ H A ρ S w S' er so e Q hq=>by
  unfold BQ at e;split at e
  ·rename_i S1 h1;refine⟨A,ρ,S,_,S1,er,so,h1,λb H1 ⟨z0,A1,z1,z2⟩=>?_⟩
   subst z0;rw[Ks rfl];exact⟨A1,ρ,S1,w,S',er.mono z1,z2,e,λb H' q=>hq b H' (q.after z1)⟩
  ·rename_i S1 h1;refine⟨A,ρ,S,_,S1,er,so,h1,λb H1 ⟨z0,A1,z1,z2⟩=>?_⟩
   subst z0;rw[KF Ku];exact⟨A1,ρ,S1,w,S',er.mono z1,z2,e,λb H' q=>hq b H' (q.after z1)⟩
  ·cases e
noncomputable def jO:FA:=λ_ S=>ba ([],S)
noncomputable def eF (f:FE)(g:FA):FA:=λρ S=>match f ρ S with
 | some (w,S1)=>match g ρ S1 with
  | some (ws,S2)=>ba (w::ws,S2)
  | none=>gV
 | none=>gV
theorem EB:GA X [] jO:=GA.of xI λσ H A ρ S ws S' er so e Q hq=>by cases e; exact hq _ _ ⟨A,.refl,so,.nil⟩
theorem BR {e:Kw}{es:JT Kw}{f:FE}{g:FA}(h:GE X e f)(h2:GA X es g)(hs:starEach (e::es) X.env=(false,eval e X.env)::starEach es X.env):GA X (e::es) (eF f g):=
 GA.of (pc h h2 hs) λσ H A ρ S ws S' er so e Q hq=>by
  unfold eF at e;split at e
  ·rename_i w S1 h1;split at e
   ·rename_i ws2 S2 h2;cases e;refine⟨A,ρ,S,w,S1,er,so,h1,λv H1 ⟨A1,z1,z2,z3⟩=>?_⟩
    refine⟨A1,ρ,S1,ws2,_,er.mono z1,z2,h2,λvs H2 ⟨A2,y1,y2,y3⟩=>?_⟩
    exact hq _ _ ⟨A2,z1.trans y1,y2,.cons (z3.mono y1) y3⟩
   ·cases e
  ·cases e
noncomputable def yR (f:FA):FE:=λρ S=>match f ρ S with
 | some (ws,S1)=>sX S1 ws
 | none=>gV
noncomputable def yS (f:FA):FE:=λρ S=>match f ρ S with
 | some (ws,S1)=>mY S1 ws
 | none=>gV
theorem yT {es:JT Kw}{k:J3}{pos:MB}{f:FA}(h:GA X es f):GE X (.Tuple es k pos) (yR f):=
 GE.of (Ea h) λσ H A ρ S w S' er so e Q hq=>by
  unfold yR at e;split at e
  ·rename_i ws S1 h1;obtain⟨hl,rfl,rfl⟩:=uB e;refine⟨A,ρ,S,ws,_,er,so,h1,λvs H1 ⟨A1,z1,z2,z3⟩=>⟨by rw[<- z3.length]; exact hl,λp hp=>?_⟩⟩
   exact hq _ _ (EndV.after z1 (.tup z2 z3 hp))
  ·cases e
theorem yU {es:JT Kw}{pos:MB}{f:FA}(h:GA X es f):GE X (.List es pos) (yS f):=
 GE.of (Eb h) λσ H A ρ S w S' er so e Q hq=>by
  unfold yS at e;split at e
  ·rename_i ws S1 h1;obtain⟨hl,rfl,rfl⟩:=lc e;refine⟨A,ρ,S,ws,_,er,so,h1,λvs H1 ⟨A1,z1,z2,z3⟩=>⟨by rw[<- z3.length]; exact hl,λp hp=>?_⟩⟩
   exact hq _ _ (EndV.after z1 (.lst z2 z3 hp))
  ·cases e
noncomputable def kF (g:JT W->aa->J1 (W×aa))(f:FA):FE:=λρ S=>match f ρ S with
 | some (ws,S1)=>g ws S1
 | none=>gV
theorem LCall.callr {v:JW}{g:JT W->aa->J1 (W×aa)}(h:LCall X v g):CallR X v (λvs H Q=>∃A S ws w S',StoreOk X.w X.K A H S/\RelL X.K A H ws vs/\g ws S=ba (w,S')/\∀v H',EndV X.w X.K A H S' w v H'->Q v H'):=by
 intro pins s σ H vs us Q I rv ⟨A,S,ws,w,S',so,rl,e,hq⟩;exact bS (h pins s σ H A S ws vs us w S' I so rl rv e) λu' s' ⟨v',H',A',I',r',e1,o1,z1⟩=>⟨v',H',I',r',hq v' H' ⟨A',e1,o1,z1⟩⟩
theorem oF {g:JT W->aa->J1 (W×aa)}{f:FA}{σ:L2.St}{H:Hp}{A:JT J4}{ρ:Fm}{S:aa}{w:W}{S':aa}(er:EnvRel X.K A H ρ σ)(so:StoreOk X.w X.K A H S)(e:kF g f ρ S=ba (w,S'))(Q:VK)(hq:∀v H',EndV X.w X.K A H S' w v H'->Q v H') :
  tA X f σ H λvs H1=>∃A S ws w S',StoreOk X.w X.K A H1 S/\RelL X.K A H1 ws vs/\g ws S=ba (w,S')/\∀v H',EndV X.w X.K A H1 S' w v H'->Q v H':=by
 unfold kF at e;split at e
 ·rename_i ws S1 h1;exact⟨A,ρ,S,ws,S1,er,so,h1,λvs H1 ⟨A1,z1,z2,z3⟩=>⟨A1,S1,ws,w,S',z2,z3,e,λv H' q=>hq v H' (q.after z1)⟩⟩
 ·cases e
theorem u4 {id:LB}{x:Kn}{e:Kw}{es:JT Kw}{p pos:MB}{f:FA}{g:JT W->aa->J1 (W×aa)}(hc:LCall X (.builtin id) g)(hg:Gl X x)(hm:X.mg x=gV)(hv:bootBuiltins x=ba (.builtin id))(ha:GA X (e::es) f)
  (hn:x≠"__name__") (hdb:(x==("__debug__" : Kn))=false) (hs:starEach (e::es) X.env=(false,eval e X.env)::starEach es X.env) (hpl:(backTo pos (starEach es X.env)).any (·.1)=false):GE X (.Call (.Name x p) (e::es) [] pos) (kF g f):=
 GE.of (qN hc.callr hg hm hv ha hn hdb hs hpl) λσ H A ρ S w S' er so e Q hq=>oF er so e Q hq
theorem rM {id:LB}{x:Kn}{e:Kw}{es:JT Kw}{p pos:MB}{f:FA}{g:JT W->aa->J1 (W×aa)}(hc:LCall X (.type id) g)(hg:Gl X x)(hm:X.mg x=gV)(hv:bootBuiltins x=ba (.type id))(ha:GA X (e::es) f)
  (hn:x≠"__name__") (hdb:(x==("__debug__" : Kn))=false) (hs:starEach (e::es) X.env=(false,eval e X.env)::starEach es X.env) (hpl:(backTo pos (starEach es X.env)).any (·.1)=false):GE X (.Call (.Name x p) (e::es) [] pos) (kF g f):=
 GE.of (vW hc.callr hg hm hv ha hn hdb hs hpl) λσ H A ρ S w S' er so e Q hq=>oF er so e Q hq
end
noncomputable def tyOk (T:LB)(S:aa):W->KD
 | .str _=>T == "str"
 | .ref i=>(T == "list" && (gf S i).isSome)||(T == "dict" && (kB S i).isSome)
 | _=>false
noncomputable def FL (T:LB)(g:W->JT W->aa->J1 (W×aa))(fo:FE)(f:FA):FE:=λρ S=>match fo ρ S with
 | some (x,S1)=>if tyOk T S1 x then match f ρ S1 with
  | some (ws,S2)=>g x ws S2
  | none=>gV
  else gV
 | none=>gV
noncomputable def IP (fa fb:FE):FE:=BK qH fa fb
noncomputable abbrev FO:=Fm->aa->J1 (J1 Kh×aa)
noncomputable def EC:FO:=λ_ S=>ba (gV,S)
noncomputable def u5 (f:FE):FO:=λρ S=>match f ρ S with
 | some (.int i,S1)=>ba (ba i,S1)
 | _=>gV
noncomputable def Gz (fa:FE)(fl fh:FO):FE:=λρ S=>match fa ρ S with
 | some (x,S1)=>match fl ρ S1 with
  | some (lo,S2)=>match fh ρ S2 with
   | some (hi,S3)=>pE x lo hi S3
   | none=>gV
  | none=>gV
 | none=>gV
section
variable{X:Cx}
theorem tyOk.is {pins:JT (J4×LJ)}{σ:L2.St}{s:JY}{A:JT J4}{H:Hp}{S:aa}{T:LB}{x:W}{a:V}{v:JW}(I:Inv X pins σ H s)(so:StoreOk X.w X.K A H S)(r:Rel X.K A H x a)(rv:RelV a v)(h:tyOk T S x=true) :
  s.TypeIs v T/\∀b,v=.ref b->∃ob,s.heap.get? b=ba ob/\ob.dict=gV:=by
 cases r with
 | str=>exact xR I rv (show IH X.K T (.str _) H from eq_of_beq h)
 | ref ea=>
  simp only[tyOk,LX,J2]at h;rcases h with⟨h1,h2⟩|⟨h1,h2⟩
  ·obtain⟨xs,hx⟩:=Lb.mp h2;obtain⟨vs,h3,_⟩:=bN so hx ea;exact xR I rv (show IH X.K T (.ref _) H from .inl ⟨eq_of_beq h1,vs,h3⟩)
  ·obtain⟨kvs,hx⟩:=Lb.mp h2;obtain⟨xs,rd,_⟩:=gm so hx ea;obtain⟨_,_,_,o,es,ep,q1,q2,q3,q4⟩:=cO I rd;have e:=eq_of_beq h1;subst e;obtain rfl:v=KO _:=rv;exact⟨⟨o,q1,q2.1⟩,λb e=>by cases e; exact⟨o,q1,q2.2.1⟩⟩
 | _=>cases h
theorem rN {o e:Kw}{es:JT Kw}{name:Kn}{apos cpos:MB}{T id:LB}{g:W->JT W->aa->J1 (W×aa)}{fo:FE}{f:FA}(pa:PlainAttrs T)(slot:Slot T name id)(hty:typeOf (.builtin id)=pure (.type "method_descriptor"))(hm:LMeth X id g)
  (ho:GE X o fo) (ha:GA X (e::es) f) (hbase:attributeBase o name X.env (eval o X.env)=eval o X.env)
  (hfew:((backTo cpos (starEach (e::es) X.env)).all (λx=>!x.1)&&(backToKw cpos (keywordEach [] X.env)).all (λx=>x.1.isSome)
   && decide ((e::es).length+([]:JT RL).length+(if ([]:JT RL).isEmpty then 0 else 1) < 30))=true)
  (hline:(apos.endLine==cpos.line)=true) (hs:starEach (e::es) X.env=(false,eval e X.env)::starEach es X.env) (hplain:(backTo cpos (starEach es X.env)).any (·.1)=false) :
  GE X (.Call (.Attribute o name apos) (e::es) [] cpos) (FL T g fo f):=by
 intro pins s σ H Q I ⟨A,ρ,S,w,S',er,so,e,hq⟩;unfold FL at e;split at e
 ·rename_i x S1 h1;split at e
  ·rename_i ht;split at e
   ·rename_i ws S2 h2;refine wpAny_Call_method_late hbase hfew hline rfl (bS (ho pins s σ H (EndV X.w X.K A H S1 x) I ⟨A,ρ,S,_,_,er,so,h1,λ_ _ z=>z⟩) λv s1 ⟨a,H1,I1,r1,A1,e1,o1,z1⟩=>?_)
    obtain⟨t1,t2⟩:=tyOk.is I1 o1 z1 r1 ht;refine⟨T,id,pa,slot,hty,t1,t2,?_⟩;have hA:=ha cpos pins s1 σ H1 (Eo X A1 H1 S2 ws) I1 ⟨A1,ρ,S1,ws,S2,er.mono e1,o1,h2,λ_ _ z=>z⟩
    rw[hs]at hA ⊢;refine Calls.callWith_builtin (by show(false||(backTo cpos (starEach es X.env)).any (·.1))=false; rw[hplain] <;> rfl) (Calls.evalArgs_plain ?_)
    refine bS hA λus s2 ⟨vs,H2,I2,r2,A2,e2,o2,z2⟩=>?_
    refine bS (hm pins s2 σ H2 A2 S2 x a v ws vs us w S' I2 o2 (z1.mono e2) r1 z2 r2 e) λu' s' ⟨v',H',A',I',r',e3,o3,z3⟩=>?_
    exact⟨v',H',I',r',hq v' H' ⟨A',(e1.trans e2).trans e3,o3,z3⟩⟩
   ·cases e
  ·cases e
 ·cases e
theorem LIx.ixr {g:W->W->aa->J1 (W×aa)}(h:LIx X g):IxR X (λa b H Q=>∃A S x y w S',StoreOk X.w X.K A H S/\Rel X.K A H x a/\Rel X.K A H y b/\g x y S=ba (w,S')/\∀v H',EndV X.w X.K A H S' w v H'->Q v H'):=by
 intro value slice pins s σ H a b u v Q I ru rv ⟨A,S,x,y,w,S',so,rx,ry,e,hq⟩ hs;exact bS (h value slice pins s σ H A S x y a b u v w S' I so rx ru ry rv e hs) λu' s' ⟨v',H',A',I',r',e1,o1,z1⟩=>⟨v',H',I',r',hq v' H' ⟨A',e1,o1,z1⟩⟩
theorem GB {a b:Kw}{pos:MB}{fa fb:FE}(hu:X.A.units+10 < cLine)(ha:GE X a fa)(hb:GE X b fb)(hs:pf b):GE X (.Subscript a b pos) (IP fa fb):=
 GE.of (Gk (IM hu).ixr ha hb hs) λσ H A ρ S w S' er so e Q hq=>by
  obtain⟨x,S1,y,S2,h1,h2,h3⟩:=HM e;exact jb er so h1 h2 λa b H2 A2 e2 o2 r1 r2=>⟨A2,S2,x,y,w,S',o2,r1,r2,h3,λv H' z=>hq v H' (z.after e2)⟩
noncomputable def tO (X:Cx)(f:FO):TO:=λσ H Q=>∃A ρ S k S',EnvRel X.K A H ρ σ/\StoreOk X.w X.K A H S/\f ρ S=ba (k,S')/\∀H' A',Ext X.K A H A' H'->StoreOk X.w X.K A' H' S'->Q k H'
noncomputable abbrev GO (X:Cx)(e:J1 Kw)(f:FO):Prop:=PO X e (tO X f)
theorem BS:GO X gV EC:=λpins s σ H Q I ⟨A,ρ,S,k,S',er,so,e,hq⟩=>by
 cases e;exact Bg pins s σ H Q I (hq H A .refl so)
theorem BU {e:Kw}{f:FE}(h:GE X e f):GO X (ba e) (u5 f):=λpins s σ H Q I ⟨A,ρ,S,k,S',er,so,e,hq⟩=>by
 unfold u5 at e;split at e
 ·rename_i i S1 h1;cases e;refine Bh h pins s σ H Q I ⟨A,ρ,S,_,_,er,so,h1,λv H1 ⟨A1,z1,z2,z3⟩=>?_⟩
  cases z3;exact⟨i,rfl,hq H1 A1 z1 z2⟩
 ·cases e
theorem LSl.slr {g:W->J1 Kh->J1 Kh->aa->J1 (W×aa)}(h:LSl X g):Gj X (λa lo hi H Q=>∃A S x w S',StoreOk X.w X.K A H S/\Rel X.K A H x a/\g x lo hi S=ba (w,S')/\∀v H',EndV X.w X.K A H S' w v H'->Q v H'):=by
 intro pins s σ H a v vl vu lo hi sl Q I rv hs pl pu ⟨A,S,x,w,S',so,rx,e,hq⟩;obtain⟨T,id,h1,h2,h3⟩:=h pins s σ H A S x a v vl vu lo hi sl w S' I so rx rv hs pl pu e;exact⟨T,id,h1,h2,bS h3 λu' s' ⟨v',H',A',I',r',e1,o1,z1⟩=>⟨v',H',I',r',hq v' H' ⟨A',e1,o1,z1⟩⟩⟩
theorem GC {a:Kw}{lo hi:J1 Kw}{p2 pos:MB}{fa:FE}{fl fh:FO}(ha:GE X a fa)(hl:GO X lo fl)(hh:GO X hi fh):GE X (.Subscript a (.Slice lo hi gV p2) pos) (Gz fa fl fh):=
 GE.of (xO JN.slr ha hl hh) λσ H A ρ S w S' er so e Q hq=>by
  unfold Gz at e;split at e
  ·rename_i x S1 h1;split at e
   ·rename_i l S2 h2;split at e
    ·rename_i h S3 h3;refine⟨A,ρ,S,x,S1,er,so,h1,λv H1 ⟨A1,z1,z2,z3⟩=>?_⟩
     refine⟨A1,ρ,S1,l,S2,er.mono z1,z2,h2,λH2 A2 y1 y2=>?_⟩
     refine⟨A2,ρ,S2,h,S3,er.mono (z1.trans y1),y2,h3,λH3 A3 x1 x2=>?_⟩
     exact⟨A3,S3,x,w,S',x2,(z3.mono y1).mono x1,e,λv H' q=>hq v H' (q.after ((z1.trans y1).trans x1))⟩
    ·cases e
   ·cases e
  ·cases e
noncomputable abbrev FF:=JT W->aa->J1 (W×aa)
noncomputable def yV (wd:KT)(K:Kb)(n:J3)(g:FF):Sp:=λvs H Q _=>∃A S ws w S',StoreOk wd K A H S/\RelL K A H ws vs/\ws.length=n/\g ws S=ba (w,S')/\∀v H',EndV wd K A H S' w v H'->Q v H'
noncomputable def rO (n:J3)(g:FF)(f:FA):FE:=λρ S=>match f ρ S with
 | some (ws,S1)=>if ws.length=n then g ws S1 else gV
 | none=>gV
theorem rP {n:J3}{g:FF}{f:FA}{σ:L2.St}{H:Hp}{A:JT J4}{ρ:Fm}{S:aa}{w:W}{S':aa}{E:XK}(er:EnvRel X.K A H ρ σ)(so:StoreOk X.w X.K A H S)(e:rO n g f ρ S=ba (w,S'))(Q:VK)(hq:∀v H',EndV X.w X.K A H S' w v H'->Q v H') :
  xK (yV X.w X.K n g) [] E (tA X f) σ H Q:=by
 unfold rO at e;split at e
 ·rename_i ws S1 h1;split at e
  ·rename_i hl;refine⟨A,ρ,S,ws,S1,er,so,h1,λvs H1 ⟨A1,z1,z2,z3⟩=>?_⟩
   show yV X.w X.K n g (vs++[]) H1 Q E;rw[LW];exact⟨A1,S1,ws,w,S',z2,z3,hl,e,λv H' q=>hq v H' (q.after z1)⟩
  ·cases e
 ·cases e
theorem ED {k n:J3}{fa:J4}{fd:MC}{ps:JT Kn}{g:FF}{x:Kn}{e:Kw}{es:JT Kw}{p pos:MB}{f:FA}(F:FnOk X.prog X.w X.K X.mg X.base xu k fa fd ps (yV X.w X.K n g))(hr:Room k X.A)(hg:Gl X x)(hm:X.mg x=ba (.ref fa))(hk:LL X.K (.ref fa)=true)
  (hb:Binds X.K fd ps []) (ha:GA X (e::es) f) (hdb:(x==("__debug__" : Kn))=false) (he:starEach (e::es) X.env=(false,eval e X.env)::starEach es X.env) (hpl:(backTo pos (starEach es X.env)).any (·.1)=false) :
  GE X (.Call (.Name x p) (e::es) [] pos) (rO n g f):=
 GE.of (Bd F hr hg hm hk hb .nil C5 ha hdb he hpl) λσ H A ρ S w S' er so e Q hq=>rP er so e Q hq
theorem BV {k n:J3}{fa:J4}{fd:MC}{ps:JT Kn}{g:FF}{x:Kn}{p pos:MB}(F:FnOk X.prog X.w X.K X.mg X.base xu k fa fd ps (yV X.w X.K n g))(hr:Room k X.A)(hg:Gl X x)(hm:X.mg x=ba (.ref fa))(hk:LL X.K (.ref fa)=true)
  (hb:Binds X.K fd ps []) (hdb:(x==("__debug__" : Kn))=false):GE X (.Call (.Name x p) [] [] pos) (rO n g jO):=
 GE.of (xM F hr hg hm hk hb .nil C5 hdb) λσ H A ρ S w S' er so e Q hq=>by
  obtain⟨A1,S1,ws,w1,S1',a1,a2,a3,a4,a5⟩:=rP (f:=jO) (E:=E0) er so e Q hq |> λ⟨A,ρ,S,ws,S',b1,b2,b3,b4⟩=>b4 [] H (by cases b3; exact⟨A,.refl,b2,.nil⟩)
  exact⟨A1,S1,ws,w1,S1',a1,a2,a3,a4,a5⟩
theorem BW:GSs X [] (λρ S=>ba (.nx ρ,S)):=GSs.of AV λσ H A ρ S o S' er so e D hd=>by cases e; exact hd.nx _ _ ⟨ρ,A,rfl,.refl,so,er⟩
noncomputable def BX (f g:FS):FS:=λρ S=>match f ρ S with
 | some (.nx ρ',S1)=>g ρ' S1
 | some (.rt w,S1)=>ba (.rt w,S1)
 | some (.bk ρ',S1)=>ba (.bk ρ',S1)
 | some (.ct ρ',S1)=>ba (.ct ρ',S1)
 | none=>gV
theorem yW {st:MT}{sts:JT MT}{f g:FS}(h:GS X st f)(h2:GSs X sts g):GSs X (st::sts) (BX f g):=GSs.of (xD h h2) λσ H A ρ S o S' er so e D hd=>by
 unfold BX at e;split at e
 ·rename_i ρ1 S1 h1;refine⟨A,ρ,S,_,_,er,so,h1,⟨λσ' H' ⟨ρ',A',e1,e2,e3,e4⟩=>?_,λv H' ⟨w,A',e1,_⟩=>(by cases e1),λv H' ⟨w,A',e1,_⟩=>(by cases e1),λv H' ⟨w,A',e1,_⟩=>(by cases e1)⟩⟩
  cases e1;exact⟨A',_,S1,o,S',e4,e3,e,(EndS.after e2).trans hd⟩
 ·rename_i w S1 h1;cases e;exact⟨A,ρ,S,_,_,er,so,h1,⟨λσ' H' ⟨w,A',e1,_⟩=>(by cases e1),hd.rt,hd.bk,hd.ct⟩⟩
 ·rename_i w S1 h1;cases e;exact⟨A,ρ,S,_,_,er,so,h1,⟨λσ' H' ⟨w,A',e1,_⟩=>(by cases e1),hd.rt,hd.bk,hd.ct⟩⟩
 ·rename_i w S1 h1;cases e;exact⟨A,ρ,S,_,_,er,so,h1,⟨λσ' H' ⟨w,A',e1,_⟩=>(by cases e1),hd.rt,hd.bk,hd.ct⟩⟩
 ·cases e
noncomputable def BY (f:FE):FS:=λρ S=>match f ρ S with
 | some (_,S1)=>ba (.nx ρ,S1)
 | none=>gV
theorem GD {e:Kw}{pos:MB}{f:FE}(h:GE X e f)(hs:swapsWith e gV pos.line X.env=pure false):GS X (.Expr e pos) (BY f):=GS.of (AX h hs) λσ H A ρ S o S' er so e D hd=>by
 unfold BY at e;split at e
 ·rename_i w S1 h1;cases e;exact⟨A,ρ,S,w,_,er,so,h1,λv H1 ⟨A1,z1,z2,z3⟩=>hd.nx _ _ ⟨ρ,A1,rfl,z1,z2,er.mono z1⟩⟩
 ·cases e
noncomputable def yX:FS:=λρ S=>ba (.nx ρ,S)
theorem EE {x:Kn}{j:J3}{pos pos':MB}:GS X (.Expr (.Constant (.str x) j pos) pos') yX:=GS.of DJ λσ H A ρ S o S' er so e D hd=>by cases e; exact hd.nx _ _ ⟨ρ,A,rfl,.refl,so,er⟩
theorem BZ {pos:MB}:GS X (.Pass pos) yX:=GS.of AW λσ H A ρ S o S' er so e D hd=>by cases e; exact hd.nx _ _ ⟨ρ,A,rfl,.refl,so,er⟩
theorem yY {pos:MB}:GS X (.Break pos) (λρ S=>ba (.bk ρ,S)):=GS.of xE λσ H A ρ S o S' er so e D hd=>by cases e; exact hd.bk _ _ ⟨ρ,A,rfl,.refl,so,er⟩
theorem B0 {pos:MB}:GS X (.Continue pos) (λρ S=>ba (.ct ρ,S)):=GS.of qK λσ H A ρ S o S' er so e D hd=>by cases e; exact hd.ct _ _ ⟨ρ,A,rfl,.refl,so,er⟩
noncomputable def B1 (f:FE):FS:=λρ S=>match f ρ S with
 | some (w,S1)=>ba (.rt w,S1)
 | none=>gV
theorem EF {e:Kw}{pos:MB}{f:FE}(h:GE X e f):GS X (.Return (ba e) pos) (B1 f):=GS.of (DK h) λσ H A ρ S o S' er so e D hd=>by
 unfold B1 at e;split at e
 ·rename_i w S1 h1;cases e;exact⟨A,ρ,S,w,_,er,so,h1,λv H1 ⟨A1,z1,z2,z3⟩=>hd.rt _ _ ⟨w,A1,rfl,z1,z2,z3⟩⟩
 ·cases e
theorem B2 {pos:MB}:GS X (.Return gV pos) (λρ S=>ba (.rt .non,S)):=GS.of AY λσ H A ρ S o S' er so e D hd=>by cases e; exact hd.rt _ _ ⟨_,A,rfl,.refl,so,.non⟩
noncomputable def B3 (c:FT)(f g:FS):FS:=λρ S=>match c ρ S with
 | some (true,S1)=>f ρ S1
 | some (false,S1)=>g ρ S1
 | none=>gV
theorem GF {c:Kw}{a b:JT MT}{pos:MB}{fc:FT}{f g:FS}(hc:GT X c fc)(ha:GSs X a f)(hb:GSs X b g):GS X (.If c a b pos) (B3 fc f g):=GS.of (F0 hc ha hb) λσ H A ρ S o S' er so e D hd=>by
 unfold B3 at e;split at e
 ·rename_i S1 h1;refine⟨A,ρ,S,_,S1,er,so,h1,λb H1 ⟨z0,A1,z1,z2⟩=>?_⟩
  subst z0;rw[Ks rfl];exact⟨A1,ρ,S1,o,S',er.mono z1,z2,e,(EndS.after z1).trans hd⟩
 ·rename_i S1 h1;refine⟨A,ρ,S,_,S1,er,so,h1,λb H1 ⟨z0,A1,z1,z2⟩=>?_⟩
  subst z0;rw[KF Ku];exact⟨A1,ρ,S1,o,S',er.mono z1,z2,e,(EndS.after z1).trans hd⟩
 ·cases e
noncomputable abbrev FG:=W->Fm->aa->J1 (Fm×aa)
noncomputable def tG (X:Cx)(f:FG):TG:=λv σ H Q=>∃A ρ S w ρ' S',EnvRel X.K A H ρ σ/\StoreOk X.w X.K A H S/\Rel X.K A H w v/\f w ρ S=ba (ρ',S')/\∀σ' H' A',Ext X.K A H A' H'->StoreOk X.w X.K A' H' S'->EnvRel X.K A' H' ρ' σ'->Q σ' H'
noncomputable abbrev GG (X:Cx)(tg:Kw)(f:FG):Prop:=PG X tg (tG X f)
noncomputable def B4 (i:J3):FG:=λw ρ S=>ba (ρ.set i (ba w),S)
theorem u6 {i:J3}{x:Kn}{pos:MB}(hN:X.N.Nodup)(hi:X.N[i]?=ba x)(hx:AS X.env.scope x)(hf:X.fn x=true\/X.env.scope.names.lookup x=ba .local):GG X (.Name x pos) (B4 i):=by
 intro pins s σ H v u Q I r ⟨A,ρ,S,w,ρ',S',er,so,rw',e,hq⟩;cases e;exact ur hN hi hx hf pins s σ H v u Q I r (hq _ _ A .refl so (er.set rw' i))
noncomputable def dB:JT J3->JT W->Fm->J1 Fm
 | [],[],ρ=>ba ρ
 | i::is,w::ws,ρ=>dB is ws (ρ.set i (ba w))
 | _,_,_=>gV
noncomputable def EG (is:JT J3):FG:=λw ρ S=>match w with
 | .tup ws=>(dB is ws ρ).map λρ'=>(ρ',S)
 | _=>gV
theorem wL:∀ {ts:JT Kw} {is:JT J3},(∀x∈ts,∃y p,x=.Name y p)->Pj (λ(t:Kw) (i:J3)=>∃x p,t=Qg x p/\X.N[i]?=ba x/\AS X.env.scope x/\(X.fn x=true\/X.env.scope.names.lookup x=ba .local)) ts is->X.N.Nodup->
  F1 X ts (λvs σ H Q=>∃A ρ ws ρ' S,EnvRel X.K A H ρ σ/\StoreOk X.w X.K A H S/\RelL X.K A H ws vs/\dB is ws ρ=ba ρ'/\∀σ',EnvRel X.K A H ρ' σ'->Q σ' H):=by
 intro ts
 induction ts with
 | nil=>
  intro is _ h hN;cases h;intro pins s σ H vs us Q I r ⟨A,ρ,ws,ρ',S,er,so,rl,e,hq⟩;cases rl with
  | nil=>cases e; exact AZ pins s σ H [] us Q I r ⟨rfl,hq _ er⟩
  | cons _ _=>cases e
 | cons t ts ih=>
  intro is hs h hN;cases h with
  | cons h1 h2=>
   obtain⟨x,p,rfl,hi,hl,hf⟩:=h1;have:=ih (λy hy=>hs y (Lp _ hy)) h2 hN
   intro pins s σ H vs us Q I r ⟨A,ρ,ws,ρ',S,er,so,rl,e,hq⟩;cases rl with
   | nil=>cases e
   | cons r1 r2=>
    refine xF (ur hN hi hl hf) this rfl pins s σ H _ us Q I r ⟨_,_,rfl,?_⟩;exact⟨A,_,_,ρ',S,er.set r1 _,so,r2,e,hq⟩
theorem EH {ts:JT Kw}{is:JT J3}{k:J3}{pos:MB}(hc:X.calm=true)(hs:∀x∈ts,∃y p,x=.Name y p)(h:Pj (λ(t:Kw) (i:J3)=>∃x p,t=Qg x p/\X.N[i]?=ba x/\AS X.env.scope x/\(X.fn x=true\/X.env.scope.names.lookup x=ba .local)) ts is)(hN:X.N.Nodup)
  (hn:(assignEach ts X.env).length=ts.length) (hst:(assignEach ts X.env).findIdx? (·.1)=gV):GG X (.Tuple ts k pos) (EG is):=by
 intro pins s σ H v u Q I r ⟨A,ρ,S,w,ρ',S',er,so,rw',e,hq⟩;unfold EG at e;split at e
 ·rw[J0]at e;obtain⟨ρ1,e1,e2⟩:=e;cases e2;cases rw' with
  | tup h1 r1=>
   have hl:∀(is:JT J3) (ws:JT W) (ρ ρ':Fm),dB is ws ρ=ba ρ'->is.length=ws.length:=by
    intro is
    induction is with
    | nil=>intro ws ρ ρ' e; cases ws <;> first|rfl|cases e
    | cons i is ih=>intro ws ρ ρ' e; cases ws <;> first|cases e|(simp; exact ih _ _ _ e)
   exact DO hc (wL hs h hN) hn hst pins s σ H _ u Q I r ⟨_,_,rfl,h1,by rw[<- r1.length,<- hl _ _ _ _ e1,<- O1 h],A,ρ,_,_,_,er,so,r1,e1,λσ' z=>hq _ _ A .refl so z⟩
 ·cases e
noncomputable def B5 (fo fi:FE):FG:=λw ρ S=>match fo ρ S with
 | some (o,S1)=>match fi ρ S1 with
  | some (i,S2)=>match i8 o i w S2 with
   | some S3=>ba (ρ,S3)
   | none=>gV
  | none=>gV
 | none=>gV
theorem LSet.pset {g:W->W->W->aa->J1 aa}(h:LSet X g):DN X (λao ai av H Q=>∃A S o i w S',StoreOk X.w X.K A H S/\Rel X.K A H o ao/\Rel X.K A H i ai/\Rel X.K A H w av/\g o i w S=ba S'/\∀H' A',Ext X.K A H A' H'->StoreOk X.w X.K A' H' S'->Q H'):=by
 intro pins s σ H ao ai av uo ui uv Q I ro ri rv ⟨A,S,o,i,w,S',so,r1,r2,r3,e,hq⟩;exact bS (h pins s σ H A S o i w ao ai av uo ui uv S' I so r1 ro r2 ri r3 rv e) λ_ s' ⟨H',A',I',e1,o1⟩=>⟨H',I',hq H' A' e1 o1⟩
theorem EI {o i:Kw}{pos:MB}{fo fi:FE}(hu:X.A.units+10 < cLine)(ho:GE X o fo)(hi:GE X i fi)(ha:∀v,assign (.Subscript o i pos) X.env v=(do
   let ov <- holding [v] (eval o X.env)
   let iv <- holding [v,ov] (eval i X.env)
   standAt pos
   holding [v,ov,iv] (setItem ov iv v)
   release [v,ov,iv] [])):GG X (.Subscript o i pos) (B5 fo fi):=by
 intro pins s σ H v u Q I r ⟨A,ρ,S,w,ρ',S',er,so,rw',e,hq⟩;unfold B5 at e;split at e
 ·rename_i o' S1 h1;split at e
  ·rename_i i' S2 h2;split at e
   ·rename_i S3 h3;cases e;refine DP ho hi (Gs hu).pset ha pins s σ H v u Q I r ?_;refine⟨A,ρ,S,o',S1,er,so,h1,λa H1 ⟨A1,e1,o1,r1⟩=>?_⟩
    refine⟨A1,ρ,S1,i',S2,er.mono e1,o1,h2,λb H2 ⟨A2,e2,o2,r2⟩=>?_⟩
    exact⟨A2,S2,o',i',w,_,o2,r1.mono e2,r2,rw'.mono (e1.trans e2),h3,λH' A' z1 z2=>hq σ H' A' ((e1.trans e2).trans z1) z2 (er.mono ((e1.trans e2).trans z1))⟩
   ·cases e
  ·cases e
 ·cases e
noncomputable def lV (f:FE)(g:FG):FS:=λρ S=>match f ρ S with
 | some (w,S1)=>match g w ρ S1 with
  | some (ρ',S2)=>ba (.nx ρ',S2)
  | none=>gV
 | none=>gV
theorem tQ {tg e:Kw}{pos:MB}{f:FE}{g:FG}(h:GE X e f)(hg:GG X tg g)(hs:swapsWithSole [tg] e pos.line X.env=pure false)(hw:swappedStores [tg] e X.env=pure gV)(h1:(assignEach [tg] X.env).map (·.2)=[assign tg X.env]) :
  GS X (.Assign [tg] e pos) (lV f g):=GS.of (DQ h hg hs hw h1) λσ H A ρ S o S' er so e D hd=>by
 unfold lV at e;split at e
 ·rename_i w S1 h1;split at e
  ·rename_i ρ1 S2 h2;cases e;refine⟨A,ρ,S,w,S1,er,so,h1,λv H1 ⟨A1,z1,z2,z3⟩=>?_⟩
   exact⟨A1,ρ,S1,w,ρ1,_,er.mono z1,z2,z3,h2,λσ' H' A' y1 y2 y3=>hd.nx _ _ ⟨ρ1,A',rfl,z1.trans y1,y2,y3⟩⟩
  ·cases e
 ·cases e
noncomputable def B6 (i j:J3)(f:FA):FS:=λρ S=>match f ρ S with
 | some ([x,y],S1)=>ba (.nx ((ρ.set i (ba x)).set j (ba y)),S1)
 | _=>gV
theorem EJ {i j:J3}{x y:Kn}{a b:Kw}{f:FA}{px py pt pos:MB}{kt k2:J3}{pt2:MB}(hc:X.calm=true)(hN:X.N.Nodup)(hi:X.N[i]?=ba x)(hj:X.N[j]?=ba y)(hij:i≠j)
  (hx:X.env.scope.names.lookup x=ba .local) (hy:X.env.scope.names.lookup y=ba .local) (ha:GA X [a,b] f)
  (hw:swappedStores [.Tuple [.Name x px,.Name y py] kt pt] (.Tuple [a,b] k2 pt2) X.env=pure (ba [x,y]))
  (hs:swapsWithSole [.Tuple [.Name x px,.Name y py] kt pt] (.Tuple [a,b] k2 pt2) pos.line X.env=pure false) :
  GS X (.Assign [.Tuple [.Name x px,.Name y py] kt pt] (.Tuple [a,b] k2 pt2) pos) (B6 i j f):=GS.of (DR hc hN hi hj hij hx hy ha hw hs) λσ H A ρ S o S' er so e D hd=>by
 unfold B6 at e;split at e
 ·rename_i x y S1 h1;cases e;refine⟨A,ρ,S,_,_,er,so,h1,λvs H1 ⟨A1,z1,z2,z3⟩=>?_⟩
  cases z3 with
  | cons r1 t=>
   cases t with
   | cons r2 t=>
    cases t;exact⟨_,_,rfl,hd.nx _ _ ⟨_,A1,rfl,z1,z2,((er.mono z1).set r1 i).set r2 j⟩⟩
 ·cases e
noncomputable def pV (c:FT)(b:FS):J3->FS
 | 0,_,_=>gV
 | n+1,ρ,S=>match c ρ S with
  | some (true,S1)=>match b ρ S1 with
   | some (.nx ρ',S2)=>pV c b n ρ' S2
   | some (.ct ρ',S2)=>pV c b n ρ' S2
   | some (.bk ρ',S2)=>ba (.nx ρ',S2)
   | some (.rt w,S2)=>ba (.rt w,S2)
   | none=>gV
  | some (false,S1)=>ba (.nx ρ,S1)
  | none=>gV
theorem yZ {c:Kw}{body:JT MT}{pos:MB}{fc:FT}{fb:FS}(n:J3)(hp:Qf (model X.prog X.w) X.A X.env X.xe)(hc:GT X c fc)(hb:GSs X body fb):GS X (.While c body [] pos) (pV fc fb n):=GS.of (xG hp hc hb) λσ H A ρ S o S' er so e D hd=>by
 refine⟨λm σ1 H1=>∃A1 ρ1 S1,Ext X.K A H A1 H1/\EnvRel X.K A1 H1 ρ1 σ1/\StoreOk X.w X.K A1 H1 S1/\pV fc fb m ρ1 S1=ba (o,S'),⟨n,A,ρ,S,.refl,er,so,e⟩,?_⟩
 rintro m σ1 H1 ⟨A1,ρ1,S1,e1,er1,so1,w1⟩;cases m with
 | zero=>cases w1
 | succ m=>
  simp only[pV]at w1;split at w1
  ·rename_i S2 h1;refine⟨A1,ρ1,S1,_,S2,er1,so1,h1,λb H2 ⟨z0,A2,z1,z2⟩=>?_⟩
   subst z0;rw[Ks rfl];refine⟨λσ3 H3=>∃A3 ρ3 S3,Ext X.K A H A3 H3/\EnvRel X.K A3 H3 ρ3 σ3/\StoreOk X.w X.K A3 H3 S3/\pV fc fb m ρ3 S3=ba (o,S'),λσ' H' h=>⟨m,L5 _,h⟩,?_⟩
   split at w1
   ·rename_i ρ3 S3 h3;refine⟨A2,ρ1,S2,_,S3,er1.mono z1,z2,h3,⟨λσ' H' ⟨ρ',A',y0,y1,y2,y3⟩=>?_,λv H' ⟨w,A',y0,_⟩=>(by cases y0),λv H' ⟨w,A',y0,_⟩=>(by cases y0),λv H' ⟨w,A',y0,_⟩=>(by cases y0)⟩⟩
    cases y0;exact⟨A',_,S3,(e1.trans z1).trans y1,y3,y2,w1⟩
   ·rename_i ρ3 S3 h3;refine⟨A2,ρ1,S2,_,S3,er1.mono z1,z2,h3,⟨λv H' ⟨w,A',y0,_⟩=>(by cases y0),λv H' ⟨w,A',y0,_⟩=>(by cases y0),λv H' ⟨w,A',y0,_⟩=>(by cases y0),λσ' H' ⟨ρ',A',y0,y1,y2,y3⟩=>?_⟩⟩
    cases y0;exact⟨A',_,S3,(e1.trans z1).trans y1,y3,y2,w1⟩
   ·rename_i ρ3 S3 h3;cases w1;refine⟨A2,ρ1,S2,_,_,er1.mono z1,z2,h3,⟨λv H' ⟨w,A',y0,_⟩=>(by cases y0),λv H' ⟨w,A',y0,_⟩=>(by cases y0),λσ' H' ⟨ρ',A',y0,y1,y2,y3⟩=>?_,λv H' ⟨w,A',y0,_⟩=>(by cases y0)⟩⟩
    cases y0;exact hd.nx _ _ ⟨_,A',rfl,(e1.trans z1).trans y1,y2,y3⟩
   ·rename_i w3 S3 h3;cases w1;refine⟨A2,ρ1,S2,_,_,er1.mono z1,z2,h3,⟨λv H' ⟨w,A',y0,_⟩=>(by cases y0),λv H' ⟨w,A',y0,y1,y2,y3⟩=>?_,λv H' ⟨w,A',y0,_⟩=>(by cases y0),λv H' ⟨w,A',y0,_⟩=>(by cases y0)⟩⟩
    cases y0;exact hd.rt _ _ ⟨_,A',rfl,(e1.trans z1).trans y1,y2,y3⟩
   ·cases w1
  ·rename_i S2 h1;cases w1;refine⟨A1,ρ1,S1,_,_,er1,so1,h1,λb H2 ⟨z0,A2,z1,z2⟩=>?_⟩
   subst z0;rw[KF Ku];exact hd.nx _ _ ⟨_,A2,rfl,e1.trans z1,z2,er1.mono z1⟩
  ·cases w1
end
set_option genInjectivity false in
inductive MI where
 | its (ws:JT W)
 | live (r:J3)
 | zl (r q:J3)
noncomputable def nh (xs ys:JT W):JT W:=Kv (λx y=>.tup [x,y]) xs ys
noncomputable def MI.at (S:aa)(i:J3):MI->J1 (J1 W)
 | .its ws=>ba ws[i]?
 | .live r=>match gf S r with
  | some xs=>ba xs[i]?
  | none=>gV
 | .zl r q=>match gf S r,gf S q with
  | some xs,ba ys=>ba (nh xs ys)[i]?
  | _,_=>gV
noncomputable def MI.len (S:aa):MI->J1 J3
 | .its ws=>ba ws.length
 | .live r=>(gf S r).map (·.length)
 | .zl r q=>match gf S r,gf S q with
  | some xs,ba ys=>ba (nh xs ys).length
  | _,_=>gV
noncomputable abbrev FI:=Fm->aa->J1 (MI×aa)
structure MIt (wd:KT)(K:Kb)(mi:MI)(J:It)(A0:JT J4)(H0:Hp):Prop where
 go:∀A H S i w,Ext K A0 H0 A H->StoreOk wd K A H S->mi.at S i=ba (ba w)->J.go i H/\∀x H',J.yld i H x H'->Ext K A H A H'/\StoreOk wd K A H' S/\Rel K A H' w x
 stop:∀A H S i,Ext K A0 H0 A H->StoreOk wd K A H S->mi.at S i=ba gV->J.stop i H
noncomputable def tI (X:Cx)(f:FI):TI:=λσ H R=>∃A ρ S mi S',EnvRel X.K A H ρ σ/\StoreOk X.w X.K A H S/\f ρ S=ba (mi,S')/\∀J H' A',Ext X.K A H A' H'->StoreOk X.w X.K A' H' S'->MIt X.w X.K mi J A' H'->R J H'
noncomputable abbrev GI (X:Cx)(tg iter:Kw)(f:FI):Prop:=PI X tg iter (tI X f)
noncomputable def B7 (f:FE):FI:=λρ S=>match f ρ S with
 | some (.tup ws,S1)=>ba (.its ws,S1)
 | some (.ref r,S1)=>match gf S1 r with
  | some _=>ba (.live r,S1)
  | none=>gV
 | _=>gV
noncomputable def du (lo:Kh)(n:J3):JT W:=(KA n).map λ(k:J3)=>.int (lo+(k:Kh))
noncomputable def tR (f:FA):FI:=λρ S=>match f ρ S with
 | some ([.int j],S1)=>if -(2 ^ 62)<=j/\j < 2 ^ 62 then ba (.its (du 0 j.toNat),S1)else gV
 | _=>gV
noncomputable def iRng2 (f:FA):FI:=λρ S=>match f ρ S with
 | some ([.int i,.int j],S1)=>if -(2 ^ 62)<=i/\i < 2 ^ 62/\-(2 ^ 62)<=j/\j < 2 ^ 62 then ba (.its (du i (j - i).toNat),S1)else gV
 | _=>gV
noncomputable def gn (mi:MI)(g:FG)(b:FS):J3->J3->FS
 | 0,i,ρ,S=>match mi.at S i with
  | some gV=>ba (.nx ρ,S)
  | _=>gV
 | n+1,i,ρ,S=>match mi.at S i with
  | some (ba w)=>match g w ρ S with
   | some (ρ1,S1)=>match b ρ1 S1 with
    | some (.nx ρ2,S2)=>gn mi g b n (i+1) ρ2 S2
    | some (.ct ρ2,S2)=>gn mi g b n (i+1) ρ2 S2
    | some (.bk ρ2,S2)=>ba (.nx ρ2,S2)
    | some (.rt w,S2)=>ba (.rt w,S2)
    | none=>gV
   | none=>gV
  | _=>gV
noncomputable def y4 (fi:FI)(g:FG)(b:FS):FS:=λρ S=>match fi ρ S with
 | some (mi,S1)=>match mi.len S1 with
  | some n=>gn mi g b n 0 ρ S1
  | none=>gV
 | none=>gV
section
variable{X:Cx}
theorem B8 {A:JT J4}{H:Hp}{ws:JT W}{a:J4}{vs:JT V}(h:SqT X.K H a vs)(r:RelL X.K A H ws vs):MIt X.w X.K (.its ws) (Ip X.K a) A H:=by
 refine⟨λA' H' S i w e so hi=>?_,λA' H' S i e so hi=>?_⟩
 ·simp only[MI.at,KL]at hi;obtain⟨v,h1,h2⟩:=(r.mono e).get hi;refine⟨⟨vs,v,e.tp _ _ h,h1⟩,λx H2 ⟨z1,z2⟩=>?_⟩
  subst z1;have:=z2 vs (e.tp _ _ h);rw[h1]at this; cases this
  exact⟨.refl,so,h2⟩
 ·simp only[MI.at,KL]at hi;refine⟨vs,e.tp _ _ h,?_⟩;rw[<- r.length];exact Lf.mp hi
theorem B9 {A:JT J4}{H:Hp}{r:J3}{a:J4}(ea:A[r]?=ba a):MIt X.w X.K (.live r) (Io X.K a) A H:=by
 refine⟨λA' H' S i w e so hi=>?_,λA' H' S i e so hi=>?_⟩
 ·simp only[MI.at]at hi;split at hi
  ·rename_i xs hx;simp only[KL]at hi;obtain⟨vs,h1,r1⟩:=bN so hx (e.ad _ _ ea);obtain⟨v,h2,h3⟩:=r1.get hi;refine⟨⟨vs,v,h1,h2⟩,λx H2 ⟨z1,z2⟩=>?_⟩
   subst z1;have:=z2 vs h1;rw[h2]at this; cases this
   exact⟨.refl,so,h3⟩
  ·cases hi
 ·simp only[MI.at]at hi;split at hi
  ·rename_i xs hx;simp only[KL]at hi;obtain⟨vs,h1,r1⟩:=bN so hx (e.ad _ _ ea);refine⟨vs,h1,?_⟩;rw[<- r1.length];exact Lf.mp hi
  ·cases hi
theorem eG {lo:Kh}{n i:J3}:(du lo n)[i]?=if i < n then ba (.int (lo+i))else gV:=by
 unfold du;rw[J6]
 by_cases h:i < n
 ·rw[Ks h,Mu h]; rfl
 ·rw[KF h,Lf.mpr (by simp; omega)]; rfl
theorem u7 {A:JT J4}{H:Hp}{lo:Kh}{n:J3}:MIt X.w X.K (.its (du lo n)) (F5 lo n) A H:=by
 refine⟨λA' H' S i w e so hi=>?_,λA' H' S i e so hi=>?_⟩
 ·simp only[MI.at,KL]at hi;rw[eG]at hi;split at hi
  ·cases hi;refine⟨by assumption,λx H2 ⟨z1,z2⟩=>?_⟩
   subst z1 z2;exact⟨.refl,so,.int⟩
  ·cases hi
 ·simp only[MI.at,KL]at hi;rw[eG]at hi;split at hi
  ·cases hi
  ·show n<=i;omega
theorem rQ {tg:Kw}{pins:JT (J4×LJ)}{σ:L2.St}{H1:Hp}{s1:JY}{R:It->Hp->Prop}{a:J4}{xs:JT V}{v:JW}(I1:Inv X pins σ H1 s1)(r1:RelV (.ref a) v)(hq:SqL X.K H1 a xs)(q:R (Io X.K a) H1) :
  wpAny (model X.prog X.w) X.A (pyIter v) (F4 X pins σ tg R) X.xe s1:=by
 cases r1;obtain⟨its,rv,p,hz⟩:=I1.list hq;refine Nh p.isList ?_;refine⟨s1.heap.objs.size,[s1.heap.objs.size],_,_,H1,rfl,I1.kept (t':=s1.toks) λb o e=>JX _ e,vR a _,⟨_,Ke _ rfl,rfl,rfl⟩,λb hb=>?_,q⟩
 have e:b=s1.heap.objs.size:=by simpa using hb
 subst e;exact I1.fpOk (J7 _) (I1.hok.fresh (J7 _))
theorem tU {tg:Kw}{pins:JT (J4×LJ)}{σ:L2.St}{H1:Hp}{s1:JY}{R:It->Hp->Prop}{a:J4}{xs:JT V}{v:JW}(I1:Inv X pins σ H1 s1)(r1:RelV (.ref a) v)(hq:SqT X.K H1 a xs)(q:R (Ip X.K a) H1) :
  wpAny (model X.prog X.w) X.A (pyIter v) (F4 X pins σ tg R) X.xe s1:=by
 cases r1;obtain⟨its,rv,p,hz⟩:=I1.tuple hq;refine QE (show s1.heap.IsTuple a its.toArray from p) ?_
 refine⟨s1.heap.objs.size,[s1.heap.objs.size],_,_,H1,rfl,I1.kept (t':=s1.toks) λb o e=>JX _ e,sO a _,⟨_,Ke _ rfl,rfl,rfl⟩,λb hb=>?_,q⟩
 have e:b=s1.heap.objs.size:=by simpa using hb
 subst e;exact I1.fpOk (J7 _) (I1.hok.fresh (J7 _))
theorem Cc {tg a:Kw}{f:FA}{p pos:MB}(hg:Gl X "range")(hm:X.mg "range" = gV)(ha:GA X [a] f)(hs:starEach [a] X.env=[(false,eval a X.env)]):GI X tg (.Call (.Name "range" p) [a] [] pos) (tR f):=by
 intro pins s σ H R I ⟨A,ρ,S,mi,S',er,so,e,hq⟩;unfold tR at e;split at e
 ·rename_i j S1 h1;split at e
  ·rename_i hj;cases e;refine vS hg hm ha hs pins s σ H R I ⟨A,ρ,S,_,_,er,so,h1,λvs H1 ⟨A1,z1,z2,z3⟩=>?_⟩
   cases z3 with
   | cons r1 t=>
    cases t;cases r1;exact⟨j,rfl,hj.1,hj.2,hq _ _ A1 z1 z2 u7⟩
  ·cases e
 ·cases e
theorem Cd {tg a b:Kw}{f:FA}{p pos:MB}(hg:Gl X "range")(hm:X.mg "range" = gV)(ha:GA X [a,b] f)(hs:starEach [a,b] X.env=[(false,eval a X.env),(false,eval b X.env)])(hs2:starEach [b] X.env=[(false,eval b X.env)]):GI X tg (.Call (.Name "range" p) [a,b] [] pos) (iRng2 f):=by
 intro pins s σ H R I ⟨A,ρ,S,mi,S',er,so,e,hq⟩;unfold iRng2 at e;split at e
 ·rename_i i j S1 h1;split at e
  ·rename_i hj;cases e;refine vT hg hm ha hs hs2 pins s σ H R I ⟨A,ρ,S,_,_,er,so,h1,λvs H1 ⟨A1,z1,z2,z3⟩=>?_⟩
   cases z3 with
   | cons r1 t=>
    cases t with
    | cons r2 t=>
     cases t;cases r1;cases r2;exact⟨i,j,rfl,hj,hq _ _ A1 z1 z2 u7⟩
  ·cases e
 ·cases e
theorem EK {tg l:Kw}{f:FE}(h:GE X l f):GI X tg l (B7 f):=by
 intro pins s σ H R I ⟨A,ρ,S,mi,S',er,so,e,hq⟩;unfold B7 at e;split at e
 ·rename_i ws S1 h1;cases e;refine bS (h pins s σ H (EndV X.w X.K A H _ (.tup ws)) I ⟨A,ρ,S,_,_,er,so,h1,λ_ _ z=>z⟩) λv s1 ⟨x,H1,I1,r1,A1,e1,o1,z1⟩=>?_
  cases z1 with
  | tup hq1 rl=>
   refine tU I1 r1 hq1 (hq _ _ A1 e1 o1 (B8 hq1 rl))
 ·rename_i r S1 h1;split at e
  ·rename_i ys hy;cases e;refine bS (h pins s σ H (EndV X.w X.K A H _ (.ref r)) I ⟨A,ρ,S,_,_,er,so,h1,λ_ _ z=>z⟩) λv s1 ⟨x,H1,I1,r1,A1,e1,o1,z1⟩=>?_
   cases z1 with
   | ref ea=>
    obtain⟨vs,hl,_⟩:=bN o1 hy ea;exact rQ I1 r1 hl (hq _ _ A1 e1 o1 (B9 ea))
  ·cases e
 ·cases e
theorem EL {tg iter:Kw}{body:JT MT}{pos:MB}{fi:FI}{g:FG}{fb:FS}(hp:Qf (model X.prog X.w) X.A X.env X.xe)(hc:X.calm=true)(hi:GI X tg iter fi)(hg:GG X tg g)(hb:GSs X body fb)
  (hs:∀x,foldedSetIterable iter X.env x=pure x):GS X (.For tg iter body [] pos) (y4 fi g fb):=GS.of (DT hp hc hi hg hb hs) λσ H A ρ S o S' er so e D hd=>by
 unfold y4 at e;split at e
 ·rename_i mi S1 h1;split at e
  ·rename_i n hn;refine⟨A,ρ,S,mi,S1,er,so,h1,λJ H1 A1 z1 z2 mit=>?_⟩
   refine⟨λi m σ2 H2=>∃A2 ρ2 S2,Ext X.K A1 H1 A2 H2/\EnvRel X.K A2 H2 ρ2 σ2/\StoreOk X.w X.K A2 H2 S2/\gn mi g fb m i ρ2 S2=ba (o,S'),⟨n,A1,ρ,S1,.refl,er.mono z1,z2,e⟩,?_⟩
   rintro i m σ2 H2 ⟨A2,ρ2,S2,e2,er2,so2,w2⟩;cases m with
   | zero=>
    simp only[gn]at w2;split at w2
    ·rename_i hs;cases w2;exact .inl ⟨mit.stop A2 H2 _ i e2 so2 hs,hd.nx _ _ ⟨_,A2,rfl,z1.trans e2,so2,er2⟩⟩
    ·cases w2
   | succ m=>
    simp only[gn]at w2;split at w2
    ·rename_i w hw;obtain⟨go,yl⟩:=mit.go A2 H2 S2 i w e2 so2 hw;refine .inr ⟨go,λσ3 H3=>∃A3 ρ3 S3,Ext X.K A1 H1 A3 H3/\EnvRel X.K A3 H3 ρ3 σ3/\StoreOk X.w X.K A3 H3 S3/\gn mi g fb m (i+1) ρ3 S3=ba (o,S'),λσ' H' h=>⟨m,L5 _,h⟩,λx H3 hy=>?_⟩
     obtain⟨x1,x2,x3⟩:=yl x H3 hy;split at w2
     ·rename_i ρ3 S3 h3;refine⟨A2,ρ2,S2,w,ρ3,S3,er2.mono x1,x2,x3,h3,λσ4 H4 A4 y1 y2 y3=>?_⟩
      have ex:Ext X.K A1 H1 A4 H4:=(e2.trans x1).trans y1;split at w2
      ·rename_i ρ5 S5 h5;refine⟨A4,ρ3,S3,_,S5,y3,y2,h5,⟨λσ' H' ⟨ρ',A',u0,u1,u2,u3⟩=>?_,λv H' ⟨w,A',y0,_⟩=>(by cases y0),λv H' ⟨w,A',y0,_⟩=>(by cases y0),λv H' ⟨w,A',y0,_⟩=>(by cases y0)⟩⟩
       cases u0;exact⟨A',_,S5,ex.trans u1,u3,u2,w2⟩
      ·rename_i ρ5 S5 h5;refine⟨A4,ρ3,S3,_,S5,y3,y2,h5,⟨λv H' ⟨w,A',y0,_⟩=>(by cases y0),λv H' ⟨w,A',y0,_⟩=>(by cases y0),λv H' ⟨w,A',y0,_⟩=>(by cases y0),λσ' H' ⟨ρ',A',u0,u1,u2,u3⟩=>?_⟩⟩
       cases u0;exact⟨A',_,S5,ex.trans u1,u3,u2,w2⟩
      ·rename_i ρ5 S5 h5;cases w2;refine⟨A4,ρ3,S3,_,_,y3,y2,h5,⟨λv H' ⟨w,A',y0,_⟩=>(by cases y0),λv H' ⟨w,A',y0,_⟩=>(by cases y0),λσ' H' ⟨ρ',A',u0,u1,u2,u3⟩=>?_,λv H' ⟨w,A',y0,_⟩=>(by cases y0)⟩⟩
       cases u0;exact hd.nx _ _ ⟨_,A',rfl,(z1.trans ex).trans u1,u2,u3⟩
      ·rename_i w5 S5 h5;cases w2;refine⟨A4,ρ3,S3,_,_,y3,y2,h5,⟨λv H' ⟨w,A',y0,_⟩=>(by cases y0),λv H' ⟨w,A',u0,u1,u2,u3⟩=>?_,λv H' ⟨w,A',y0,_⟩=>(by cases y0),λv H' ⟨w,A',y0,_⟩=>(by cases y0)⟩⟩
       cases u0;exact hd.rt _ _ ⟨_,A',rfl,(z1.trans ex).trans u1,u2,u3⟩
      ·cases w2
     ·cases w2
    ·cases w2
  ·cases e
 ·cases e
end
section
variable{prog:KJ}{w:KT}{B:KP}{E:JW->JY->Prop}{s:JY}
theorem Ce {d:J4}{es:KC Mr}{ep:J3}{Q:JW->JY->Prop}(hd:(d==sysModules)=false)(hm:RawD d es ep s.heap)(hfit:(es.size:Kh) < 2 ^ 63)
  (h:Q (.int es.size (s.toks+1)) { s with toks:=s.toks+1+1 }):wpAny (model prog w) B (call (.builtin "len") [.ref d]) Q E s:=by
 have hT:=hm.type;obtain⟨o,ho,hc,hdat⟩:=id hm;refine NA kind_len plain_len entry_len (args_len1 _) ?_;unfold Ng.«len»;refine JU (m:=oneArg "len" _) (JZ ?_);refine JU (m:=callSpecial? (.ref d) (Ml "__len__")) (Lk (name:=Ml "__len__") hT F.slot_dict_len (Ll F.slot_dict_len hT F.entry_dict_len ?_ (F.args_dict_len_1 _)));show wpAny _ _ (dictSize d >>= _) _ _ s;unfold dictSize;refine JU (JU (N2 ho hdat (JZ ?_)));show wpAny _ _ (R9 d >>= _) _ _ s;refine JU (wpAny_pendingCount_other hd ?_);refine wpAny_ret_mkInt ?_;rw[Nat.add_zero];show wpAny _ _ _ _ _ { s with toks:=s.toks+1 }
 refine JU (Li (JZ ?_));refine JU (NS ?_);show wpAny _ _ (if ((es.size:J3):Kh) < 0 then _ else _) _ _ _
 rw[KF (by omega)]
 show wpAny _ _ (if ((es.size:J3):Kh)>=2 ^ 63 then _ else _) _ _ _
 rw[KF (by omega)]
 exact JU (Ta (JZ ⟨_,rfl,h⟩))
end
section
variable{X:Cx}{pins:JT (J4×LJ)}{σ:L2.St}{H:Hp}{s:JY}{A:JT J4}{S:aa}
theorem tV:LCall X (.builtin "len") tD:=by
 intro pins s σ H A S xs vs us w S' I so rl rv e
 by_cases hd:∃i kvs,xs=[.ref i]/\kB S i=ba kvs
 ·obtain⟨i,kvs,rfl,hk⟩:=hd;simp only[tD,hk]at e;cases e;cases rl with
  | cons r t=>
   cases t;cases rv with
   | cons ru rv2=>
    cases rv2;cases r with
    | ref ea=>
     obtain⟨xs,rd,kr⟩:=gm so hk ea;have d:=cO I rd;obtain⟨es,ep,raw,he⟩:=d.raw;obtain rfl:_=KO _:=ru;have hl:es.size=xs.length:=by rw[<- Ki,he,JV]
     have hz:=d.1;have hs:sizeLine=16777216:=K8;refine Ce d.2.1 raw (by omega) ⟨.int kvs.length,H,A,I.tok _,⟨_,by rw[kr.length,hl]⟩,.refl,so,.int⟩
 ·have:tD xs S=sZ xs S:=by
   unfold tD;split
   ·rename_i i;split
    ·rename_i kvs hk;exact absurd ⟨i,kvs,rfl,hk⟩ hd
    ·rfl
   ·rfl
  rw[this]at e;exact we pins s σ H A S xs vs us w S' I so rl rv e
noncomputable def JC (S:aa):W->J1 LB
 | .non=>ba "NoneType"|.bl _=>ba "bool"|.int _=>ba "int"|.str _=>ba "str"|.tup _=>ba "tuple"
 | .ref i=>match gf S i with
  | some _=>ba "list"
  | none=>(kB S i).map λ_=>"dict"
noncomputable def u8:JT LB:=["bool","int","str","tuple","list","dict"]
noncomputable def y6 (S:aa)(x:W)(c:LB):J1 KD:=match JC S x with
 | some t=>if u8.contains c then ba (t==c||(t == "bool" && c == "int"))else gV
 | none=>gV
theorem iC {K:Kb}{t c:LB}(ht:t∈["NoneType","bool","int","str","tuple","list","dict"])(hc:c∈u8):PySem.W.kitOne K (.type t) (.type c)=ba (t==c||(t == "bool" && c == "int")):=by
 simp only[u8,Kz,Lg,ME]at ht hc;rcases ht with rfl|rfl|rfl|rfl|rfl|rfl|rfl <;> rcases hc with rfl|rfl|rfl|rfl|rfl|rfl <;> rfl
theorem y8:CallR X (.builtin "isinstance") (λvs H Q=>∃A S x v c b,vs=[v,.ty c]/\StoreOk X.w X.K A H S/\Rel X.K A H x v/\y6 S x c=ba b/\Q (.bl b) H):=by
 intro pins s σ H vs us Q I rv ⟨A,S,x,v,c,b,e1,so,rx,e2,hq⟩;subst e1;cases rv with
 | cons r1 rv2=>cases rv2 with
  | cons r2 rv3=>
   cases rv3;obtain rfl:_=LZ c:=r2;unfold y6 at e2;split at e2
   ·rename_i t ht;split at e2
    ·rename_i hc;cases e2;have hc':c∈u8:=by simpa using hc
     have fin:∀tk,EP X pins σ Q (.bool (t==c||(t == "bool" && c == "int"))) { s with toks:=tk }:=λtk=>⟨.bl _,H,I.tok _,rfl,hq⟩
     cases rx with
     | non=>cases ht; cases(show _=K7 from r1); exact ML PySem.W.kitx_none I.kIn N7 (iC (by simp) hc') (λz=>nomatch z) fin
     | bl=>cases ht; cases(show _=Nl _ from r1); exact ML PySem.W.kitx_bool I.kIn N7 (iC (by simp) hc') (λz=>nomatch z) fin
     | int=>cases ht; obtain⟨t',q⟩:=(show ∃t,_=Pa _ t from r1); cases q; exact ML PySem.W.kitx_int I.kIn N7 (iC (by simp) hc') (λz=>nomatch z) fin
     | str=>cases ht; obtain⟨t',q⟩:=(show ∃t,_=N5 _ t from r1); cases q; exact ML PySem.W.kitx_str I.kIn N7 (iC (by simp) hc') (λz=>nomatch z) fin
     | tup h1 r1'=>
      cases ht;obtain⟨its,rv,⟨o,q1,q2,_⟩,hz⟩:=I.tuple h1;cases(show _=KO _ from r1)
      exact ML PySem.W.kitx_tuple I.kIn ⟨o,q1,q2⟩ (iC (by simp) hc') (λz=>nomatch z) fin
     | ref ea=>
      cases(show _=KO _ from r1)
      simp only[JC]at ht;split at ht
      ·rename_i ws hw;cases ht;obtain⟨vs,h1,_⟩:=bN so hw ea;obtain⟨its,rv,p,hz⟩:=I.list h1;obtain⟨o,q1,q2,_⟩:=p.isList;exact ML PySem.W.kitx_list I.kIn ⟨o,q1,q2⟩ (iC (by simp) hc') (λz=>nomatch z) fin
      ·rw[J0]at ht;obtain⟨kvs,hk,rfl⟩:=ht;obtain⟨xs,rd,kr⟩:=gm so hk ea;obtain⟨es,ep,⟨o,q1,q2,_⟩,he⟩:=(cO I rd).raw;exact ML PySem.W.kitx_dict I.kIn ⟨o,q1,q2.1⟩ (iC (by simp) hc') (λz=>nomatch z) fin
    ·cases e2
   ·cases e2
noncomputable def y9 (c:LB)(f:FE):FE:=λρ S=>match f ρ S with
 | some (x,S1)=>(y6 S1 x c).map λb=>(.bl b,S1)
 | none=>gV
theorem EM {cn:Kn}{c:LB}{e:Kw}{p p2 pos:MB}{f:FE}(hg:Gl X "isinstance")(hm:X.mg "isinstance" = gV)(hg2:Gl X cn)(hm2:X.mg cn=gV)(hv2:bootBuiltins cn=ba (.type c))(hn2:cn≠"__name__")(hd2:(cn==("__debug__" : Kn))=false)
  (he:GE X e f) (hs:starEach [e,.Name cn p2] X.env=(false,eval e X.env)::starEach [.Name cn p2] X.env):GE X (.Call (.Name "isinstance" p) [e,.Name cn p2] [] pos) (y9 c f):=
 GE.of (qN (y8) hg hm rfl (pc he (pc (AT (v:=.ty c) hg2 hm2 hv2 rfl hn2 hd2) xI) hs) (by decide) (by decide) hs rfl) λσ H A ρ S w S' er so e Q hq=>by
  unfold y9 at e;split at e
  ·rename_i x1 S1 h1;rw[J0]at e;obtain⟨b,e1,e2⟩:=e;cases e2;exact⟨A,ρ,S,x1,_,er,so,h1,λv H1 ⟨A1,z1,z2,z3⟩=>⟨A1,_,x1,v,c,b,rfl,z2,z3,e1,hq _ _ ⟨A1,z1,z2,.bl⟩⟩⟩
  ·cases e
end
noncomputable def dX:JT (T×W)->JT W->J1 (JT (T×W))
 | kvs,[]=>ba kvs
 | kvs,k::v::ws=>match gR k with
  | some t=>dX (fm kvs t v) ws
  | none=>gV
 | _,[_]=>gV
noncomputable def Da:FE:=λ_ S=>ba (.ref S.length,S++[.dic []])
noncomputable def rR (f:FA):FE:=λρ S=>match f ρ (S++[.dic []])with
 | some (ws,S1)=>match S1[S.length]? with
  | some (.dic [])=>match dX [] ws with
   | some kvs=>ba (.ref S.length,S1.set S.length (.dic kvs))
   | none=>gV
  | _=>gV
 | none=>gV
section
variable (K:Kb) (A:JT J4) (H:Hp)
inductive RelP:JT W->JT (V×V)->Prop
 | nil:RelP [] []
 | cons {k v:W} {a b:V} {ws:JT W} {ps:JT (V×V)}:Rel K A H k a->Rel K A H v b->RelP ws ps->RelP (k::v::ws) ((a,b)::ps)
end
theorem RelP.mono {K:Kb}{A A':JT J4}{H H':Hp}(e:Ext K A H A' H'){ws:JT W}{ps:JT (V×V)}(h:RelP K A H ws ps):RelP K A' H' ws ps:=by
 induction h with
 | nil=>exact .nil
 | cons a b c ih=>exact .cons (a.mono e) (b.mono e) ih
section
variable{X:Cx}{pins:JT (J4×LJ)}{σ:L2.St}{H:Hp}{s:JY}{A:JT J4}{S:aa}
noncomputable def IQ (X:Cx)(A:JT J4)(H:Hp)(S':aa)(ws:JT W):JT (V×V)->Hp->Prop:=λps H'=>∃A',Ext X.K A H A' H'/\StoreOk X.w X.K A' H' S'/\RelP X.K A' H' ws ps
noncomputable def GH (X:Cx)(pos:MB)(keys:JT (J1 Kw))(values:JT Kw)(f:FA):Prop:=
 ∀(pins:JT (J4×LJ)) (s:JY) (σ:L2.St) (H:Hp) (A:JT J4) (ρ:Fm) (S:aa) (ws:JT W) (S':aa),Inv X pins σ H s->EnvRel X.K A H ρ σ->StoreOk X.w X.K A H S->f ρ S=ba (ws,S')->
  wpAny (model X.prog X.w) X.A (evalPairs (pairTrees keys values X.env pos)) (λvs s'=>∃ps H',Inv X pins σ H' s'/\VV ps vs/\IQ X A H S' ws ps H') X.xe s
theorem Cf {pos:MB}:GH X pos [] [] jO:=λpins s σ H A ρ S ws S' I er so e=>by
 cases e;exact pairTrees_nil_walk ⟨[],H,I,.nil,A,.refl,so,.nil⟩
theorem zd {pos:MB}{k v:Kw}{ks:JT (J1 Kw)}{vs:JT Kw}{fk fv:FE}{f:FA}(hk:GE X k fk)(hv:GE X v fv)(hr:GH X pos ks vs f):GH X pos (ba k::ks) (v::vs) (eF fk (eF fv f)):=λpins s σ H A ρ S ws S' I er so e=>by
 unfold eF at e;split at e
 ·rename_i w1 S1 h1;split at e
  ·rename_i w2 S2 h2;cases e;split at h2
   ·rename_i w3 S3 h3;split at h2
    ·rename_i w4 S4 h4;cases h2;refine pairTrees_cons_walk (bS (hk pins s σ H (EndV X.w X.K A H S1 w1) I ⟨A,ρ,S,_,_,er,so,h1,λ_ _ z=>z⟩) λu s1 ⟨x,H1,I1,r1,A1,e1,o1,z1⟩=>
      bS (hv pins s1 σ H1 (EndV X.w X.K A1 H1 S3 w3) I1 ⟨A1,ρ,S1,_,_,er.mono e1,o1,h3,λ_ _ z=>z⟩) λu2 s2 ⟨x2,H2,I2,r2,A2,e2,o2,z2⟩=>
      bS (hr pins s2 σ H2 A2 ρ S3 _ _ I2 (er.mono (e1.trans e2)) o2 h4) λvs' s3 ⟨ps,H3,I3,rel,A3,e3,o3,z3⟩=>?_)
     exact⟨(x,x2)::ps,H3,I3,.cons ⟨r1,r2⟩ rel,A3,e1.trans (e2.trans e3),o3,.cons (z1.mono (e2.trans e3)) (z2.mono e3) z3⟩
    ·cases h2
   ·cases h2
  ·cases e
 ·cases e
theorem oG {r:J3}{d:J4}{E:JW->JY->Prop}(hu:X.A.units+10 < cLine):∀(vs:JT (JW×JW)) (ps:JT (V×V)) (ws:JT W) (kvs kvs':JT (T×W)) (s:JY) (H:Hp) (S:aa) (Q:PUnit->JY->Prop),
  Inv X pins σ H s->StoreOk X.w X.K A H S->pM S r=ba kvs->A[r]?=ba d->RelP X.K A H ws ps->VV ps vs->dX kvs ws=ba kvs'->kvs.length+vs.length<=30->
  (∀s' H',Inv X pins σ H' s'->Ext X.K A H A H'->StoreOk X.w X.K A H' (S.set r (.dic kvs'))->Q Qy s')->
  wpAny (model X.prog X.w) X.A (forIn vs Qy λ(x:JW×JW) (_:PUnit)=>(do dictSet d x.1 x.2; pure (LY Qy):SQ (ForInStep PUnit))) Q E s
 | [],_,_,kvs,kvs',s,H,S,Q,I,so,hr,ea,rp,vv,e,hl,hq=>by
  cases vv;cases rp;cases e;rw[P6];refine JZ (hq s H I .refl ?_);have hS:=i7 hr;have:S.set r (.dic kvs)=S:=by
   apply OX;intro j;rw[Mb];split
   ·rename_i e; subst e
    split
    ·exact hS.symm
    ·rename_i h; exact absurd (J9.mp hS).1 h
   ·rfl
  rw[this]; exact so
 | (ku,vu)::vs,_,_,kvs,kvs',s,H,S,Q,I,so,hr,ea,rp,vv,e,hl,hq=>by
  cases vv with
  | cons hv vv2=>
   cases rp with
   | @cons wk wv va vb ws2 ps2 rk rv' rp2=>
    simp only[dX]at e;split at e
    ·rename_i t ht;rw[Oi];obtain⟨xs,hH,kr⟩:=uK so hr ea;have dd0:=cO I (.inl hH);have dd:=dd0.dict I kr;obtain⟨bk,e1,e2,rkk⟩:=i6 ht rk hv.1;have e2:ku=KO bk:=e2;subst e2;obtain⟨q1,q2,q3⟩:=eu ht;rw[La]at hl;have hz:xs.length<=sizeLine:=dd0.1;refine JU (JU (wpAny_dictSet_heap (hsz:=hz) (show X.A.units+aG < cLine by unfold aG; omega) (jK I rkk q3) dd λh' dd' hs=>JZ ?_))
     have kr':=kr.put q2 q3 rkk rv' hv.2;have hz':(storedH xs t bk vu).length<=sizeLine:=by
      rw[<- kr'.length];have h2:=dM kvs t wv;rw[K8];omega
     have dn:DicAt X.w d (storedH xs t bk vu) h':=.of hz' dd0.2.1 dd';obtain⟨so',ex⟩:=so.writeO (i7 hr) rfl ea (u:=eC X.w d (storedH xs t bk vu)) (n:=.dic (fm kvs t wv)) ⟨_,bg,kr'.mono (c9 (.ext hH))⟩;have I':Inv X pins σ (bZ H d (eC X.w d (storedH xs t bk vu))) { s with heap:=h',toks:=s.toks+(bC X.prog X.w).draws t }:=pr I (by rw[hH]; exact N7) hs (let ⟨q,_,_,hq,_⟩:=dd'; ⟨q,hq⟩) dn.ok
     have hl':(S.set r (.dic (fm kvs t wv)))[r]?=ba (.dic (fm kvs t wv)):=by
      rw[Mb,Ks rfl,Ks (J9.mp (i7 hr)).1]
     refine oG hu vs _ _ (fm kvs t wv) kvs' _ _ _ Q I' so' (by unfold pM; rw[hl']) ea (rp2.mono ex) vv2 e (by have:=dM kvs t wv; omega) λs' H' I2 ex2 so2=>?_
     rw[List.set_set]at so2;exact hq s' H' I2 (ex.trans ex2) so2
    ·cases e
theorem Cg {pos:MB}:GE X (.Dict [] [] pos) Da:=λpins s σ H Q I ⟨A,ρ,S,w,S',er,so,e,hq⟩=>by
 cases e;have hn:=I.hok.fresh (J7 s.heap.objs.size);have dn:DicAt X.w s.heap.objs.size [] (s.heap.push { cls:=.type "dict",data:=.dict #[] }):=⟨LR _,On.mpr (Ne.symm (Kt I.big)),P7,_,#[],0,Ke _ rfl,⟨rfl,rfl,rfl⟩,rfl,rfl⟩;refine wpAny_Dict_empty ⟨.ref s.heap.objs.size,_,I.laid (a:=s.heap.objs.size) (o:=eC X.w s.heap.objs.size []) (t':=s.toks) (λ_ _ q=>JX _ q) (J7 _) dn.ok,rfl,hq _ _ ⟨A++[s.heap.objs.size],da hn,so.pushO hn ⟨[],bg,.nil⟩,.ref ?_⟩⟩
 rw[<- so.len]; simp
theorem Ch {pos:MB}{keys:JT (J1 Kw)}{values:JT Kw}{f:FA}(hu:X.A.units+10 < cLine)(h:GH X pos keys values f)(hall:keys.all (·.isSome)=true)(hl:keys.length=values.length)(h0:keys≠[])(h15:keys.length<=15):GE X (.Dict keys values pos) (rR f):=by
 intro pins s σ H Q I ⟨A,ρ,S,w,S',er,so,e,hq⟩;unfold rR at e;split at e
 ·rename_i ws S1 h1;split at e
  ·rename_i hS1;split at e
   ·rename_i kvs hp;cases e;have hn:=I.hok.fresh (J7 s.heap.objs.size);have dn:DicAt X.w s.heap.objs.size [] (s.heap.push { cls:=.type "dict",data:=.dict #[] }):=⟨LR _,On.mpr (Ne.symm (Kt I.big)),P7,_,#[],0,Ke _ rfl,⟨rfl,rfl,rfl⟩,rfl,rfl⟩;have I1:=I.laid (a:=s.heap.objs.size) (o:=eC X.w s.heap.objs.size []) (h':=s.heap.push { cls:=.type "dict",data:=.dict #[] }) (t':=s.toks) (λ_ _ q=>JX _ q) (J7 _) dn.ok
    have ex0:Ext X.K A H (A++[s.heap.objs.size]) (bZ H s.heap.objs.size (eC X.w s.heap.objs.size [])):=da hn;have so0:StoreOk X.w X.K (A++[s.heap.objs.size]) (bZ H s.heap.objs.size (eC X.w s.heap.objs.size [])) (S++[.dic []]):=so.pushO hn ⟨[],bg,.nil⟩;have hlen:=pairTrees_length keys values X.env pos hall hl;have hne:pairTrees keys values X.env pos≠[]:=λhe=>by
     rw[he]at hlen;exact h0 (Ms.mp hlen.symm)
    rw[arm_eval_Dict,zip_pairTrees keys values X.env pos hall hl,dictDisplay_pairs _ hne (by omega)]
    refine JU (Ob (JU ?_));unfold subDict;refine JU (SZ ?_);refine JU (Li ?_);rw[Ks (by omega)]
    refine JU (L0 (wpAny_evalPairs_len (h pins _ σ _ _ ρ _ _ _ I1 (er.mono ex0) so0 h1)) (λvs s₁ h₁=>?_) λ_ _ e=>e)
    obtain⟨hvl,ps,H2,I2,vv,A2,ex2,so2,rp⟩:=h₁;refine Li ?_;have ea:A2[S.length]?=ba s.heap.objs.size:=ex2.ad _ _ (by rw[<- so.len]; simp)
    refine JU (oG hu vs ps ws [] kvs s₁ H2 S1 _ I2 so2 (by unfold pM; rw[hS1]) ea rp vv hp (by rw[Mg]; omega) λs' H' I3 ex3 so3=>?_)
    exact JZ (JZ (JZ ⟨.ref s.heap.objs.size,H',I3,rfl,hq _ _ ⟨A2,ex0.trans (ex2.trans ex3),so3,.ref ea⟩⟩))
   ·cases e
  ·cases e
 ·cases e
end
noncomputable def JD (wd:KT)(a:J4)(o:LJ)(xs:JT (T×J4×JW)):It:=
 ⟨λi H=>H a=ba (.frz o (eC wd a xs))/\i < xs.length,λi H x H'=>H'=H/\∃q,xs[i]?=ba q/\x=.ref q.2.1,λi H=>H a=ba (.frz o (eC wd a xs))/\xs.length<=i⟩
theorem wM {P:KJ}{w:KT}{K:Kb}{tg:Kw}(a it:J4){o:LJ}{es:KC Mr}{ep:J3}{xs:JT (T×J4×JW)}(hx:o.ExactDict)(hd:o.data=.dict es ep)(he:es.toList=xs.map (xW w)) :
  Turn P w K tg (JD w a o xs) [it] it (λi h=>h.IsKeyIter it a i es.size ep) where
 mem:=by simp
 obj:=λi h st b hb=>by
  have e:b=it:=by simpa using hb
  subst e;obtain⟨o,e,c,d⟩:=st;exact⟨o,e,λv z=>by rw[d]at z; cases z⟩
 keep:=λi h h' st k=>st.at λo e=>k it (by simp) o e
 item:=by
  intro X hP hw hK hc i pins s σ H E I hf st hg;subst hP hw hK;obtain⟨hH,hi⟩:=hg;have ho:s.heap.get? a=ba o:=(show ObjOk X.prog X.w H s.heap a (.frz o (eC X.w a xs))from I.hok a _ hH).1
  have hl:es.size=xs.length:=by rw[<- Ki,he,JV]
  have hi':i < es.size:=by omega
  obtain⟨f0,f1,f2,f3,f4,f5⟩:=hf it (by simp)
  have hk:es[i].key=.ref (xs[i]).2.1:=by
   have:es.toList[i]?=ba (xW X.w xs[i]):=by rw[he,J6,J5 hi]; rfl
   rw[Ls,Mj hi']at this;have:=Lh this;rw[this]; rfl
  refine rm st ⟨o,ho,hx,hd⟩ hi' λh' st' sb=>?_
  have I1:Inv X pins σ H { s with heap:=h' }:=I.turned (t':=s.toks) (λb o hb e=>(sb.2 b hb).trans e) f0 f1 f3 f4 f5
  obtain⟨o',e,c,d⟩:=id st';exact⟨_,rfl,ut (s:={ s with heap:=h' }) e c d (by decide) ⟨.ref (xs[i]).2.1,H,I1,hk,⟨rfl,xs[i],J5 hi,rfl⟩,st',λb hb=>(hf b hb).1⟩⟩
 done:=by
  intro X hP hw hK hc i pins s σ H E I hf st hg;subst hP hw hK;obtain⟨hH,hi⟩:=hg;have ho:s.heap.get? a=ba o:=(show ObjOk X.prog X.w H s.heap a (.frz o (eC X.w a xs))from I.hok a _ hH).1
  have hl:es.size=xs.length:=by rw[<- Ki,he,JV]
  obtain⟨f0,f1,f2,f3,f4,f5⟩:=hf it (by simp)
  exact uO (I.ok.hd hc) st ⟨o,ho,hx,hd⟩ (by omega) λh' eb=>⟨rfl,I.turned (t':=s.toks) (λb o hb e=>eb b o hb e) f0 f1 f3 f4 f5⟩
 self:=λ_ _ _ _ _ st h=>P4 st h
noncomputable def fY (f:FE):FI:=λρ S=>match f ρ S with
 | some (.tup ws,S1)=>ba (.its ws,S1)
 | some (.ref r,S1)=>match gf S1 r with
  | some _=>ba (.live r,S1)
  | none=>match kB S1 r with
   | some kvs=>ba (.its (kvs.map λp=>p.1.w),S1.set r (.frd kvs))
   | none=>gV
 | _=>gV
section
variable{X:Cx}{pins:JT (J4×LJ)}{σ:L2.St}{H:Hp}{s:JY}{A:JT J4}{S:aa}
theorem ze {a:J4}{o:LJ}{kvs:JT (T×W)}{xs:JT (T×J4×JW)}(hH:H a=ba (.frz o (eC X.w a xs)))(kr:KRel X.K A H kvs xs):MIt X.w X.K (.its (kvs.map λp=>p.1.w)) (JD X.w a o xs) A H:=by
 refine⟨λA' H' S i w e so hi=>?_,λA' H' S i e so hi=>?_⟩
 ·simp only[MI.at,KL]at hi;obtain⟨v,h1,h2⟩:=((kr.mono e).keysL).get hi;rw[J6,J0]at h1;obtain⟨q,q1,q2⟩:=h1;refine⟨⟨e.fz _ _ _ hH,(J9.mp q1).1⟩,λx H2 ⟨z1,q',z2,z3⟩=>?_⟩
  subst z1 z3;rw[q1]at z2; cases z2
  exact⟨.refl,so,by rw[q2]; exact h2⟩
 ·simp only[MI.at,KL]at hi;refine⟨e.fz _ _ _ hH,?_⟩;have:=Lf.mp hi;rw[JV,kr.length]at this;exact this
theorem Ci {tg l:Kw}{f:FE}(h:GE X l f):GI X tg l (fY f):=by
 intro pins s σ H R I ⟨A,ρ,S,mi,S',er,so,e,hq⟩
 by_cases hd:∃r S1 kvs,f ρ S=ba (.ref r,S1)/\gf S1 r=gV/\kB S1 r=ba kvs
 ·obtain⟨r,S1,kvs,h1,h2,h3⟩:=hd;simp only[fY,h1,h2,h3]at e;cases e;refine bS (h pins s σ H (EndV X.w X.K A H S1 (.ref r)) I ⟨A,ρ,S,_,_,er,so,h1,λ_ _ z=>z⟩) λv s1 ⟨x,H1,I1,r1,A1,e1,o1,z1⟩=>?_
  cases z1 with
  | @ref _ a ea=>
   obtain rfl:v=KO a:=r1;have fz:∃o xs H2,Inv X pins σ H2 s1/\Ext X.K A1 H1 A1 H2/\StoreOk X.w X.K A1 H2 (S1.set r (.frd kvs))/\H2 a=ba (.frz o (eC X.w a xs))/\KRel X.K A1 H2 kvs xs:=by
    unfold kB at h3;split at h3
    ·rename_i k hk;cases h3;obtain⟨xs,hH,kr⟩:=o1.obj r _ a hk ea;have d:=cO I1 (.inl hH);obtain⟨_,_,_,o,es,ep,q1,q2,q3,q4⟩:=id d;obtain⟨so',ex⟩:=o1.writeO hk rfl ea (u:=.frz o (eC X.w a xs)) (n:=.frd kvs) ⟨o,xs,bg,kr.mono (c9 (.ext hH))⟩;exact⟨o,xs,_,pr (h':=s1.heap) (t':=s1.toks) (ob:=.frz o (eC X.w a xs)) I1 (by rw[hH]; exact N7) (Q1 _ _) ⟨o,q1⟩ ⟨q1,d.ok⟩,ex,so',bg,kr.mono ex⟩
    ·rename_i k hk;cases h3;obtain⟨o,xs,hH,kr⟩:=o1.obj r _ a hk ea;have:S1.set r (.frd kvs)=S1:=by
      apply OX;intro j;rw[Mb];split
      ·rename_i e; subst e
       split
       ·exact hk.symm
       ·rename_i h; exact absurd (J9.mp hk).1 h
      ·rfl
     rw[this];exact⟨o,xs,H1,I1,.refl,o1,hH,kr⟩
    ·cases h3
   obtain⟨o,xs,H2,I2,ex,so2,hH,kr⟩:=fz;have d:=cO I2 (.inr ⟨o,hH⟩);have ho:s1.heap.get? a=ba o:=(show ObjOk X.prog X.w H2 s1.heap a (.frz o (eC X.w a xs))from I2.hok a _ hH).1
   obtain⟨_,hsm,_,o',es,ep,q1,q2,q3,q4⟩:=id d;rw[ho]at q1;cases q1;refine rj hsm ⟨o,ho,q2,q3⟩ ?_;refine⟨s1.heap.objs.size,[s1.heap.objs.size],_,_,H2,rfl,I2.kept (t':=s1.toks) λb o e=>JX _ e,wM a _ q2 q3 q4,⟨_,Ke _ rfl,rfl,rfl⟩,λb hb=>?_,hq _ _ A1 (e1.trans ex) so2 (ze hH kr)⟩
   have e:b=s1.heap.objs.size:=by simpa using hb
   subst e;exact I2.fpOk (J7 _) (I2.hok.fresh (J7 _))
 ·have:fY f ρ S=B7 f ρ S:=by
   unfold fY B7;cases hf:f ρ S with
   | none=>rfl
   | some p=>
    obtain⟨w,S1⟩:=p;cases w with
    | ref r=>
     cases h2:gf S1 r with
     | some _=>simp only[h2]
     | none=>
      cases h3:kB S1 r with
      | none=>simp only[h2,h3]
      | some kvs=>exact absurd ⟨r,S1,kvs,hf,h2,h3⟩ hd
    | _=>rfl
  rw[this]at e;exact EK h pins s σ H R I ⟨A,ρ,S,mi,S',er,so,e,hq⟩
end
noncomputable def bU (mi:MI)(g:FG)(c:FT)(f:FE):J3->J3->Fm->aa->J1 (JT W×aa)
 | 0,i,_,S=>match mi.at S i with
  | some gV=>ba ([],S)
  | _=>gV
 | n+1,i,ρ,S=>match mi.at S i with
  | some (ba w)=>match g w ρ S with
   | some (ρ1,S1)=>match c ρ1 S1 with
    | some (true,S2)=>match f ρ1 S2 with
     | some (y,S3)=>match bU mi g c f n (i+1) ρ1 S3 with
      | some (ys,S4)=>ba (y::ys,S4)
      | none=>gV
     | none=>gV
    | some (false,S2)=>bU mi g c f n (i+1) ρ1 S2
    | none=>gV
   | none=>gV
  | _=>gV
noncomputable def fP (cap:JT (J1 J3))(ρ:Fm):Fm:=cap.map λo=>match o with
 | some j=>(ρ[j]?).join
 | none=>gV
noncomputable def lW (fi:FI)(g:FG)(c:FT)(f:FE)(cap:JT (J1 J3)):FE:=λρ S=>match fi ρ S with
 | some (mi,S1)=>match mi.len S1 with
  | some n=>match bU mi g c f n 0 (fP cap ρ) S1 with
   | some (ys,S2)=>mY S2 ys
   | none=>gV
  | none=>gV
 | none=>gV
noncomputable def Db:FT:=λ_ S=>ba (true,S)
noncomputable def mW (X:Cx)(scope:Nf)(cl:JT (Kn×J4))(C:J4)(N:JT Kn)(s0:JY)(H0:Hp)(ex:JT J4):Cx:=
 { X with env:=compEnvC scope cl C X.env,N:=N,s₀:=s0,H₀:=H0,outer:=X.stack,stack:=X.stack,ex:=ex,fn:=λ_=>false,pn:=[],xe:=λ_ _=>Lw }
structure CompOk (X:Cx)(scope:Nf)(cl:JT (Kn×J4))(N:JT Kn)(cap:JT (J1 J3)):Prop where
 clos:closureFor scope X.env=pure cl
 kind:scope.kind=.function
 names:∀y∈scope.names,y.2=.local->scope.names.lookup y.1=ba .local
 nocell:∀y∈scope.names,y.2≠.cell
 sub:∀x c,cl.lookup x=ba c->X.env.cells.lookup x=ba c
 has:∀x,((relabel scope X.env).names.lookup x=ba .cell\/(relabel scope X.env).names.lookup x=ba .free)->∃c,cl.lookup x=ba c
 len:cap.length=N.length
 cap:∀(i j:J3) (x:Kn),cap[i]?=ba (ba j)->N[i]?=ba x->X.N[j]?=ba x/\(X.env.kindOf x=ba .cell\/X.env.kindOf x=ba .free)/\((relabel scope X.env).names.lookup x=ba .cell\/(relabel scope X.env).names.lookup x=ba .free)
theorem gT {prog:KJ}{w:KT}{A:KP}{R:Rh->JY->Prop}{s:JY}{elt target iter:Kw}{ifs:JT Kw}{scope:Nf}{pos:MB}{it acc:JW}{env:QK}(I:J3->JY->Prop)
    (turn:∀n s,I n s->wpAny (model prog w) A (pyNext it) (λr s₁=>match r with
      | none=>R (.ok .next) s₁
      | some v=>wpAny (model prog w) A (letOwnedTupleGo target it v) (λ_ s₁=>wpAny (model prog w) A (assign target env v) (λ_ s₂=>
          wpAny (model prog w) A (forIn ifs true λc r=>if r=true then do let ok <- isTrue c env (eval c env); pure (LY ok)else pure (LY r)) (λok s₃=>
            if ok=true then wpAny (model prog w) A (eval elt env) (λx s₄=>
              wpAny (model prog w) A (call (.builtin "list.append") [acc,x]) (λ_ s₅=>∃m,m < n/\I m s₅) (λ_ _=>Lw) s₄) (λ_ _=>Lw) s₃
            else ∃m,m < n/\I m s₃) (λ_ _=>Lw) s₂) (λ_ _=>Lw) s₁) (λ_ _=>Lw) s₁) (λ_ _=>Lw) s)
    (n:J3) (h:I n s) :
    codeAny (model prog w) A (.compLoop (.ListComp elt [⟨target,iter,ifs,0⟩] scope pos) 0 it acc env) R s:=by
  refine codeAny_loop rfl I (λn s hI=>?_) n h
  show wpAny _ A ((compTurn (.ListComp elt [⟨target,iter,ifs,0⟩] scope pos) 0 it acc env).onRaise (λx=>do noteFrame x env; theTreesLotGoes x)) _ _ s
  refine wpAny_noted ?_;rw[compTurn_list];refine JU (Ob (JU (L0 (turn n s hI) (λr s₁ h₁=>?_) λ_ _ h'=>h'.elim)))
  cases r with
  | none=>exact JZ h₁
  | some v=>
    refine JU (L0 h₁ (λ_ s₁ h₁=>?_) λ_ _ h'=>h'.elim)
    refine JU (L0 h₁ (λ_ s₂ h₂=>JU (L0 h₂ (λok s₃ h₃=>?_) λ_ _ h'=>h'.elim)) λ_ _ h'=>h'.elim)
    cases ok with
    | false=>exact JZ ⟨rfl,h₃⟩
    | true=>
      exact JU (JU (L0 h₃ (λx s₄ h₄=>JU (L0 h₄ (λ_ s₅ h₅=>JZ (JZ ⟨rfl,h₅⟩)) λ_ _ h'=>h'.elim)) λ_ _ h'=>h'.elim))
section
variable{X:Cx}{pins:JT (J4×LJ)}{σ:L2.St}{H:Hp}{s:JY}
theorem Inv.adopt {D:J4}{o:HO}(I:Inv X pins σ H s)(hn:H D=gV)(h1:D∈X.ex\/X.s₀.heap.objs.size<=D)(hL:D≠X.env.locals)(h2:∀x c,X.env.cells.lookup x=ba c->c≠D)(h3:∀p∈X.pn++pins,p.1≠D)
  (new:ObjOk X.prog X.w (bZ H D o) s.heap D o):Inv X pins σ (bZ H D o) s:=by
 have nit:∀b u,H b=ba u->b≠D:=λb u e z=>by rw[z,hn]at e; cases e
 have key:Inv X pins σ (bZ H D o) { s with heap:=s.heap,gens:=s.gens,drawn:=s.drawn,toks:=s.toks }:=by
  refine I.step (g':=s.gens) (d':=s.drawn) (t':=s.toks) (h':=s.heap) (ch:=[D]) (λb hb=>?_) (λb o _ _ hc e _=>e) (λb o _ _ hc e _=>⟨o.slots,e⟩) (λb o hc e n=>?_)
   (λb o hc e=>⟨o,e⟩) (λb xs e=>?_) (λb o xs e=>?_) (λb ps e=>⟨#[],?_⟩) (λm hm=>hm) (λb u e=>?_) I.bare
  ·have e:b=D:=by simpa using hb
   subst e;exact⟨h1,hL,h2,h3⟩
  ·rw[aM (λz=>hc (by simp[z]))]; exact n
  ·rw[aM (nit b _ e)]; exact e
  ·rw[aM (nit b _ e)]; exact e
  ·rw[aM (nit b _ e),e]; simp
  ·by_cases hb:b=D
   ·subst hb; rw[bg]at e; cases e; exact new
   ·rw[aM hb]at e;refine(I.hok b u e).stay (λc v hc q=>q) (λc q=>?_) λc xs q=>?_
    ·rw[aM (nit c _ q)]; exact q
    ·rw[aM (nit c _ q)]; exact q
 exact key
theorem EN {scope:Nf}{cl:JT (Kn×J4)}{N:JT Kn}{cap:JT (J1 J3)}{C:J4}{s0:JY}{ex:JT J4}(I:Inv X pins σ H s)(ck:CompOk X scope cl N cap)(hs:s.heap.objs.size<=s0.heap.objs.size)(hC:s0.heap.objs.size<=C)
  (hk:∀b o,s.heap.get? b=ba o->s0.heap.get? b=ba o) (hex:∀b∈ex,(b≠C)/\(∀x c,X.env.cells.lookup x=ba c->c≠b)/\(∀o,X.base.get? b≠ba o)/\b∉sN X.stack) :
  (mW X scope cl C N s0 H ex).Ok where
 mod:=I.ok.mod
 kind:=ck.kind
 glob:=I.ok.glob
 blt:=I.ok.blt
 above:=hC
 inj:=λx y c h1 h2=>I.ok.inj x y c (ck.sub x c h1) (ck.sub y c h2)
 has:=λx h=>ck.has x h
 cab:=λx c h=>by cases h
 hd:=I.ok.hd
 frames:=I.ok.frames
 stk:=.inl rfl
 exf:=λb hb=>⟨(hex b hb).1,λx c h=>(hex b hb).2.1 x c (ck.sub x c h)⟩
 bs:=λb o e=>⟨hk b o (I.bk b o e),(I.bs b o e).2⟩
 bsz:=Kc (Kc I.ok.bsz I.sz) hs
 noex:=λb o e hb=>(hex b hb).2.2.1 o e
 exfs:=λb hb=>(hex b hb).2.2.2
 funs:=I.stack.of_keeps λb o e _=>⟨o,hk b o e,rfl⟩
 frf:=I.stkFree
structure BlockOk (X:Cx)(scope:Nf)(cl:JT (Kn×J4))(N:JT Kn)(tg elt:Kw)(ifs:JT Kw)(g:FG)(c:FT)(f:FE):Prop where
 tgt:∀C s0 H0 ex,GG (mW X scope cl C N s0 H0 ex) tg g
 tst:∀C s0 H0 ex pins s σ H Q,Inv (mW X scope cl C N s0 H0 ex) pins σ H s->tT (mW X scope cl C N s0 H0 ex) c σ H Q->
  wpAny (model X.prog X.w) X.A (forIn ifs true λc r=>if r=true then do let ok <- isTrue c (compEnvC scope cl C X.env) (eval c (compEnvC scope cl C X.env)); pure (LY ok)else pure (LY r)) (TP (mW X scope cl C N s0 H0 ex) pins σ Q) (λ_ _=>Lw) s
 elt:∀C s0 H0 ex,GE (mW X scope cl C N s0 H0 ex) elt f
theorem pW {prog:KJ}{w:KT}{B:KP}{s:JY}{E:JW->JY->Prop}{Q:JW->JY->Prop}{D:J4}{its:JT JW}{n:J3}{u:JW}(e:s.heap.get? D=ba { cls:=.type "list",data:=.seq its.toArray n })(hz:its.length < sizeLine)
  (h:∀h' n',h'.get? D=ba { cls:=.type "list",data:=.seq (its++[u]).toArray n' }->(∀b o,b≠D->s.heap.get? b=ba o->h'.get? b=ba o)->Q .none { s with heap:=h' }) :
  wpAny (model prog w) B (call (.builtin "list.append") [.ref D,u]) Q E s:=by
 refine OD F.slot_list_append ⟨_,e,rfl⟩ F.entry_list_append (F.args_list_append_2 _ _) (QT D its.toArray n u (by rw[Kg]; exact L8 ‹_›)) ⟨e,?_⟩
 have q:=Rk e (λa=>a.push u)
 have e2:its.toArray.push u=(its++[u]).toArray:=by simp
 rw[e2]at q;exact h _ _ q (λb o hb ho=>(K5 s.heap (LC λa=>a.push u) (Ne.symm hb)).trans ho)
theorem oH {scope:Nf}{cl:JT (Kn×J4)}{N:JT Kn}{cap:JT (J1 J3)}{tg elt iter:Kw}{ifs:JT Kw}{g:FG}{c:FT}{f:FE}{pos:MB}{A:JT J4}{ρ:Fm}{S S':aa}{mi:MI}{n:J3}{ws:JT W}{E:JW->JY->Prop}
  {it:J4} {fp:JT J4} {tn:J3->K6->Prop} {J:It} {RR:JW->J4->Rh->JY->Prop}
  (I:Inv X pins σ H s) (hc:X.calm=true) (er:EnvRel X.K A H ρ σ) (so:StoreOk X.w X.K A H S) (ck:CompOk X scope cl N cap) (bk:BlockOk X scope cl N tg elt ifs g c f)
  (T:Turn X.prog X.w X.K tg J fp it tn) (t0:tn 0 s.heap) (hfp:∀b∈fp,jD X pins H b) (mit:MIt X.w X.K mi J A H) (e:bU mi g c f n 0 (fP cap ρ) S=ba (ws,S')) (hz:ws.length<=sizeLine)
  (fin:∀D C s' H' A' vs m,s'.heap.Ns C m->H' D=gV->D≠C->C≠X.env.locals->C∉X.fs->H' C=gV->X.s₀.heap.objs.size<=C->(∀x c,X.env.cells.lookup x=ba c->c≠C)->(∀p∈X.pn++pins,p.1≠C)->
   Inv X pins σ (bZ H' D (.lst vs)) s'->Ext X.K A H A' H'->StoreOk X.w X.K A' H' S'->RelL X.K A' H' ws vs->RR (.ref D) C (.ok .next) s') :
  wpAny (model X.prog X.w) X.A (newList []) (λacc s₃=>wpAny (model X.prog X.w) X.A (newFunctionEnv scope X.env.globals cl [] X.env.qual gV .none (ba X.env)) (λcenv s₄=>
   codeAny (model X.prog X.w) X.A (.compStart (.ListComp elt [⟨tg,iter,ifs,0⟩] scope pos) 0 (.ref it) acc { cenv with scope:=relabel scope X.env }) (RR acc cenv.locals) s₄) E s₃) E s:=by
 refine KW (wpAny_newFunctionEnv ck.nocell (by intro y hy; simp at hy) (λh₁ hns₁ hsb₁=>?_) ck.kind)
 dsimp only at hns₁ hsb₁ ⊢;generalize hH2:s.heap.push { cls:=.type "list",dict:=gV,data:=.seq ([]:JT JW).toArray }=h2 at hns₁ hsb₁ ⊢;have hCs:h2.objs.size=s.heap.objs.size+1:=by rw[<- hH2,LV]
 have k2:∀b o,s.heap.get? b=ba o->h2.get? b=ba o:=λb o z=>hH2 ▸ JX _ z
 have lt2:∀b o,h2.get? b=ba o->b < h2.objs.size:=λb o z=>Kl z
 have k1:∀b o,h2.get? b=ba o->h₁.get? b=ba o:=λb o z=>hsb₁.extBut b o (Kt (lt2 b o z)) (JX _ z)
 have hD2:h2.get? s.heap.objs.size=ba { cls:=.type "list",data:=.seq ([]:JT JW).toArray }:=hH2 ▸ Ke _ rfl;have hDC:s.heap.objs.size≠h2.objs.size:=by rw[hCs]; omega
 have fresh:∀a,s.heap.objs.size<=a->H a=gV:=λa ha=>I.hok.fresh ha
 have cellLt:∀x c,X.env.cells.lookup x=ba c->c < s.heap.objs.size:=λx c z=>let ⟨_,q⟩:=I.cell x c z; q.lt
 have fpLt:∀b∈fp,b < s.heap.objs.size:=λb hb=>let ⟨_,q,_⟩:=T.obj 0 s.heap t0 b hb; Kl q
 have stkLt:∀b∈sN X.stack,b < s.heap.objs.size:=λb hb=>let ⟨_,o,q,_⟩:=I.stack.mem hb; Kl q
 have baseLt:∀b o,X.base.get? b=ba o->b < s.heap.objs.size:=λb o z=>Kl (I.bk b o z)
 have fpStk:∀b∈fp,b∉sN X.stack:=λb hb z=>by
  rcases Kz.mp (I.stkSub b z)with q|q
  ·exact(hfp b hb).2.1 q
  ·exact(hfp b hb).2.2.1 q
 have fpBase:∀b∈fp,∀o,X.base.get? b≠ba o:=λb hb o z=>by
  rcases(hfp b hb).2.2.2.1 with q|q
  ·exact I.ok.noex b o z q
  ·exact absurd (Kx (Kl (I.ok.bs b o z).1) q) (LA _)
 have ltC:∀ {b:J4},b < s.heap.objs.size->b≠h2.objs.size:=λhb=>by rw[hCs]; exact Kt (MQ hb)
 let s3:JY:={ s with heap:=h2 }
 have ok':(mW X scope cl h2.objs.size N s3 H (fp++[s.heap.objs.size])).Ok:=by
  refine EN I ck (show s.heap.objs.size<=h2.objs.size by rw[hCs]; omega) (J7 _) k2 λb hb=>?_
  rcases K2.mp hb with hb|hb
  ·exact⟨ltC (fpLt b hb),(hfp b hb).2.2.2.2.1,fpBase b hb,fpStk b hb⟩
  ·have eb:b=s.heap.objs.size:=by simpa using hb
   subst eb;exact⟨hDC,λx c z=>Kt (cellLt x c z),λo z=>LA _ (baseLt _ o z),λz=>LA _ (stkLt _ z)⟩
 obtain⟨m0,hn0,hl0⟩:=I.loc;have I0:Inv (mW X scope cl h2.objs.size N s3 H (fp++[s.heap.objs.size])) [] (cap.map λo=>match o with|some j=>(σ[j]?).join|none=>gV) H { s3 with heap:=h₁,toks:=s3.toks+([]:JT (Kn×JW)).length }:=by
  refine⟨ok',rfl,I.bare,Un.kept k1,⟨_,hns₁,λi x v e1 e2 e3=>?_⟩,λx cc z=>?_,fresh _ (show s.heap.objs.size<=h2.objs.size by rw[hCs]; exact MO _),λx cc z=>I.freeC x cc (ck.sub x cc z),λp hp=>absurd hp (by simp[mW]),(I.hok.kept k2).kept k1,by rw[JV]; exact ck.len⟩
  ·rw[J6]at e2;cases q:cap[i]? with
   | none=>rw[q]at e2; cases e2
   | some oj=>
    rw[q]at e2;cases oj with
    | none=>cases e2
    | some j=>
     obtain⟨z1,z2,z3⟩:=ck.cap i j x q e1;have e2':(σ[j]?).join=ba v:=by simpa using e2
     have e2'':σ[j]?=ba (ba v):=by
      cases r:σ[j]? with
      | none=>rw[r]at e2'; cases e2'
      | some y=>rw[r]at e2'; exact congrArg ba e2'
     obtain⟨u,ru,lk⟩:=hl0 j x v z1 e2'' (by
      rcases z2 with z|z
      ·exact .inr (.inl z)
      ·exact .inr (.inr z))
     refine⟨u,ru,?_⟩;rcases lk with⟨zk,_⟩|⟨_,cc,zc,zi⟩
     ·rcases z2 with z|z <;> (rw[zk]at z; cases z)
     ·obtain⟨c2,hc2⟩:=ck.has x z3;have:=ck.sub x c2 hc2;rw[zc]at this; cases this
      refine .inr ⟨z3,cc,hc2,?_⟩;obtain⟨o,ho,hd⟩:=zi;exact⟨o,k1 _ _ (k2 _ _ ho),hd⟩
  ·obtain⟨v,o,ho,hd⟩:=I.cell x cc (ck.sub x cc z);exact⟨v,o,k1 _ _ (k2 _ _ ho),hd⟩
 have er0:EnvRel X.K A H (fP cap ρ) (cap.map λo=>match o with|some j=>(σ[j]?).join|none=>gV):=by
  refine⟨by simp[fP],λi w q=>?_⟩
  unfold fP at q;rw[J6]at q ⊢;cases r:cap[i]? with
  | none=>rw[r]at q; cases q
  | some oj=>
   rw[r]at q;cases oj with
   | none=>cases q
   | some j=>
    have q':(ρ[j]?).join=ba w:=by simpa using q
    have q'':ρ[j]?=ba (ba w):=by
     cases z:ρ[j]? with
     | none=>rw[z]at q'; cases q'
     | some y=>rw[z]at q'; exact congrArg ba q'
    obtain⟨v,z1,z2⟩:=er.2 j w q'';exact⟨v,by simp[z1],z2⟩
 have t1:tn 0 h₁:=T.keep 0 s.heap h₁ t0 λb hb o z=>k1 b o (k2 b o z)
 have fpOk':∀ {H':Hp} {pp:JT (J4×LJ)},(∀b∈fp,H' b=gV)->(∀p∈pp,p.1=s.heap.objs.size)->∀b∈fp,jD (mW X scope cl h2.objs.size N s3 H (fp++[s.heap.objs.size])) pp H' b:=λhn hp b hb=>
  ⟨hn b hb,ltC (fpLt b hb),fpStk b hb,.inl (LK _ hb),λx cc z=>(hfp b hb).2.2.2.2.1 x cc (ck.sub x cc z),λp hpp=>by
   rw[hp p (by simpa [mW]using hpp)]
   exact(Kt (fpLt b hb)).symm⟩
 have DinEx:s.heap.objs.size∈fp++[s.heap.objs.size]:=KH _ (by simp)
 have cellD:∀x c,cl.lookup x=ba c->c≠s.heap.objs.size:=λx cc z=>Kt (cellLt x cc (ck.sub x cc z))
 have fpD:∀b∈fp,b≠s.heap.objs.size:=λb hb=>Kt (fpLt b hb)
 have theEnd:∀s' σ' H' A' vs its nn,Inv (mW X scope cl h2.objs.size N s3 H (fp++[s.heap.objs.size])) [] σ' H' s'->s'.heap.get? s.heap.objs.size=ba { cls:=.type "list",data:=.seq its nn }->∀(hits:∃l:JT JW,its=l.toArray/\Vals vs l),H' s.heap.objs.size=gV->Ext X.K A H A' H'->StoreOk X.w X.K A' H' S'->RelL X.K A' H' ws vs->
   RR (.ref s.heap.objs.size) h2.objs.size (.ok .next) s':=by
  intro s' σ' H' A' vs its nn I' hD hits hDn ex so' rl;obtain⟨l,rfl,rv⟩:=hits;obtain⟨m,hn,_⟩:=id I'.loc;have un:Un (sN X.stack) (fp++[s.heap.objs.size]) H H' s.heap s'.heap:=(Un.kept k2).trans I'.base;have hch:∀b∈fp++[s.heap.objs.size],(b∈X.ex\/X.s₀.heap.objs.size<=b)/\b≠X.env.locals/\(∀x c,X.env.cells.lookup x=ba c->c≠b)/\∀p∈X.pn++pins,p.1≠b:=λb hb=>by
   rcases K2.mp hb with hb|hb
   ·exact⟨(hfp b hb).2.2.2.1,(hfp b hb).2.1,(hfp b hb).2.2.2.2.1,(hfp b hb).2.2.2.2.2⟩
   ·have eb:b=s.heap.objs.size:=by simpa using hb
    subst eb;exact⟨.inr I.sz,(Kt I.lt).symm,λx cc z=>Kt (cellLt x cc z),λp hp=>Kt (Kl (I.pin p hp).1)⟩
  have I2:Inv X pins σ H' s':=I.call' (show s'.os=s.os from I'.os) un I'.hok I'.bare hch
  have I3:Inv X pins σ (bZ H' s.heap.objs.size (.lst vs)) s':=Inv.adopt I2 hDn (hch _ DinEx).1 (hch _ DinEx).2.1 (hch _ DinEx).2.2.1 (hch _ DinEx).2.2.2 ⟨by rw[<- rl.length]; exact hz,l,nn,rv,hD⟩
  have hCle:s.heap.objs.size<=h2.objs.size:=by rw[hCs]; exact MO _
  exact fin _ _ s' H' A' vs m hn hDn hDC (KM (Kx I.lt hCle)) (I.nofs hCle) I'.free (Kc I.sz hCle) (λx cc z=>Kt (Kx (cellLt x cc z) hCle))
   (λp hp=>Kt (Kx (Kl (I.pin p hp).1) hCle)) I3 ex so' rl
 have loop:∀s4:JY,s4={ s3 with heap:=h₁,toks:=s3.toks+([]:JT (Kn×JW)).length }->
   codeAny (model X.prog X.w) X.A (.compLoop (.ListComp elt [⟨tg,iter,ifs,0⟩] scope pos) 0 (.ref it) (.ref s.heap.objs.size) (compEnvC scope cl h2.objs.size X.env)) (RR (.ref s.heap.objs.size) h2.objs.size) s4:=by
  rintro s4 rfl;refine gT (λk s5=>∃i σ5 H5 A5 ρ5 S5 done its nn vs ys,Inv (mW X scope cl h2.objs.size N s3 H (fp++[s.heap.objs.size])) [] σ5 H5 s5/\tn i s5.heap/\(∀b∈fp,H5 b=gV)/\s5.heap.get? s.heap.objs.size=ba { cls:=.type "list",data:=.seq (its:JT JW).toArray nn }/\H5 s.heap.objs.size=gV/\Vals vs its/\
   Ext X.K A H A5 H5/\EnvRel X.K A5 H5 ρ5 σ5/\StoreOk X.w X.K A5 H5 S5/\RelL X.K A5 H5 done vs/\ws=done++ys/\bU mi g c f k i ρ5 S5=ba (ys,S')) ?_ n
   ⟨0,_,H,A,_,S,[],[],0,[],ws,I0,t1,λb hb=>(hfp b hb).1,k1 _ _ hD2,fresh _ (J7 _),.nil,.refl,er0,so,.nil,rfl,e⟩
  rintro k s5 ⟨i,σ5,H5,A5,ρ5,S5,done,its,nn,vs,ys,I5,t5,f5,d5,n5,v5,e5,er5,so5,rl5,hw5,w5⟩;have pinD:Inv (mW X scope cl h2.objs.size N s3 H (fp++[s.heap.objs.size])) [(s.heap.objs.size,{ cls:=.type "list",data:=.seq its.toArray nn })] σ5 H5 s5:=I5.pins_of λp hp=>by
   have hp':p=(s.heap.objs.size,{ cls:=.type "list",data:=.seq its.toArray nn }):=by simpa using hp
   subst hp';exact⟨d5,n5,hDC,λz=>LA _ (stkLt _ z),λv z=>by cases z⟩
  have oneD:∀p∈[(s.heap.objs.size,({ cls:=.type "list",data:=.seq its.toArray nn }:LJ))],p.1=s.heap.objs.size:=λp hp=>by
   have hp':p=(s.heap.objs.size,{ cls:=.type "list",data:=.seq its.toArray nn }):=by simpa using hp
   rw[hp']
  cases k with
  | zero=>
   simp only[bU]at w5;split at w5
   ·rename_i hst;cases w5;rw[LW]at hw5;subst hw5;refine bS (T.done (mW X scope cl h2.objs.size N s3 H (fp++[s.heap.objs.size])) rfl rfl rfl hc i _ s5 σ5 H5 _ pinD (fpOk' f5 oneD) t5 (mit.stop A5 H5 _ i e5 so5 hst)) λr s6 ⟨hr,I6⟩=>?_
    subst hr;have p6:=I6.pin _ (KH _ (Kk.mpr rfl));exact theEnd s6 σ5 H5 A5 vs _ nn (I6.pins_of λp hp=>absurd hp (by simp)) p6.1 ⟨its,rfl,v5⟩ n5 e5 so5 rl5
   ·cases w5
  | succ k=>
   simp only[bU]at w5;split at w5
   ·rename_i w hw;obtain⟨go,yl⟩:=mit.go A5 H5 S5 i w e5 so5 hw;refine bS (T.item (mW X scope cl h2.objs.size N s3 H (fp++[s.heap.objs.size])) rfl rfl rfl hc i _ s5 σ5 H5 _ pinD (fpOk' f5 oneD) t5 go) λr s6 ⟨u,hr,h6⟩=>?_
    subst hr;refine bS h6 λ_ s7 ⟨x,H7,I7,r7,y7,t7,f7⟩=>?_
    obtain⟨x1,x2,x3⟩:=yl x H7 y7;have I7':=I7.pinned (fpOk' f7 oneD) (T.obj _ _ t7);split at w5
    ·rename_i ρ8 S8 h8;refine bS (bk.tgt _ _ _ _ _ s7 σ5 H7 x u (λσ' H'=>∃A',Ext X.K A5 H5 A' H'/\StoreOk X.w X.K A' H' S8/\EnvRel X.K A' H' ρ8 σ') I7' r7 ⟨A5,ρ5,S5,w,ρ8,S8,er5.mono x1,x2,x3,h8,λσ' H' A' q1 q2 q3=>⟨A',x1.trans q1,q2,q3⟩⟩) λ_ s8 ⟨σ8,H8,I8,A8,e58,so8,er8⟩=>?_
     have e8:Ext X.K A H A8 H8:=e5.trans e58;have pD:∀ {σ':L2.St} {H':Hp} {s':JY},Inv (mW X scope cl h2.objs.size N s3 H (fp++[s.heap.objs.size])) ([(s.heap.objs.size,{ cls:=.type "list",data:=.seq its.toArray nn })]++jE fp s7.heap) σ' H' s'->s'.heap.get? s.heap.objs.size=ba { cls:=.type "list",data:=.seq its.toArray nn }/\H' s.heap.objs.size=gV:=λI'=>
      let q:=I'.pin _ (KH _ (LK _ (Kk.mpr rfl)))
      ⟨q.1,q.2.1⟩
     have pF:∀ {σ':L2.St} {H':Hp} {s':JY},Inv (mW X scope cl h2.objs.size N s3 H (fp++[s.heap.objs.size])) ([(s.heap.objs.size,{ cls:=.type "list",data:=.seq its.toArray nn })]++jE fp s7.heap) σ' H' s'->(∀b∈fp,H' b=gV)/\∀b∈fp,∀o,s7.heap.get? b=ba o->s'.heap.get? b=ba o:=λI'=>
      ⟨λb hb=>by
       obtain⟨o,eo,_⟩:=T.obj _ _ t7 b hb;exact(I'.pin (b,o) (KH _ (KH _ (fL hb eo)))).2.1,
       λb hb o eo=>(I'.pin (b,o) (KH _ (KH _ (fL hb eo)))).1⟩
     split at w5
     ·rename_i S9 h9;refine bS (bk.tst _ _ _ _ _ s8 σ8 H8 (λb H'=>b=true/\∃A',Ext X.K A8 H8 A' H'/\StoreOk X.w X.K A' H' S9) I8 ⟨A8,ρ8,S8,true,S9,er8,so8,h9,λb H' ⟨z0,A',z1,z2⟩=>⟨z0,A',z1,z2⟩⟩) λb s9 ⟨H9,I9,z0,A9,e9,so9⟩=>?_
      subst z0;rw[Ks rfl];split at w5
      ·rename_i y S10 h10;split at w5
       ·rename_i ys' S4 h11;cases w5;refine bS (bk.elt _ _ _ _ _ s9 σ8 H9 (EndV X.w X.K A9 H9 S10 y) I9 ⟨A9,ρ8,S9,y,S10,er8.mono e9,so9,h10,λ_ _ z=>z⟩) λu10 s10 ⟨v10,H10,I10,r10,A10,e10,so10,rl10⟩=>?_
        obtain⟨d10,n10⟩:=pD I10;obtain⟨f10,k10⟩:=pF I10;have hlen:its.length < sizeLine:=by
         have l1:=v5.length;have l2:=rl5.length;rw[hw5,J8,La]at hz;omega
        refine pW d10 hlen λh' n' hd' hk'=>?_
        have Ib:Inv (mW X scope cl h2.objs.size N s3 H (fp++[s.heap.objs.size])) [] σ8 H10 { s10 with heap:=h' }:=by
         have Ia:Inv (mW X scope cl h2.objs.size N s3 H (fp++[s.heap.objs.size])) [] σ8 H10 s10:=I10.pins_of λp hp=>absurd hp (by simp)
         exact Ia.turned (t':=s10.toks) (it:=s.heap.objs.size) hk' n10 hDC (.inl DinEx) cellD (λp hp=>absurd hp (by simp[mW]))
        refine⟨k,L5 k,i+1,σ8,H10,A10,ρ8,S10,done++[y],its++[u10],n',vs++[v10],ys',Ib,?_,f10,hd',n10,v5.append (.cons r10 .nil),(e8.trans e9).trans e10,(er8.mono e9).mono e10,so10,?_,?_,h11⟩
        ·exact T.keep (i+1) s7.heap h' t7 λb hb o eo=>hk' b o (fpD b hb) (k10 b hb o eo)
        ·exact(rl5.mono ((e58.trans e9).trans e10)).append (.cons rl10 .nil)
        ·rw[hw5,Mq]; rfl
       ·cases w5
      ·cases w5
     ·rename_i S9 h9;refine bS (bk.tst _ _ _ _ _ s8 σ8 H8 (λb H'=>b=false/\∃A',Ext X.K A8 H8 A' H'/\StoreOk X.w X.K A' H' S9) I8 ⟨A8,ρ8,S8,false,S9,er8,so8,h9,λb H' ⟨z0,A',z1,z2⟩=>⟨z0,A',z1,z2⟩⟩) λb s9 ⟨H9,I9,z0,A9,e9,so9⟩=>?_
      subst z0;rw[KF Ku];obtain⟨d9,n9⟩:=pD I9;obtain⟨f9,k9⟩:=pF I9;refine⟨k,L5 k,i+1,σ8,H9,A9,ρ8,S9,done,its,nn,vs,ys,I9.pins_of λp hp=>absurd hp (by simp),T.keep (i+1) s7.heap _ t7 k9,f9,d9,n9,v5,e8.trans e9,er8.mono e9,so9,rl5.mono (e58.trans e9),hw5,w5⟩
     ·cases w5
    ·cases w5
   ·cases w5
 exact codeAny_compStart_list (loop _ rfl) (T.self X.A 0 _ _ _ t1 (loop _ rfl))
theorem rS {fi:FI}{g:FG}{c:FT}{f:FE}{cap:JT (J1 J3)}{ρ:Fm}{S:aa}{w:W}{S':aa}(e:lW fi g c f cap ρ S=ba (w,S')) :
  ∃mi S1 n ys S2,fi ρ S=ba (mi,S1)/\mi.len S1=ba n/\bU mi g c f n 0 (fP cap ρ) S1=ba (ys,S2)/\ys.length<=sizeLine/\w=.ref S2.length/\S'=S2++[.lst ys]:=by
 unfold lW at e;split at e
 ·rename_i mi S1 h1;split at e
  ·rename_i n h2;split at e
   ·rename_i ys S2 h3;obtain⟨h4,h5,h6⟩:=lc e;exact⟨mi,S1,n,ys,S2,h1,h2,h3,h4,h5,h6⟩
   ·cases e
  ·cases e
 ·cases e
theorem Cj {scope:Nf}{N:JT Kn}{cap:JT (J1 J3)}{tg elt iter:Kw}{ifs:JT Kw}{fi:FI}{g:FG}{c:FT}{f:FE}{pos:MB}(hc:X.calm=true)(hi:GI X tg iter fi)(hck:X.Ok->∃cl,CompOk X scope cl N cap/\BlockOk X scope cl N tg elt ifs g c f)
  (hs:∀x,foldedSetIterable iter X.env x=pure x):GE X (.ListComp elt [⟨tg,iter,ifs,0⟩] scope pos) (lW fi g c f cap):=by
 intro pins s σ H Q I ⟨A,ρ,S,w,S',er,so,e,hq⟩;obtain⟨mi,S1,n,ys,S2,h1,h2,h3,h4,rfl,rfl⟩:=rS e;obtain⟨cl,ck,bk⟩:=hck I.ok;rw[eval_ListComp];refine O7 (use:=gV) rfl hs ck.clos ck.kind ck.names (bS (hi pins s σ H (λJ H'=>∃A',Ext X.K A H A' H'/\StoreOk X.w X.K A' H' S1/\MIt X.w X.K mi J A' H') I ⟨A,ρ,S,mi,S1,er,so,h1,λJ H' A' z1 z2 z3=>⟨A',z1,z2,z3⟩⟩) λv s1 q1=>bS q1 λitv s2 q2=>?_)
 obtain⟨it,fp,tn,J,H2,rfl,I2,T,t0,hfp,A2,e2,so2,mit⟩:=q2;refine oH (RR:=λacc C=>compPost (model X.prog X.w) X.A X.xe gV (EP X pins σ Q) acc C) I2 hc (er.mono e2) so2 ck bk T t0 hfp mit h3 h4 ?_
 intro D C s' H' A' vs m hn hDn hDC hCL hCf hCn hCs hCc hCp I3 ex so3 rl;refine⟨m,hn,λh' hs'=>?_⟩
 have I4:Inv X pins σ (bZ H' D (.lst vs)) { s' with heap:=h' }:=I3.turned (t':=s'.toks) (it:=C) (λb o hb eo=>hs'.extBut b o hb eo) (by rw[aM (Ne.symm hDC)]; exact hCn) hCL (.inr hCs) hCc hCp
 exact⟨.ref D,_,I4,rfl,hq _ _ (EndV.after (e2.trans ex) (.lst so3 rl hDn))⟩
theorem tW {scope:Nf}{N:JT Kn}{cap:JT (J1 J3)}{tg elt iter:Kw}{ifs:JT Kw}{fi:FI}{g:FG}{c:FT}{f:FE}{pos py spos:MB}{y:Kn}{i:J3}(hc:X.calm=true)(hi:GI X tg iter fi)(hck:X.Ok->∃cl,CompOk X scope cl N cap/\BlockOk X scope cl N tg elt ifs g c f)
  (hs:∀x,foldedSetIterable iter X.env x=pure x) (hsw:swapsWith (.ListComp elt [⟨tg,iter,ifs,0⟩] scope pos) (ba (.Name y py)) spos.line X.env=pure true) (hN:X.N.Nodup) (hy:X.N[i]?=ba y) (hl:X.env.scope.names.lookup y=ba .local) :
  GS X (.Assign [.Name y py] (.ListComp elt [⟨tg,iter,ifs,0⟩] scope pos) spos) (lV (lW fi g c f cap) (B4 i)):=by
 intro pins s σ H Dd I ⟨A,ρ,S,o,S',er,so,e,hd⟩;unfold lV at e;split at e
 ·rename_i w S0 h0;simp only[B4]at e;cases e;obtain⟨mi,S1,n,ys,S2,h1,h2,h3,h4,rfl,rfl⟩:=rS h0;obtain⟨cl,ck,bk⟩:=hck I.ok;rw[exec_Assign_Name_used _ _ _ _ hsw];refine JU (Ob (JU ?_));show wpAny _ X.A (do let _ <- comprehension (.ListComp elt [⟨tg,iter,ifs,0⟩] scope pos) scope X.env _ (newList []) false (eval iter X.env) (ba (assign (.Name y py) X.env))) _ _ s
  refine JU (L0 (O7 (use:=ba (assign (.Name y py) X.env)) (Q:=λ_ s'=>SP X pins Dd .next s') rfl hs ck.clos ck.kind ck.names
   (bS (hi pins s σ H (λJ H'=>∃A',Ext X.K A H A' H'/\StoreOk X.w X.K A' H' S1/\MIt X.w X.K mi J A' H') I ⟨A,ρ,S,mi,S1,er,so,h1,λJ H' A' z1 z2 z3=>⟨A',z1,z2,z3⟩⟩) λv s1 q1=>bS q1 λitv s2 q2=>?_)) (λ_ s' hq=>JZ (JZ hq)) λ_ _ e=>e)
  obtain⟨it,fp,tn,J,H2,rfl,I2,T,t0,hfp,A2,e2,so2,mit⟩:=q2;refine oH (RR:=λacc C=>compPost (model X.prog X.w) X.A X.xe (ba (assign (.Name y py) X.env)) (λ_ s'=>SP X pins Dd .next s') acc C) I2 hc (er.mono e2) so2 ck bk T t0 hfp mit h3 h4 ?_
  intro D C s' H' A' vs m hn hDn hDC hCL hCf hCn hCs hCc hCp I3 ex so3 rl;obtain⟨oC,esC,epC,hoC,hdC,hrC⟩:=id hn;have I3':Inv X (pins++[(C,oC)]) σ (bZ H' D (.lst vs)) s':=I3.pins_of λp hp=>by
   rcases K2.mp hp with hp|hp
   ·exact I3.pin p (KH _ hp)
   ·have hp':p=(C,oC):=by simpa using hp
    subst hp';exact⟨hoC,by rw[aM (Ne.symm hDC)]; exact hCn,hCL,hCf,λv z=>by rw[hdC]at z; cases z⟩
  show wpAny _ X.A (assign (.Name y py) X.env (.ref D)) _ _ _;refine QL (iT I3' hN hy (.inl hl) (v:=.ref D) rfl (λs4 I4=>?_) (.inr hl))
  have pC:=I4.pin (C,oC) (KH _ (KH _ (Kk.mpr rfl)));refine⟨m,⟨oC,esC,epC,pC.1,hdC,hrC⟩,λh' hs'=>?_⟩
  have I5:Inv X pins (σ.set i (ba (.ref D))) (bZ H' D (.lst vs)) s4:=I4.pins_of λp hp=>I4.pin p (KH _ (LK _ hp))
  have I6:Inv X pins (σ.set i (ba (.ref D))) (bZ H' D (.lst vs)) { s4 with heap:=h' }:=I5.turned (t':=s4.toks) (it:=C) (λb o hb eo=>hs'.extBut b o hb eo) (by rw[aM (Ne.symm hDC)]; exact hCn) hCL (.inr hCs) hCc hCp
  obtain⟨Af,f1,f2,f3⟩:=EndV.after (e2.trans ex) (EndV.lst so3 rl hDn);exact⟨_,_,I6,hd.nx _ _ ⟨_,Af,rfl,f1,f2,(er.mono f1).set f3 i⟩⟩
 ·cases e
end
open PySem.Builtin.SmallTypes (nextOf)
structure Zap (z p q i j:J4):Prop where
 pz:p≠z
 qz:q≠z
 iz:i≠z
 jz:j≠z
 pq:p≠q
 pi:p≠i
 pj:p≠j
 qi:q≠i
 qj:q≠j
 ij:i≠j
section
variable{prog:KJ}{w:KT}
structure Zit (prog:KJ)(w:KT)(it:J4)(T:J3->K6->Prop)(C:K6->Prop)(i:J3)(U:J1 (JW->Prop)):Prop where
 keep:∀j h h',T j h->(∀o,h.get? it=ba o->h'.get? it=ba o)->T j h'
 next:∀V,U=ba V->∀(B:KP) (s:JY) (Q:JW->JY->Prop) (E:JW->JY->Prop),T i s.heap->C s.heap->(∀u h' tk,V u->T (i+1) h'->L9 it s.heap h'->Q u { s with heap:=h',toks:=tk })->wpAny (model prog w) B (nextOf (.ref it)) Q E s
 stop:U=gV->∀(B:KP) (s:JY) (Q:JW->JY->Prop) (E:JW->JY->Prop),B.handled=gV->T i s.heap->C s.heap->(∀h' e,RA it s.heap h'->(∃o,h'.get? e=ba o/\o.cls=.type "StopIteration")->E (.ref e) { s with heap:=h' })->wpAny (model prog w) B (nextOf (.ref it)) Q E s
variable{B:KP}{E:JW->JY->Prop}{s:JY}{z p q i1 i2:J4}{T1 T2:J3->K6->Prop}{C1 C2:K6->Prop}{i:J3}{a b:JW}
noncomputable def Zc (z q i1 i2:J4)(C:K6->Prop):Prop:=∀h h',C h->(∀c o,c≠z->c≠q->c≠i1->c≠i2->h.get? c=ba o->h'.get? c=ba o)->C h'
theorem lX {U1 U2:J1 (JW->Prop)}{Q:JW->JY->Prop}(D:Zap z p q i1 i2)(Z1:Zit prog w i1 T1 C1 i U1)(Z2':∀V1,U1=ba V1->Zit prog w i2 T2 C2 i U2)(k1:Zc z q i1 i2 C1)(k2:Zc z q i1 i2 C2)(hh:B.handled=gV)
  (hz:Qq s.heap z p q .none) (hp:N9 s.heap p (.ref i1) (.ref i2)) (hq:N9 s.heap q a b) (t1:T1 i s.heap) (t2:T2 i s.heap) (c1:C1 s.heap) (c2:C2 s.heap)
  (hI:∀V1 V2,U1=ba V1->U2=ba V2->∀u v h' tk,V1 u->V2 v->Qq h' z p q (rawInt s.heap.objs.size)->N9 h' q u v->T1 (i+1) h'->T2 (i+1) h'->N9 h' s.heap.objs.size u v->
   (∀c o,c≠z->c≠q->c≠i1->c≠i2->s.heap.get? c=ba o->h'.get? c=ba o)->Q (.ref s.heap.objs.size) { s with heap:=h',toks:=tk })
  (hE:U1=gV\/U2=gV->∀h' tk e,(∀c o,c≠z->c≠q->c≠i1->c≠i2->s.heap.get? c=ba o->h'.get? c=ba o)->(∃o,h'.get? e=ba o/\o.cls=.type "StopIteration")->E (.ref e) { s with heap:=h',toks:=tk }) :
  wpAny (model prog w) B (Ng.«zip.__next__» ⟨[.ref z],[]⟩) (λfin s'=>∃v,fin=.done (.ret v)/\Q v s') E s:=by
 show wpAny _ _ (field (.ref z) 2 >>= _) _ _ s;refine JU (My hz rfl (x:=.bool false) rfl ?_);show wpAny _ _ (field (.ref z) 3 >>= _) _ _ s;refine JU (My hz rfl (x:=.ref p) rfl (JU (LF hp rfl ?_)));show wpAny _ _ (NI (.ref z) >>= _) _ _ s;unfold NI;refine JU (JU (My hz rfl (x:=.none) rfl (JZ ?_)));simp only[LQ];refine JU (Pl (JU (My hz rfl (x:=.ref q) rfl ?_)));refine JU (M9 hz (by simp) λg1 zz1 s1=>?_)
 replace zz1:Qq g1 z p q .ellipsis:=zz1;refine JU ?_;simp only[List.zipIdx_cons,List.zipIdx_nil,Oi,P6];refine JU (JU (Su ?_));show wpAny _ _ (nextOf (.ref i1) >>= _) _ _ _;have up1:∀c o,c≠z->s.heap.get? c=ba o->g1.get? c=ba o:=λc o hc e=>s1.extBut c o hc e
 have t1':T1 i g1:=Z1.keep _ _ _ t1 λo e=>up1 _ _ D.iz e
 have c1':C1 g1:=k1 _ _ c1 λc o hc _ _ _ e=>up1 c o hc e
 have fin:∀(g:K6) (tk:J3) (it e:J4),(it=i1\/it=i2)->U1=gV\/U2=gV->Qq g z p q .ellipsis->(∀c o,c≠z->c≠q->c≠i1->c≠i2->s.heap.get? c=ba o->g.get? c=ba o)->(∃o,g.get? e=ba o/\o.cls=.type "StopIteration")->
   wpAny (model prog w) B (setField (.ref z) 0 .none) (λ_ s''=>E (.ref e) s'') E { s with heap:=g,toks:=tk }:=λg tk it e _ hu gz kg ⟨oe,he,hc⟩=>by
  have ne:e≠z:=λx=>by subst x; rw[gz]at he; cases he; simp at hc
  exact M9 gz (by simp) λg' _ sb=>hE hu g' tk e (λc o a1 a2 a3 a4 x=>sb.extBut _ _ a1 (kg c o a1 a2 a3 a4 x)) ⟨oe,sb.extBut _ _ ne he,hc⟩
 cases hu1:U1 with
 | none=>
  refine JU (Z1.stop hu1 _ _ _ _ hh t1' c1' λg2 e eb he=>?_)
  exact fin g2 s.toks i1 e (.inl rfl) (.inl hu1) (eb _ _ D.iz.symm zz1) (λc o a1 _ a3 _ x=>eb _ _ a3 (up1 c o a1 x)) he
 | some V1=>
  have Z2:=Z2' V1 hu1;refine JU (Z1.next V1 hu1 _ _ _ _ t1' c1' λu g2 tk2 hu t12 s2=>JZ ?_)
  have q2:N9 g2 q a b:=s2.extBut _ _ D.qi (up1 _ _ D.qz hq);refine JU (LF q2 rfl (JU (P8 q2 λg3 q3 s3=>?_)))
  replace q3:N9 g3 q u b:=q3;refine JU (NS (JZ ?_));refine JU (JU (Su ?_));show wpAny _ _ (nextOf (.ref i2) >>= _) _ _ _;have up3:∀c o,c≠z->c≠q->c≠i1->s.heap.get? c=ba o->g3.get? c=ba o:=λc o a1 a2 a3 x=>s3.extBut _ _ a2 (s2.extBut _ _ a3 (up1 c o a1 x))
  have zz3:Qq g3 z p q .ellipsis:=s3.extBut _ _ D.qz.symm (s2.extBut _ _ D.iz.symm zz1);have t2':T2 i g3:=Z2.keep _ _ _ t2 λo e=>up3 _ _ D.jz D.qj.symm D.ij.symm e
  have c2':C2 g3:=k2 _ _ c2 λc o a1 a2 a3 _ e=>up3 c o a1 a2 a3 e
  cases hu2:U2 with
  | none=>
   refine JU (Z2.stop hu2 _ _ _ _ hh t2' c2' λg4 e eb he=>?_)
   exact fin g4 tk2 i2 e (.inr rfl) (.inr hu2) (eb _ _ D.jz.symm zz3) (λc o a1 a2 a3 a4 x=>eb _ _ a4 (up3 c o a1 a2 a3 x)) he
  | some V2=>
   refine JU (Z2.next V2 hu2 _ _ _ _ t2' c2' λv g4 tk4 hv t24 s4=>JZ ?_)
   have q4:N9 g4 q u b:=s4.extBut _ _ D.qj q3;refine JU (LF q4 rfl (JU (P8 q4 λg5 q5 s5=>?_)))
   replace q5:N9 g5 q u v:=q5;refine JU (NS (JZ (JZ ?_)));refine JU (LF q5 rfl (JU (P1 ?_)));have sz:g5.objs.size=s.heap.objs.size:=by rw[s5.1,s4.1,s3.1,s2.1,s1.1]
   have zz5:Qq g5 z p q .ellipsis:=s5.extBut _ _ D.qz.symm (s4.extBut _ _ D.jz.symm zz3);have t15:T1 (i+1) g5:=Z1.keep _ _ _ t12 λo e=>s5.extBut _ _ D.qi.symm (s4.extBut _ _ D.ij (s3.extBut _ _ D.qi.symm e))
   have t25:T2 (i+1) g5:=Z2.keep _ _ _ t24 λo e=>s5.extBut _ _ D.qj.symm e
   have zlt:z < g5.objs.size:=Kl zz5;show wpAny _ _ (NF (.ref z) (.ref g5.objs.size) >>= _) _ _ _;refine JU ?_;unfold NF;have zz6:Qq (g5.push { cls:=.type "tuple",data:=.seq [u,v].toArray }) z p q .ellipsis:=JX _ zz5;refine JU (M9 zz6 (by simp) λg7 zz7 s7=>?_)
   replace zz7:Qq g7 z p q (rawInt g5.objs.size):=zz7;refine M9 zz7 (by simp) λg8 zz8 s8=>?_
   replace zz8:Qq g8 z p q (rawInt g5.objs.size):=zz8;have up8:∀c o,c≠z->g5.get? c=ba o->g8.get? c=ba o:=λc o hc e=>s8.extBut _ _ hc (s7.extBut _ _ hc (JX _ e))
   have n8:N9 g8 g5.objs.size u v:=s8.extBut _ _ (KM zlt) (s7.extBut _ _ (KM zlt) (Ke _ rfl));rw[sz]at zz8 n8;refine JZ ⟨_,rfl,?_⟩;show Q (.ref g5.objs.size) _;rw[sz];exact hI V1 V2 hu1 hu2 u v g8 tk4 hu hv zz8 (up8 _ _ D.qz q5) (Z1.keep _ _ _ t15 λo e=>up8 _ _ D.iz e) (Z2.keep _ _ _ t25 λo e=>up8 _ _ D.jz e) n8 λc o a1 a2 a3 a4 e=>up8 c o a1 (s5.extBut _ _ a2 (s4.extBut _ _ a4 (up3 c o a1 a2 a3 e)))
end
end Mi
namespace Mi
open PySem PySem.Spec PyProof.Rows L2
open PySem.Builtin.SmallTypes (nextOf)
noncomputable def gp (prog:KJ)(w:KT)(v:JW)(o:LJ)(C:K6->Prop):Prop:=∀(B:KP) (s:JY) (Q:JW->JY->Prop) (E:JW->JY->Prop),C s.heap->Q (.ref s.heap.objs.size) { s with heap:=s.heap.push o }->wpAny (model prog w) B (pyIter v) Q E s
noncomputable def GJ (h:K6)(o1 o2:LJ):K6:=(h.push o1).push o2
noncomputable def GK (h:K6)(o1 o2:LJ):K6:=(GJ h o1 o2).push { cls:=.type "tuple",data:=.seq [.ref h.objs.size,.ref (h.push o1).objs.size].toArray }
noncomputable def GL (h:K6)(o1 o2:LJ):K6:=(GK h o1 o2).push { cls:=.type "tuple",data:=.seq [.none,.none].toArray }
noncomputable def Dc (h:K6)(o1 o2:LJ):K6:=(GL h o1 o2).push { cls:=.type "zip",data:=.fields [.none,.bool false,.bool false,.ref (GJ h o1 o2).objs.size,.ref (GK h o1 o2).objs.size].toArray }
section
variable{prog:KJ}{w:KT}{B:KP}{E:JW->JY->Prop}{s:JY}{v1 v2:JW}{o1 o2:LJ}{C1 C2:K6->Prop}
theorem tX (h1:gp prog w v1 o1 C1)(h2:gp prog w v2 o2 C2)(k2:∀h o,C2 h->C2 (h.push o)) :
  MeetsIn prog w (Ng.«zip.__new__» ⟨[.type "zip",v1,v2],[]⟩) (λ_ R s=>C1 s.heap/\C2 s.heap/\R (.ok (.ret (.ref (GL s.heap o1 o2).objs.size))) { s with heap:=Dc s.heap o1 o2 }):=
 .of_wp λA R s h=>by
  obtain⟨hp,g,d,tk,os⟩:=s;obtain⟨c1,c2,h⟩:=h;have hsub:=sub_zip;have d1:∀(B:KP) (Q:JW->JY->Prop) (E:JW->JY->Prop),Q (.ref hp.objs.size) ⟨hp.push o1,g,d,tk,os⟩->wpAny (model prog w) B (pyIter v1) Q E ⟨hp,g,d,tk,os⟩:=λB Q E q=>h1 B ⟨hp,g,d,tk,os⟩ Q E c1 q
  have d2:∀(B:KP) (Q:JW->JY->Prop) (E:JW->JY->Prop),Q (.ref (hp.push o1).objs.size) ⟨(hp.push o1).push o2,g,d,tk,os⟩->wpAny (model prog w) B (pyIter v2) Q E ⟨hp.push o1,g,d,tk,os⟩:=λB Q E q=>h2 B ⟨hp.push o1,g,d,tk,os⟩ Q E (k2 _ _ c2) q
  wp_walk using d1 _ _ _,d2 _ _ _
  exact⟨_,rfl,h⟩
theorem zf {Q:JW->JY->Prop}(h1:gp prog w v1 o1 C1)(h2:gp prog w v2 o2 C2)(k2:∀h o,C2 h->C2 (h.push o))(c1:C1 s.heap)(c2:C2 s.heap)(n1:o1.isFreed=false)(n2:o2.isFreed=false)
  (h:∀h',Qq h' (s.heap.objs.size+4) (s.heap.objs.size+2) (s.heap.objs.size+3) .none->N9 h' (s.heap.objs.size+2) (.ref s.heap.objs.size) (.ref (s.heap.objs.size+1))->N9 h' (s.heap.objs.size+3) .none .none->
   h'.get? s.heap.objs.size=ba o1->h'.get? (s.heap.objs.size+1)=ba o2->h'.objs.size=s.heap.objs.size+5->(∀c o,s.heap.get? c=ba o->h'.get? c=ba o)->Q (.ref (s.heap.objs.size+4)) { s with heap:=h' }) :
  wpAny (model prog w) B (call (.type "zip") [v1,v2]) Q E s:=by
 refine callType_newIn F.called_zip (by decide) (F.typeCall_zip_2 _ _) (F.newCall_zip_2 _ _) (λobj=>F.args_object_init_3 obj _ _) F.entry_zip_new (tX h1 h2 k2) ⟨c1,c2,?_⟩
 have e1:(s.heap.push o1).objs.size=s.heap.objs.size+1:=LV ..;have e2:(GJ s.heap o1 o2).objs.size=s.heap.objs.size+2:=by unfold GJ; rw[LV,e1]
 have e3:(GK s.heap o1 o2).objs.size=s.heap.objs.size+3:=by unfold GK; rw[LV,e2]
 have e4:(GL s.heap o1 o2).objs.size=s.heap.objs.size+4:=by unfold GL; rw[LV,e3]
 have e5:(Dc s.heap o1 o2).objs.size=s.heap.objs.size+5:=by unfold Dc; rw[LV,e4]
 have g5:(Dc s.heap o1 o2).get? (GL s.heap o1 o2).objs.size=ba _:=Ke _ rfl;have g4:(Dc s.heap o1 o2).get? (GK s.heap o1 o2).objs.size=ba _:=JX _ (Ke _ rfl);have g3:(Dc s.heap o1 o2).get? (GJ s.heap o1 o2).objs.size=ba _:=JX _ (JX _ (Ke _ rfl));have g2:(Dc s.heap o1 o2).get? (s.heap.push o1).objs.size=ba o2:=JX _ (JX _ (JX _ (Ke _ n2)));have g1:(Dc s.heap o1 o2).get? s.heap.objs.size=ba o1:=JX _ (JX _ (JX _ (JX _ (Ke _ n1))));rw[e2,e3,e4]at g5;rw[e1,e2]at g3;rw[e3]at g4;rw[e1]at g2;show _/\_;rw[e4];exact⟨⟨_,g5,rfl⟩,h _ g5 g3 g4 g1 g2 e5 λc o x=>JX _ (JX _ (JX _ (JX _ (JX _ x))))⟩
end
end Mi
namespace Mi
open PySem PySem.Spec PyProof.Rows L2
open PySem.Builtin.SmallTypes (nextOf)
section
variable{prog:KJ}{w:KT}{A:KP}{E:JW->JY->Prop}{s:JY}
theorem GM {it t:J4}{i:J3}{items:KC JW}{x:JW}{Q:JW->JY->Prop}(hit:s.heap.IsTupleIter it t i)(ht:s.heap.IsTuple t items)(hx:items[i]?=ba x)
  (hQ:∀h',h'.IsTupleIter it t (i+1)->L9 it s.heap h'->Q x { s with heap:=h' }):wpAny (model prog w) A (nextOf (.ref it)) Q E s:=by
 obtain⟨o,ho,hc,hd⟩:=id hit;obtain⟨ot,hot,_,nt,hdt⟩:=ht;unfold OS;refine JU (Lk (name:=Ml "__next__") hit.typeIs F.slot_tuple_iterator_next (Ll F.slot_tuple_iterator_next hit.typeIs F.entry_tuple_iterator_next ?_ (F.args_tuple_iterator_next_1 _)));show wpAny _ _ (field (.ref it) 0 >>= _) _ _ s;refine JU (My ho hd (x:=.ref t) rfl ?_);show wpAny _ _ (if (KO t==K7)=true then _ else _) _ _ s
 rw[KF (show ¬ ((KO t==K7)=true)from Ku)]
 show wpAny _ _ (field (.ref it) 1 >>= _) _ _ s;refine JU (My ho hd (x:=.int i 0) rfl (JU (LF hot hdt ?_)));simp only[Km,hx];refine JU (OJ ho hd (by simp) (JZ ⟨x,rfl,JZ (hQ _ ⟨_,LH _ ho (PV (NO hd _)),(Q5 ..).trans hc,?_⟩ (MY ..))⟩))
 rw[NO hd]; simp[rawInt]
theorem GN {it t:J4}{i:J3}{items:KC JW}{Q:JW->JY->Prop}(hh:A.handled=gV)(hit:s.heap.IsTupleIter it t i)(ht:s.heap.IsTuple t items)(hx:items[i]?=gV)
  (hE:∀h' e,RA it s.heap h'->(∃o,h'.get? e=ba o/\o.cls=.type "StopIteration")->E (.ref e) { s with heap:=h' }):wpAny (model prog w) A (nextOf (.ref it)) Q E s:=by
 obtain⟨o,ho,hc,hd⟩:=id hit;obtain⟨ot,hot,_,nt,hdt⟩:=ht;unfold OS;refine JU (Lk (name:=Ml "__next__") hit.typeIs F.slot_tuple_iterator_next (Ll F.slot_tuple_iterator_next hit.typeIs F.entry_tuple_iterator_next ?_ (F.args_tuple_iterator_next_1 _)));show wpAny _ _ (field (.ref it) 0 >>= _) _ _ s;refine JU (My ho hd (x:=.ref t) rfl ?_);show wpAny _ _ (if (KO t==K7)=true then _ else _) _ _ s
 rw[KF (show ¬ ((KO t==K7)=true)from Ku)]
 show wpAny _ _ (field (.ref it) 1 >>= _) _ _ s;refine JU (My ho hd (x:=.int i 0) rfl (JU (LF hot hdt ?_)));simp only[Km,hx];refine JU (Pl (JU (OJ ho hd (by simp) ?_)))
 show wpAny _ _ (newExc (.type "StopIteration") [] >>= _) _ _ _;refine JU ?_;simp only[newExc,newTuple];refine JU (KW ?_ (by size_fits))
 refine JU (m:=firstArgMember _ _) (NR (a:=K7) (by first|rfl|(simp only[firstArgMember]; rfl)) (KW ?_ (by size_fits)))
 simp only[raiseNew];refine JU (Qp ?_)
 first|rw[show A.in1.handled=gV from hh]|rw[hh]
 exact JU (JZ (Rx (hE _ _ (((MY ..).extBut.push _).push _) ⟨_,Ke _ rfl,rfl⟩)))
end
set_option genInjectivity false in
inductive Zs where|tup (a:J4)|lst (a:J4)|txt (x:Kn)
noncomputable def Zs.T (it:J4):Zs->J3->K6->Prop
 | .tup a,i,h=>h.IsTupleIter it a i
 | .lst a,i,h=>h.IsListIter it a i
 | .txt x,i,h=>∃t,h.IsStrIter it "str_ascii_iterator" x t i\/h.IsStrIter it "str_iterator" x t i
noncomputable def Zs.at (K:Kb)(H:Hp)(i:J3)(v:V):Zs->Prop
 | .tup a=>∃xs,SqT K H a xs/\xs[i]?=ba v
 | .lst a=>∃xs,SqL K H a xs/\xs[i]?=ba v
 | .txt x=>∃c,x.cps[i]?=ba c/\v=.str ⟨[c].toArray⟩
noncomputable def Zs.out (K:Kb)(H:Hp)(i:J3):Zs->Prop
 | .tup a=>∃xs,SqT K H a xs/\xs.length<=i
 | .lst a=>∃xs,SqL K H a xs/\xs.length<=i
 | .txt x=>x.cps.size<=i
theorem Zs.keep {S:Zs}{it:J4}{j:J3}{h h':K6}(t:S.T it j h)(k:∀o,h.get? it=ba o->h'.get? it=ba o):S.T it j h':=by
 cases S with
 | tup a=>exact t.at k
 | lst a=>exact t.at k
 | txt x=>
  obtain⟨tk,t⟩:=t;exact⟨tk,t.imp (λ⟨o,e,r⟩=>⟨o,k _ e,r⟩) λ⟨o,e,r⟩=>⟨o,k _ e,r⟩⟩
section
variable{X:Cx}{pins:JT (J4×LJ)}{σ:L2.St}{H:Hp}{s:JY}
theorem zh (I:Inv X pins σ H s){a b:J4}{o:LJ}(h:X.K.lookup a=ba o)(f:jD X pins H b):a≠b:=λz=>by
 subst z;have hb:=I.ok.mod.kin a o h;rcases f.2.2.2.1 with q|q
 ·exact I.ok.noex a o hb q
 ·exact absurd (Kx (Kl (I.ok.bs a o hb).1) q) (LA _)
end
end Mi
namespace Mi
open PySem PySem.Spec PyProof.Rows L2
open PySem.Builtin.SmallTypes (nextOf)
section
variable{X:Cx}{pins:JT (J4×LJ)}{σ:L2.St}{H:Hp}{s:JY}{h':K6}
theorem zj {a b:J4}{u:HO}(h:Rd H a u)(f:H b=gV):a≠b:=λz=>by
 subst z;rcases h with h|⟨o,h⟩ <;> (rw[f]at h; cases h)
theorem Inv.turnedL {t':J3}{ch:JT J4}(I:Inv X pins σ H s)(k:∀b o,b∉ch->s.heap.get? b=ba o->h'.get? b=ba o)(hf:∀b∈ch,jD X pins H b):Inv X pins σ H { s with heap:=h',toks:=t' }:=by
 have nit:∀b u,H b=ba u->b∉ch:=λb u e z=>by have:=(hf b z).1; rw[e]at this; cases this
 refine I.step (g':=s.gens) (d':=s.drawn) (ch:=ch) (λb hb=>?_) (λb o _ _ hc e _=>k b o hc e) (λb o _ _ hc e _=>⟨o.slots,k b o hc e⟩) (λ_ _ _ _ n=>n) (λb o hc e=>⟨o,k b o hc e⟩) (λ_ _ e=>e) (λ_ _ _ e=>e) (λb ps e=>⟨#[],by rw[e]; simp⟩) (λm hm=>?_) (λb u e=>?_) I.bare
 ·obtain⟨_,f1,_,f3,f4,f5⟩:=hf b hb;exact⟨f3,f1,f4,f5⟩
 ·obtain⟨o,es,ep,ho,r⟩:=hm;exact⟨o,es,ep,k _ o (λz=>(hf _ z).2.1 rfl) ho,r⟩
 ·refine(I.hok b u e).stay (λc v hc q=>k c v ?_ q) (λ_ q=>q) λ_ _ q=>q
  rcases hc with z|z
  ·rw[z]; exact nit b u e
  ·exact nit c _ z
theorem Zs.zit {S:Zs}{it z q i1 i2:J4}{i:J3}{U:J1 V}(I:Inv X pins σ H s)(hf:∀b∈[z,q,i1,i2],jD X pins H b)(g:match U with|some v=>S.at X.K H i v|none=>S.out X.K H i) :
  ∃C,Zit X.prog X.w it (S.T it) C i (U.map λv u=>RelV v u)/\C s.heap/\Zc z q i1 i2 C:=by
 have zc:∀(a:J4) (P:K6->Prop),(∀h h',P h->(∀o,h.get? a=ba o->h'.get? a=ba o)->P h')->(∀b∈[z,q,i1,i2],a≠b)->Zc z q i1 i2 P:=λa P hP hn h h' p k=>
  hP h h' p λo e=>k a o (hn z (by simp)) (hn q (by simp)) (hn i1 (by simp)) (hn i2 (by simp)) e
 have sep:∀ {a:J4} {u:HO} {o:LJ} {b:J4},(Rd H a u\/X.K.lookup a=ba o)->b∈[z,q,i1,i2]->a≠b:=λh hb=>h.elim (λr=>zj r (hf _ hb).1) λr=>zh I r (hf _ hb)
 cases S with
 | tup a=>
  obtain⟨xs,hq,hx⟩ : ∃xs,SqT X.K H a xs/\(match U with|some v=>xs[i]?=ba v|none=>xs.length<=i):=by
   cases U <;> exact g
  obtain⟨its,rv,p,_⟩:=I.tuple hq;have hne:∀b∈[z,q,i1,i2],a≠b:=λb hb=>by
   rcases hq with r|⟨o,_,_,r,_⟩
   ·exact zj r (hf b hb).1
   ·exact zh I r (hf b hb)
  refine⟨λh=>h.IsTuple a its.toArray,⟨λj h h' t k=>Zs.keep (S:=.tup a) t k,λV hV B s2 Q E t c hQ=>?_,λhU B s2 Q E hh t c hE=>?_⟩,p,zc a _ (λh h' ⟨o,e,r⟩ k=>⟨o,k _ e,r⟩) hne⟩
  ·cases U with
   | none=>cases hV
   | some v=>
    cases hV;obtain⟨u,hu,ru⟩:=rv.get hx;exact GM t c (x:=u) (by simpa using hu) λh' t' sb=>hQ u h' s2.toks ru t' sb
  ·cases U with
   | some v=>cases hU
   | none=>
    have:=L2.Vals.length rv;have hx':xs.length<=i:=hx;exact GN hh t c (by simp; omega) hE
 | lst a=>
  obtain⟨xs,hq,hx⟩ : ∃xs,SqL X.K H a xs/\(match U with|some v=>xs[i]?=ba v|none=>xs.length<=i):=by
   cases U <;> exact g
  obtain⟨its,rv,p,_⟩:=I.list hq;have hne:∀b∈[z,q,i1,i2],a≠b:=λb hb=>by
   rcases hq with r|⟨o,_,_,r,_⟩
   ·exact zj r (hf b hb).1
   ·exact zh I r (hf b hb)
  refine⟨λh=>h.IsList a its.toArray,⟨λj h h' t k=>Zs.keep (S:=.lst a) t k,λV hV B s2 Q E t c hQ=>?_,λhU B s2 Q E hh t c hE=>?_⟩,p.isList,zc a _ (λh h' ⟨o,e,r⟩ k=>⟨o,k _ e,r⟩) hne⟩
  ·cases U with
   | none=>cases hV
   | some v=>
    cases hV;obtain⟨u,hu,ru⟩:=rv.get hx;exact wpAny_nextOf_list_item t c (x:=u) (by simpa using hu) λh' t' sb=>hQ u h' s2.toks ru t' sb
  ·cases U with
   | some v=>cases hU
   | none=>
    have:=L2.Vals.length rv;have hx':xs.length<=i:=hx;exact wpAny_nextOf_list_end hh t c (by simp; omega) hE
 | txt x=>
  refine⟨λ_=>QI,⟨λj h h' t k=>Zs.keep (S:=.txt x) t k,λV hV B s2 Q E t _ hQ=>?_,λhU B s2 Q E hh t _ hE=>?_⟩,trivial,λ_ _ _ _=>trivial⟩
  ·cases U with
   | none=>cases hV
   | some v=>
    cases hV;obtain⟨c,hc,rfl⟩ : ∃c,x.cps[i]?=ba c/\v=.str ⟨[c].toArray⟩:=g;obtain⟨tk,t|t⟩:=t
    ·exact wpAny_nextOf_ascii_item t hc λh' t' sb=>hQ _ h' _ ⟨_,rfl⟩ ⟨tk,.inl t'⟩ sb
    ·exact wpAny_nextOf_wide_item t hc λh' t' sb=>hQ _ h' _ ⟨_,rfl⟩ ⟨tk,.inr t'⟩ sb
  ·cases U with
   | some v=>cases hU
   | none=>
    have hx:x.cps[i]?=gV:=by simpa using(show x.cps.size<=i from g)
    obtain⟨tk,t|t⟩:=t
    ·exact wpAny_nextOf_ascii_end hh t hx hE
    ·exact wpAny_nextOf_wide_end hh t hx hE
end
noncomputable def Zs.is (K:Kb)(H:Hp)(i:J3)(v:V):Zs->Prop
 | .tup a=>∀xs,SqT K H a xs->xs[i]?=ba v
 | .lst a=>∀xs,SqL K H a xs->xs[i]?=ba v
 | .txt x=>∃c,x.cps[i]?=ba c/\v=.str ⟨[c].toArray⟩
theorem Zs.at_is {S:Zs}{X:Cx}{pins:JT (J4×LJ)}{σ:L2.St}{H:Hp}{s:JY}{i:J3}{v:V}(I:Inv X pins σ H s)(h:S.at X.K H i v):S.is X.K H i v:=by
 cases S with
 | tup a=>obtain⟨xs,hq,hx⟩:=h; exact λys hy=>by rw[I.tuple_inj hy hq]; exact hx
 | lst a=>obtain⟨xs,hq,hx⟩:=h; exact λys hy=>by rw[I.list_inj hy hq]; exact hx
 | txt x=>exact h
noncomputable def HN (K:Kb)(S1 S2:Zs):It:=
 ⟨λi H=>∃x y,S1.at K H i x/\S2.at K H i y,λi H v H'=>∃p x y,S1.is K H i x/\S2.is K H i y/\v=.ref p/\H p=gV/\H'=bZ H p (.tup [x,y]),λi H=>S1.out K H i\/(∃x,S1.at K H i x)/\S2.out K H i⟩
theorem zm {P:KJ}{w:KT}{K:Kb}{els:JT Kw}{k0:J3}{tp:MB}{S1 S2:Zs}{z p q i1 i2:J4}(D:Zap z p q i1 i2) :
  Turn P w K (.Tuple els k0 tp) (HN K S1 S2) [z,p,q,i1,i2] z (λi h=>Qq h z p q .none/\N9 h p (.ref i1) (.ref i2)/\(∃a b,N9 h q a b)/\S1.T i1 i h/\S2.T i2 i h) where
 mem:=by simp
 obj:=λi h ⟨a,b,⟨u,v,c⟩,d,e⟩ b' hb=>by
  have it:∀ {S:Zs} {it:J4},S.T it i h->∃o,h.get? it=ba o/\∀v,o.data≠.cell v:=λ{S it} t=>by
   cases S with
   | tup a=>obtain⟨o,e,_,d⟩:=t; exact⟨o,e,λv z=>by rw[d]at z; cases z⟩
   | lst a=>obtain⟨o,e,_,d⟩:=t; exact⟨o,e,λv z=>by rw[d]at z; cases z⟩
   | txt x=>obtain⟨tk,⟨o,e,_,d⟩|⟨o,e,_,d⟩⟩:=t <;> exact⟨o,e,λv z=>by rw[d]at z; cases z⟩
  simp only[Kz,Lg,ME]at hb;rcases hb with rfl|rfl|rfl|rfl|rfl
  ·exact⟨_,a,λv z=>by cases z⟩
  ·exact⟨_,b,λv z=>by cases z⟩
  ·exact⟨_,c,λv z=>by cases z⟩
  ·exact it d
  ·exact it e
 keep:=λi h h' ⟨a,b,⟨u,v,c⟩,d,e⟩ k=>⟨k z (by simp) _ a,k p (by simp) _ b,⟨u,v,k q (by simp) _ c⟩,Zs.keep d (k i1 (by simp)),Zs.keep e (k i2 (by simp))⟩
 item:=by
  intro X hP hw hK hc i pins s σ H E I hf st hg;subst hP hw hK;obtain⟨x,y,g1,g2⟩:=hg;obtain⟨a,b,⟨u,v,c⟩,d,e⟩:=st;have hf4:∀b∈[z,q,i1,i2],jD X pins H b:=λb hb=>hf b (by simp only[Kz,Lg,ME]at hb ⊢; rcases hb with h|h|h|h <;> simp[h])
  obtain⟨C1,Z1,c1,k1⟩:=Zs.zit (it:=i1) (U:=ba x) I hf4 g1;obtain⟨C2,Z2,c2,k2⟩:=Zs.zit (it:=i2) (U:=ba y) I hf4 g2;have hT:s.TypeIs (.ref z) "zip":=⟨_,a,rfl⟩;unfold pyNext;refine JU (Oc (Lk (name:=Ml "__next__") hT F.slot_zip_next (Ll F.slot_zip_next hT F.entry_zip_next ?_ (F.args_zip_next_1 _))));refine lX D Z1 (λ_ _=>Z2) k1 k2 (I.ok.hd hc) a b c d e c1 c2 (λV1 V2 e1 e2 u1 u2 g tk r1 r2 zg qg t1 t2 ng kp=>?_) (λz=>by rcases z with z|z <;> cases z)
  cases e1;cases e2;refine JZ ⟨_,rfl,?_⟩;refine wpAny_letOwnedTupleGo_zip (s:={ s with heap:=g,toks:=tk }) zg λg' zg' sb=>?_
  have N0:H s.heap.objs.size=gV:=I.hok.fresh (J7 _);have lt:∀ {b:J4},b∈[z,p,q,i1,i2]->s.heap.objs.size≠b:=λ{b} hb=>by
   have:∃o,s.heap.get? b=ba o:=by
    have it:∀ {S:Zs} {it:J4},S.T it i s.heap->∃o,s.heap.get? it=ba o:=λ{S it} t=>by
     cases S with
     | tup a=>obtain⟨o,e,_⟩:=t; exact⟨o,e⟩
     | lst a=>obtain⟨o,e,_⟩:=t; exact⟨o,e⟩
     | txt x=>obtain⟨tk,⟨o,e,_⟩|⟨o,e,_⟩⟩:=t <;> exact⟨o,e⟩
    simp only[Kz,Lg,ME]at hb;rcases hb with rfl|rfl|rfl|rfl|rfl
    ·exact⟨_,a⟩
    ·exact⟨_,b⟩
    ·exact⟨_,c⟩
    ·exact it d
    ·exact it e
   obtain⟨o,e⟩:=this;exact KM (Kl e)
  have up:∀b o,b∉[z,q,i1,i2]->s.heap.get? b=ba o->g'.get? b=ba o:=λb o hb e=>by
   simp only[Kz,Lg,ME,SH]at hb;exact sb.extBut _ _ hb.1 (kp b o hb.1 hb.2.1 hb.2.2.1 hb.2.2.2 e)
  have I1:Inv X pins σ H { s with heap:=g',toks:=tk }:=Mi.Inv.turnedL I up hf4
  have ng':N9 g' s.heap.objs.size u1 u2:=sb.extBut _ _ (lt (by simp)) ng
  have I2:Inv X pins σ (bZ H s.heap.objs.size (.tup [x,y])) { s with heap:=g',toks:=tk }:=by
   refine Mi.Inv.adopt I1 N0 (.inr I.sz) (KM I.lt) (λw c e=>?_) (λp hp=>?_) ⟨by show 2<=sizeLine; decide,[u1,u2],.cons r1 (.cons r2 .nil),⟨_,ng',rfl,0,rfl⟩⟩
   ·obtain⟨v,q⟩:=I.cell w c e;exact Kt q.lt
   ·exact Kt (Kl (I.pin p hp).1)
  refine⟨.ref s.heap.objs.size,_,I2,rfl,⟨s.heap.objs.size,x,y,Zs.at_is I g1,Zs.at_is I g2,rfl,N0,rfl⟩,⟨zg',up p _ ?_ b,⟨u1,u2,sb.extBut _ _ D.qz qg⟩,Zs.keep t1 λo e=>sb.extBut _ _ D.iz e,Zs.keep t2 λo e=>sb.extBut _ _ D.jz e⟩,λb hb=>?_⟩
  ·simp only[Kz,Lg,ME,SH];exact⟨D.pz,D.pq,D.pi,D.pj⟩
  ·rw[aM (Ne.symm (lt hb))];exact(hf b hb).1
 done:=by
  intro X hP hw hK hc i pins s σ H E I hf st hg;subst hP hw hK;obtain⟨a,b,⟨u,v,c⟩,d,e⟩:=st;have hf4:∀b∈[z,q,i1,i2],jD X pins H b:=λb hb=>hf b (by simp only[Kz,Lg,ME]at hb ⊢; rcases hb with h|h|h|h <;> simp[h])
  have hT:s.TypeIs (.ref z) "zip":=⟨_,a,rfl⟩;unfold pyNext;refine JU (Oc (Lk (name:=Ml "__next__") hT F.slot_zip_next (Ll F.slot_zip_next hT F.entry_zip_next ?_ (F.args_zip_next_1 _))));have ends:∀h' tk e,(∀c o,c≠z->c≠q->c≠i1->c≠i2->s.heap.get? c=ba o->h'.get? c=ba o)->(∃o,h'.get? e=ba o/\o.cls=.type "StopIteration")->
    wpAny (model X.prog X.w) X.A (do if <- isInstance (.ref e) (.type "StopIteration")then pure (gV:J1 JW)else throw (.ref e)) (λr s1=>r=gV/\Inv X pins σ H s1) E { s with heap:=h',toks:=tk }:=λh' tk e k ⟨o,ho,hc⟩=>
   JU (Nw (T:="StopIteration") (b:=true) ⟨o,ho,hc⟩ P0 (JZ ⟨rfl,Mi.Inv.turnedL I (λb o hb e=>by
    simp only[Kz,Lg,ME,SH]at hb;exact k b o hb.1 hb.2.1 hb.2.2.1 hb.2.2.2 e) hf4⟩))
  rcases hg with g1|⟨⟨x,g1⟩,g2⟩
  ·obtain⟨C1,Z1,c1,k1⟩:=Zs.zit (it:=i1) (U:=gV) I hf4 g1;exact lX (U2:=gV) D Z1 (λV1 e1=>by cases e1) k1 (C2:=λ_=>QI) (λ_ _ _ _=>trivial) (I.ok.hd hc) a b c d e c1 trivial (λV1 V2 e1 _=>by cases e1) λ_ h' tk e k he=>ends h' tk e k he
  ·obtain⟨C1,Z1,c1,k1⟩:=Zs.zit (it:=i1) (U:=ba x) I hf4 g1;obtain⟨C2,Z2,c2,k2⟩:=Zs.zit (it:=i2) (U:=gV) I hf4 g2;exact lX D Z1 (λ_ _=>Z2) k1 k2 (I.ok.hd hc) a b c d e c1 c2 (λV1 V2 _ e2=>by cases e2) λ_ h' tk e k he=>ends h' tk e k he
 self:=λ_ _ _ _ _ st h=>Rp st.1 h
end Mi
namespace Mi
open PySem PySem.Spec PyProof.Rows L2
noncomputable def HP:W->J1 (JT W)
 | .tup xs=>ba xs
 | .str x=>ba (x.cps.toList.map λc=>.str ⟨[c].toArray⟩)
 | _=>gV
noncomputable def Ck (f:FA):FI:=λρ S=>match f ρ S with
 | some ([x,y],S1)=>match HP x,HP y with
  | some xs,ba ys=>ba (.its (nh xs ys),S1)
  | _,_=>match x,y with
   | .ref r,.ref q=>match gf S1 r,gf S1 q with
    | some _,ba _=>ba (.zl r q,S1)
    | _,_=>gV
   | _,_=>gV
 | _=>gV
section
variable{X:Cx}{pins:JT (J4×LJ)}{σ:L2.St}{H:Hp}{s:JY}{A:JT J4}
noncomputable def ZRel (K:Kb)(A:JT J4)(H:Hp)(xs:JT W):Zs->Prop
 | .tup a=>∃vs,SqT K H a vs/\RelL K A H xs vs
 | .lst a=>Lw
 | .txt x=>xs=x.cps.toList.map λc=>.str ⟨[c].toArray⟩
theorem ZRel.mono {K:Kb}{A A':JT J4}{H H':Hp}{xs:JT W}{S:Zs}(e:Ext K A H A' H')(h:ZRel K A H xs S):ZRel K A' H' xs S:=by
 cases S with
 | tup a=>obtain⟨vs,h1,h2⟩:=h; exact⟨vs,e.tp _ _ h1,h2.mono e⟩
 | lst a=>exact h
 | txt x=>exact h
theorem ZRel.at {K:Kb}{xs:JT W}{S:Zs}{i:J3}{w:W}(h:ZRel K A H xs S)(hi:xs[i]?=ba w):∃v,S.at K H i v/\Rel K A H w v:=by
 cases S with
 | tup a=>obtain⟨vs,h1,h2⟩:=h; obtain⟨v,h3,h4⟩:=h2.get hi; exact⟨v,⟨vs,h1,h3⟩,h4⟩
 | lst a=>exact h.elim
 | txt x=>
  have h:xs=x.cps.toList.map λc=>.str ⟨[c].toArray⟩:=h
  subst h;rw[J6,J0]at hi;obtain⟨c,hc,rfl⟩:=hi;exact⟨.str ⟨[c].toArray⟩,⟨c,by rw[<- Ls]; exact hc,rfl⟩,.str⟩
theorem ZRel.is {K:Kb}{xs:JT W}{S:Zs}{i:J3}{w:W}{v:V}(h:ZRel K A H xs S)(hi:xs[i]?=ba w)(z:S.is K H i v):Rel K A H w v:=by
 obtain⟨v',h1,h2⟩:=h.at hi;cases S with
 | tup a=>
  obtain⟨vs,q,e⟩:=h1;have:=z vs q;rw[e]at this; cases this
  exact h2
 | lst a=>exact h.elim
 | txt x=>
  obtain⟨c,e,rfl⟩:=h1;obtain⟨c',e',rfl⟩:=z;rw[e]at e'; cases e'
  exact h2
theorem ZRel.out {K:Kb}{xs:JT W}{S:Zs}{i:J3}(h:ZRel K A H xs S)(hi:xs.length<=i):S.out K H i:=by
 cases S with
 | tup a=>obtain⟨vs,h1,h2⟩:=h; exact⟨vs,h1,by rw[<- h2.length]; exact hi⟩
 | lst a=>exact h.elim
 | txt x=>
  have h:xs=x.cps.toList.map λc=>.str ⟨[c].toArray⟩:=h
  subst h;show x.cps.size<=i
  simpa using hi
theorem rT {xs ys:JT W}{i:J3}{w:W}(h:(nh xs ys)[i]?=ba w):∃x y,xs[i]?=ba x/\ys[i]?=ba y/\w=.tup [x,y]:=by
 unfold nh at h;rw[PX]at h;split at h
 ·rename_i x y e1 e2;cases h;exact⟨x,y,e1,e2,rfl⟩
 ·cases h
theorem Cm {S1 S2:Zs}{xs ys:JT W}(z1:ZRel X.K A H xs S1)(z2:ZRel X.K A H ys S2):MIt X.w X.K (.its (nh xs ys)) (HN X.K S1 S2) A H:=by
 refine⟨λA' H' S i w e so hi=>?_,λA' H' S i e so hi=>?_⟩
 ·simp only[MI.at,KL]at hi;obtain⟨x,y,e1,e2,rfl⟩:=rT hi;obtain⟨v,g1,r1⟩:=(z1.mono e).at e1;obtain⟨u,g2,r2⟩:=(z2.mono e).at e2;refine⟨⟨v,u,g1,g2⟩,λp H2 ⟨a,v',u',q1,q2,hp,hn,hH⟩=>?_⟩
  subst hp hH;have ex:Ext X.K A' H' A' (bZ H' a (.tup [v',u'])):=c9 (.inl hn);exact⟨ex,so.lay hn,.tup (.of bg) (.cons (((z1.mono e).is e1 q1).mono ex) (.cons (((z2.mono e).is e2 q2).mono ex) .nil))⟩
 ·simp only[MI.at,KL,Lf,nh,LP]at hi
  by_cases h1:xs.length<=i
  ·exact .inl ((z1.mono e).out h1)
  ·have hx:i < xs.length:=by omega
   obtain⟨v,g1,_⟩:=(z1.mono e).at (J5 hx);exact .inr ⟨⟨v,g1⟩,(z2.mono e).out (by omega)⟩
theorem zn {r q:J3}{a b:J4}(ea:A[r]?=ba a)(eb:A[q]?=ba b):MIt X.w X.K (.zl r q) (HN X.K (.lst a) (.lst b)) A H:=by
 refine⟨λA' H' S i w e so hi=>?_,λA' H' S i e so hi=>?_⟩
 ·simp only[MI.at]at hi;split at hi
  ·rename_i xs ys hx hy;simp only[KL]at hi;obtain⟨x,y,e1,e2,rfl⟩:=rT hi;obtain⟨vs,h1,r1⟩:=bN so hx (e.ad _ _ ea);obtain⟨us,h2,r2⟩:=bN so hy (e.ad _ _ eb);obtain⟨v,g1,q1⟩:=r1.get e1;obtain⟨u,g2,q2⟩:=r2.get e2;refine⟨⟨v,u,⟨vs,h1,g1⟩,⟨us,h2,g2⟩⟩,λp H2 ⟨c,v',u',z1,z2,hp,hn,hH⟩=>?_⟩
   subst hp hH;have t1:=z1 vs h1;rw[g1]at t1; cases t1
   have t2:=z2 us h2;rw[g2]at t2; cases t2
   have ex:Ext X.K A' H' A' (bZ H' c (.tup [v,u])):=c9 (.inl hn);exact⟨ex,so.lay hn,.tup (.of bg) (.cons (q1.mono ex) (.cons (q2.mono ex) .nil))⟩
  ·cases hi
 ·simp only[MI.at]at hi;split at hi
  ·rename_i xs ys hx hy;simp only[KL,Lf,nh,LP]at hi;obtain⟨vs,h1,r1⟩:=bN so hx (e.ad _ _ ea);obtain⟨us,h2,r2⟩:=bN so hy (e.ad _ _ eb)
   by_cases hl:xs.length<=i
   ·exact .inl ⟨vs,h1,by rw[<- r1.length]; exact hl⟩
   ·have hx':i < xs.length:=by omega
    obtain⟨v,g1,_⟩:=r1.get (J5 hx');exact .inr ⟨⟨v,vs,h1,g1⟩,us,h2,by rw[<- r2.length]; omega⟩
  ·cases hi
theorem u9 {x:W}{v:V}{u:JW}{xs:JT W}(I:Inv X pins σ H s)(r:Rel X.K A H x v)(ru:RelV v u)(e:HP x=ba xs) :
  ∃(S:Zs) (o:LJ) (C:K6->Prop),ZRel X.K A H xs S/\gp X.prog X.w u o C/\C s.heap/\(∀h o,C h->C (h.push o))/\o.isFreed=false/\∀it h,h.get? it=ba o->S.T it 0 h:=by
 cases r with
 | @tup ws a vs hq rl=>
  cases e;obtain⟨its,rv,p,_⟩:=I.tuple hq;obtain rfl:u=KO a:=ru;exact⟨.tup a,{ cls:=.type "tuple_iterator",data:=.fields [.ref a,.int 0 0].toArray },λh=>h.IsTuple a its.toArray,⟨vs,hq,rl⟩,λB s Q E c hQ=>QE c hQ,p,λh o ⟨ot,e,r⟩=>⟨ot,JX _ e,r⟩,rfl,λit h e=>⟨_,e,rfl,rfl⟩⟩
 | @str x=>
  cases e;obtain⟨t,rfl⟩:=ru;cases ha:x.cps.all (· < 128)with
  | false=>exact⟨.txt x,{ cls:=.type "str_iterator",data:=.fields [.str x t,.int 0 0].toArray },λ_=>QI,rfl,λB s Q E _ hQ=>wpAny_pyIter_wide ha hQ,trivial,λ_ _ _=>trivial,rfl,λit h e=>⟨t,.inr ⟨_,e,rfl,rfl⟩⟩⟩
  | true=>exact⟨.txt x,{ cls:=.type "str_ascii_iterator",data:=.fields [.str x t,.int 0 0].toArray },λ_=>QI,rfl,λB s Q E _ hQ=>wpAny_pyIter_ascii ha hQ,trivial,λ_ _ _=>trivial,rfl,λit h e=>⟨t,.inl ⟨_,e,rfl,rfl⟩⟩⟩
 | _=>cases e
theorem zo:bootBuiltins "zip" = ba (.type "zip"):=rfl
theorem vc {a:J4}{xs:JT V}{u:JW}(I:Inv X pins σ H s)(ru:RelV (.ref a) u)(hq:SqL X.K H a xs) :
  ∃(o:LJ) (C:K6->Prop),gp X.prog X.w u o C/\C s.heap/\(∀h o,C h->C (h.push o))/\o.isFreed=false/\∀it h,h.get? it=ba o->(Zs.lst a).T it 0 h:=by
 obtain⟨its,rv,p,_⟩:=I.list hq;obtain rfl:u=KO a:=ru;exact⟨{ cls:=.type "list_iterator",data:=.fields [.ref a,.int 0 0].toArray },λh=>h.IsList a its.toArray,λB s Q E c hQ=>Nh c hQ,p.isList,λh o ⟨ot,e,r⟩=>⟨ot,JX _ e,r⟩,rfl,λit h e=>⟨_,e,rfl,rfl⟩⟩
theorem EO {els:JT Kw}{k0:J3}{tp:MB}{a b:Kw}{f:FA}{p pos:MB}(hg:Gl X "zip")(hm:X.mg "zip" = gV)(ha:GA X [a,b] f)(hs:starEach [a,b] X.env=[(false,eval a X.env),(false,eval b X.env)])(hs2:starEach [b] X.env=[(false,eval b X.env)]) :
  GI X (.Tuple els k0 tp) (.Call (.Name "zip" p) [a,b] [] pos) (Ck f):=by
 intro pins s σ H R I ⟨A,ρ,S,mi,S',er,so,e,hq⟩;have fin:∀ {s1:JY} {H1:Hp} {u v:JW} {Sa Sb:Zs} {oa ob:LJ} {Ca Cb:K6->Prop},Inv X pins σ H1 s1->gp X.prog X.w u oa Ca->Ca s1.heap->oa.isFreed=false->(∀it h,h.get? it=ba oa->Sa.T it 0 h)->gp X.prog X.w v ob Cb->Cb s1.heap->(∀h o,Cb h->Cb (h.push o))->ob.isFreed=false->(∀it h,h.get? it=ba ob->Sb.T it 0 h)->R (HN X.K Sa Sb) H1->
   wpAny (model X.prog X.w) X.A (call (.type "zip") [u,v]) (λv s=>wpAny (model X.prog X.w) X.A (pyIter v) (F4 X pins σ (.Tuple els k0 tp) R) X.xe s) X.xe s1:=λ{s1 H1 u v Sa Sb oa ob Ca Cb} I1 ia ca na ta ib cb kb nb tb hR=>by
  refine zf ia ib kb ca cb na nb λh' hz hp hq' g1 g2 hsz kp=>?_
  have I2:Inv X pins σ H1 { s1 with heap:=h' }:=I1.kept (t':=s1.toks) kp
  refine Rp (s:={ s1 with heap:=h' }) hz ?_
  have D:Zap (s1.heap.objs.size+4) (s1.heap.objs.size+2) (s1.heap.objs.size+3) s1.heap.objs.size (s1.heap.objs.size+1):=by constructor <;> (intro z; simp at z)
  refine⟨s1.heap.objs.size+4,_,_,_,H1,rfl,I2,zm (S1:=Sa) (S2:=Sb) D,⟨hz,hp,⟨_,_,hq'⟩,ta _ _ g1,tb _ _ g2⟩,λb hb=>?_,hR⟩
  have hb':s1.heap.objs.size<=b:=by
   simp only[Kz,Lg,ME]at hb;rcases hb with rfl|rfl|rfl|rfl|rfl
   ·exact M4 _ _
   ·exact M4 _ _
   ·exact M4 _ _
   ·exact J7 _
   ·exact M4 _ _
  exact I1.fpOk hb' (I1.hok.fresh hb')
 unfold Ck at e;split at e
 ·rename_i x y S1 h1;refine Call_ (jC I hg hm zo (Mv (bS (ha pos pins s σ H _ I ⟨A,ρ,S,_,_,er,so,h1,λ_ _ z=>z⟩) λus s1 ⟨vs,H1,I1,r1,A1,z1,z2,z3⟩=>?_) (by rw[hs,hs2]) (by rw[hs2]; rfl)))
  cases z3 with
  | cons ra t=>
   cases t with
   | cons rb t=>
    cases t;cases r1 with
    | cons ua t=>
     cases t with
     | cons ub t=>
      cases t;split at e
      ·rename_i xs ys e1 e2;cases e;obtain⟨Sa,oa,Ca,za,ia,ca,ka,na,ta⟩:=u9 I1 ra ua e1;obtain⟨Sb,ob,Cb,zb,ib,cb,kb,nb,tb⟩:=u9 I1 rb ub e2;exact fin I1 ia ca na ta ib cb kb nb tb (hq _ _ A1 z1 z2 (Cm za zb))
      ·split at e
       ·rename_i r q;split at e
        ·rename_i xs ys hx hy;cases e;cases ra with
         | @ref _ a ea=>
          cases rb with
          | @ref _ b eb=>
           obtain⟨va,q1,_⟩:=bN z2 hx ea;obtain⟨vb,q2,_⟩:=bN z2 hy eb;obtain⟨oa,Ca,ia,ca,ka,na,ta⟩:=vc I1 ua q1;obtain⟨ob,Cb,ib,cb,kb,nb,tb⟩:=vc I1 ub q2;exact fin I1 ia ca na ta ib cb kb nb tb (hq _ _ A1 z1 z2 (zn ea eb))
        ·cases e
       ·cases e
 ·cases e
end
noncomputable def Cn (g1 g2:JT W->aa->J1 (W×aa))(xs:JT W)(S:aa):J1 (W×aa):=match g1 xs S with
 | some r=>ba r
 | none=>g2 xs S
theorem rV {X:Cx}{f:JW}{g1 g2:JT W->aa->J1 (W×aa)}(h1:LCall X f g1)(h2:LCall X f g2):LCall X f (Cn g1 g2):=by
 intro pins s σ H A S xs vs us w S' I so rl rv e;unfold Cn at e;split at e
 ·rename_i r hr;cases e;exact h1 pins s σ H A S xs vs us w S' I so rl rv hr
 ·exact h2 pins s σ H A S xs vs us w S' I so rl rv e
inductive Bi where|len|list|tuple|int|set|sorted|range|all|min
 deriving Nk
noncomputable def Bi.fn:Bi->JT W->aa->J1 (W×aa)
 | .len=>tD|.list=>Cn kA ou|.tuple=>lU|.int=>Gp|.set=>lS|.sorted=>Cn dc fO|.range=>lJ|.all=>El|.min=>ww
noncomputable def Bi.name:Bi->Kn
 | .len=>"len"|.list=>"list"|.tuple=>"tuple"|.int=>"int"|.set=>"set"|.sorted=>"sorted"|.range=>"range"|.all=>"all"|.min=>"min"
inductive Me where|append|extend|join|pop|get
 deriving Nk
noncomputable def Me.fn:Me->W->JT W->aa->J1 (W×aa)
 | .append=>iX|.extend=>iY|.join=>uH|.pop=>BH|.get=>uL
noncomputable def Me.name:Me->Kn
 | .append=>"append"|.extend=>"extend"|.join=>"join"|.pop=>"pop"|.get=>"get"
noncomputable def Me.ty:Me->LB
 | .append=>"list"|.extend=>"list"|.join=>"str"|.pop=>"list"|.get=>"dict"
set_option genInjectivity false in
inductive Tg where
 | nm (i:J3)|tp (is:JT J3)
set_option genSizeOf false in
set_option genInjectivity false in
mutual
inductive E where
 | c (w:W)|v (i:J3)
 | op (o:BOp) (a b:E)
 | cmp (o:COp) (a b:E)
 | and (a b:E)|or (a b:E)|not (a:E)
 | own (f:Kn) (n:J3) (es:Es)|bi (b:Bi) (es:Es)|me (m:Me) (o:E) (es:Es)
 | ix (a b:E)|sl (a:E) (lo hi:Ep)|tup (es:Es)|lst (es:Es)
 | isi (c:LB) (a:E)
 | neg (a:E)|dnew|disp (es:Es)|ite (t a b:E)
 | comp (elt:E) (tg:Tg) (it:Ie) (cs:Es) (cap:JT (J1 J3))
inductive Es where
 | nil|cons (e:E) (es:Es)
inductive Ep where
 | no|yes (e:E)
inductive Ie where
 | seq (e:E)|rng (es:Es)|zip (es:Es)|rng2 (es:Es)
end
set_option genSizeOf false in
set_option genInjectivity false in
mutual
inductive Sm where
 | set (i:J3) (e:E)|asg (is:JT J3) (e:E)|par (i j:J3) (es:Es)|put (o k e:E)
 | ex (e:E)|ret (e:E)|retN|pass|brk|cont|bad
 | ite (t:E) (a b:Ss)|whl (t:E) (b:Ss)|loop (tg:Tg) (it:Ie) (b:Ss)
inductive Ss where
 | nil|cons (s:Sm) (ss:Ss)
end
noncomputable def ic:Tg->FG
 | .nm i=>B4 i
 | .tp is=>EG is
section
variable (Φ:Kn->FF)
mutual
noncomputable def aH:E->FE
 | .c w=>fC w
 | .v i=>fV i
 | .op o a b=>BK (gg o) (aH a) (aH b)
 | .cmp o a b=>BL o (aH a) (aH b)
 | .and a b=>uY (aH a) (aH b)
 | .or a b=>BP (aH a) (aH b)
 | .not a=>uZ (aH a)
 | .own f n es=>rO n (Φ f) (dz es)
 | .bi b es=>kF b.fn (dz es)
 | .me m o es=>FL m.ty m.fn (aH o) (dz es)
 | .ix a b=>IP (aH a) (aH b)
 | .sl a lo hi=>Gz (aH a) (vd lo) (vd hi)
 | .tup es=>yR (dz es)
 | .lst es=>yS (dz es)
 | .isi c a=>y9 c (aH a)
 | .neg a=>yM (aH a)
 | .dnew=>Da
 | .disp es=>rR (dz es)
 | .ite t a b=>BQ (dv t) (aH a) (aH b)
 | .comp elt tg it cs cap=>lW (lp it) (ic tg) (Co cs) (aH elt) cap
noncomputable def dv:E->FT
 | .cmp o a b=>yO (BL o (aH a) (aH b))
 | .and a b=>yP (dv a) (dv b)
 | .or a b=>Gw (dv a) (dv b)
 | .not a=>BM (dv a)
 | .c w=>gS (fC w)
 | .v i=>gS (fV i)
 | .op o a b=>gS (BK (gg o) (aH a) (aH b))
 | .own f n es=>gS (rO n (Φ f) (dz es))
 | .bi b es=>gS (kF b.fn (dz es))
 | .me m o es=>gS (FL m.ty m.fn (aH o) (dz es))
 | .ix a b=>gS (IP (aH a) (aH b))
 | .sl a lo hi=>gS (Gz (aH a) (vd lo) (vd hi))
 | .tup es=>gS (yR (dz es))
 | .lst es=>gS (yS (dz es))
 | .isi c a=>gS (y9 c (aH a))
 | .neg a=>gS (yM (aH a))
 | .dnew=>λ_ _=>gV
 | .disp _=>λ_ _=>gV
 | .ite _ _ _=>λ_ _=>gV
 | .comp _ _ _ _ _=>λ_ _=>gV
noncomputable def dz:Es->FA
 | .nil=>jO
 | .cons e es=>eF (aH e) (dz es)
noncomputable def Co:Es->FT
 | .nil=>Db
 | .cons e .nil=>dv e
 | .cons _ (.cons _ _)=>λ_ _=>gV
noncomputable def vd:Ep->FO
 | .no=>EC
 | .yes e=>u5 (aH e)
noncomputable def lp:Ie->FI
 | .seq e=>fY (aH e)
 | .rng es=>tR (dz es)
 | .zip es=>Ck (dz es)
 | .rng2 es=>iRng2 (dz es)
end
variable (fuel:J3)
mutual
noncomputable def gJ:Sm->FS
 | .set i e=>lV (aH Φ e) (B4 i)
 | .asg is e=>lV (aH Φ e) (EG is)
 | .par i j es=>B6 i j (dz Φ es)
 | .put o k e=>lV (aH Φ e) (B5 (aH Φ o) (aH Φ k))
 | .ex e=>BY (aH Φ e)
 | .ret e=>B1 (aH Φ e)
 | .retN=>λ_ S=>ba (.rt .non,S)
 | .pass=>yX
 | .brk=>λρ S=>ba (.bk ρ,S)
 | .cont=>λρ S=>ba (.ct ρ,S)
 | .bad=>λ_ _=>gV
 | .ite t a b=>B3 (dv Φ t) (gq a) (gq b)
 | .whl t b=>pV (dv Φ t) (gq b) fuel
 | .loop tg it b=>y4 (lp Φ it) (ic tg) (gq b)
noncomputable def gq:Ss->FS
 | .nil=>λρ S=>ba (.nx ρ,S)
 | .cons s ss=>BX (gJ s) (gq ss)
end
end
set_option genInjectivity false in
structure Gam where
 sc:JT (Kn×L4)
 N:JT Kn
 fns:JT (Kn×J3)
 blt:JT Kn
 dfn:KD
noncomputable def EQ:J1 L4->KD
 | some .local=>true|some .cell=>true|some .free=>true|_=>false
noncomputable def Cp:J1 L4->KD
 | some .cell=>true|some .free=>true|_=>false
noncomputable def gr (names outer:JT (Kn×L4)):JT (Kn×L4):=names.map λ(n,k)=>if (k==.free&&outer.lookup n==ba .cell)then(n,.cell)else(n,k)
noncomputable def slot (Γ:Gam)(x:Kn):J1 J3:=if EQ (Γ.sc.lookup x) && !(x==("__debug__" : Kn)) && !(x==("__classdict__" : Kn))then Γ.N.findIdx? (· == x)else gV
noncomputable def ve:QN->J1 BOp
 | .Add=>ba .add|.Sub=>ba .sub|.Mult=>ba .mul|.FloorDiv=>ba .fdiv|.Mod=>ba .mod|.Pow=>ba .pow|_=>gV
noncomputable def vf:Sy->J1 COp
 | .Eq=>ba .eq|.NotEq=>ba .ne|.Lt=>ba .lt|.LtE=>ba .le|.Gt=>ba .gt|.GtE=>ba .ge|.In=>ba .isin|.NotIn=>ba .notin|.Is=>ba .is|.IsNot=>ba .isnot
noncomputable def Cq (x:Kn):J1 Bi:=[Bi.len,.list,.tuple,.int,.set,.sorted,.range,.all,.min].find? λb=>b.name==x
noncomputable def Cr (x:Kn):J1 Me:=[Me.append,.extend,.join,.pop,.get].find? λb=>b.name==x
noncomputable def GP (Γ:Gam)(x:Kn):KD:=Γ.sc.lookup x==ba .globalImplicit && !(x==("__debug__" : Kn))
noncomputable def zp (x:Kn):J1 LB:=if x==("bool" : Kn)then ba "bool" else if x==("int" : Kn)then ba "int" else if x==("str" : Kn)then ba "str" else if x==("tuple" : Kn)then ba "tuple" else if x==("list" : Kn)then ba "list" else if x==("dict" : Kn)then ba "dict" else gV
noncomputable def vg:JT (J1 Kw)->JT Kw->JT Kw
 | some k::ks,v::vs=>k::v::vg ks vs
 | _,_=>[]
noncomputable def Cs (Γ:Gam)(f:Kw->J1 E):JT Kw->J1 E
 | [a,.Name c _]=>if GP Γ c&&Γ.blt.contains c then match zp c,f a with
  | some cs,ba a'=>ba (.isi cs a')
  | _,_=>gV
  else gV
 | _=>gV
noncomputable def gK:Kw->KD
 | .Name _ _=>true|.Constant _ _ _=>true|.Subscript _ _ _=>true|_=>false
noncomputable def ni (Γ:Gam)(x:Kn):KD:=Γ.sc.lookup x==ba .globalImplicit && !(x==("__debug__" : Kn))
noncomputable def dC (Γ:Gam)(x:Kn):J1 J3:=if (Γ.sc.lookup x==ba .local)||(Γ.dfn&&Γ.sc.lookup x==ba .cell)then Γ.N.findIdx? (· == x)else gV
noncomputable def cA (f:Kw->J1 E)(es:JT Kw):J1 Es:=es.foldr (λe acc=>match f e,acc with|some e',ba es'=>ba (.cons e' es')|_,_=>gV) (ba .nil)
noncomputable def cB (f:Kw->J1 E)(op:Ts):JT Kw->J1 E
 | []=>gV
 | [a]=>f a
 | a::b::bT=>match f a,cB f op (b::bT)with
  | some a',ba b'=>ba (match op with|.And=>.and a' b'|.Or=>.or a' b')
  | _,_=>gV
noncomputable def cP (f:Kw->J1 E):J1 Kw->J1 Ep
 | none=>ba .no
 | some e=>(f e).map .yes
noncomputable def isTup:Kw->KD
 | .Tuple _ _ _=>true
 | _=>false
noncomputable def cI (Γ:Gam)(f:Kw->J1 E)(tg:Kw):Kw->J1 Ie
 | .Call (.Name x p) [a] [] q=>if x==("range" : Kn)&&ni Γ x&&Γ.blt.contains x then(cA f [a]).map .rng else(f (.Call (.Name x p) [a] [] q)).map .seq
 | .Call (.Name x p) [a,b] [] q=>if x==("zip" : Kn)&&ni Γ x&&Γ.blt.contains x&&isTup tg then(cA f [a,b]).map .zip else if x==("range" : Kn)&&ni Γ x&&Γ.blt.contains x then(cA f [a,b]).map .rng2 else(f (.Call (.Name x p) [a,b] [] q)).map .seq
 | e=>(f e).map .seq
noncomputable def FM (Γ:Gam):JT Kw->J1 (JT J3)
 | []=>ba []
 | .Name x _::ts=>match dC Γ x,FM Γ ts with
  | some i,ba is=>ba (i::is)
  | _,_=>gV
 | _::_=>gV
noncomputable def cT (Γ:Gam):Kw->J1 Tg
 | .Name x _=>(dC Γ x).map .nm
 | .Tuple ts _ _=>(FM Γ ts).map .tp
 | _=>gV
noncomputable def ie (names:JT (Kn×L4)):JT Kn:=(names.filter λp=>p.2==.local||p.2==.free).map (·.1)
noncomputable def gL (Γ:Gam)(names:JT (Kn×L4)):JT (J1 J3):=(ie names).map λx=>if names.lookup x==ba .local then gV else Γ.N.findIdx? (· == x)
noncomputable def zq (Γ:Gam)(scope:Nf):KD:=
 (scope.kind==.function)&&scope.names.all (λy=>!(y.2==.local)||scope.names.lookup y.1==ba .local)&&scope.names.all (λy=>!(y.2==.cell)) &&
 scope.names.all (λy=>!(y.2==.free)||(Cp (Γ.sc.lookup y.1)&&scope.names.lookup y.1==ba .free&&(Γ.N.findIdx? (· == y.1)).isSome))&&decide (ie scope.names).Nodup
noncomputable def ig (Γ:Gam)(scope:Nf):Gam:={ Γ with sc:=gr scope.names Γ.sc,N:=ie scope.names,dfn:=false }
noncomputable def zr (f:Kw->J1 E)(keys:JT (J1 Kw))(values:JT Kw):J1 E:=
 if keys.isEmpty&&values.isEmpty then ba .dnew
 else if keys.all (·.isSome)&&decide (keys.length=values.length)&&decide (keys.length<=15)then(cA f (vg keys values)).map .disp else gV
noncomputable def cE:J3->Gam->Kw->J1 E
 | 0,_,_=>gV
 | n+1,Γ,e=>match e with
  | .Constant (.int i) _ _=>ba (.c (.int i))
  | .Constant (.str x) _ _=>ba (.c (.str x))
  | .Constant (.bool b) _ _=>ba (.c (.bl b))
  | .Constant .none _ _=>ba (.c .non)
  | .Name x _=>match slot Γ x with
   | some i=>ba (.v i)
   | none=>gV
  | .BinOp a op b _=>match ve op,cE n Γ a,cE n Γ b with
   | some o,ba a',ba b'=>ba (.op o a' b')
   | _,_,_=>gV
  | .UnaryOp .Not a _=>(cE n Γ a).map .not
  | .UnaryOp .USub a _=>(cE n Γ a).map .neg
  | .BoolOp op vs _=>cB (cE n Γ) op vs
  | .Compare a [op] [b] _=>match vf op,cE n Γ a,cE n Γ b with
   | some o,ba a',ba b'=>ba (.cmp o a' b')
   | _,_,_=>gV
  | .IfExp t a b _=>match cE n Γ t,cE n Γ a,cE n Γ b with
   | some t',ba a',ba b'=>ba (.ite t' a' b')
   | _,_,_=>gV
  | .Call (.Name f _) args [] _=>if ni Γ f then match Γ.fns.lookup f with
    | some k=>(cA (cE n Γ) args).map (.own f k)
    | none=>if f==("isinstance" : Kn)then(if Γ.blt.contains f then Cs Γ (cE n Γ) args else gV)else match Cq f,args with
     | some b,a::as=>if Γ.blt.contains f then(cA (cE n Γ) (a::as)).map (.bi b)else gV
     | _,_=>gV
   else gV
  | .Call (.Attribute o m apos) (a::as) [] cpos=>match Cr m,cE n Γ o,cA (cE n Γ) (a::as)with
   | some m',ba o',ba es=>if gK o&&(apos.endLine==cpos.line)&&decide ((a::as).length < 29)then ba (.me m' o' es)else gV
   | _,_,_=>gV
  | .Subscript a (.Slice lo hi gV _) _=>match cE n Γ a,cP (cE n Γ) lo,cP (cE n Γ) hi with
   | some a',ba lo',ba hi'=>ba (.sl a' lo' hi')
   | _,_,_=>gV
  | .Subscript a b _=>match cE n Γ a,cE n Γ b with
   | some a',ba b'=>ba (.ix a' b')
   | _,_=>gV
  | .Tuple es _ _=>(cA (cE n Γ) es).map .tup
  | .List es _=>(cA (cE n Γ) es).map .lst
  | .Dict keys values _=>zr (cE n Γ) keys values
  | .ListComp elt [⟨tg,iter,ifs,asy⟩] scope _=>if (asy==0)&&(zq Γ scope&&decide (ifs.length<=1))then
    match cI Γ (cE n Γ) tg iter,cT (ig Γ scope) tg,cA (cE n (ig Γ scope)) ifs,cE n (ig Γ scope) elt with
    | some it,ba t,ba cs,ba el=>ba (.comp el t it cs (gL Γ scope.names))
    | _,_,_,_=>gV
   else gV
  | _=>gV
structure CtxOk (Φ:Kn->FF)(X:Cx)(Γ:Gam):Prop where
 names:X.env.scope.names=Γ.sc
 kind:X.env.scope.kind=.function
 N:X.N=Γ.N
 nd:Γ.N.Nodup
 calm:X.calm=true
 xe:X.xe=λ_ _=>Lw
 un:X.A.units+iu < cLine
 dfn:Γ.dfn=true->∀x,X.fn x=true
 blt:∀x∈Γ.blt,X.mg x=gV
 fns:∀f n,Γ.fns.lookup f=ba n->∃k fa fd ps,FnOk X.prog X.w X.K X.mg X.base xu k fa fd ps (yV X.w X.K n (Φ f))/\Room k X.A/\X.mg f=ba (.ref fa)/\LL X.K (.ref fa)=true/\Binds X.K fd ps []
theorem aY {α:Type}{x:α}{P:Prop}(h:(gV:J1 α)=ba x):P:=nomatch h
noncomputable def iD:Kw->KD
 | .Starred _ _=>false
 | _=>true
theorem ar {e:Kw}{es:JT Kw}{env:QK}(h:iD e=true):starEach (e::es) env=(false,eval e env)::starEach es env:=by
 cases e <;> first|rfl|cases h
theorem bD {env:QK}{pos:MB}:∀ {es:JT Kw},es.all iD=true->(backTo pos (starEach es env)).any (·.1)=false
 | [],_=>rfl
 | e::es,h=>by
  rw[Le,J2]at h;rw[ar h.1];show(false||(backTo pos (starEach es env)).any (·.1))=false
  rw[bD h.2];rfl
theorem rW {env:QK}{pos:MB}:∀ {es:JT Kw},es.all iD=true->(backTo pos (starEach es env)).all (λx=>!x.1)=true
 | [],_=>rfl
 | e::es,h=>by
  rw[Le,J2]at h;rw[ar h.1];show(true&&(backTo pos (starEach es env)).all (λx=>!x.1))=true
  rw[rW h.2];rfl
theorem jP {n:J3}{Γ:Gam}{e:Kw}{e':E}(h:cE n Γ e=ba e'):iD e=true:=by
 cases n with
 | zero=>cases h
 | succ n=>cases e <;> first|rfl|(exact aY h)
theorem jc {f:Kw->J1 E}{e:Kw}{es:JT Kw}{r:Es}(h:cA f (e::es)=ba r):∃e' es',f e=ba e'/\cA f es=ba es'/\r=.cons e' es':=by
 simp only[cA,RI]at h;split at h
 ·rename_i e' es' h1 h2;cases h;exact⟨e',es',h1,h2,rfl⟩
 ·cases h
theorem cY {n:J3}{Γ:Gam}:∀ {es:JT Kw} {r:Es},cA (cE n Γ) es=ba r->es.all iD=true
 | [],_,_=>rfl
 | e::es,r,h=>by
  obtain⟨e',es',h1,h2,_⟩:=jc h;rw[Le,jP h1,cY h2];rfl
theorem dO {N:JT Kn}{x:Kn}{i:J3}(h:N.findIdx? (· == x)=ba i):N[i]?=ba x:=by
 obtain⟨hl,h1,_⟩:=List.findIdx?_eq_some_iff_getElem.mp h;rw[J5 hl];exact congrArg ba (eq_of_beq h1)
section
variable{Φ:Kn->FF}{X:Cx}{Γ:Gam}
theorem lq {e:Kw}:GT X e (λ_ _=>gV):=λpins s σ H Q I ⟨A,ρ,S,k,S',er,so,e1,hq⟩=>by cases e1
theorem zt {x:Kn}(h:EQ (X.env.scope.names.lookup x)=true):HG X.env.scope x:=by
 unfold EQ at h;split at h
 ·exact .inl (by assumption)
 ·exact .inr (.inl (by assumption))
 ·exact .inr (.inr (by assumption))
 ·cases h
theorem zu (K:CtxOk Φ X Γ){x:Kn}{pos:MB}{i:J3}(h:slot Γ x=ba i):GE X (.Name x pos) (fV i):=by
 unfold slot at h;split at h
 ·rename_i hc;rw[J2,J2]at hc;obtain⟨⟨h1,h2⟩,h3⟩:=hc;refine IN (xx (by rw[K.N]; exact dO h) (zt (by rw[K.names]; exact h1)) (by simpa using h2) (by simpa using h3))
 ·cases h
theorem lY (K:CtxOk Φ X Γ){x:Kn}(h:ni Γ x=true):Gl X x/\(x==("__debug__" : Kn))=false:=by
 unfold ni at h;rw[J2]at h;refine⟨?_,by simpa using h.2⟩
 show X.env.scope.names.lookup x=_;rw[K.names];exact eq_of_beq h.1
theorem zv {o:Sy}{c:COp}(h:vf o=ba c):c.py=o:=by
 cases o <;> (simp only[vf,KL]at h; subst h; rfl)
theorem zw {o:QN}{c:BOp}(h:ve o=ba c):c.py=o:=by
 cases o <;> simp only[ve,KL]at h <;> first|(subst h; rfl)|cases h
theorem wQ {x:Kn}{b:Bi}(h:Cq x=ba b):b.name=x:=by
 have:=PK h;exact eq_of_beq this
theorem wR {x:Kn}{b:Me}(h:Cr x=ba b):b.name=x:=by
 have:=PK h;exact eq_of_beq this
theorem dY {n:J3}(ih:∀ {e:Kw} {e':E},cE n Γ e=ba e'->GE X e (aH Φ e')):∀ {es:JT Kw} {r:Es},cA (cE n Γ) es=ba r->GA X es (dz Φ r)
 | [],r,h=>by cases h; exact EB
 | e::es,r,h=>by
  obtain⟨e',es',h1,h2,rfl⟩:=jc h;exact BR (ih h1) (dY ih h2) (ar (jP h1))
theorem GQ (K:CtxOk Φ X Γ){n:J3}{f:Kn}{p pos:MB}{args:JT Kw}{k:J3}{r:Es}(hg:ni Γ f=true)(hf:Γ.fns.lookup f=ba k)(ha:cA (cE n Γ) args=ba r)(h:GA X args (dz Φ r)):GE X (.Call (.Name f p) args [] pos) (rO k (Φ f) (dz Φ r)):=by
 obtain⟨d,fa,fd,ps,F,hr,hm,hk,hb⟩:=K.fns f k hf;obtain⟨g1,g2⟩:=lY K hg;cases args with
 | nil=>cases ha; exact BV F hr g1 hm hk hb g2
 | cons a as=>
  have ns:=cY ha;rw[Le,J2]at ns;exact ED F hr g1 hm hk hb h g2 (ar ns.1) (bD ns.2)
theorem IR (K:CtxOk Φ X Γ){n:J3}{f:Kn}{p pos:MB}{a:Kw}{as:JT Kw}{b:Bi}{r:Es}(hg:ni Γ f=true)(hb:Cq f=ba b)(hc:Γ.blt.contains f=true)(ha:cA (cE n Γ) (a::as)=ba r)(h:GA X (a::as) (dz Φ r)):GE X (.Call (.Name f p) (a::as) [] pos) (kF b.fn (dz Φ r)):=by
 obtain⟨g1,g2⟩:=lY K hg;have hm:X.mg f=gV:=K.blt f (by simpa using hc)
 have ns:=cY ha;rw[Le,J2]at ns;have e:=wQ hb;subst e;have hu:X.A.units+12 < cLine:=by have:=K.un; have:iu=20:=rfl; omega
 have calm:∀ {f:JW} {g:JT W->aa->J1 (W×aa)},(X.A.handled=gV->LCall X f g)->LCall X f g:=λh pins s σ H A S xs vs us w S' I=>h (I.ok.hd K.calm) pins s σ H A S xs vs us w S' I
 cases b with
 | len=>exact u4 tV g1 hm PySem.boot_len h (by decide) g2 (ar ns.1) (bD ns.2)
 | list=>exact rM (calm λhh=>rV (q9 hh) (rC hh)) g1 hm rfl h (by decide) g2 (ar ns.1) (bD ns.2)
 | tuple=>exact rM (calm pU) g1 hm rfl h (by decide) g2 (ar ns.1) (bD ns.2)
 | int=>exact rM wf g1 hm rfl h (by decide) g2 (ar ns.1) (bD ns.2)
 | set=>exact rM (calm λhh=>tN hh hu) g1 hm rfl h (by decide) g2 (ar ns.1) (bD ns.2)
 | sorted=>exact u4 (calm λhh=>rV (rK hh hu) (pP hh hu)) g1 hm rfl h (by decide) g2 (ar ns.1) (bD ns.2)
 | range=>exact rM q8 g1 hm rfl h (by decide) g2 (ar ns.1) (bD ns.2)
 | all=>exact u4 (calm wK) g1 hm rfl h (by decide) g2 (ar ns.1) (bD ns.2)
 | min=>exact u4 (calm λhh=>wI hh hu) g1 hm rfl h (by decide) g2 (ar ns.1) (bD ns.2)
theorem zx {x:Kn}{c:LB}(h:zp x=ba c):bootBuiltins x=ba (.type c)/\x≠"__name__":=by
 unfold zp at h;split at h
 ·rename_i e; cases h; rw[eq_of_beq e]; exact⟨rfl,by decide⟩
 ·split at h
  ·rename_i e; cases h; rw[eq_of_beq e]; exact⟨rfl,by decide⟩
  ·split at h
   ·rename_i e; cases h; rw[eq_of_beq e]; exact⟨rfl,by decide⟩
   ·split at h
    ·rename_i e; cases h; rw[eq_of_beq e]; exact⟨rfl,by decide⟩
    ·split at h
     ·rename_i e; cases h; rw[eq_of_beq e]; exact⟨rfl,by decide⟩
     ·split at h
      ·rename_i e; cases h; rw[eq_of_beq e]; exact⟨rfl,by decide⟩
      ·cases h
theorem GR (K:CtxOk Φ X Γ){n:J3}{f:Kn}{p pos:MB}{args:JT Kw}{r:E}(hg:ni Γ f=true)(hb:(f==("isinstance" : Kn))=true)(hc:Γ.blt.contains f=true)(ih:∀ {e:Kw} {e':E},cE n Γ e=ba e'->GE X e (aH Φ e'))(h:Cs Γ (cE n Γ) args=ba r) :
  GE X (.Call (.Name f p) args [] pos) (aH Φ r)/\∃a c,r=.isi c a:=by
 obtain⟨g1,g2⟩:=lY K hg;have hm:X.mg f=gV:=K.blt f (by simpa using hc)
 have e:=eq_of_beq hb;subst e;unfold Cs at h;split at h
 ·rename_i a c q;split at h
  ·rename_i hcc;rw[J2]at hcc;obtain⟨g3,g4⟩:=lY K (x:=c) hcc.1;have hm2:X.mg c=gV:=K.blt c (by simpa using hcc.2)
   split at h
   ·rename_i cs a' h1 h2;cases h;obtain⟨b1,b2⟩:=zx h1;exact⟨EM g1 hm g3 hm2 b1 b2 g4 (ih h2) (ar (jP h2)),a',cs,rfl⟩
   ·cases h
  ·cases h
 ·cases h
theorem fF {o:Kw}{name:Kn}{env:QK}(h:gK o=true):attributeBase o name env (eval o env)=eval o env:=by
 cases o <;> first|rfl|cases h
theorem vh {n:J3}{pos:MB}(ih:∀ {e:Kw} {e':E},cE n Γ e=ba e'->GE X e (aH Φ e')):∀(keys:JT (J1 Kw)) (values:JT Kw) {r:Es},keys.all (·.isSome)=true->keys.length=values.length->cA (cE n Γ) (vg keys values)=ba r->GH X pos keys values (dz Φ r)
 | [],[],r,_,_,h=>by cases h; exact Cf
 | [],_::_,r,_,hl,_=>by cases hl
 | _::_,[],r,_,hl,_=>by cases hl
 | none::_,_::_,r,ha,_,_=>by cases ha
 | some k::ks,v::vs,r,ha,hl,h=>by
  simp only[vg]at h;obtain⟨e1,es1,h1,h2,rfl⟩:=jc h;obtain⟨e2,es2,h3,h4,rfl⟩:=jc h2;rw[Le,J2]at ha;exact zd (ih h1) (ih h3) (vh ih ks vs ha.2 (by simpa using hl) h4)
theorem IS (K:CtxOk Φ X Γ){n:J3}{m:Kn}{apos cpos:MB}{o a:Kw}{as:JT Kw}{b:Me}{o':E}{r:Es}(hm:Cr m=ba b)(hr:gK o=true)(hl:(apos.endLine==cpos.line)=true)(hn:(a::as).length < 29)(ho:GE X o (aH Φ o'))(ha:cA (cE n Γ) (a::as)=ba r)(h:GA X (a::as) (dz Φ r)) :
  GE X (.Call (.Attribute o m apos) (a::as) [] cpos) (FL b.ty b.fn (aH Φ o') (dz Φ r)):=by
 have ns:=cY ha;have ns':=ns;rw[Le,J2]at ns;have lr:((backTo cpos (starEach (a::as) X.env)).all (λx=>!x.1)&&(backToKw cpos (keywordEach [] X.env)).all (λx=>x.1.isSome)&&decide ((a::as).length+([]:JT RL).length+(if ([]:JT RL).isEmpty then 0 else 1) < 30))=true:=by
  rw[rW ns',Od,J2];exact⟨rfl,Ly (by simp only[Mg,List.isEmpty_nil,LQ]; omega)⟩
 have e:=wR hm;subst e;cases b with
 | append=>exact rN NT PySem.F.slot_list_append PySem.F.type_list_append pH ho h (fF hr) lr hl (ar ns.1) (bD ns.2)
 | extend=>exact rN NT PySem.F.slot_list_extend PySem.F.type_list_extend pI ho h (fF hr) lr hl (ar ns.1) (bD ns.2)
 | join=>exact rN PySem.F.plainAttrs_str PySem.F.slot_str_join PySem.F.type_str_join tf ho h (fF hr) lr hl (ar ns.1) (bD ns.2)
 | pop=>exact rN NT PySem.F.slot_list_pop PySem.F.type_list_pop wg ho h (fF hr) lr hl (ar ns.1) (bD ns.2)
 | get=>exact rN PySem.F.plainAttrs_dict PQ PySem.F.type_dict_get (tw (by have:=K.un; have:iu=20:=rfl; omega)) ho h (fF hr) lr hl (ar ns.1) (bD ns.2)
theorem rX {n:J3}{Γ:Gam}{e:Kw}{e':E}{op:Sy}(h:cE n Γ e=ba e'):behindInMarks op e=false:=by
 cases n with
 | zero=>cases h
 | succ n=>cases e <;> first|rfl|(exact aY h)
theorem tY {n:J3}{Γ:Gam}{e:Kw}{e':E}(h:cE n Γ e=ba e'):pf e:=by
 cases n with
 | zero=>cases h
 | succ n=>cases e <;> first|(intro o i; rfl)|(exact aY h)
theorem pX {n:J3}{Γ:Gam}{f:Kw->J1 E}{e:Kw}{i:Ie}{env:QK}{tg:Kw}(hf:∀el k p,f (.Set el k p)=gV)(h:cI Γ f tg e=ba i):∀x,foldedSetIterable e env x=pure x:=by
 intro x;cases e <;> first|rfl|(simp[cI,hf]at h)
theorem pY {n:J3}{op:Ts}{pos:MB}(ih:∀ {e:Kw} {e':E},cE n Γ e=ba e'->GE X e (aH Φ e')):∀ {vs:JT Kw} {r:E},cB (cE n Γ) op vs=ba r->GE X (.BoolOp op vs pos) (aH Φ r)
 | [],r,h=>by cases h
 | [a],r,h=>Ex (ih h)
 | a::b::bT,r,h=>by
  simp only[cB]at h;split at h
  ·rename_i a' b' h1 h2;cases h;cases op with
   | And=>exact Ey (ih h1) (pY ih h2)
   | Or=>exact Gy (ih h1) (pY ih h2)
  ·cases h
theorem pZ {n:J3}{op:Ts}{pos:MB}(ih:∀ {e:Kw} {e':E},cE n Γ e=ba e'->GT X e (dv Φ e')):∀ {vs:JT Kw} {r:E},cB (cE n Γ) op vs=ba r->GW X (.BoolOp op vs pos) (dv Φ r)
 | [],r,h=>by cases h
 | [a],r,h=>by
  cases op with
  | And=>exact BO (ih h)
  | Or=>exact Eu (ih h)
 | a::b::bT,r,h=>by
  simp only[cB]at h;split at h
  ·rename_i a' b' h1 h2;cases h;cases op with
   | And=>exact Ev (ih h1) (pZ ih h2)
   | Or=>exact Gx (ih h1) (pZ ih h2)
  ·cases h
theorem zy {n:J3}(ih:∀ {e:Kw} {e':E},cE n Γ e=ba e'->GE X e (aH Φ e')){o:J1 Kw}{p:Ep}(h:cP (cE n Γ) o=ba p):GO X o (vd Φ p):=by
 cases o with
 | none=>cases h; exact BS
 | some e=>
  simp only[cP,J0]at h;obtain⟨e',h1,rfl⟩:=h;exact BU (ih h1)
theorem tZ (K:CtxOk Φ X Γ){n:J3}(ih:∀ {e:Kw} {e':E},cE n Γ e=ba e'->GE X e (aH Φ e')){tg e:Kw}{i:Ie}(h:cI Γ (cE n Γ) tg e=ba i):GI X tg e (lp Φ i):=by
 have gen:(cE n Γ e).map Ie.seq=ba i->GI X tg e (lp Φ i):=λh=>by
  rw[J0]at h;obtain⟨e',h1,rfl⟩:=h;exact Ci (ih h1)
 unfold cI at h;split at h
 ·rename_i x p a pos;split at h
  ·rename_i hc;rw[J2,J2]at hc;obtain⟨⟨h1,h2⟩,h3⟩:=hc;have hx:=eq_of_beq h1;subst hx;rw[J0]at h;obtain⟨r,hr,rfl⟩:=h;have ns:=cY hr;rw[Le,J2]at ns;exact Cc (lY K h2).1 (K.blt _ (by simpa using h3)) (dY ih hr) (ar ns.1)
  ·exact gen h
 ·rename_i x p a b pos;split at h
  ·rename_i hc;rw[J2,J2,J2]at hc;obtain⟨⟨⟨h1,h2⟩,h3⟩,h4⟩:=hc;have hx:=eq_of_beq h1;subst hx;rw[J0]at h;obtain⟨r,hr,rfl⟩:=h;have ns:=cY hr;rw[Le,Le,J2,J2]at ns;cases tg with
   | Tuple els k0 tp=>exact EO (lY K h2).1 (K.blt _ (by simpa using h3)) (dY ih hr) (by rw[ar ns.1,ar ns.2.1]; rfl) (ar ns.2.1)
   | _=>cases h4
  ·split at h
   ·rename_i hc;rw[J2,J2]at hc;obtain⟨⟨h1,h2⟩,h3⟩:=hc;have hx:=eq_of_beq h1;subst hx;rw[J0]at h;obtain⟨r,hr,rfl⟩:=h;have ns:=cY hr;rw[Le,Le,J2,J2]at ns;exact Cd (lY K h2).1 (K.blt _ (by simpa using h3)) (dY ih hr) (by rw[ar ns.1,ar ns.2.1]; rfl) (ar ns.2.1)
   ·exact gen h
 ·exact gen h
theorem p4 (K:CtxOk Φ X Γ){x:Kn}{i:J3}(h:dC Γ x=ba i):X.N[i]?=ba x/\AS X.env.scope x/\(X.fn x=true\/X.env.scope.names.lookup x=ba .local):=by
 unfold dC at h;split at h
 ·rename_i hc;refine⟨by rw[K.N]; exact dO h,?_⟩
  unfold L2.AS;rw[K.names];rw[LX,J2]at hc;rcases hc with hc|⟨hd,hc⟩
  ·have:=eq_of_beq hc;exact⟨.inl this,.inr this⟩
  ·exact⟨.inr (eq_of_beq hc),.inl (K.dfn hd x)⟩
 ·cases h
theorem rY (K:CtxOk Φ X Γ):∀ {ts:JT Kw} {is:JT J3},FM Γ ts=ba is->(∀x∈ts,∃y p,x=Qg y p)/\Pj (λ(t:Kw) (i:J3)=>∃x p,t=Qg x p/\X.N[i]?=ba x/\AS X.env.scope x/\(X.fn x=true\/X.env.scope.names.lookup x=ba .local)) ts is
 | [],is,h=>by cases h; exact⟨λx hx=>by simp at hx,.nil⟩
 | t::ts,is,h=>by
  cases t with
  | Name x p=>
   simp only[FM]at h;split at h
   ·rename_i i is' h1 h2;cases h;obtain⟨a,b⟩:=rY K h2;exact⟨λy hy=>(Kz.mp hy).elim (λe=>⟨x,p,e⟩) (a y),.cons ⟨x,p,rfl,p4 K h1⟩ b⟩
   ·cases h
  | _=>cases h
theorem iE {env:QK}:∀ {ts:JT Kw},(∀x∈ts,∃y p,x=Qg y p)->(assignEach ts env).length=ts.length/\(assignEach ts env).findIdx? (·.1)=gV
 | [],_=>⟨rfl,rfl⟩
 | t::ts,h=>by
  obtain⟨y,p,rfl⟩:=h t Lx;obtain⟨a,b⟩:=iE (env:=env) λx hx=>h x (Lp _ hx)
  refine⟨by show(assignEach ts env).length+1=ts.length+1; rw[a],?_⟩
  show List.findIdx? (·.1) ((false,assign (.Name y p) env)::assignEach ts env)=gV
  rw[List.findIdx?_cons,b];rfl
theorem vk (K:CtxOk Φ X Γ){tg:Kw}{t:Tg}(h:cT Γ tg=ba t):GG X tg (ic t):=by
 have hN:X.N.Nodup:=by rw[K.N]; exact K.nd
 cases tg with
 | Name x p=>
  simp only[cT,J0]at h;obtain⟨i,h1,rfl⟩:=h;obtain⟨a,b,c⟩:=p4 K h1;exact u6 hN a b c
 | Tuple ts k p=>
  simp only[cT,J0]at h;obtain⟨is,h1,rfl⟩:=h;obtain⟨a,b⟩:=rY K h1;exact EH K.calm a b hN (iE a).1 (iE a).2
 | _=>cases h
end
noncomputable def fq (env:QK):JT (Kn×L4)->JT (Kn×J4)->JT (Kn×J4)
 | [],cs=>cs
 | (n,k)::r,cs=>fq env r (if k==.free then(n,(env.cells.lookup n).getD 0)::cs else cs)
theorem jQ {env:QK}:∀(names:JT (Kn×L4)) (cs:JT (Kn×J4)),(∀y∈names,y.2=.free->(env.cells.lookup y.1).isSome=true)->
  (forIn names cs λx r=>match x with|(name,kind)=>if (kind==NJ)=true then do let a <- cellOf env name; pure (LY ((name,a)::r))else pure (LY r):SQ (JT (Kn×J4)))=pure (fq env names cs)
 | [],cs,_=>by rw[P6]; rfl
 | (n,k)::r,cs,h=>by
  rw[Oi];have hr:=λy hy=>h y (Lp _ hy)
  by_cases hk:(k==NJ)=true
  ·obtain⟨c,hc⟩:=Lb.mp (h (n,k) Lx (eq_of_beq hk));have e1:cellOf env n=pure c:=by unfold cellOf; rw[hc]
   simp only[hk,LQ,e1,pure_bind];rw[jQ r _ hr];simp only[fq,hk,LQ,hc,Rq]
  ·have hk':(k==NJ)=false:=by simpa using hk
   simp only[hk',Ky,Lr,pure_bind];rw[jQ r _ hr];simp only[fq,hk',Ky,Lr]
theorem kN {scope:Nf}{env:QK}(h:∀y∈scope.names,y.2=.free->(env.cells.lookup y.1).isSome=true):closureFor scope env=pure (fq env scope.names []):=by
 have:=jQ scope.names [] h;unfold closureFor;simp only[this,pure_bind]
theorem lZ {env:QK}:∀(names:JT (Kn×L4)) (cs:JT (Kn×J4)),(∀y∈names,y.2=.free->(env.cells.lookup y.1).isSome=true)->(∀x c,cs.lookup x=ba c->env.cells.lookup x=ba c)->
  ∀x c,(fq env names cs).lookup x=ba c->env.cells.lookup x=ba c
 | [],cs,_,h,x,c,e=>h x c e
 | (n,k)::r,cs,hn,h,x,c,e=>by
  refine lZ r _ (λy hy=>hn y (Lp _ hy)) (λx c e=>?_) x c e
  split at e
  ·rename_i hk;rw[L6]at e;split at e
   ·rename_i hx;cases e;have:=eq_of_beq hx;subst this;obtain⟨c,hc⟩:=Lb.mp (hn (x,k) Lx (eq_of_beq hk));rw[hc]; rfl
   ·exact h x c e
  ·exact h x c e
theorem kG {env:QK}{x:Kn}:∀(names:JT (Kn×L4)) (cs:JT (Kn×J4)),(∃c,cs.lookup x=ba c)->∃c,(fq env names cs).lookup x=ba c
 | [],cs,h=>h
 | (n,k)::r,cs,h=>by
  refine kG r _ ?_;split
  ·rw[L6];split
   ·exact⟨_,rfl⟩
   ·exact h
  ·exact h
theorem l4 {env:QK}{x:Kn}:∀(names:JT (Kn×L4)) (cs:JT (Kn×J4)),(x,NJ)∈names->∃c,(fq env names cs).lookup x=ba c
 | [],cs,h=>by simp at h
 | (n,k)::r,cs,h=>by
  rcases Kz.mp h with e|h
  ·cases e;refine kG r _ ?_;simp[L6]
  ·exact l4 r _ h
theorem l7 {x:Kn}{k:L4}:∀ {l:JT (Kn×L4)},l.lookup x=ba k->(x,k)∈l
 | [],h=>by simp at h
 | (n,j)::r,h=>by
  rw[L6]at h;split at h
  ·rename_i hx;cases h;have:=eq_of_beq hx;subst this;exact Lx
  ·exact Lp _ (l7 h)
theorem ft {X:Cx}{Φ:Kn->FF}{Γ:Gam}(K:CtxOk Φ X Γ)(scope:Nf):(relabel scope X.env).names=gr scope.names Γ.sc:=by
 unfold relabel gr Pv;rw[K.kind,K.names];refine LG λ⟨n,k⟩ _=>?_
 have e:(QF==QF)=true:=rfl;simp only[e,NH]
theorem eH {outer:JT (Kn×L4)}{x:Kn}:∀ {names:JT (Kn×L4)},(gr names outer).lookup x=(names.lookup x).map λk=>if (k==.free&&outer.lookup x==ba .cell)then .cell else k
 | []=>rfl
 | (n,k)::r=>by
  have ih:=eH (outer:=outer) (x:=x) (names:=r);show List.lookup x ((if (k==NJ&&outer.lookup n==ba .cell)=true then(n,TZ)else(n,k))::gr r outer)=_
  cases hx:x==n with
  | true=>
   have:=eq_of_beq hx;subst this;simp only[L6,Lc,K4];split <;> simp[L6]
  | false=>
   simp only[L6,hx];split <;> (simp only[L6,hx]; exact ih)
section
variable{Φ:Kn->FF}{X:Cx}{Γ:Gam}
structure ScOk (Γ:Gam)(scope:Nf):Prop where
 kind:scope.kind=.function
 names:∀y∈scope.names,y.2=.local->scope.names.lookup y.1=ba .local
 nocell:∀y∈scope.names,y.2≠.cell
 free:∀y∈scope.names,y.2=.free->Cp (Γ.sc.lookup y.1)=true/\scope.names.lookup y.1=ba .free/\(Γ.N.findIdx? (· == y.1)).isSome=true
 nd:(ie scope.names).Nodup
theorem vm {scope:Nf}(h:zq Γ scope=true):ScOk Γ scope:=by
 unfold zq at h;rw[J2,J2,J2,J2]at h;obtain⟨⟨⟨⟨h1,h2⟩,h3⟩,h4⟩,h5⟩:=h;refine⟨eq_of_beq h1,λy hy e=>?_,λy hy e=>?_,λy hy e=>?_,KQ h5⟩
 ·have:=Kr.mp h2 y hy;rw[e]at this
  simpa using this
 ·have:=Kr.mp h3 y hy;rw[e]at this;simp at this
 ·have:=Kr.mp h4 y hy;rw[e]at this;simp only[Lc,MV,O4,J2]at this;exact⟨this.1.1,eq_of_beq this.1.2,this.2⟩
theorem vn {o:J1 L4}(h:Cp o=true):o=ba .cell\/o=ba .free:=by
 unfold Cp at h;split at h
 ·exact .inl rfl
 ·exact .inr rfl
 ·cases h
theorem oJ (K:CtxOk Φ X Γ)(ok:X.Ok){scope:Nf}(sc:ScOk Γ scope):CompOk X scope (fq X.env scope.names []) (ie scope.names) (gL Γ scope.names):=by
 have cells:∀y∈scope.names,y.2=.free->(X.env.cells.lookup y.1).isSome=true:=λy hy e=>by
  have hk:=vn (sc.free y hy e).1;obtain⟨c,hc⟩:=ok.has y.1 (by unfold Pv; rw[K.names]; exact hk)
  rw[hc]; rfl
 have relab:∀x,((relabel scope X.env).names.lookup x=ba .cell\/(relabel scope X.env).names.lookup x=ba .free)->(x,NJ)∈scope.names:=λx h=>by
  rw[ft K,eH]at h;cases q:scope.names.lookup x with
  | none=>rw[q]at h; rcases h with h|h <;> cases h
  | some k=>
   rw[q]at h;have hm:=l7 q;cases k with
   | free=>exact hm
   | cell=>exact absurd rfl (sc.nocell _ hm)
   | _=>rcases h with h|h <;> simp at h
 refine⟨kN cells,sc.kind,sc.names,sc.nocell,lZ _ _ cells (λx c e=>by cases e),λx h=>l4 _ _ (relab x h),by simp[gL],λi j x hi hx=>?_⟩
 unfold gL at hi;rw[J6,hx]at hi;simp only[K4,KL]at hi;split at hi
 ·cases hi
 ·rename_i hl;have hx2:x∈ie scope.names:=Kf hx;unfold ie at hx2;obtain⟨⟨x',k⟩,hf,e⟩:=Ko.mp hx2;obtain⟨hm,hk⟩:=Mt.mp hf;have e':x'=x:=e;subst e';have hkf:k=.free:=by
   simp only[LX]at hk;rcases hk with hk|hk
   ·have:k=.local:=eq_of_beq hk;subst this;have:=sc.names (x',.local) hm rfl;rw[this]at hl;simp at hl
   ·exact eq_of_beq hk
  subst hkf;obtain⟨f1,f2,f3⟩:=sc.free _ hm rfl;refine⟨by rw[K.N]; exact dO hi,by unfold Pv; rw[K.names]; exact vn f1,?_⟩
  rw[ft K,eH,f2];simp only[K4,KL,Lc,Od];split
  ·exact .inl rfl
  ·exact .inr rfl
theorem fG (K:CtxOk Φ X Γ){scope:Nf}(sc:ScOk Γ scope)(C:J4)(s0:JY)(H0:Hp)(ex:JT J4):CtxOk Φ (mW X scope (fq X.env scope.names []) C (ie scope.names) s0 H0 ex) (ig Γ scope) where
 names:=ft K scope
 kind:=sc.kind
 N:=rfl
 nd:=sc.nd
 calm:=K.calm
 xe:=rfl
 un:=K.un
 dfn:=λh=>by cases h
 blt:=K.blt
 fns:=K.fns
theorem rZ {cs:Es}{n:J3}{ifs:JT Kw}{Γ:Gam}(hl:ifs.length<=1)(hc:cA (cE n Γ) ifs=ba cs){Y:Cx}(ih:∀ {e:Kw} {e':E},cE n Γ e=ba e'->GT Y e (dv Φ e'))(hx:Y.xe=λ_ _=>Lw) :
  ∀pins s σ H Q,Inv Y pins σ H s->tT Y (Co Φ cs) σ H Q->
  wpAny (model Y.prog Y.w) Y.A (forIn ifs true λc r=>if r=true then do let ok <- isTrue c Y.env (eval c Y.env); pure (LY ok)else pure (LY r)) (TP Y pins σ Q) (λ_ _=>Lw) s:=by
 intro pins s σ H Q I h
 match ifs,hl,hc with
 | [],_,hc=>
  cases hc;obtain⟨A,ρ,S,k,S',er,so,e,hq⟩:=h;cases e;exact wpAny_tests_nil ⟨H,I,hq _ _ ⟨rfl,A,.refl,so⟩⟩
 | [c],_,hc=>
  obtain⟨e',es',h1,h2,rfl⟩:=jc hc;cases h2;have:=ih h1 pins s σ H Q I h;rw[hx]at this;exact wpAny_tests_one this
theorem cj:∀(n:J3) {Γ:Gam} {X:Cx} {e:Kw} {e':E},CtxOk Φ X Γ->cE n Γ e=ba e'->GE X e (aH Φ e')/\GT X e (dv Φ e'):=by
 intro n
 induction n with
 | zero=>intro Γ X e e' K h; cases h
 | succ n ih=>
  intro Γ X e e' K h;have ihE:∀ {e:Kw} {e':E},cE n Γ e=ba e'->GE X e (aH Φ e'):=λq=>(ih K q).1
  have ihT:∀ {e:Kw} {e':E},cE n Γ e=ba e'->GT X e (dv Φ e'):=λq=>(ih K q).2
  have hu10:X.A.units+10 < cLine:=by have:=K.un; have:iu=20:=rfl; omega
  cases e with
  | Constant c k p=>
   cases c <;> cases h
   all_goals first
    | exact⟨rL xz (λ_ _=>.non),cW (rL xz (λ_ _=>.non)) λ_=>rfl⟩
    | exact⟨rL C3 (λ_ _=>.bl),cW (rL C3 (λ_ _=>.bl)) λ_=>rfl⟩
    | exact⟨rL xy (λ_ _=>.int),cW (rL xy (λ_ _=>.int)) λ_=>rfl⟩
    | exact⟨rL xA (λ_ _=>.str),cW (rL xA (λ_ _=>.str)) λ_=>rfl⟩
  | Name x p=>
   replace h:(match slot Γ x with|some i=>ba (E.v i)|none=>gV)=ba e':=h
   split at h
   ·rename_i i h1;cases h;exact⟨zu K h1,cW (zu K h1) λ_=>rfl⟩
   ·cases h
  | BinOp a op b p=>
   replace h:(match ve op,cE n Γ a,cE n Γ b with|some o,ba a',ba b'=>ba (E.op o a' b')|_,_,_=>gV)=ba e':=h
   split at h
   ·rename_i o a' b' h1 h2 h3;cases h;have e:=zw h1;subst e;exact⟨C9 (uC o) (ihE h2) (ihE h3),cW (C9 (uC o) (ihE h2) (ihE h3)) λ_=>rfl⟩
   ·cases h
  | UnaryOp op a p=>
   cases op with
   | Not=>
    replace h:(cE n Γ a).map E.not=ba e':=h;rw[J0]at h;obtain⟨a',h1,rfl⟩:=h;exact⟨Ez (ihE h1),Ew (ihT h1)⟩
   | USub=>
    replace h:(cE n Γ a).map E.neg=ba e':=h;rw[J0]at h;obtain⟨a',h1,rfl⟩:=h;exact⟨yN (ihE h1),cW (yN (ihE h1)) λ_=>rfl⟩
   | _=>exact aY h
  | BoolOp op vs p=>
   replace h:cB (cE n Γ) op vs=ba e':=h;exact⟨pY ihE h,(pZ ihT h).pt⟩
  | Compare a ops cs p=>
   match ops,cs,h with
   | [op],[b],h=>
    replace h:(match vf op,cE n Γ a,cE n Γ b with|some o,ba a',ba b'=>ba (E.cmp o a' b')|_,_,_=>gV)=ba e':=h
    split at h
    ·rename_i o a' b' h1 h2 h3;cases h;have e:=zv h1;subst e;exact⟨Er K.un (ihE h2) (ihE h3) (rX h3),Et K.un (ihE h2) (ihE h3) (rX h3)⟩
    ·cases h
   | [],_,h=>exact aY h
   | [_],[],h=>exact aY h
   | [_],_::_::_,h=>exact aY h
   | _::_::_,_,h=>exact aY h
  | IfExp t a b p=>
   replace h:(match cE n Γ t,cE n Γ a,cE n Γ b with|some t',ba a',ba b'=>ba (E.ite t' a' b')|_,_,_=>gV)=ba e':=h
   split at h
   ·rename_i t' a' b' h1 h2 h3;cases h;exact⟨EA (ihT h1) (ihE h2) (ihE h3),lq⟩
   ·cases h
  | Call f args kws p=>
   cases kws with
   | cons _ _=>cases f <;> first|(exact aY h)|(cases args <;> (exact aY h))
   | nil=>
    cases f with
    | Name x q=>
     replace h:(if ni Γ x then match Γ.fns.lookup x with|some k=>(cA (cE n Γ) args).map (E.own x k)|none=>if x==("isinstance" : Kn)then(if Γ.blt.contains x then Cs Γ (cE n Γ) args else gV)else match (generalizing:=false) Cq x,args with|some b,a::as=>if Γ.blt.contains x then(cA (cE n Γ) (a::as)).map (E.bi b)else gV|_,_=>gV else gV)=ba e':=h
     split at h
     ·rename_i hg;split at h
      ·rename_i k hk;rw[J0]at h;obtain⟨r,hr,rfl⟩:=h;have g:=GQ (pos:=p) (p:=q) K hg hk hr (dY ihE hr);exact⟨g,cW g λ_=>rfl⟩
      ·split at h
       ·rename_i his;split at h
        ·rename_i hc;obtain⟨g,a',c',rfl⟩:=GR (pos:=p) (p:=q) K hg his hc ihE h;exact⟨g,cW g λ_=>rfl⟩
        ·cases h
       ·split at h
        ·rename_i bb a as hb;split at h
         ·rename_i hc;rw[J0]at h;obtain⟨r,hr,rfl⟩:=h;have g:=IR (pos:=p) (p:=q) K hg hb hc hr (dY ihE hr);exact⟨g,cW g λ_=>rfl⟩
         ·cases h
        ·cases h
     ·cases h
    | Attribute o m q=>
     cases args with
     | nil=>exact aY h
     | cons a as=>
      replace h:(match Cr m,cE n Γ o,cA (cE n Γ) (a::as)with|some m',ba o',ba es=>if gK o&&(q.endLine==p.line)&&decide ((a::as).length < 29)then ba (E.me m' o' es)else gV|_,_,_=>gV)=ba e':=h
      split at h
      ·rename_i m' o' es h1 h2 h3;split at h
       ·rename_i hc;rw[J2,J2,Kq]at hc;cases h;have g:=IS K (cpos:=p) (apos:=q) h1 hc.1.1 hc.1.2 hc.2 (ihE h2) h3 (dY ihE h3);exact⟨g,cW g λ_=>rfl⟩
       ·cases h
      ·cases h
    | _=>exact aY h
  | Subscript a b p=>
   have plain:(match cE n Γ a,cE n Γ b with|some a',ba b'=>ba (E.ix a' b')|_,_=>gV)=ba e'->GE X (.Subscript a b p) (aH Φ e')/\GT X (.Subscript a b p) (dv Φ e'):=λh=>by
    split at h
    ·rename_i a' b' h1 h2;cases h;have g:=GB (pos:=p) hu10 (ihE h1) (ihE h2) (tY h2);exact⟨g,cW g λ_=>rfl⟩
    ·cases h
   cases b with
   | Slice lo hi st q=>
    cases st with
    | none=>
     replace h:(match cE n Γ a,cP (cE n Γ) lo,cP (cE n Γ) hi with|some a',ba lo',ba hi'=>ba (E.sl a' lo' hi')|_,_,_=>gV)=ba e':=h
     split at h
     ·rename_i a' lo' hi' h1 h2 h3;cases h;have g:=GC (pos:=p) (p2:=q) (ihE h1) (zy ihE h2) (zy ihE h3);exact⟨g,cW g λ_=>rfl⟩
     ·cases h
    | some z=>exact plain h
   | _=>exact plain h
  | Tuple es k p=>
   replace h:(cA (cE n Γ) es).map E.tup=ba e':=h;rw[J0]at h;obtain⟨r,h1,rfl⟩:=h;exact⟨yT (dY ihE h1),cW (yT (dY ihE h1)) λ_=>rfl⟩
  | List es p=>
   replace h:(cA (cE n Γ) es).map E.lst=ba e':=h;rw[J0]at h;obtain⟨r,h1,rfl⟩:=h;exact⟨yU (dY ihE h1),cW (yU (dY ihE h1)) λ_=>rfl⟩
  | Dict keys values p=>
   replace h:zr (cE n Γ) keys values=ba e':=h;unfold zr at h;split at h
   ·rename_i hc;cases h;rw[J2]at hc;have k0:keys=[]:=Rr.mp hc.1;have v0:values=[]:=Rr.mp hc.2;subst k0 v0;exact⟨Cg,lq⟩
   ·rename_i hc0;split at h
    ·rename_i hc;rw[J2,J2,Kq,Kq]at hc;rw[J0]at h;obtain⟨r,hr,rfl⟩:=h;have h0:keys≠[]:=λz=>by
      subst z;have v0:values=[]:=Ms.mp hc.1.2.symm;subst v0;exact hc0 rfl
     exact⟨Ch (pos:=p) hu10 (vh ihE keys values hc.1.1 hc.1.2 hr) hc.1.1 hc.1.2 h0 hc.2,lq⟩
    ·cases h
  | ListComp elt gens scope p=>
   match gens,h with
   | [⟨tg,iter,ifs,asy⟩],h=>
    replace h:(if (asy==0)&&(zq Γ scope&&decide (ifs.length<=1))then match cI Γ (cE n Γ) tg iter,cT (ig Γ scope) tg,cA (cE n (ig Γ scope)) ifs,cE n (ig Γ scope) elt with|some it,ba t,ba cs,ba el=>ba (E.comp el t it cs (gL Γ scope.names))|_,_,_,_=>gV else gV)=ba e':=h
    split at h
    ·rename_i hc;rw[J2,J2,Kq]at hc;have e0:asy=0:=eq_of_beq hc.1;subst e0;replace hc:=hc.2;split at h
     ·rename_i it t cs el h1 h2 h3 h4;cases h;have sc:=vm hc.1;refine⟨Cj K.calm (tZ K ihE h1) (λok=>⟨_,oJ K ok sc,?_⟩) (pX (n:=n) (λel k p=>by cases n <;> rfl) h1),lq⟩
      refine⟨λC s0 H0 ex=>vk (fG K sc C s0 H0 ex) h2,λC s0 H0 ex pins s σ H Q I q=>?_,λC s0 H0 ex=>(ih (fG K sc C s0 H0 ex) h4).1⟩
      exact rZ hc.2 h3 (λz=>(ih (fG K sc C s0 H0 ex) z).2) rfl pins s σ H Q I q
     ·cases h
    ·cases h
   | [],h=>exact aY h
   | ⟨_,_,_,_⟩::_::_,h=>exact aY h
  | _=>exact aY h
end
noncomputable abbrev cm:J3:=30
noncomputable def De:Kw->KD
 | .Constant (.str _) _ _=>true
 | _=>false
noncomputable def jR:Kw->KD
 | .ListComp _ _ _ _=>true
 | _=>false
noncomputable def vo:Kw->KD
 | .Slice _ _ _ _=>true
 | _=>false
noncomputable def wW (f:MT->J1 Sm)(ss:JT MT):J1 Ss:=ss.foldr (λs acc=>match f s,acc with|some s',ba ss'=>ba (.cons s' ss')|_,_=>gV) (ba .nil)
noncomputable def ER (Γ:Gam):JT Kw->Kw->J1 Sm
 | [.Name x px,.Name y py],.Tuple [a,b] _ _=>match Γ.N.findIdx? (· == x),Γ.N.findIdx? (· == y),cA (cE cm Γ) [a,b]with
  | some i,ba j,ba es=>if !(i==j)&&(Γ.sc.lookup x==ba .local)&&(Γ.sc.lookup y==ba .local)&&(py.line==px.line) && !([a,b].all (foldedForSure 8)) && !([a,b].all (constantsAlone 8))then ba (.par i j es)else gV
  | _,_,_=>gV
 | _,_=>gV
noncomputable def cS:J3->Gam->MT->J1 Sm
 | 0,_,_=>gV
 | n+1,Γ,st=>match st with
  | .Assign [.Name x _] e _=>match dC Γ x,cE cm Γ e with
   | some i,ba e'=>ba (.set i e')
   | _,_=>gV
  | .Assign [.Tuple ts _ _] e _=>if isTup e then ER Γ ts e else if jR e then gV else match FM Γ ts,cE cm Γ e with
   | some is,ba e'=>ba (.asg is e')
   | _,_=>gV
  | .Assign [.Subscript o k _] e _=>if vo k then gV else match cE cm Γ o,cE cm Γ k,cE cm Γ e with
   | some o',ba k',ba e'=>ba (.put o' k' e')
   | _,_,_=>gV
  | .Expr e _=>if De e then ba .pass else if jR e then gV else(cE cm Γ e).map .ex
  | .Return (ba e) _=>(cE cm Γ e).map .ret
  | .Return gV _=>ba .retN
  | .Pass _=>ba .pass
  | .Raise _ _ _=>ba .bad
  | .Break _=>ba .brk
  | .Continue _=>ba .cont
  | .If t a b _=>match cE cm Γ t,wW (cS n Γ) a,wW (cS n Γ) b with
   | some t',ba a',ba b'=>ba (.ite t' a' b')
   | _,_,_=>gV
  | .While t b [] _=>match cE cm Γ t,wW (cS n Γ) b with
   | some t',ba b'=>ba (.whl t' b')
   | _,_=>gV
  | .For tg it b [] _=>match cT Γ tg,cI Γ (cE cm Γ) tg it,wW (cS n Γ) b with
   | some t,ba i,ba b'=>ba (.loop t i b')
   | _,_,_=>gV
  | _=>gV
section
variable{Φ:Kn->FF}{X:Cx}{Γ:Gam}{fuel:J3}
theorem zz {f:MT->J1 Sm}{s:MT}{ss:JT MT}{r:Ss}(h:wW f (s::ss)=ba r):∃s' ss',f s=ba s'/\wW f ss=ba ss'/\r=.cons s' ss':=by
 simp only[wW,RI]at h;split at h
 ·rename_i e' es' h1 h2;cases h;exact⟨e',es',h1,h2,rfl⟩
 ·cases h
theorem gM {n:J3}(ih:∀ {st:MT} {s':Sm},cS n Γ st=ba s'->GS X st (gJ Φ fuel s')):∀ {ss:JT MT} {r:Ss},wW (cS n Γ) ss=ba r->GSs X ss (gq Φ fuel r)
 | [],r,h=>by cases h; exact BW
 | s::ss,r,h=>by
  obtain⟨s',ss',h1,h2,rfl⟩:=zz h;exact yW (ih h1) (gM ih h2)
theorem l8 {e:Kw}{t:J1 Kw}{l:J3}{env:QK}(h:jR e=false)(n:J3){Γ:Gam}{e':E}(hc:cE n Γ e=ba e'):swapsWith e t l env=pure false:=by
 cases n with
 | zero=>cases hc
 | succ n=>cases e <;> first|(exfalso; exact aY hc)|rfl|cases h
theorem t4 (K:CtxOk Φ X Γ){n:J3}{elt:Kw}{gens:JT Comprehension}{scope:Nf}{p:MB}{e':E}(h:cE (n+1) Γ (.ListComp elt gens scope p)=ba e') :
  ∃tg iter ifs fi g c f cap,gens=[⟨tg,iter,ifs,0⟩]/\aH Φ e'=lW fi g c f cap/\GI X tg iter fi/\(X.Ok->∃cl,CompOk X scope cl (ie scope.names) cap/\BlockOk X scope cl (ie scope.names) tg elt ifs g c f)/\∀x,foldedSetIterable iter X.env x=pure x:=by
 match gens,h with
 | [⟨tg,iter,ifs,asy⟩],h=>
  replace h:(if (asy==0)&&(zq Γ scope&&decide (ifs.length<=1))then match cI Γ (cE n Γ) tg iter,cT (ig Γ scope) tg,cA (cE n (ig Γ scope)) ifs,cE n (ig Γ scope) elt with|some it,ba t,ba cs,ba el=>ba (E.comp el t it cs (gL Γ scope.names))|_,_,_,_=>gV else gV)=ba e':=h
  split at h
  ·rename_i hc;rw[J2,J2,Kq]at hc;have e0:asy=0:=eq_of_beq hc.1;subst e0;replace hc:=hc.2;split at h
   ·rename_i it t cs el h1 h2 h3 h4;cases h;have sc:=vm hc.1;refine⟨tg,iter,ifs,_,_,_,_,_,rfl,rfl,tZ K (λz=>(cj n K z).1) h1,λok=>⟨_,oJ K ok sc,?_⟩,pX (n:=n) (λel k p=>by cases n <;> rfl) h1⟩
    refine⟨λC s0 H0 ex=>vk (fG K sc C s0 H0 ex) h2,λC s0 H0 ex pins s σ H Q I q=>?_,λC s0 H0 ex=>(cj n (fG K sc C s0 H0 ex) h4).1⟩
    exact rZ hc.2 h3 (λz=>(cj n (fG K sc C s0 H0 ex) z).2) rfl pins s σ H Q I q
   ·cases h
  ·cases h
 | [],h=>exact aY h
 | ⟨_,_,_,_⟩::_::_,h=>exact aY h
theorem GU (K:CtxOk Φ X Γ){x:Kn}{px pos:MB}{e:Kw}{i:J3}{e':E}(hi:dC Γ x=ba i)(he:cE cm Γ e=ba e'):GS X (.Assign [.Name x px] e pos) (lV (aH Φ e') (B4 i)):=by
 obtain⟨a,b,c⟩:=p4 K hi;have hN:X.N.Nodup:=by rw[K.N]; exact K.nd
 have plain:swapsWith e (ba (.Name x px)) pos.line X.env=pure false->GS X (.Assign [.Name x px] e pos) (lV (aH Φ e') (B4 i)):=λhs=>tQ (cj _ K he).1 (u6 hN a b c) hs (by cases e <;> rfl) rfl
 cases hc:jR e with
 | false=>exact plain (l8 hc _ he)
 | true=>
  cases e with
  | ListComp elt gens scope p=>
   cases hsw:(X.env.blockKind==.function&&X.env.kindOf x==ba .local&&px.line==p.line && !(scope.names.any λ(n,k)=>n==x&&(k==.local||k==.cell)))with
   | false=>
    refine plain ?_;show(pure (X.env.blockKind==.function&&X.env.kindOf x==ba .local&&px.line==p.line && !(scope.names.any λ(n,k)=>n==x&&(k==.local||k==.cell))):SQ KD)=pure false
    rw[hsw]
   | true=>
    have hsw':swapsWith (.ListComp elt gens scope p) (ba (.Name x px)) pos.line X.env=pure true:=by
     show(pure (X.env.blockKind==.function&&X.env.kindOf x==ba .local&&px.line==p.line && !(scope.names.any λ(n,k)=>n==x&&(k==.local||k==.cell))):SQ KD)=pure true
     rw[hsw]
    rw[J2,J2,J2]at hsw;have hl:X.env.scope.names.lookup x=ba .local:=eq_of_beq hsw.1.1.2;obtain⟨tg,iter,ifs,fi,g,c',f,cap,rfl,e2,gi,hck,hs⟩:=t4 K he;rw[e2];exact tW K.calm gi hck hs hsw' hN a hl
  | _=>cases hc
theorem r0 (K:CtxOk Φ X Γ){x y:Kn}{px py pt pt2:MB}{kt k2:J3}{a b:Kw}(hxy:x≠y)(hx:Γ.sc.lookup x=ba .local)(hy:Γ.sc.lookup y=ba .local)(hl:(py.line==px.line)=true)(h1:[a,b].all (foldedForSure 8)=false)(h2:[a,b].all (constantsAlone 8)=false)(hs:iD a=true)(hs2:iD b=true) :
  swappedStores [.Tuple [.Name x px,.Name y py] kt pt] (.Tuple [a,b] k2 pt2) X.env=pure (ba [x,y]):=by
 have kx:(X.env.kindOf x==ba .local)=true:=by unfold Pv; rw[K.names,hx]; rfl
 have ky:(X.env.kindOf y==ba .local)=true:=by unfold Pv; rw[K.names,hy]; rfl
 have bk:(X.env.blockKind != .function)=false:=by
  unfold Env.blockKind;rw[K.kind];rfl
 have hp:(px.line==px.line)=true:=by simp
 have ed:([x,y].eraseDups.length != [x,y].length)=false:=by
  have:(y==x)=false:=by simpa using Ne.symm hxy
  simp[Qk,this]
 have kx':X.env.kindOf x=ba .local:=eq_of_beq kx;have ky':X.env.kindOf y=ba .local:=eq_of_beq ky;have hl':py.line=px.line:=eq_of_beq hl;have bk':X.env.blockKind=.function:=by simpa using bk
 have yx:(y==x)=false:=by simpa using Ne.symm hxy
 have h1':(foldedForSure 8 a&&foldedForSure 8 b)=false:=by simpa using h1
 have h2':(constantsAlone 8 a&&constantsAlone 8 b)=false:=by simpa using h2
 unfold swappedStores;simp only[Mz,List.any_nil,Qo,ND,List.filterMap_nil,kx',ky',bk',List.head?_cons,K4,Rq,La,Mg,Le,List.all_nil,NH,h1',h2'];refine Eq.trans (KF ?_) (Eq.trans (KF ?_) ?_)
 ·decide
 ·rw[LX];rintro(hh|hh)
  ·clear h1 h2 h1' h2';cases a <;> first|(cases hh; done)|(cases hs; done)
  ·clear h1 h2 h1' h2';cases b <;> first|(cases hh; done)|(cases hs2; done)
 ·simp[Expr.pos,hl',yx,Qk]
theorem Ct (fuel:J3)(K:CtxOk Φ X Γ):∀(n:J3) {st:MT} {s':Sm},cS n Γ st=ba s'->GS X st (gJ Φ fuel s'):=by
 have hN:X.N.Nodup:=by rw[K.N]; exact K.nd
 have own:Qf (model X.prog X.w) X.A X.env X.xe:=by rw[K.xe]; exact TL
 intro n
 induction n with
 | zero=>intro st s' h; cases h
 | succ n ih=>
  intro st s' h;cases st with
  | Expr e p=>
   replace h:(if De e then ba Sm.pass else if jR e then gV else(cE cm Γ e).map Sm.ex)=ba s':=h
   split at h
   ·rename_i hd;cases h;cases e with
    | Constant c k q=>
     cases c with
     | str x=>exact EE
     | _=>cases hd
    | _=>cases hd
   ·split at h
    ·cases h
    ·rename_i hd hc;rw[J0]at h;obtain⟨e',h1,rfl⟩:=h;exact GD (cj _ K h1).1 (l8 (by simpa using hc) _ h1)
  | Return o p=>
   cases o with
   | none=>cases h; exact B2
   | some e=>
    replace h:(cE cm Γ e).map Sm.ret=ba s':=h;rw[J0]at h;obtain⟨e',h1,rfl⟩:=h;exact EF (cj _ K h1).1
  | Pass p=>cases h; exact BZ
  | Raise exc cause pos=>cases h; exact λpins s D σ H I ⟨A,ρ,S,o,S',er,so,e,hq⟩=>nomatch e
  | Break p=>cases h; exact yY
  | Continue p=>cases h; exact B0
  | If t a b p=>
   replace h:(match cE cm Γ t,wW (cS n Γ) a,wW (cS n Γ) b with|some t',ba a',ba b'=>ba (Sm.ite t' a' b')|_,_,_=>gV)=ba s':=h
   split at h
   ·rename_i t' a' b' h1 h2 h3;cases h;exact GF (cj _ K h1).2 (gM ih h2) (gM ih h3)
   ·cases h
  | While t b o p=>
   cases o with
   | cons _ _=>exact aY h
   | nil=>
    replace h:(match cE cm Γ t,wW (cS n Γ) b with|some t',ba b'=>ba (Sm.whl t' b')|_,_=>gV)=ba s':=h
    split at h
    ·rename_i t' b' h1 h2;cases h;exact yZ fuel own (cj _ K h1).2 (gM ih h2)
    ·cases h
  | For tg it b o p=>
   cases o with
   | cons _ _=>exact aY h
   | nil=>
    replace h:(match cT Γ tg,cI Γ (cE cm Γ) tg it,wW (cS n Γ) b with|some t,ba i,ba b'=>ba (Sm.loop t i b')|_,_,_=>gV)=ba s':=h
    split at h
    ·rename_i t i b' h1 h2 h3;cases h;exact EL own K.calm (tZ K (λz=>(cj _ K z).1) h2) (vk K h1) (gM ih h3) (pX (n:=cm) (λel k p=>rfl) h2)
    ·cases h
  | Assign ts e p=>
   match ts,h with
   | [],h=>exact aY h
   | a::_::_,h=>cases a <;> exact aY h
   | [t],h=>
    cases t with
    | Name x px=>
     replace h:(match dC Γ x,cE cm Γ e with|some i,ba e'=>ba (Sm.set i e')|_,_=>gV)=ba s':=h
     split at h
     ·rename_i i e' h1 h2;cases h;exact GU K h1 h2
     ·cases h
    | Subscript o k q=>
     replace h:(if vo k then gV else match cE cm Γ o,cE cm Γ k,cE cm Γ e with|some o',ba k',ba e'=>ba (Sm.put o' k' e')|_,_,_=>gV)=ba s':=h
     split at h
     ·cases h
     ·rename_i hc;split at h
      ·rename_i o' k' e' h1 h2 h3;cases h;refine tQ (cj _ K h3).1 (EI (by have:=K.un; have:iu=20:=rfl; omega) (cj _ K h1).1 (cj _ K h2).1 ?_) (by cases e <;> rfl) (by cases e <;> rfl) rfl
       intro v;cases k <;> first|rfl|exact absurd rfl hc
      ·cases h
    | Tuple ts' k q=>
     have par:∀ {x y:Kn} {px py:MB} {a b:PySem.Expr} {k2:J3} {q2:MB},(match Γ.N.findIdx? (· == x),Γ.N.findIdx? (· == y),cA (cE cm Γ) [a,b]with
       | some i,ba j,ba es=>if !(i==j)&&(Γ.sc.lookup x==ba .local)&&(Γ.sc.lookup y==ba .local)&&(py.line==px.line) && !([a,b].all (foldedForSure 8)) && !([a,b].all (constantsAlone 8))then ba (Sm.par i j es)else gV
       | _,_,_=>gV)=ba s'->GS X (.Assign [.Tuple [.Name x px,.Name y py] k q] (.Tuple [a,b] k2 q2) p) (gJ Φ fuel s'):=λ{x y px py a b k2 q2} h=>by
      split at h
      ·rename_i i j es h1 h2 h3;split at h
       ·rename_i hc;cases h;rw[J2,J2,J2,J2,J2]at hc;obtain⟨⟨⟨⟨⟨c1,c2⟩,c3⟩,c4⟩,c5⟩,c6⟩:=hc;have hij:i≠j:=by simpa using c1
        have ns:=cY h3;rw[Le,Le,J2,J2]at ns;have hi:X.N[i]?=ba x:=by rw[K.N]; exact dO h1
        have hj:X.N[j]?=ba y:=by rw[K.N]; exact dO h2
        refine EJ K.calm hN hi hj hij (by rw[K.names]; exact eq_of_beq c2) (by rw[K.names]; exact eq_of_beq c3) (dY (λz=>(cj _ K z).1) h3) (r0 K ?_ (eq_of_beq c2) (eq_of_beq c3) c4 (by rw[<- OY]; exact c5) (by rw[<- OY]; exact c6) ns.1 ns.2.1) rfl
        rintro rfl;rw[h1]at h2;cases h2;exact hij rfl
       ·cases h
      ·cases h
     replace h:(if isTup e then ER Γ ts' e else if jR e then gV else match FM Γ ts',cE cm Γ e with|some is,ba e'=>ba (Sm.asg is e')|_,_=>gV)=ba s':=h
     split at h
     ·unfold ER at h;split at h
      ·exact par h
      ·cases h
     ·split at h
      ·cases h
      ·rename_i hc1 hc2;split at h
       ·rename_i is e' h1 h2;cases h;refine tQ (cj _ K h2).1 (vk (tg:=.Tuple ts' k q) (t:=.tp is) K (by simp[cT,h1])) (l8 (t:=ba (.Tuple ts' k q)) (l:=p.line) (env:=X.env) (by simpa using hc2) _ h2) ?_ rfl
        cases e <;> first|rfl|exact absurd rfl hc1
       ·cases h
    | _=>exact aY h
  | _=>exact aY h
end
set_option genInjectivity false in
structure Df where
 ps:JT Kn
 N:JT Kn
 body:Ss
noncomputable def fQ (N:JT Kn)(ws:JT W):Fm:=ws.map ba++KY (N.length - ws.length) gV
noncomputable def aq (defs:JT (Kn×Df))(fuel:J3):J3->Kn->FF
 | 0,_,_,_=>gV
 | d+1,f,ws,S=>match defs.lookup f with
  | some df=>if ws.length=df.ps.length then match gq (aq defs fuel d) fuel df.body (fQ df.N ws) S with
    | some (.rt w,S')=>ba (w,S')
    | some (.nx _,S')=>ba (.non,S')
    | _=>gV
   else gV
  | none=>gV
set_option genInjectivity false in
structure Md where
 fns:JT (Kn×J3)
 blt:JT Kn
noncomputable def Dg (M:Md)(st:MT)(N:JT Kn):Gam:={ sc:=(ah st).names,N:=N,fns:=M.fns,blt:=M.blt,dfn:=true }
noncomputable def b8 (M:Md)(st:MT)(df:Df):Prop:=wW (cS 20 (Dg M st df.N)) (c8 st)=ba df.body
theorem oK {K:Kb}{A:JT J4}{H:Hp}{ws:JT W}{vs:JT V}{N:JT Kn}(r:RelL K A H ws vs):EnvRel K A H (fQ N ws) (ga N vs):=by
 refine⟨by simp[fQ,L2.ga,r.length],λi w h=>?_⟩
 unfold fQ at h;unfold L2.ga
 by_cases hi:i < ws.length
 ·rw[K9 (by simpa using hi),J6]at h
  rw[K9 (by rw[JV,<- r.length]; exact hi),J6]
  cases q:ws[i]? with
  | none=>rw[q]at h; cases h
  | some w'=>
   rw[q]at h;simp only[K4,KL]at h;subst h;obtain⟨v,h1,h2⟩:=r.get q;exact⟨v,by rw[h1]; rfl,h2⟩
 ·rw[MD (by simpa using hi)]at h
  have:=Kf h;simp at this
section
variable{P:KJ}{w:KT}{K:Kb}{mg:Kn->J1 JW}{base:K6}
noncomputable def Dh (P:KJ)(w:KT)(K:Kb)(mg:Kn->J1 JW)(base:K6)(M:Md)(defs:JT (Kn×Df))(fuel d:J3):Prop:=
 ∀f n,M.fns.lookup f=ba n->∃fa fd ps,FnOk P w K mg base xu d fa fd ps (yV w K n (aq defs fuel d f))/\mg f=ba (.ref fa)/\LL K (.ref fa)=true/\Binds K fd ps []
structure MdOk (w:KT)(K:Kb)(mg:Kn->J1 JW)(M:Md):Prop where
 blt:∀y∈M.blt,mg y=gV
theorem Di {M:Md}{defs:JT (Kn×Df)}{fuel d:J3}{x qual:Kn}{st:MT}{f:J4}{fd:MC}{df:Df}(F:Fun K x qual st f fd)(S:FnScope df.N df.ps (ah st))(hd:defs.lookup x=ba df)(hc:b8 M st df)
  (hb:MdOk w K mg M) (prev:Dh P w K mg base M defs fuel d):FnOk P w K mg base xu (d+1) f fd df.ps (yV w K df.ps.length (aq defs fuel (d+1) x)):=by
 refine F.ok S (λvs H Q E h=>?_) (λcdv A outer s H vs Q E hr h=>?_)
 ·obtain⟨A,S,ws,w',S',_,rl,hl,_⟩:=h;rw[<- rl.length]; exact hl
 ·obtain⟨A',St,ws,w',S',so,rl,hl,e,hq⟩:=h;have K':CtxOk (aq defs fuel d) (sS xu P w K mg base df.N qual (ah st) f cdv A outer s H E).nox (Dg M st df.N):=by
   refine⟨rfl,S.kind,rfl,S.nd,rfl,rfl,?_,λ_ _=>rfl,hb.blt,λg n hg=>?_⟩
   ·have:=hr.un;show(A.deeper _).units+20 < cLine;omega
   ·obtain⟨fa,fd',ps',h1,h2,h3,h4⟩:=prev g n hg;exact⟨d,fa,fd',ps',h1,hr,h2,h3,h4⟩
  refine⟨tS _ (gq (aq defs fuel d) fuel df.body),gM (λz=>Ct fuel K' 20 z) hc,?_⟩
  simp only[aq,hd]at e;rw[Ks hl]at e;split at e
  ·rename_i w1 S1 h1;cases e;refine⟨A',fQ df.N ws,St,_,_,oK rl,so,h1,⟨λσ' H' ⟨_,_,z,_⟩=>(by cases z),λv H' ⟨w2,A2,z0,z1,z2,z3⟩=>?_,λσ' H' ⟨_,_,z,_⟩=>(by cases z),λσ' H' ⟨_,_,z,_⟩=>(by cases z)⟩⟩
   cases z0;exact hq v H' ⟨A2,z1,z2,z3⟩
  ·rename_i ρ1 S1 h1;cases e;refine⟨A',fQ df.N ws,St,_,_,oK rl,so,h1,⟨λσ' H' ⟨w2,A2,z0,z1,z2,z3⟩=>?_,λσ' H' ⟨_,_,z,_⟩=>(by cases z),λσ' H' ⟨_,_,z,_⟩=>(by cases z),λσ' H' ⟨_,_,z,_⟩=>(by cases z)⟩⟩
   exact hq _ H' ⟨A2,z1,z2,.non⟩
  ·cases e
theorem wX {H:Hp}{a:J4}{ns:JT Kh}(hO:xT H)(hS:SqL K H a (ns.map V.int)):StoreOk w K [a] H [.fro (ns.map W.int)]/\RelL K [a] H [.ref 0] [.ref a]:=by
 have rl:∀ns:JT Kh,RelL K [a] H (ns.map W.int) (ns.map V.int):=by
  intro ns
  induction ns with
  | nil=>exact .nil
  | cons n ns ih=>exact .cons .int ih
 have fr:FroL K H a (ns.map V.int):=by
  rcases hS with(h|⟨o,h⟩)|h
  ·rcases hO a with z|⟨o,xs,z⟩ <;> (rw[z]at h; cases h)
  ·exact .inl ⟨o,h⟩
  ·exact .inr h
 refine⟨⟨rfl,λi j b o u e1 m1 e2 m2 _ _=>?_,λi o b e1 e2=>?_⟩,.cons (.ref rfl) .nil⟩
 ·cases i with
  | zero=>simp at e1; subst e1; cases m1
  | succ i=>simp at e1
 ·cases i with
  | zero=>
   simp at e1 e2;subst e1 e2;exact⟨_,fr,rl ns⟩
  | succ i=>simp at e1
theorem ES {g:FF}{H:Hp}{a:J4}{ns:JT Kh}(h:∃S',g [.ref 0] [.fro (ns.map W.int)]=ba (.bl true,S'))(hO:xT H)(hS:SqL K H a (ns.map V.int)):yV w K 1 g [.ref a] H (λv _=>v=.bl true) λ_ _ _=>Lw:=by
 obtain⟨S',e⟩:=h;obtain⟨so,rl⟩:=wX hO hS;exact⟨[a],_,_,_,S',so,rl,rfl,e,λv H' ⟨A',z1,z2,z3⟩=>by cases z3; rfl⟩
end
noncomputable def Wp {α:Type}(o:J1 α)(Q:α->Prop):Prop:=∃a,o=ba a/\Q a
theorem ab {α:Type}{a:α}{Q:α->Prop}:Wp (ba a) Q↔Q a:=⟨λ⟨b,e,h⟩=>(by cases e; exact h),λh=>⟨a,rfl,h⟩⟩
theorem ac {α:Type}{Q:α->Prop}:Wp (gV:J1 α) Q↔Lw:=⟨λ⟨b,e,h⟩=>(by cases e),λh=>h.elim⟩
theorem Wp.mono {α:Type}{o:J1 α}{Q Q':α->Prop}(h:Wp o Q)(k:∀a,Q a->Q' a):Wp o Q':=let ⟨a,e,q⟩:=h; ⟨a,e,k a q⟩
section
variable{Φ:Kn->FF}{fuel:J3}{ρ:Fm}{S:aa}
noncomputable abbrev QW:=W×aa->Prop
theorem JO {w:W}{Q:QW}:Wp (aH Φ (.c w) ρ S) Q↔Q (w,S):=by simp[aH,fC,ab,ac]
theorem JE {i:J3}{Q:QW}:Wp (aH Φ (.v i) ρ S) Q↔∃w,ρ[i]?=ba (ba w)/\Q (w,S):=by
 simp only[aH,fV];rcases h:ρ[i]? with _|_|w <;> simp[ab,ac]
theorem zA {g:W->W->aa->J1 (W×aa)}{a b:FE}{Q:QW}:Wp (BK g a b ρ S) Q↔Wp (a ρ S) λp=>Wp (b ρ p.2) λq=>Wp (g p.1 q.1 q.2) Q:=by
 unfold BK;rcases h:a ρ S with _|⟨x,S1⟩
 ·simp[ab,ac]
 ·rcases h2:b ρ S1 with _|⟨y,S2⟩ <;> simp[ab,ac,h2]
theorem IU {o:BOp}{a b:E}{Q:QW}:Wp (aH Φ (.op o a b) ρ S) Q↔Wp (aH Φ a ρ S) λp=>Wp (aH Φ b ρ p.2) λq=>Wp (gg o p.1 q.1 q.2) Q:=by rw[aH]; exact zA
theorem Dj {o:COp}{a b:E}{Q:QW}:Wp (aH Φ (.cmp o a b) ρ S) Q↔Wp (aH Φ a ρ S) λp=>Wp (aH Φ b ρ p.2) λq=>Wp (eQ o p.1 q.1 q.2) Q:=by rw[aH]; exact zA
theorem IV {a b:E}{Q:QW}:Wp (aH Φ (.ix a b) ρ S) Q↔Wp (aH Φ a ρ S) λp=>Wp (aH Φ b ρ p.2) λq=>Wp (qH p.1 q.1 q.2) Q:=by rw[aH]; exact zA
theorem GV {a b:E}{Q:QW}:Wp (aH Φ (.and a b) ρ S) Q↔Wp (aH Φ a ρ S) λp=>∃k,p.1=.bl k/\(k=true->Wp (aH Φ b ρ p.2) Q)/\(k=false->Q (.bl false,p.2)):=by
 simp only[aH,uY];rcases h:aH Φ a ρ S with _|⟨x,S1⟩
 ·simp[ab,ac]
 ·cases x <;> simp[ab,ac]
  rename_i b; cases b <;> simp[ab,ac]
theorem IW {a b:E}{Q:QW}:Wp (aH Φ (.or a b) ρ S) Q↔Wp (aH Φ a ρ S) λp=>∃k,p.1=.bl k/\(k=true->Q (.bl true,p.2))/\(k=false->Wp (aH Φ b ρ p.2) Q):=by
 simp only[aH,BP];rcases h:aH Φ a ρ S with _|⟨x,S1⟩
 ·simp[ab,ac]
 ·cases x <;> simp[ab,ac]
  rename_i b; cases b <;> simp[ab,ac]
theorem GX {a:E}{Q:QW}:Wp (aH Φ (.not a) ρ S) Q↔Wp (aH Φ a ρ S) λp=>∃k,p.1=.bl k/\Q (.bl (!k),p.2):=by
 simp only[aH,uZ];rcases h:aH Φ a ρ S with _|⟨x,S1⟩
 ·simp[ab,ac]
 ·cases x <;> simp[ab,ac]
  rename_i k; cases k <;> simp
theorem GY {t a b:E}{Q:QW}:Wp (aH Φ (.ite t a b) ρ S) Q↔Wp (dv Φ t ρ S) λp=>(p.1=true->Wp (aH Φ a ρ p.2) Q)/\(p.1=false->Wp (aH Φ b ρ p.2) Q):=by
 simp only[aH,BQ];rcases h:dv Φ t ρ S with _|⟨x,S1⟩
 ·simp[ab,ac]
 ·cases x <;> simp[ab,ac]
theorem Dk {f:Kn}{n:J3}{es:Es}{Q:QW}:Wp (aH Φ (.own f n es) ρ S) Q↔Wp (dz Φ es ρ S) λp=>p.1.length=n/\Wp (Φ f p.1 p.2) Q:=by
 simp only[aH,rO];rcases h:dz Φ es ρ S with _|⟨x,S1⟩
 ·simp[ab,ac]
 ·by_cases hl:x.length=n <;> simp[ab,ac,hl]
theorem GZ {b:Bi}{es:Es}{Q:QW}:Wp (aH Φ (.bi b es) ρ S) Q↔Wp (dz Φ es ρ S) λp=>Wp (b.fn p.1 p.2) Q:=by
 simp only[aH,kF];rcases h:dz Φ es ρ S with _|⟨x,S1⟩ <;> simp[ab,ac]
theorem IX {m:Me}{o:E}{es:Es}{Q:QW}:Wp (aH Φ (.me m o es) ρ S) Q↔Wp (aH Φ o ρ S) λp=>tyOk m.ty p.2 p.1=true/\Wp (dz Φ es ρ p.2) λq=>Wp (m.fn p.1 q.1 q.2) Q:=by
 simp only[aH,FL];rcases h:aH Φ o ρ S with _|⟨x,S1⟩
 ·simp[ab,ac]
 ·by_cases ht:tyOk m.ty S1 x=true
  ·rcases h2:dz Φ es ρ S1 with _|⟨y,S2⟩ <;> simp[ab,ac,ht,h2]
  ·simp[ab,ac,ht]
theorem IY {a:E}{lo hi:Ep}{Q:QW}:Wp (aH Φ (.sl a lo hi) ρ S) Q↔Wp (aH Φ a ρ S) λp=>Wp (vd Φ lo ρ p.2) λq=>Wp (vd Φ hi ρ q.2) λr=>Wp (pE p.1 q.1 r.1 r.2) Q:=by
 simp only[aH,Gz];rcases h:aH Φ a ρ S with _|⟨x,S1⟩
 ·simp[ab,ac]
 ·rcases h2:vd Φ lo ρ S1 with _|⟨y,S2⟩
  ·simp[ab,ac,h2]
  ·rcases h3:vd Φ hi ρ S2 with _|⟨z,S3⟩ <;> simp[ab,ac,h2,h3]
theorem IZ {Q:J1 Kh×aa->Prop}:Wp (vd Φ .no ρ S) Q↔Q (gV,S):=by simp[vd,EC,ab,ac]
theorem G0 {a:E}{Q:J1 Kh×aa->Prop}:Wp (vd Φ (.yes a) ρ S) Q↔Wp (aH Φ a ρ S) λp=>∃i,p.1=.int i/\Q (ba i,p.2):=by
 simp only[vd,u5];rcases h:aH Φ a ρ S with _|⟨x,S1⟩
 ·simp[ab,ac]
 ·cases x <;> simp[ab,ac]
theorem G1 {es:Es}{Q:QW}:Wp (aH Φ (.tup es) ρ S) Q↔Wp (dz Φ es ρ S) λp=>p.1.length<=sizeLine/\Q (.tup p.1,p.2):=by
 simp only[aH,yR,sX];rcases h:dz Φ es ρ S with _|⟨x,S1⟩
 ·simp[ab,ac]
 ·by_cases hl:x.length<=sizeLine <;> simp[ab,ac,hl]
theorem G2 {es:Es}{Q:QW}:Wp (aH Φ (.lst es) ρ S) Q↔Wp (dz Φ es ρ S) λp=>p.1.length<=sizeLine/\Q (.ref p.2.length,p.2++[.lst p.1]):=by
 simp only[aH,yS,mY];rcases h:dz Φ es ρ S with _|⟨x,S1⟩
 ·simp[ab,ac]
 ·by_cases hl:x.length<=sizeLine <;> simp[ab,ac,hl]
theorem Dl {c:LB}{a:E}{Q:QW}:Wp (aH Φ (.isi c a) ρ S) Q↔Wp (aH Φ a ρ S) λp=>∃k,y6 p.2 p.1 c=ba k/\Q (.bl k,p.2):=by
 simp only[aH,y9];rcases h:aH Φ a ρ S with _|⟨x,S1⟩
 ·simp[ab,ac]
 ·cases h2:y6 S1 x c <;> simp[ab,ac,h2]
  rename_i k; cases k <;> simp
theorem G3 {a:E}{Q:QW}:Wp (aH Φ (.neg a) ρ S) Q↔Wp (aH Φ a ρ S) λp=>∃i,p.1=.int i/\Q (.int (-i),p.2):=by
 simp only[aH,yM];rcases h:aH Φ a ρ S with _|⟨x,S1⟩
 ·simp[ab,ac]
 ·cases x <;> simp[ab,ac]
theorem ET {es:Es}{Q:QW}:Wp (aH Φ (.disp es) ρ S) Q↔Wp (dz Φ es ρ (S++[.dic []])) λp=>p.2[S.length]?=ba (.dic [])/\∃kvs,dX [] p.1=ba kvs/\Q (.ref S.length,p.2.set S.length (.dic kvs)):=by
 have e:aH Φ (.disp es) ρ S=rR (dz Φ es) ρ S:=by rw[aH]
 rw[e];unfold rR;cases dz Φ es ρ (S++[.dic []])with
 | none=>simp[ac]
 | some p=>
  obtain⟨x,S1⟩:=p;simp only[ab];cases h2:S1[S.length]? with
  | none=>simp[ac]
  | some o=>
   cases o with
   | lst _=>simp[ac]
   | fro _=>simp[ac]
   | frd _=>simp[ac]
   | stt _=>simp[ac]
   | rng _ _=>simp[ac]
   | dic kvs=>
    cases kvs with
    | nil=>cases h3:dX [] x <;> simp[ab,ac]
    | cons a b=>simp[ac]
theorem G4 {Q:JT W×aa->Prop}:Wp (dz Φ .nil ρ S) Q↔Q ([],S):=by simp[dz,jO,ab,ac]
theorem EU {e:E}{es:Es}{Q:JT W×aa->Prop}:Wp (dz Φ (.cons e es) ρ S) Q↔Wp (aH Φ e ρ S) λp=>Wp (dz Φ es ρ p.2) λq=>Q (p.1::q.1,q.2):=by
 simp only[dz,eF];rcases h:aH Φ e ρ S with _|⟨x,S1⟩
 ·simp[ab,ac]
 ·rcases h2:dz Φ es ρ S1 with _|⟨y,S2⟩ <;> simp[ab,ac,h2]
noncomputable abbrev QB:=KD×aa->Prop
theorem G5 {f:FE}{Q:QB}:Wp (yO f ρ S) Q↔Wp (f ρ S) λp=>∃k,p.1=.bl k/\Q (k,p.2):=by
 unfold yO;rcases h:f ρ S with _|⟨x,S1⟩
 ·simp[ab,ac]
 ·cases x <;> simp[ab,ac]
  rename_i k; cases k <;> simp
theorem vp {f:FE}{Q:QB}:Wp (gS f ρ S) Q↔Wp (f ρ S) λp=>∃k,gh p.2 p.1=ba k/\Q (k,p.2):=by
 unfold gS;rcases h:f ρ S with _|⟨x,S1⟩
 ·simp[ab,ac]
 ·cases h2:gh S1 x <;> simp[ab,ac,h2]
  rename_i k; cases k <;> simp
theorem G6 {o:COp}{a b:E}{Q:QB}:Wp (dv Φ (.cmp o a b) ρ S) Q↔Wp (aH Φ (.cmp o a b) ρ S) λp=>∃k,p.1=.bl k/\Q (k,p.2):=by rw[dv,aH]; exact G5
theorem G7 {a b:E}{Q:QB}:Wp (dv Φ (.and a b) ρ S) Q↔Wp (dv Φ a ρ S) λp=>(p.1=true->Wp (dv Φ b ρ p.2) Q)/\(p.1=false->Q (false,p.2)):=by
 simp only[dv,yP];rcases h:dv Φ a ρ S with _|⟨x,S1⟩
 ·simp[ab,ac]
 ·cases x <;> simp[ab,ac]
theorem Ja {a b:E}{Q:QB}:Wp (dv Φ (.or a b) ρ S) Q↔Wp (dv Φ a ρ S) λp=>(p.1=true->Q (true,p.2))/\(p.1=false->Wp (dv Φ b ρ p.2) Q):=by
 simp only[dv,Gw];rcases h:dv Φ a ρ S with _|⟨x,S1⟩
 ·simp[ab,ac]
 ·cases x <;> simp[ab,ac]
theorem G8 {a:E}{Q:QB}:Wp (dv Φ (.not a) ρ S) Q↔Wp (dv Φ a ρ S) λp=>Q (!p.1,p.2):=by
 simp only[dv,BM];rcases h:dv Φ a ρ S with _|⟨x,S1⟩ <;> simp[ab,ac]
theorem JP {i:J3}{Q:QB}:Wp (dv Φ (.v i) ρ S) Q↔Wp (aH Φ (.v i) ρ S) λp=>∃k,gh p.2 p.1=ba k/\Q (k,p.2):=by rw[dv,aH]; exact vp
theorem G9 {f:Kn}{n:J3}{es:Es}{Q:QB}:Wp (dv Φ (.own f n es) ρ S) Q↔Wp (aH Φ (.own f n es) ρ S) λp=>∃k,gh p.2 p.1=ba k/\Q (k,p.2):=by rw[dv,aH]; exact vp
theorem Jb {b:Bi}{es:Es}{Q:QB}:Wp (dv Φ (.bi b es) ρ S) Q↔Wp (aH Φ (.bi b es) ρ S) λp=>∃k,gh p.2 p.1=ba k/\Q (k,p.2):=by rw[dv,aH]; exact vp
theorem Ha {c:LB}{a:E}{Q:QB}:Wp (dv Φ (.isi c a) ρ S) Q↔Wp (aH Φ (.isi c a) ρ S) λp=>∃k,gh p.2 p.1=ba k/\Q (k,p.2):=by rw[dv,aH]; exact vp
noncomputable abbrev QO:=Out×aa->Prop
theorem Hb {Q:QO}:Wp (gq Φ fuel .nil ρ S) Q↔Q (.nx ρ,S):=by simp[gq,ab,ac]
theorem EV {s:Sm}{ss:Ss}{Q:QO}:Wp (gq Φ fuel (.cons s ss) ρ S) Q↔Wp (gJ Φ fuel s ρ S) λp=>(∀ρ',p.1=.nx ρ'->Wp (gq Φ fuel ss ρ' p.2) Q)/\((∀ρ',p.1≠.nx ρ')->Q p):=by
 simp only[gq,BX];rcases h:gJ Φ fuel s ρ S with _|⟨o,S1⟩
 ·simp[ab,ac]
 ·cases o <;> simp[ab,ac]
theorem zB {f:FE}{g:FG}{Q:QO}:Wp (lV f g ρ S) Q↔Wp (f ρ S) λp=>Wp (g p.1 ρ p.2) λq=>Q (.nx q.1,q.2):=by
 unfold lV;rcases h:f ρ S with _|⟨x,S1⟩
 ·simp[ab,ac]
 ·rcases h2:g x ρ S1 with _|⟨y,S2⟩ <;> simp[ab,ac,h2]
theorem EW {i:J3}{e:E}{Q:QO}:Wp (gJ Φ fuel (.set i e) ρ S) Q↔Wp (aH Φ e ρ S) λp=>Q (.nx (ρ.set i (ba p.1)),p.2):=by
 rw[gJ,zB]; simp[B4,ab,ac]
theorem EX {is:JT J3}{e:E}{Q:QO}:Wp (gJ Φ fuel (.asg is e) ρ S) Q↔Wp (aH Φ e ρ S) λp=>∃ws ρ',p.1=.tup ws/\dB is ws ρ=ba ρ'/\Q (.nx ρ',p.2):=by
 rw[gJ,zB];constructor
 ·refine λh=>h.mono λp hp=>?_
  obtain⟨w,S1⟩:=p;obtain⟨q,h1,h2⟩:=hp;cases w with
  | tup ws=>
   simp only[EG,J0]at h1;obtain⟨ρ',h3,rfl⟩:=h1;exact⟨ws,ρ',rfl,h3,h2⟩
  | _=>cases h1
 ·refine λh=>h.mono λp hp=>?_
  obtain⟨w,S1⟩:=p;obtain⟨ws,ρ',h0,h1,h2⟩:=hp;subst h0;exact⟨(ρ',S1),by simp[EG,h1],h2⟩
theorem EY {i j:J3}{es:Es}{Q:QO}:Wp (gJ Φ fuel (.par i j es) ρ S) Q↔Wp (dz Φ es ρ S) λp=>∃x y,p.1=[x,y]/\Q (.nx ((ρ.set i (ba x)).set j (ba y)),p.2):=by
 simp only[gJ,B6];rcases h:dz Φ es ρ S with _|⟨x,S1⟩
 ·simp[ac]
 ·match x with
  | []=>simp[ab,ac]
  | [_]=>simp[ab,ac]
  | [a,b]=>
   simp only[ab];exact⟨λh=>⟨a,b,rfl,h⟩,λ⟨x,y,e,h⟩=>by cases e; exact h⟩
  | _::_::_::_=>simp[ab,ac]
theorem EZ {o k e:E}{Q:QO}:Wp (gJ Φ fuel (.put o k e) ρ S) Q↔Wp (aH Φ e ρ S) λp=>Wp (aH Φ o ρ p.2) λq=>Wp (aH Φ k ρ q.2) λr=>∃S',i8 q.1 r.1 p.1 r.2=ba S'/\Q (.nx ρ,S'):=by
 rw[gJ,zB];rcases h:aH Φ e ρ S with _|⟨x,S1⟩
 ·simp[ab,ac]
 ·simp only[ab];unfold B5;rcases h2:aH Φ o ρ S1 with _|⟨y,S2⟩
  ·simp[ab,ac]
  ·rcases h3:aH Φ k ρ S2 with _|⟨z,S3⟩
   ·simp[ab,ac,h3]
   ·cases h4:i8 y z x S3 <;> simp[ab,ac,h3,h4]
theorem Hc {e:E}{Q:QO}:Wp (gJ Φ fuel (.ex e) ρ S) Q↔Wp (aH Φ e ρ S) λp=>Q (.nx ρ,p.2):=by
 simp only[gJ,BY];rcases h:aH Φ e ρ S with _|⟨x,S1⟩ <;> simp[ab,ac]
theorem E1 {e:E}{Q:QO}:Wp (gJ Φ fuel (.ret e) ρ S) Q↔Wp (aH Φ e ρ S) λp=>Q (.rt p.1,p.2):=by
 simp only[gJ,B1];rcases h:aH Φ e ρ S with _|⟨x,S1⟩ <;> simp[ab,ac]
theorem E2 {t:E}{a b:Ss}{Q:QO}:Wp (gJ Φ fuel (.ite t a b) ρ S) Q↔Wp (dv Φ t ρ S) λp=>(p.1=true->Wp (gq Φ fuel a ρ p.2) Q)/\(p.1=false->Wp (gq Φ fuel b ρ p.2) Q):=by
 simp only[gJ,B3];rcases h:dv Φ t ρ S with _|⟨x,S1⟩
 ·simp[ab,ac]
 ·cases x <;> simp[ab,ac]
end
section
variable{Φ:Kn->FF}{fuel:J3}{ρ:Fm}{S:aa}
noncomputable def zC (I:Fm->aa->Prop)(Q:QO)(o:Out×aa):Prop:=match o.1 with
 | .nx ρ'=>I ρ' o.2
 | .ct ρ'=>I ρ' o.2
 | .bk ρ'=>Q (.nx ρ',o.2)
 | .rt w=>Q (.rt w,o.2)
theorem jS {mi:MI}{g:FG}{b:FS}{xs:JT W}{Q:QO}(I:J3->Fm->aa->Prop)(hat:∀i ρ S,I i ρ S->mi.at S i=ba xs[i]?)
  (hstep:∀i w ρ S,xs[i]?=ba w->I i ρ S->Wp (g w ρ S) λq=>Wp (b q.1 q.2) (zC (I (i+1)) Q)) (hend:∀ρ S,I xs.length ρ S->Q (.nx ρ,S)):∀(n i:J3) (ρ:Fm) (S:aa),i+n=xs.length->I i ρ S->Wp (gn mi g b n i ρ S) Q
 | 0,i,ρ,S,hl,hI=>by
  have e:mi.at S i=ba gV:=by rw[hat i ρ S hI,Nd (by omega)]
  simp only[gn,e];have hi:i=xs.length:=by omega
  exact ab.mpr (hend ρ S (hi ▸ hI))
 | n+1,i,ρ,S,hl,hI=>by
  have hi:i < xs.length:=by omega
  have e:mi.at S i=ba (ba xs[i]):=by rw[hat i ρ S hI,J5 hi]
  obtain⟨⟨ρ1,S1⟩,h1,⟨o,S2⟩,h2,h3⟩:=hstep i xs[i] ρ S (J5 hi) hI;simp only[gn,e,h1,h2];cases o with
  | nx ρ2=>exact jS I hat hstep hend n (i+1) ρ2 S2 (by omega) h3
  | ct ρ2=>exact jS I hat hstep hend n (i+1) ρ2 S2 (by omega) h3
  | bk ρ2=>exact ab.mpr h3
  | rt w=>exact ab.mpr h3
theorem Hd {fi:FI}{g:FG}{b:FS}{Q:QO}:Wp (y4 fi g b ρ S) Q↔Wp (fi ρ S) λp=>∃n,p.1.len p.2=ba n/\Wp (gn p.1 g b n 0 ρ p.2) Q:=by
 unfold y4;rcases h:fi ρ S with _|⟨mi,S1⟩
 ·simp[ac]
 ·cases h2:mi.len S1 <;> simp[ab,ac,h2]
theorem de {mi:MI}{g:FG}{c:FT}{f:FE}{xs:JT W}{Q:JT W×aa->Prop}(I:J3->JT W->Fm->aa->Prop)(hat:∀i ys ρ S,I i ys ρ S->mi.at S i=ba xs[i]?)
  (hstep:∀i w ys ρ S,xs[i]?=ba w->I i ys ρ S->Wp (g w ρ S) λq=>Wp (c q.1 q.2) λk=>(k.1=true->Wp (f q.1 k.2) λy=>I (i+1) (ys++[y.1]) q.1 y.2)/\(k.1=false->I (i+1) ys q.1 k.2))
  (hend:∀ys ρ S,I xs.length ys ρ S->Q (ys,S)):∀(n i:J3) (ys:JT W) (ρ:Fm) (S:aa),i+n=xs.length->I i ys ρ S->Wp (bU mi g c f n i ρ S) λp=>Q (ys++p.1,p.2)
 | 0,i,ys,ρ,S,hl,hI=>by
  have e:mi.at S i=ba gV:=by rw[hat i ys ρ S hI,Nd (by omega)]
  simp only[bU,e];refine ab.mpr ?_;have:i=xs.length:=by omega
  simpa using hend ys ρ S (this ▸ hI)
 | n+1,i,ys,ρ,S,hl,hI=>by
  have hi:i < xs.length:=by omega
  have e:mi.at S i=ba (ba xs[i]):=by rw[hat i ys ρ S hI,J5 hi]
  obtain⟨⟨ρ1,S1⟩,h1,⟨k,S2⟩,h2,h3,h4⟩:=hstep i xs[i] ys ρ S (J5 hi) hI;simp only[bU,e,h1,h2];cases k with
  | true=>
   obtain⟨⟨y,S3⟩,h5,h6⟩:=h3 rfl;simp only[h5];obtain⟨⟨zs,S4⟩,h7,h8⟩:=de I hat hstep hend n (i+1) (ys++[y]) ρ1 S3 (by omega) h6
   simp only[h7];exact ab.mpr (by simpa using h8)
  | false=>exact de I hat hstep hend n (i+1) ys ρ1 S2 (by omega) (h4 rfl)
theorem t8 {elt:E}{tg:Tg}{it:Ie}{cs:Es}{cap:JT (J1 J3)}{Q:QW}:Wp (aH Φ (.comp elt tg it cs cap) ρ S) Q↔Wp (lp Φ it ρ S) λp=>∃n,p.1.len p.2=ba n/\Wp (bU p.1 (ic tg) (Co Φ cs) (aH Φ elt) n 0 (fP cap ρ) p.2) λq=>q.1.length<=sizeLine/\Q (.ref q.2.length,q.2++[.lst q.1]):=by
 simp only[aH,lW,mY];rcases h:lp Φ it ρ S with _|⟨mi,S1⟩
 ·simp[ac]
 ·rcases h2:mi.len S1 with _|n
  ·simp[ab,ac,h2]
  ·rcases h3:bU mi (ic tg) (Co Φ cs) (aH Φ elt) n 0 (fP cap ρ) S1 with _|⟨ys,S2⟩
   ·simp[ab,ac,h2,h3]
   ·by_cases hl:ys.length<=sizeLine <;> simp[ab,ac,h2,h3,hl]
theorem He {Q:QB}:Wp (Co Φ .nil ρ S) Q↔Q (true,S):=by simp[Co,Db,ab]
theorem Hf {e:E}{Q:QB}:Wp (Co Φ (.cons e .nil) ρ S) Q↔Wp (dv Φ e ρ S) Q:=by rw[Co]
theorem Jc {i:J3}{w:W}{Q:Fm×aa->Prop}:Wp (ic (.nm i) w ρ S) Q↔Q (ρ.set i (ba w),S):=by simp[ic,B4,ab]
theorem Jd {is:JT J3}{ws:JT W}{Q:Fm×aa->Prop}:Wp (ic (.tp is) (.tup ws) ρ S) Q↔∃ρ',dB is ws ρ=ba ρ'/\Q (ρ',S):=by
 simp only[ic,EG];cases dB is ws ρ <;> simp[ab,ac]
theorem l9 {c:FT}{b:FS}{Q:QO}(I:J3->Fm->aa->Prop)(hstep:∀m ρ S,I m ρ S->Wp (c ρ S) λk=>(k.1=true->∃m',m=m'+1/\Wp (b ρ k.2) (zC (I m') Q))/\(k.1=false->Q (.nx ρ,k.2))) :
  ∀(n m:J3) (ρ:Fm) (S:aa),m < n->I m ρ S->Wp (pV c b n ρ S) Q
 | 0,m,ρ,S,h,_=>by omega
 | n+1,m,ρ,S,h,hI=>by
  obtain⟨⟨k,S1⟩,h1,h2,h3⟩:=hstep m ρ S hI;simp only[pV,h1];cases k with
  | false=>exact ab.mpr (h3 rfl)
  | true=>
   obtain⟨m',rfl,⟨o,S2⟩,h5,h6⟩:=h2 rfl;simp only[h5];cases o with
   | nx ρ2=>exact l9 I hstep n m' ρ2 S2 (by omega) h6
   | ct ρ2=>exact l9 I hstep n m' ρ2 S2 (by omega) h6
   | bk ρ2=>exact ab.mpr h6
   | rt w=>exact ab.mpr h6
theorem wY {defs:JT (Kn×Df)}{d:J3}{f:Kn}{ws:JT W}{df:Df}{Q:QW}(h:defs.lookup f=ba df)(hl:ws.length=df.ps.length)
  (hb:Wp (gq (aq defs fuel d) fuel df.body (fQ df.N ws) S) λp=>match p.1 with|.rt w=>Q (w,p.2)|.nx _=>Q (.non,p.2)|_=>Lw):Wp (aq defs fuel (d+1) f ws S) Q:=by
 obtain⟨⟨o,S1⟩,h1,h2⟩:=hb;simp only[aq,h,Ks hl,h1];cases o with
 | rt w=>exact ab.mpr h2
 | nx ρ=>exact ab.mpr h2
 | bk _=>exact h2.elim
 | ct _=>exact h2.elim
end
section
variable{S:aa}{Q:QW}
theorem dP {a b:Kh}:gg .add (.int a) (.int b) S=ba (.int (a+b),S):=rfl
theorem Dm {a b:Kh}:gg .sub (.int a) (.int b) S=ba (.int (a - b),S):=rfl
theorem p7 {c:Kh->Kh->KD}{f:Kh->Kh->Kh}{i j:Kh}(h:c i j=true):AM c f (.int i) (.int j) S=ba (.int (f i j),S):=by
 unfold AM;dsimp only;rw[Ks h]
theorem r4 {a b:Kh}(h : -(2 ^ 64) < b)(h2:b < 2 ^ 64):gg .mul (.int a) (.int b) S=ba (.int (a*b),S):=p7 (c:=v8) (f:=(· * ·)) (by
 unfold v8;simp only[LX,J2,Kq];exact .inr ⟨h,h2⟩)
theorem jd {a b:Kh}(h:0 < b):gg .mod (.int a) (.int b) S=ba (.int (a % b),S):=p7 (c:=λ_ j=>decide (0 < j)) (f:=(· % ·)) (Ly h)
theorem iF {a b:Kh}(h:0 < b)(h2:b < 1073741824):gg .fdiv (.int a) (.int b) S=ba (.int (a / b),S):=p7 (c:=λ_ j=>Br j) (f:=(· / ·)) (by
 unfold Br;simp only[J2,Kq];exact⟨h,h2⟩)
theorem E3:gg .pow (.int 10) (.int 18) S=ba (.int 1000000000000000000,S):=rfl
theorem E4 {x y:Kn}(h:x.length+y.length<=sizeLine):gg .add (.str x) (.str y) S=ba (.str (x++y),S):=by simp only[gg,wa]; rw[Ks h]
theorem jT {xs ys:JT W}(h:(xs++ys).length<=sizeLine):gg .add (.tup xs) (.tup ys) S=ba (.tup (xs++ys),S):=by simp only[gg,wa,sX]; rw[Ks h]
theorem t9 {i j:J3}{xs ys:JT W}(h1:S[i]?=ba (.lst xs))(h2:S[j]?=ba (.lst ys))(h:(xs++ys).length<=sizeLine):gg .add (.ref i) (.ref j) S=ba (.ref S.length,S++[.lst (xs++ys)]):=by
 simp only[gg,wa,qG,h1,h2,mY]; rw[Ks h]
theorem je {a b:Kh}:eQ .eq (.int a) (.int b) S=ba (.bl (a==b),S):=rfl
theorem Je {a b:Kh}:eQ .ne (.int a) (.int b) S=ba (.bl (!(a==b)),S):=rfl
theorem zD {a b:Kh}:eQ .lt (.int a) (.int b) S=ba (.bl (decide (a < b)),S):=rfl
theorem E5 {a b:Kh}:eQ .gt (.int a) (.int b) S=ba (.bl (decide (a > b)),S):=rfl
theorem Jf {a b:Kh}:eQ .ge (.int a) (.int b) S=ba (.bl (decide (a>=b)),S):=rfl
theorem Do {a b:Kn}:eQ .eq (.str a) (.str b) S=ba (.bl (a==b),S):=rfl
theorem Hg {a b:Kn}:eQ .ne (.str a) (.str b) S=ba (.bl (!(a==b)),S):=rfl
theorem az {r:J3}{xs:JT W}(h:S[r]?=ba (.lst xs)):gf S r=ba xs:=by simp[gf,h]
theorem Cu {r:J3}{xs:JT W}(h:S[r]?=ba (.fro xs)):gf S r=ba xs:=by simp[gf,h]
theorem cQ {r:J3}{xs:JT W}(h:S[r]?=ba (.lst xs)):qG S r=ba xs:=by simp[qG,h]
theorem p8 {r:J3}{xs:JT W}(h:S[r]?=ba (.lst xs)):kB S r=gV:=by simp[kB,h]
theorem dE {r:J3}{kvs:JT (T×W)}(h:S[r]?=ba (.dic kvs)):kB S r=ba kvs:=by simp[kB,h]
theorem p9 {r:J3}{kvs:JT (T×W)}(h:S[r]?=ba (.dic kvs)):gf S r=gV:=by simp[gf,h]
theorem Cv {r:J3}{kvs:JT (T×W)}(h:S[r]?=ba (.frd kvs)):kB S r=ba kvs:=by simp[kB,h]
theorem atI_nat {α:Type}{xs:JT α}{j:J3}{w:α}(h:xs[j]?=ba w):qO xs (j:Kh)=ba w:=by
 have hl:=(J9.mp h).1;unfold qO uy;rw[Ks (KG j),Ks (by exact_mod_cast hl)]
 simpa using h
theorem qa {α:Type}{xs:JT α}{i:Kh}{w:α}(h0:0<=i)(h:xs[i.toNat]?=ba w):qO xs i=ba w:=by
 have:=atI_nat h
 rwa [Qi h0]at this
theorem zE {r:J3}{xs:JT W}{i:Kh}{w:W}(h:S[r]?=ba (.lst xs))(h0:0<=i)(hw:xs[i.toNat]?=ba w):qH (.ref r) (.int i) S=ba (w,S):=by
 show wb (.ref r) (.int i) S=_;simp[wb,az h,qa h0 hw]
theorem Hh {xs:JT W}{i:Kh}{w:W}(h0:0<=i)(hw:xs[i.toNat]?=ba w):qH (.tup xs) (.int i) S=ba (w,S):=by
 show wb (.tup xs) (.int i) S=_;simp[wb,qa h0 hw]
theorem Dp {x:Kn}{i:Kh}{c:J3}(hz:x.length<=sizeLine)(h0:0<=i)(hw:x.cps.toList[i.toNat]?=ba c):qH (.str x) (.int i) S=ba (.str ⟨[c].toArray⟩,S):=by
 show wb (.str x) (.int i) S=_;simp[wb,hz,qa h0 hw]
theorem Dq {r:J3}{xs:JT W}{i:Kh}{w:W}(h:S[r]?=ba (.lst xs))(h0:0<=i)(hi:i.toNat < xs.length):i8 (.ref r) (.int i) w S=ba (S.set r (.lst (xs.set i.toNat w))):=by
 show wc (.ref r) (.int i) w S=_;have:uy xs.length i=ba i.toNat:=by
  unfold uy;rw[Ks h0,Ks (by omega)]
 simp[wc,cQ h,this]
theorem Dr {r:J3}{xs:JT W}(h:S[r]?=ba (.lst xs)):tD [.ref r] S=ba (.int xs.length,S):=by
 simp[tD,p8 h,sZ,az h]
theorem vt {r:J3}{xs:JT W}{y:W}(h:S[r]?=ba (.lst xs))(hl:xs.length < sizeLine):iX (.ref r) [y] S=ba (.non,S.set r (.lst (xs++[y]))):=by
 simp[iX,cQ h,hl]
theorem Hi {r:J3}{xs:JT W}(h:S[r]?=ba (.lst xs)):lU [.ref r] S=ba (.tup xs,S):=by
 simp[lU,yk,h,lF,az h]
theorem dD {r:J3}{xs:JT W}(h:S[r]?=ba (.lst xs)):tyOk "list" S (.ref r)=true:=by simp[tyOk,az h]
theorem bV {r:J3}{o o':O}(h:S[r]?=ba o):(S.set r o')[r]?=ba o':=by
 rw[Mb,Ks rfl,Ks (J9.mp h).1]
theorem b6 {r j:J3}{o':O}(h:r≠j):(S.set r o')[j]?=S[j]?:=by rw[Mb,KF h]
theorem af {o:O}:(S++[o])[S.length]?=ba o:=by simp
theorem ap {j:J3}{o u:O}(h:S[j]?=ba o):(S++[u])[j]?=ba o:=by rw[K9 (J9.mp h).1]; exact h
theorem dQ {j:J3}{o:O}(h:S[j]?=ba o):j < S.length:=(J9.mp h).1
structure Kp (r:J3)(S S':aa):Prop where
 get:∀j o,j≠r->S[j]?=ba o->S'[j]?=ba o
 len:S.length<=S'.length
theorem Kp.refl {r:J3}{S:aa}:Kp r S S:=⟨λ_ _ _ h=>h,J7 _⟩
theorem Kp.trans {r:J3}{S S' S'':aa}(a:Kp r S S')(b:Kp r S' S''):Kp r S S'':=⟨λj o n h=>b.get j o n (a.get j o n h),Kc a.len b.len⟩
theorem Kp.set {r:J3}{S:aa}{o:O}:Kp r S (S.set r o):=⟨λj u n h=>by rw[b6 (Ne.symm n)]; exact h,by simp⟩
theorem Kp.push {r:J3}{S:aa}{o:O}:Kp r S (S++[o]):=⟨λj u n h=>ap h,by simp⟩
theorem Kp.late {r t:J3}{S0 S:aa}{o:O}(a:Kp r S0 S)(h:S0.length<=t):Kp r S0 (S.set t o):=
 ⟨λj u n e=>by
  have:=dQ e;rw[b6 (by omega)]; exact a.get j u n e,by simpa using a.len⟩
end
noncomputable def wO {α:Type}(o:J1 α)(Q:α->Prop):Prop:=match o with
 | some a=>Q a
 | none=>Lw
theorem cL {α:Type}{o:J1 α}{Q:α->Prop}(h:wO o Q):Wp o Q:=by
 cases o with
 | none=>exact h.elim
 | some a=>exact⟨a,rfl,h⟩
theorem Hj {α:Type}{o:J1 α}{Q:α->Prop}(h:Wp o Q):wO o Q:=by
 obtain⟨a,rfl,q⟩:=h;exact q
theorem ae {α:Type}{o:J1 α}{a:α}{Q:α->Prop}(e:o=ba a)(h:Q a):wO o Q:=by subst e; exact h
noncomputable def wB:W->(KD->Prop)->Prop
 | .bl k,Q=>Q k
 | _,_=>Lw
noncomputable def wN:W->(Kh->Prop)->Prop
 | .int k,Q=>Q k
 | _,_=>Lw
noncomputable def wU:W->(JT W->Prop)->Prop
 | .tup k,Q=>Q k
 | _,_=>Lw
theorem vw {w:W}{Q:KD->Prop}(h:wB w Q):∃k,w=.bl k/\Q k:=by cases w <;> first|exact h.elim|exact⟨_,rfl,h⟩
theorem Ds {w:W}{Q:Kh->Prop}(h:wN w Q):∃k,w=.int k/\Q k:=by cases w <;> first|exact h.elim|exact⟨_,rfl,h⟩
theorem Hk {w:W}{Q:JT W->Prop}(h:wU w Q):∃k,w=.tup k/\Q k:=by cases w <;> first|exact h.elim|exact⟨_,rfl,h⟩
noncomputable def w2:JT W->(W->W->Prop)->Prop
 | [x,y],Q=>Q x y
 | _,_=>Lw
theorem Hl {xs:JT W}{Q:W->W->Prop}(h:w2 xs Q):∃x y,xs=[x,y]/\Q x y:=by
 match xs,h with
 | [x,y],h=>exact⟨x,y,rfl,h⟩
noncomputable def wG:J1 W->(W->Prop)->Prop
 | some w,Q=>Q w
 | none,_=>Lw
noncomputable def wV:Fm->J3->(W->Prop)->Prop
 | [],_,_=>Lw
 | o::_,0,Q=>wG o Q
 | _::ρ,n+1,Q=>wV ρ n Q
theorem zF {Q:W->Prop}:∀ {ρ:Fm} {i:J3},wV ρ i Q->∃w,ρ[i]?=ba (ba w)/\Q w
 | [],i,h=>h.elim
 | some w::ρ,0,h=>⟨w,rfl,h⟩
 | none::ρ,0,h=>h.elim
 | x::ρ,n+1,h=>by
  obtain⟨w,e2,q⟩:=zF (ρ:=ρ) (i:=n) h;exact⟨w,e2,q⟩
noncomputable def bM (Φ:Kn->FF)(f:Kn)(n:J3)(ws:JT W)(S:aa):J1 (W×aa):=if ws.length=n then Φ f ws S else gV
section
variable (Φ:Kn->FF) (fuel:J3)
mutual
noncomputable def wE:E->Fm->aa->QW->Prop
 | .c w,_,S,Q=>Q (w,S)
 | .v i,ρ,S,Q=>wV ρ i λw=>Q (w,S)
 | .op o a b,ρ,S,Q=>wE a ρ S λp=>wE b ρ p.2 λq=>wO (gg o p.1 q.1 q.2) Q
 | .cmp o a b,ρ,S,Q=>wE a ρ S λp=>wE b ρ p.2 λq=>wO (eQ o p.1 q.1 q.2) Q
 | .and a b,ρ,S,Q=>wE a ρ S λp=>wB p.1 λk=>(k=true->wE b ρ p.2 Q)/\(k=false->Q (.bl false,p.2))
 | .or a b,ρ,S,Q=>wE a ρ S λp=>wB p.1 λk=>(k=true->Q (.bl true,p.2))/\(k=false->wE b ρ p.2 Q)
 | .not a,ρ,S,Q=>wE a ρ S λp=>wB p.1 λk=>Q (.bl (!k),p.2)
 | .own f n es,ρ,S,Q=>wA es ρ S λp=>wO (bM Φ f n p.1 p.2) Q
 | .bi b es,ρ,S,Q=>wA es ρ S λp=>wO (b.fn p.1 p.2) Q
 | .me m o es,ρ,S,Q=>wE o ρ S λp=>tyOk m.ty p.2 p.1=true/\wA es ρ p.2 λq=>wO (m.fn p.1 q.1 q.2) Q
 | .ix a b,ρ,S,Q=>wE a ρ S λp=>wE b ρ p.2 λq=>wO (qH p.1 q.1 q.2) Q
 | .sl a lo hi,ρ,S,Q=>wE a ρ S λp=>wP lo ρ p.2 λq=>wP hi ρ q.2 λr=>wO (pE p.1 q.1 r.1 r.2) Q
 | .tup es,ρ,S,Q=>wA es ρ S λp=>Q (.tup p.1,p.2)
 | .lst es,ρ,S,Q=>wA es ρ S λp=>Q (.ref p.2.length,p.2++[.lst p.1])
 | .isi c a,ρ,S,Q=>wE a ρ S λp=>wO (y6 p.2 p.1 c) λk=>Q (.bl k,p.2)
 | .neg a,ρ,S,Q=>wE a ρ S λp=>wN p.1 λi=>Q (.int (-i),p.2)
 | .dnew,_,S,Q=>Q (.ref S.length,S++[.dic []])
 | .disp es,ρ,S,Q=>wA es ρ (S++[.dic []]) λp=>p.2[S.length]?=ba (.dic [])/\wO (dX [] p.1) λkvs=>Q (.ref S.length,p.2.set S.length (.dic kvs))
 | .ite t a b,ρ,S,Q=>wT t ρ S λp=>(p.1=true->wE a ρ p.2 Q)/\(p.1=false->wE b ρ p.2 Q)
 | .comp elt tg it cs cap,ρ,S,Q=>Wp (aH Φ (.comp elt tg it cs cap) ρ S) Q
noncomputable def wT:E->Fm->aa->QB->Prop
 | .cmp o a b,ρ,S,Q=>wE a ρ S λp=>wE b ρ p.2 λq=>wO (eQ o p.1 q.1 q.2) λr=>wB r.1 λk=>Q (k,r.2)
 | .and a b,ρ,S,Q=>wT a ρ S λp=>(p.1=true->wT b ρ p.2 Q)/\(p.1=false->Q (false,p.2))
 | .or a b,ρ,S,Q=>wT a ρ S λp=>(p.1=true->Q (true,p.2))/\(p.1=false->wT b ρ p.2 Q)
 | .not a,ρ,S,Q=>wT a ρ S λp=>Q (!p.1,p.2)
 | .isi c a,ρ,S,Q=>wE a ρ S λp=>wO (y6 p.2 p.1 c) λk=>Q (k,p.2)
 | .c w,ρ,S,Q=>Wp (dv Φ (.c w) ρ S) Q
 | .v i,ρ,S,Q=>wV ρ i λw=>wO (gh S w) λk=>Q (k,S)
 | .op o a b,ρ,S,Q=>Wp (dv Φ (.op o a b) ρ S) Q
 | .own f n es,ρ,S,Q=>wA es ρ S λp=>wO (bM Φ f n p.1 p.2) λq=>wO (gh q.2 q.1) λk=>Q (k,q.2)
 | .bi b es,ρ,S,Q=>wA es ρ S λp=>wO (b.fn p.1 p.2) λq=>wO (gh q.2 q.1) λk=>Q (k,q.2)
 | .me m o es,ρ,S,Q=>Wp (dv Φ (.me m o es) ρ S) Q
 | .ix a b,ρ,S,Q=>Wp (dv Φ (.ix a b) ρ S) Q
 | .sl a lo hi,ρ,S,Q=>Wp (dv Φ (.sl a lo hi) ρ S) Q
 | .tup es,ρ,S,Q=>Wp (dv Φ (.tup es) ρ S) Q
 | .lst es,ρ,S,Q=>Wp (dv Φ (.lst es) ρ S) Q
 | .neg a,ρ,S,Q=>Wp (dv Φ (.neg a) ρ S) Q
 | .dnew,ρ,S,Q=>Wp (dv Φ .dnew ρ S) Q
 | .disp es,ρ,S,Q=>Wp (dv Φ (.disp es) ρ S) Q
 | .ite t a b,ρ,S,Q=>Wp (dv Φ (.ite t a b) ρ S) Q
 | .comp elt tg it cs cap,ρ,S,Q=>Wp (dv Φ (.comp elt tg it cs cap) ρ S) Q
noncomputable def wA:Es->Fm->aa->(JT W×aa->Prop)->Prop
 | .nil,_,S,Q=>Q ([],S)
 | .cons e es,ρ,S,Q=>wE e ρ S λp=>wA es ρ p.2 λq=>Q (p.1::q.1,q.2)
noncomputable def wP:Ep->Fm->aa->(J1 Kh×aa->Prop)->Prop
 | .no,_,S,Q=>Q (gV,S)
 | .yes a,ρ,S,Q=>wE a ρ S λp=>wN p.1 λi=>Q (ba i,p.2)
end
noncomputable def uc (K:Fm->aa->Prop)(Q:QO)(p:Out×aa):Prop:=match p.1 with
 | .nx ρ=>K ρ p.2
 | o=>Q (o,p.2)
mutual
noncomputable def wS:Sm->Fm->aa->(Fm->aa->Prop)->QO->Prop
 | .set i e,ρ,S,K,_=>wE Φ e ρ S λp=>K (ρ.set i (ba p.1)) p.2
 | .asg is e,ρ,S,K,_=>wE Φ e ρ S λp=>wU p.1 λws=>wO (dB is ws ρ) λρ'=>K ρ' p.2
 | .par i j es,ρ,S,K,_=>wA Φ es ρ S λp=>w2 p.1 λx y=>K ((ρ.set i (ba x)).set j (ba y)) p.2
 | .put o k e,ρ,S,K,_=>wE Φ e ρ S λp=>wE Φ o ρ p.2 λq=>wE Φ k ρ q.2 λr=>wO (i8 q.1 r.1 p.1 r.2) λS'=>K ρ S'
 | .ex e,ρ,S,K,_=>wE Φ e ρ S λp=>K ρ p.2
 | .ret e,ρ,S,_,Q=>wE Φ e ρ S λp=>Q (.rt p.1,p.2)
 | .retN,_,S,_,Q=>Q (.rt .non,S)
 | .pass,ρ,S,K,_=>K ρ S
 | .brk,ρ,S,_,Q=>Q (.bk ρ,S)
 | .cont,ρ,S,_,Q=>Q (.ct ρ,S)
 | .bad,_,_,_,_=>Lw
 | .ite t a b,ρ,S,K,Q=>wT Φ t ρ S λp=>∀Q':QO,(∀ρ' S',K ρ' S'->Q' (.nx ρ',S'))->(∀o S',(∀ρ',o≠.nx ρ')->Q (o,S')->Q' (o,S'))->(p.1=true->AO a ρ p.2 Q')/\(p.1=false->AO b ρ p.2 Q')
 | .whl t b,ρ,S,K,Q=>Wp (gJ Φ fuel (.whl t b) ρ S) (uc K Q)
 | .loop tg it b,ρ,S,K,Q=>Wp (gJ Φ fuel (.loop tg it b) ρ S) (uc K Q)
noncomputable def AO:Ss->Fm->aa->QO->Prop
 | .nil,ρ,S,Q=>Q (.nx ρ,S)
 | .cons s ss,ρ,S,Q=>wS s ρ S (λρ' S'=>AO ss ρ' S' Q) Q
end
end
noncomputable def HQ:Es->J3
 | .nil=>0
 | .cons _ es=>HQ es+1
mutual
noncomputable def ey:E->KD
 | .c _|.v _|.comp _ _ _ _ _|.dnew=>true
 | .op _ a b|.cmp _ a b|.and a b|.or a b|.ix a b=>ey a&&ey b
 | .ite a b c=>ey a&&ey b&&ey c
 | .neg a|.not a|.isi _ a=>ey a
 | .own _ n es=>HQ es==n&&qI es
 | .bi _ es|.disp es=>qI es
 | .me _ o es=>ey o&&qI es
 | .sl a lo hi=>ey a&&Jg lo&&Jg hi
 | .tup es|.lst es=>decide (HQ es<=1000)&&qI es
noncomputable def qI:Es->KD
 | .nil=>true
 | .cons e es=>ey e&&qI es
noncomputable def Jg:Ep->KD
 | .no=>true
 | .yes e=>ey e
end
mutual
noncomputable def JF:Sm->KD
 | .set _ e|.asg _ e|.ex e|.ret e=>ey e
 | .put o k e=>ey o&&ey k&&ey e
 | .par _ _ es=>qI es
 | .ite t a b=>ey t&&iG a&&iG b
 | _=>true
noncomputable def iG:Ss->KD
 | .nil=>true
 | .cons s ss=>JF s&&iG ss
end
section
variable{Φ:Kn->FF}{fuel:J3}
theorem jf:∀ {es:Es} {ρ:Fm} {S S':aa} {ws:JT W},dz Φ es ρ S=ba (ws,S')->ws.length=HQ es
 | .nil,ρ,S,S',ws,h=>by rw[dz]at h; cases h; rfl
 | .cons e es,ρ,S,S',ws,h=>by
  rw[dz]at h;unfold eF at h;split at h
  ·split at h
   ·rename_i h2; cases h; rw[La,jf h2]; rfl
   ·cases h
  ·cases h
theorem zG {n:J3}(h:decide (n<=1000)=true):n<=sizeLine:=Kc (KQ h) (by rw[K8]; decide)
theorem dw {a b:KD}(h:(a&&b)=true):a=true:=by cases a <;> first|rfl|cases h
theorem eJ {a b:KD}(h:(a&&b)=true):b=true:=by cases a <;> first|exact h|cases h
mutual
theorem bE:∀(e:E) {ρ:Fm} {S:aa} {Q:QW},ey e=true->wE Φ e ρ S Q->Wp (aH Φ e ρ S) Q
 | .c w,ρ,S,Q,k,h=>JO.mpr h
 | .v i,ρ,S,Q,k,h=>JE.mpr (zF h)
 | .op o a b,ρ,S,Q,k,h=>IU.mpr ((bE a (dw k) h).mono λp hp=>(bE b (eJ k) hp).mono λq hq=>cL hq)
 | .cmp o a b,ρ,S,Q,k,h=>Dj.mpr ((bE a (dw k) h).mono λp hp=>(bE b (eJ k) hp).mono λq hq=>cL hq)
 | .and a b,ρ,S,Q,k,h=>GV.mpr ((bE a (dw k) h).mono λp hp=>let ⟨c,e,h1,h2⟩:=vw hp; ⟨c,e,λz=>bE b (eJ k) (h1 z),h2⟩)
 | .or a b,ρ,S,Q,k,h=>IW.mpr ((bE a (dw k) h).mono λp hp=>let ⟨c,e,h1,h2⟩:=vw hp; ⟨c,e,h1,λz=>bE b (eJ k) (h2 z)⟩)
 | .not a,ρ,S,Q,k,h=>GX.mpr ((bE a k h).mono λp hp=>vw hp)
 | .own f n es,ρ,S,Q,k,h=>Dk.mpr (by
   obtain⟨⟨ws,S1⟩,e,hq⟩:=ii es (eJ k) h;have hl:ws.length=n:=(jf e).trans (eq_of_beq (dw k));simp only[bM,Ks hl]at hq;exact⟨_,e,hl,cL hq⟩)
 | .bi b es,ρ,S,Q,k,h=>GZ.mpr ((ii es k h).mono λp hp=>cL hp)
 | .me m o es,ρ,S,Q,k,h=>IX.mpr ((bE o (dw k) h).mono λp hp=>⟨hp.1,(ii es (eJ k) hp.2).mono λq hq=>cL hq⟩)
 | .ix a b,ρ,S,Q,k,h=>IV.mpr ((bE a (dw k) h).mono λp hp=>(bE b (eJ k) hp).mono λq hq=>cL hq)
 | .sl a lo hi,ρ,S,Q,k,h=>IY.mpr ((bE a (dw (dw k)) h).mono λp hp=>(Dt lo (eJ (dw k)) hp).mono λq hq=>(Dt hi (eJ k) hq).mono λr hr=>cL hr)
 | .tup es,ρ,S,Q,k,h=>G1.mpr (by
   obtain⟨⟨ws,S1⟩,e,hq⟩:=ii es (eJ k) h;exact⟨_,e,by rw[jf e]; exact zG (dw k),hq⟩)
 | .lst es,ρ,S,Q,k,h=>G2.mpr (by
   obtain⟨⟨ws,S1⟩,e,hq⟩:=ii es (eJ k) h;exact⟨_,e,by rw[jf e]; exact zG (dw k),hq⟩)
 | .isi c a,ρ,S,Q,k,h=>Dl.mpr ((bE a k h).mono λp hp=>cL hp)
 | .neg a,ρ,S,Q,k,h=>G3.mpr ((bE a k h).mono λp hp=>Ds hp)
 | .dnew,ρ,S,Q,k,h=>⟨_,rfl,h⟩
 | .disp es,ρ,S,Q,k,h=>ET.mpr ((ii es k h).mono λp hp=>⟨hp.1,let ⟨kvs,e,q⟩:=cL hp.2; ⟨kvs,e,q⟩⟩)
 | .ite t a b,ρ,S,Q,k,h=>GY.mpr ((jg t (dw (dw k)) h).mono λp hp=>⟨λz=>bE a (eJ (dw k)) (hp.1 z),λz=>bE b (eJ k) (hp.2 z)⟩)
 | .comp elt tg it cs cap,ρ,S,Q,k,h=>h
theorem ii:∀(es:Es) {ρ:Fm} {S:aa} {Q:JT W×aa->Prop},qI es=true->wA Φ es ρ S Q->Wp (dz Φ es ρ S) Q
 | .nil,ρ,S,Q,k,h=>G4.mpr h
 | .cons e es,ρ,S,Q,k,h=>EU.mpr ((bE e (dw k) h).mono λp hp=>ii es (eJ k) hp)
theorem Dt:∀(e:Ep) {ρ:Fm} {S:aa} {Q:J1 Kh×aa->Prop},Jg e=true->wP Φ e ρ S Q->Wp (vd Φ e ρ S) Q
 | .no,ρ,S,Q,k,h=>IZ.mpr h
 | .yes a,ρ,S,Q,k,h=>G0.mpr ((bE a k h).mono λp hp=>Ds hp)
theorem jg:∀(e:E) {ρ:Fm} {S:aa} {Q:QB},ey e=true->wT Φ e ρ S Q->Wp (dv Φ e ρ S) Q
 | .cmp o a b,ρ,S,Q,k,h=>G6.mpr (Dj.mpr ((bE a (dw k) h).mono λp hp=>(bE b (eJ k) hp).mono λq hq=>(cL hq).mono λr hr=>vw hr))
 | .and a b,ρ,S,Q,k,h=>G7.mpr ((jg a (dw k) h).mono λp hp=>⟨λz=>jg b (eJ k) (hp.1 z),hp.2⟩)
 | .or a b,ρ,S,Q,k,h=>Ja.mpr ((jg a (dw k) h).mono λp hp=>⟨hp.1,λz=>jg b (eJ k) (hp.2 z)⟩)
 | .not a,ρ,S,Q,k,h=>G8.mpr (jg a k h)
 | .isi c a,ρ,S,Q,k,h=>Ha.mpr (Dl.mpr ((bE a k h).mono λp hp=>let ⟨b,e,q⟩:=cL hp; ⟨b,e,b,rfl,q⟩))
 | .v i,ρ,S,Q,k,h=>JP.mpr (JE.mpr (let ⟨w,e,q⟩:=zF h; ⟨w,e,cL q⟩))
 | .own f n es,ρ,S,Q,k,h=>G9.mpr (Dk.mpr (by
   obtain⟨⟨ws,S1⟩,e,hq⟩:=ii es (eJ k) h;have hl:ws.length=n:=(jf e).trans (eq_of_beq (dw k));simp only[bM,Ks hl]at hq;exact⟨_,e,hl,(cL hq).mono λq hq=>cL hq⟩))
 | .c w,ρ,S,Q,k,h=>h
 | .op o a b,ρ,S,Q,k,h=>h
 | .bi b es,ρ,S,Q,k,h=>Jb.mpr (GZ.mpr ((ii es k h).mono λp hp=>(cL hp).mono λq hq=>cL hq))
 | .me m o es,ρ,S,Q,k,h=>h
 | .ix a b,ρ,S,Q,k,h=>h
 | .sl a lo hi,ρ,S,Q,k,h=>h
 | .tup es,ρ,S,Q,k,h=>h
 | .lst es,ρ,S,Q,k,h=>h
 | .neg a,ρ,S,Q,k,h=>h
 | .dnew,ρ,S,Q,k,h=>h
 | .disp es,ρ,S,Q,k,h=>h
 | .ite t a b,ρ,S,Q,k,h=>h
 | .comp elt tg it cs cap,ρ,S,Q,k,h=>h
end
mutual
theorem Hm:∀(s:Sm) {ρ:Fm} {S:aa} {K:Fm->aa->Prop} {Q:QO},JF s=true->wS Φ fuel s ρ S K Q->Wp (gJ Φ fuel s ρ S) (uc K Q)
 | .set i e,ρ,S,K,Q,k,h=>EW.mpr (bE e k h)
 | .asg is e,ρ,S,K,Q,k,h=>EX.mpr ((bE e k h).mono λp hp=>let ⟨ws,e1,h1⟩:=Hk hp; let ⟨ρ',e2,h2⟩:=cL h1; ⟨ws,ρ',e1,e2,h2⟩)
 | .par i j es,ρ,S,K,Q,k,h=>EY.mpr ((ii es k h).mono λp hp=>Hl hp)
 | .put o i e,ρ,S,K,Q,k,h=>EZ.mpr ((bE e (eJ k) h).mono λp hp=>(bE o (dw (dw k)) hp).mono λq hq=>(bE i (eJ (dw k)) hq).mono λr hr=>cL hr)
 | .ex e,ρ,S,K,Q,k,h=>Hc.mpr (bE e k h)
 | .ret e,ρ,S,K,Q,k,h=>E1.mpr (bE e k h)
 | .retN,ρ,S,K,Q,k,h=>⟨_,rfl,h⟩
 | .pass,ρ,S,K,Q,k,h=>⟨_,rfl,h⟩
 | .brk,ρ,S,K,Q,k,h=>⟨_,rfl,h⟩
 | .cont,ρ,S,K,Q,k,h=>⟨_,rfl,h⟩
 | .bad,ρ,S,K,Q,k,h=>h.elim
 | .ite t a b,ρ,S,K,Q,k,h=>E2.mpr ((jg t (dw (dw k)) h).mono λp hp=>by
   obtain⟨h1,h2⟩:=hp (uc K Q) (λρ' S' z=>z) (λo S' hn z=>by cases o <;> first|exact z|exact absurd rfl (hn _))
   exact⟨λz=>jU a (eJ (dw k)) (h1 z),λz=>jU b (eJ k) (h2 z)⟩)
 | .whl t b,ρ,S,K,Q,k,h=>h
 | .loop tg it b,ρ,S,K,Q,k,h=>h
theorem jU:∀(ss:Ss) {ρ:Fm} {S:aa} {Q:QO},iG ss=true->AO Φ fuel ss ρ S Q->Wp (gq Φ fuel ss ρ S) Q
 | .nil,ρ,S,Q,k,h=>Hb.mpr h
 | .cons s ss,ρ,S,Q,k,h=>EV.mpr ((Hm s (dw k) h).mono λp hp=>by
   obtain⟨o,S1⟩:=p;cases o with
   | nx ρ'=>exact⟨λρ2 e=>by cases e; exact jU ss (eJ k) hp,λz=>absurd rfl (z ρ')⟩
   | _=>exact⟨λρ2 e=>(by cases e),λ_=>hp⟩)
end
structure wZ (Φ:Kn->FF)(fuel:J3)(ss:Ss)(ρ:Fm)(S:aa)(Q:QO):Prop where
 out:AO Φ fuel ss ρ S Q
theorem Hn {ss:Ss}{ρ:Fm}{S:aa}{Q:QO}:AO Φ fuel ss ρ S Q=wZ Φ fuel ss ρ S Q:=propext ⟨λh=>⟨h⟩,λh=>h.out⟩
theorem E6 {defs:JT (Kn×Df)}{d:J3}{f:Kn}{n:J3}{ws:JT W}{df:Df}{S:aa}{Q:QW}(h:defs.lookup f=ba df)(hn:ws.length=n)(hl:ws.length=df.ps.length)(ok:iG df.body=true)
  (hb:∀Q':QO,(∀w S',Q (w,S')->Q' (.rt w,S'))->wZ (aq defs fuel d) fuel df.body (fQ df.N ws) S Q'):wO (bM (aq defs fuel (d+1)) f n ws S) Q:=by
 unfold bM;rw[Ks hn];exact Hj (wY h hl ((jU _ ok (hb (λp=>match p.1 with|.rt w=>Q (w,p.2)|_=>Lw) λw S' q=>q).out).mono λp hp=>by
  obtain⟨o,S1⟩:=p;cases o <;> first|exact hp|exact hp.elim))
end
section
variable{Φ:Kn->FF}{fuel:J3}{ρ:Fm}{S:aa}{K:Fm->aa->Prop}{Q:QO}
noncomputable def zH (Φ:Kn->FF)(fuel:J3)(b:Ss)(ρ:Fm)(S:aa)(I:Fm->aa->Prop)(Q:QO):Prop:=∀Q':QO,(∀ρ' S',I ρ' S'->Q' (.nx ρ',S'))->(∀w S',Q (.rt w,S')->Q' (.rt w,S'))->wZ Φ fuel b ρ S Q'
theorem jV {tg:Tg}{it:Ie}{b:Ss}{mi:MI}{S1:aa}{xs:JT W}(I:J3->Fm->aa->Prop)(ok:iG b=true)(hi:lp Φ it ρ S=ba (mi,S1))(hat:∀i ρ S,I i ρ S->mi.at S i=ba xs[i]?)(hl:mi.len S1=ba xs.length)(h0:I 0 ρ S1)
  (hstep:∀(i:J3) (w:W) (ρ:Fm) (S:aa),xs[i]?=ba w->I i ρ S->wO (ic tg w ρ S) λq=>zH Φ fuel b q.1 q.2 (I (i+1)) Q) (hend:∀ρ S,I xs.length ρ S->K ρ S):Wp (gJ Φ fuel (.loop tg it b) ρ S) (uc K Q):=by
 rw[gJ,Hd];refine⟨_,hi,xs.length,hl,?_⟩;refine jS (Q:=uc K Q) I hat (λi w ρ S h1 h2=>?_) (λρ S h=>hend ρ S h) _ 0 ρ S1 (by omega) h0
 exact(cL (hstep i w ρ S h1 h2)).mono λq hq=>jU b ok (wZ.out (hq _ (λ_ _ h=>h) λ_ _ h=>h))
theorem cu {e:E}{Q:QW}(ok:ey e=true)(h:wE Φ e ρ S Q):∃w S',aH Φ e ρ S=ba (w,S')/\Q (w,S'):=let ⟨⟨w,S'⟩,a,b⟩:=bE e ok h; ⟨w,S',a,b⟩
theorem ee {i0:J3}{e:E}{b:Ss}(j:Kh)(I:J3->Fm->aa->Prop)(oe:ey e=true)(ok:iG b=true)(hj : -(2 ^ 62)<=j/\j < 2 ^ 62)(he:wE Φ e ρ S λp=>p.1=.int j/\I 0 ρ p.2)
  (hstep:∀(i:J3) (ρ:Fm) (S:aa),(i:Kh) < j->I i ρ S->zH Φ fuel b (ρ.set i0 (ba (.int i))) S (I (i+1)) Q) (hend:∀ρ S,I j.toNat ρ S->K ρ S):Wp (gJ Φ fuel (.loop (.nm i0) (.rng (.cons e .nil)) b) ρ S) (uc K Q):=by
 obtain⟨w,S1,e1,rfl,h0⟩:=cu oe he;have hl:(du 0 j.toNat).length=j.toNat:=by simp[du]
 refine jV (mi:=.its (du 0 j.toNat)) (S1:=S1) (xs:=du 0 j.toNat) I ok ?_ (λ_ _ _ _=>rfl) rfl h0 (λi w ρ S hw hI=>?_) λρ S hI=>hend ρ S (hl ▸ hI)
 ·simp only[lp,dz,eF,jO,tR,e1];rw[Ks hj]
 ·rw[eG]at hw;split at hw
  ·rename_i hk;cases hw;rw[Ow];exact hstep i ρ S (by omega) hI
  ·cases hw
theorem vx {tg:Tg}{e:E}{b:Ss}(t:J3)(xs:JT W)(I:J3->Fm->aa->Prop)(oe:ey e=true)(ok:iG b=true)(he:wE Φ e ρ S λp=>p.1=.ref t/\I 0 ρ p.2)(hat:∀i ρ S,I i ρ S->S[t]?=ba (.lst xs))
  (hstep:∀(i:J3) (w:W) (ρ:Fm) (S:aa),xs[i]?=ba w->I i ρ S->wO (ic tg w ρ S) λq=>zH Φ fuel b q.1 q.2 (I (i+1)) Q) (hend:∀ρ S,I xs.length ρ S->K ρ S):Wp (gJ Φ fuel (.loop tg (.seq e) b) ρ S) (uc K Q):=by
 obtain⟨w,S1,e1,rfl,h0⟩:=cu oe he;exact jV (mi:=.live t) (S1:=S1) I ok (by simp only[lp,fY,e1,az (hat _ _ _ h0)]) (λi ρ S h=>by simp only[MI.at,az (hat _ _ _ h)]) (by simp only[MI.len,az (hat _ _ _ h0),K4]) h0 hstep hend
theorem zI {t:E}{b:Ss}(I:J3->Fm->aa->Prop)(m:J3)(ot:ey t=true)(ok:iG b=true)(hm:m < fuel)(h0:I m ρ S)
  (hstep:∀m ρ S,I m ρ S->wT Φ t ρ S λk=>(k.1=true->∃m',m=m'+1/\zH Φ fuel b ρ k.2 (I m') Q)/\(k.1=false->K ρ k.2)):Wp (gJ Φ fuel (.whl t b) ρ S) (uc K Q):=by
 rw[gJ];refine l9 (Q:=uc K Q) I (λm ρ S hI=>(jg t ot (hstep m ρ S hI)).mono λk hk=>⟨λz=>?_,λz=>hk.2 z⟩) fuel m ρ S hm h0
 obtain⟨m',e,h⟩:=hk.1 z;exact⟨m',e,jU b ok (wZ.out (h _ (λ_ _ h=>h) λ_ _ h=>h))⟩
noncomputable def wC (Φ:Kn->FF):Es->Fm->aa->QB->Prop
 | .nil,_,S,Q=>Q (true,S)
 | .cons e .nil,ρ,S,Q=>wT Φ e ρ S Q
 | .cons _ (.cons _ _),_,_,_=>Lw
theorem zJ {cs:Es}{Q:QB}(ok:qI cs=true)(h:wC Φ cs ρ S Q):Wp (Co Φ cs ρ S) Q:=by
 match cs,h,ok with
 | .nil,h,_=>exact He.mpr h
 | .cons e .nil,h,ok=>exact Hf.mpr (jg e (dw ok) h)
noncomputable def iS (Φ:Kn->FF)(elt:E)(cs:Es)(ρ:Fm)(S:aa)(G:W->Fm->aa->Prop)(N:Fm->aa->Prop):Prop:=wC Φ cs ρ S λk=>(k.1=true->wE Φ elt ρ k.2 λy=>G y.1 ρ y.2)/\(k.1=false->N ρ k.2)
theorem ma {elt:E}{tg:Tg}{it:Ie}{cs:Es}{cap:JT (J1 J3)}{mi:MI}{S1:aa}{xs:JT W}{Q:QW}(I:J3->JT W->Fm->aa->Prop)(oe:ey elt=true)(oc:qI cs=true)(hi:lp Φ it ρ S=ba (mi,S1))(hat:∀i ys ρ S,I i ys ρ S->mi.at S i=ba xs[i]?)(hl:mi.len S1=ba xs.length)(h0:I 0 [] (fP cap ρ) S1)
  (hstep:∀(i:J3) (w:W) (ys:JT W) (ρ:Fm) (S:aa),xs[i]?=ba w->I i ys ρ S->wO (ic tg w ρ S) λq=>iS Φ elt cs q.1 q.2 (λy=>I (i+1) (ys++[y])) (I (i+1) ys))
  (hend:∀ys ρ S,I xs.length ys ρ S->ys.length<=sizeLine/\Q (.ref S.length,S++[.lst ys])):Wp (aH Φ (.comp elt tg it cs cap) ρ S) Q:=by
 rw[t8];refine⟨_,hi,xs.length,hl,?_⟩;refine(de (xs:=xs) (Q:=λq=>q.1.length<=sizeLine/\Q (.ref q.2.length,q.2++[.lst q.1])) I hat (λi w ys ρ S h1 h2=>?_) hend xs.length 0 [] _ S1 (by omega) h0).mono λq hq=>by simpa using hq
 exact(cL (hstep i w ys ρ S h1 h2)).mono λq hq=>(zJ oc hq).mono λk hk=>⟨λz=>bE elt oe (hk.1 z),hk.2⟩
theorem dF {elt e:E}{i0:J3}{cs:Es}{cap:JT (J1 J3)}{Q:QW}(j:Kh)(I:J3->JT W->Fm->aa->Prop)(oi:ey e=true)(oe:ey elt=true)(oc:qI cs=true)(hj : -(2 ^ 62)<=j/\j < 2 ^ 62)(he:wE Φ e ρ S λp=>p.1=.int j/\I 0 [] (fP cap ρ) p.2)
  (hstep:∀(i:J3) (ys:JT W) (ρ:Fm) (S:aa),(i:Kh) < j->I i ys ρ S->iS Φ elt cs (ρ.set i0 (ba (.int i))) S (λy=>I (i+1) (ys++[y])) (I (i+1) ys))
  (hend:∀ys ρ S,I j.toNat ys ρ S->ys.length<=sizeLine/\Q (.ref S.length,S++[.lst ys])):Wp (aH Φ (.comp elt (.nm i0) (.rng (.cons e .nil)) cs cap) ρ S) Q:=by
 obtain⟨w,S1,e1,rfl,h0⟩:=cu oi he;have hl:(du 0 j.toNat).length=j.toNat:=by simp[du]
 refine ma (mi:=.its (du 0 j.toNat)) (S1:=S1) (xs:=du 0 j.toNat) I oe oc ?_ (λ_ _ _ _ _=>rfl) rfl h0 (λi w ys ρ S hw hI=>?_) λys ρ S hI=>hend ys ρ S (hl ▸ hI)
 ·simp only[lp,dz,eF,jO,tR,e1];rw[Ks hj]
 ·rw[eG]at hw;split at hw
  ·rename_i hk;cases hw;rw[Ow];exact hstep i ys ρ S (by omega) hI
  ·cases hw
theorem qb {elt e:E}{tg:Tg}{cs:Es}{cap:JT (J1 J3)}{Q:QW}(xs:JT W)(I:J3->JT W->Fm->aa->Prop)(oi:ey e=true)(oe:ey elt=true)(oc:qI cs=true)(he:wE Φ e ρ S λp=>p.1=.tup xs/\I 0 [] (fP cap ρ) p.2)
  (hstep:∀(i:J3) (w:W) (ys:JT W) (ρ:Fm) (S:aa),xs[i]?=ba w->I i ys ρ S->wO (ic tg w ρ S) λq=>iS Φ elt cs q.1 q.2 (λy=>I (i+1) (ys++[y])) (I (i+1) ys))
  (hend:∀ys ρ S,I xs.length ys ρ S->ys.length<=sizeLine/\Q (.ref S.length,S++[.lst ys])):Wp (aH Φ (.comp elt tg (.seq e) cs cap) ρ S) Q:=by
 obtain⟨w,S1,e1,rfl,h0⟩:=cu oi he;exact ma (mi:=.its xs) (S1:=S1) I oe oc (by simp only[lp,fY,e1]) (λ_ _ _ _ _=>rfl) rfl h0 hstep hend
theorem vy {elt e:E}{tg:Tg}{cs:Es}{cap:JT (J1 J3)}{Q:QW}(t:J3)(xs:JT W)(I:J3->JT W->Fm->aa->Prop)(oi:ey e=true)(oe:ey elt=true)(oc:qI cs=true)(he:wE Φ e ρ S λp=>p.1=.ref t/\I 0 [] (fP cap ρ) p.2)(hat:∀i ys ρ S,I i ys ρ S->S[t]?=ba (.lst xs))
  (hstep:∀(i:J3) (w:W) (ys:JT W) (ρ:Fm) (S:aa),xs[i]?=ba w->I i ys ρ S->wO (ic tg w ρ S) λq=>iS Φ elt cs q.1 q.2 (λy=>I (i+1) (ys++[y])) (I (i+1) ys))
  (hend:∀ys ρ S,I xs.length ys ρ S->ys.length<=sizeLine/\Q (.ref S.length,S++[.lst ys])):Wp (aH Φ (.comp elt tg (.seq e) cs cap) ρ S) Q:=by
 obtain⟨w,S1,e1,rfl,h0⟩:=cu oi he;exact ma (mi:=.live t) (S1:=S1) I oe oc (by simp only[lp,fY,e1,az (hat _ _ _ _ h0)]) (λi ys ρ S h=>by simp only[MI.at,az (hat _ _ _ _ h)]) (by simp only[MI.len,az (hat _ _ _ _ h0),K4]) h0 hstep hend
theorem st {s:Sm}{ss:Ss}(h:wS Φ fuel s ρ S (λρ' S'=>wZ Φ fuel ss ρ' S' Q) Q):wZ Φ fuel (.cons s ss) ρ S Q:=⟨by
 rw[AO];simp only[Hn];exact h⟩
theorem dq (h:Q (.nx ρ,S)):wZ Φ fuel .nil ρ S Q:=⟨by rw[AO]; exact h⟩
theorem aN {t:KD}{a b:Ss}{Q Q0:QO}{K:Fm->aa->Prop}(ha:t=true->∀Q':QO,(∀ρ' S',K ρ' S'->Q' (.nx ρ',S'))->(∀w S',Q (.rt w,S')->Q' (.rt w,S'))->wZ Φ fuel a ρ S Q')(hb:t=false->∀Q':QO,(∀ρ' S',K ρ' S'->Q' (.nx ρ',S'))->(∀w S',Q (.rt w,S')->Q' (.rt w,S'))->wZ Φ fuel b ρ S Q') :
  ∀Q':QO,(∀ρ' S',K ρ' S'->Q' (.nx ρ',S'))->(∀o S',(∀ρ',o≠.nx ρ')->Q (o,S')->Q' (o,S'))->(t=true->AO Φ fuel a ρ S Q')/\(t=false->AO Φ fuel b ρ S Q'):=
 λQ' h1 h2=>⟨λe=>(ha e Q' h1 λw S'=>h2 (.rt w) S' (λ_ z=>nomatch z)).out,λe=>(hb e Q' h1 λw S'=>h2 (.rt w) S' (λ_ z=>nomatch z)).out⟩
end
noncomputable def eM:Ss:=
 (.cons (.ret (.lst (.cons (.bi .list (.cons (.v 0) .nil)) (.cons (.c (.int 0)) (.cons (.c (.int 0)) (.cons (.c (.int 1)) (.cons (.c (.int 0)) .nil)))))))
 .nil)
noncomputable def cX:Ss:=
 (.cons (.ite (.and (.cmp .eq (.ix (.v 0) (.c (.int 2))) (.c (.int 0))) (.cmp .lt (.ix (.v 0) (.c (.int 1))) (.bi .len (.cons (.ix (.v 0) (.c (.int 0))) .nil)))) (.cons (.set 2 (.ix (.ix (.v 0) (.c (.int 0))) (.ix (.v 0) (.c (.int 1)))))
 (.cons (.put (.v 0) (.c (.int 1)) (.op .add (.ix (.v 0) (.c (.int 1))) (.c (.int 1))))
 (.cons (.ite (.cmp .ge (.v 2) (.op .pow (.c (.int 10)) (.c (.int 18)))) (.cons (.put (.v 0) (.c (.int 2)) (.v 2))
 .nil) (.cons (.put (.v 0) (.c (.int 3)) (.op .mod (.op .add (.op .add (.op .mul (.ix (.v 0) (.c (.int 3))) (.c (.int 40013))) (.op .mod (.v 2) (.c (.int 1000003)))) (.c (.int 1))) (.c (.int 2147483647))))
 .nil))
 .nil))) .nil)
 (.cons (.ite (.cmp .gt (.ix (.v 0) (.c (.int 2))) (.c (.int 0))) (.cons (.set 3 (.op .mod (.ix (.v 0) (.c (.int 2))) (.v 1)))
 (.cons (.put (.v 0) (.c (.int 2)) (.op .fdiv (.ix (.v 0) (.c (.int 2))) (.v 1)))
 (.cons (.ret (.v 3))
 .nil))) .nil)
 (.cons (.put (.v 0) (.c (.int 4)) (.op .add (.ix (.v 0) (.c (.int 4))) (.c (.int 1))))
 (.cons (.put (.v 0) (.c (.int 3)) (.op .mod (.op .add (.op .add (.op .mul (.ix (.v 0) (.c (.int 3))) (.c (.int 48271))) (.c (.int 12820163))) (.ix (.v 0) (.c (.int 4)))) (.c (.int 2147483647))))
 (.cons (.ret (.op .mod (.op .fdiv (.op .mod (.op .mul (.op .add (.op .mod (.ix (.v 0) (.c (.int 3))) (.c (.int 65521))) (.c (.int 1))) (.op .add (.op .fdiv (.ix (.v 0) (.c (.int 3))) (.c (.int 65521))) (.c (.int 7919)))) (.c (.int 1000003))) (.c (.int 7))) (.v 1)))
 .nil)))))
noncomputable def dG:Ss:=
 (.cons (.ret (.me .join (.c (.str "")) (.cons (.comp (.ix (.c (.str "abcdefghijklmnopqrstuvwxyz")) (.own "_law_pick" 2 (.cons (.v 2) (.cons (.c (.int 26)) .nil)))) (.nm 1) (.rng (.cons (.v 1) .nil)) .nil [gV,gV,ba 0]) .nil)))
 .nil)
noncomputable def fR:Ss:=
 (.cons (.ite (.cmp .ne (.v 1) (.c (.str ""))) (.cons (.ret (.op .add (.v 1) (.own "_law_letters" 2 (.cons (.v 0) (.cons (.op .add (.c (.int 1)) (.own "_law_pick" 2 (.cons (.v 0) (.cons (.c (.int 2)) .nil)))) .nil)))))
 .nil) .nil)
 (.cons (.ite (.cmp .eq (.own "_law_pick" 2 (.cons (.v 0) (.cons (.c (.int 6)) .nil))) (.c (.int 0))) (.cons (.set 2 (.lst (.cons (.c (.str "markss")) (.cons (.c (.str "mark")) (.cons (.c (.str "way")) (.cons (.c (.str "wayss")) (.cons (.c (.str "bars")) (.cons (.c (.str "ba")) (.cons (.c (.str "somex")) .nil)))))))))
 (.cons (.set 2 (.op .add (.v 2) (.lst (.cons (.c (.str "eachx")) (.cons (.c (.str "note")) (.cons (.c (.str "no")) (.cons (.c (.str "ands")) (.cons (.c (.str "ors")) (.cons (.c (.str "o")) (.cons (.c (.str "iss")) .nil))))))))))
 (.cons (.ret (.ix (.v 2) (.own "_law_pick" 2 (.cons (.v 0) (.cons (.c (.int 14)) .nil)))))
 .nil))) .nil)
 (.cons (.ret (.own "_law_letters" 2 (.cons (.v 0) (.cons (.op .add (.c (.int 1)) (.own "_law_pick" 2 (.cons (.v 0) (.cons (.c (.int 8)) .nil)))) .nil))))
 .nil)))
noncomputable def cZ:Ss:=
 (.cons (.set 2 (.c (.str "")))
 (.cons (.ite (.cmp .eq (.own "_law_pick" 2 (.cons (.v 0) (.cons (.c (.int 3)) .nil))) (.c (.int 0))) (.cons (.set 2 (.own "_law_letters" 2 (.cons (.v 0) (.cons (.op .add (.c (.int 1)) (.own "_law_pick" 2 (.cons (.v 0) (.cons (.c (.int 6)) .nil)))) .nil))))
 .nil) .nil)
 (.cons (.set 3 (.lst (.cons (.c (.str "marks")) (.cons (.c (.str "ways")) (.cons (.c (.str "bar")) (.cons (.c (.str "some")) (.cons (.c (.str "each")) (.cons (.c (.str "not")) (.cons (.c (.str "and")) (.cons (.c (.str "or")) (.cons (.c (.str "is")) .nil)))))))))))
 (.cons (.loop (.nm 4) (.rng (.cons (.v 1) .nil)) (.cons (.set 5 (.own "_law_name" 2 (.cons (.v 0) (.cons (.v 2) .nil))))
 (.cons (.set 6 (.c (.int 0)))
 (.cons (.whl (.cmp .isin (.v 5) (.v 3)) (.cons (.set 5 (.op .mul (.ix (.c (.str "abcdefghijklmnopqrstuvwxyz")) (.op .mod (.v 6) (.c (.int 26)))) (.op .add (.c (.int 1)) (.op .fdiv (.v 6) (.c (.int 26))))))
 (.cons (.set 6 (.op .add (.v 6) (.c (.int 1))))
 .nil)))
 (.cons (.ex (.me .append (.v 3) (.cons (.v 5) .nil)))
 .nil)))))
 (.cons (.ret (.bi .tuple (.cons (.sl (.v 3) (.yes (.c (.int 9))) .no) .nil)))
 .nil)))))
noncomputable def dH:Ss:=
 (.cons (.ite (.cmp .lt (.v 3) (.v 2)) (.cons (.ret (.ix (.ix (.ix (.v 1) (.v 2)) (.c (.int 1))) (.v 3)))
 .nil) .nil)
 (.cons (.ret (.ix (.ix (.ix (.v 0) (.c (.int 1))) (.ix (.ix (.ix (.v 1) (.v 3)) (.c (.int 1))) (.v 2))) (.c (.int 1))))
 .nil))
noncomputable def fS:Ss:=
 (.cons (.set 3 (.lst .nil))
 (.cons (.loop (.nm 4) (.rng (.cons (.bi .len (.cons (.v 2) .nil)) .nil)) (.cons (.set 5 (.ix (.v 2) (.v 4)))
 (.cons (.ex (.me .append (.v 3) (.cons (.tup (.cons (.ix (.ix (.v 1) (.v 5)) (.c (.int 0))) (.cons (.bi .tuple (.cons (.comp (.own "_law_between" 4 (.cons (.v 3) (.cons (.v 4) (.cons (.v 2) (.cons (.v 1) .nil))))) (.nm 1) (.seq (.sl (.v 2) .no (.yes (.v 4)))) .nil [gV,gV,ba 5,ba 0,ba 1]) .nil)) .nil))) .nil)))
 .nil)))
 (.cons (.ret (.bi .tuple (.cons (.v 3) .nil)))
 .nil)))
noncomputable def gv:Ss:=
 (.cons (.ret (.lst (.cons (.tup (.cons (.c (.int 0)) (.cons (.c (.int 1)) (.cons (.c (.int 2)) .nil)))) (.cons (.tup (.cons (.c (.int 0)) (.cons (.c (.int 2)) (.cons (.c (.int 1)) .nil)))) (.cons (.tup (.cons (.c (.int 1)) (.cons (.c (.int 0)) (.cons (.c (.int 2)) .nil)))) (.cons (.tup (.cons (.c (.int 1)) (.cons (.c (.int 2)) (.cons (.c (.int 0)) .nil)))) (.cons (.tup (.cons (.c (.int 2)) (.cons (.c (.int 0)) (.cons (.c (.int 1)) .nil)))) (.cons (.tup (.cons (.c (.int 2)) (.cons (.c (.int 1)) (.cons (.c (.int 0)) .nil)))) .nil))))))))
 .nil)
noncomputable def eg:Ss:=
 (.cons (.ret (.bi .min (.cons (.comp (.own "_law_part" 3 (.cons (.v 2) (.cons (.v 3) (.cons (.v 1) .nil)))) (.nm 1) (.seq (.own "_law_turns" 0 .nil)) .nil [gV,gV,ba 0,ba 1]) .nil)))
 .nil)
noncomputable def eY:Ss:=
 (.cons (.set 2 (.ix (.lst (.cons (.lst (.cons (.tup (.cons (.c (.int 0)) .nil)) .nil)) (.cons (.lst (.cons (.tup (.cons (.c (.int 0)) (.cons (.c (.int 1)) .nil))) (.cons (.tup (.cons (.c (.int 1)) (.cons (.c (.int 0)) .nil))) .nil))) (.cons (.lst (.cons (.tup (.cons (.c (.int 0)) (.cons (.c (.int 1)) (.cons (.c (.int 2)) .nil)))) (.cons (.tup (.cons (.c (.int 1)) (.cons (.c (.int 0)) (.cons (.c (.int 2)) .nil)))) (.cons (.tup (.cons (.c (.int 0)) (.cons (.c (.int 2)) (.cons (.c (.int 1)) .nil)))) .nil)))) .nil)))) (.op .sub (.v 1) (.c (.int 1)))))
 (.cons (.ret (.ix (.v 2) (.own "_law_pick" 2 (.cons (.v 0) (.cons (.bi .len (.cons (.v 2) .nil)) .nil)))))
 .nil))
noncomputable def dI:Ss:=
 (.cons (.set 4 (.own "_law_names" 2 (.cons (.v 0) (.cons (.op .add (.v 1) (.bi .len (.cons (.v 2) .nil))) .nil))))
 (.cons (.set 5 (.bi .tuple (.cons (.comp (.tup (.cons (.ix (.v 4) (.op .add (.v 3) (.v 1))) (.cons (.ix (.v 2) (.v 1)) .nil))) (.nm 1) (.rng (.cons (.bi .len (.cons (.v 2) .nil)) .nil)) .nil [gV,gV,ba 2,ba 1,ba 4]) .nil)))
 (.cons (.ret (.tup (.cons (.sl (.v 4) .no (.yes (.v 1))) (.cons (.v 5) (.cons (.bi .tuple (.cons (.bi .sorted (.cons (.v 3) .nil)) .nil)) .nil)))))
 .nil)))
noncomputable def cz:Ss:=
 (.cons (.set 3 (.lst .nil))
 (.cons (.loop (.nm 4) (.rng (.cons (.c (.int 3)) .nil)) (.cons (.ex (.me .append (.v 3) (.cons (.tup (.cons (.own "_law_pick" 2 (.cons (.v 0) (.cons (.v 1) .nil))) (.cons (.bi .tuple (.cons (.comp (.own "_law_pick" 2 (.cons (.v 2) (.cons (.v 3) .nil))) (.nm 1) (.rng (.cons (.v 4) .nil)) .nil [gV,gV,ba 0,ba 2]) .nil)) .nil))) .nil)))
 .nil))
 (.cons (.ret (.bi .tuple (.cons (.v 3) .nil)))
 .nil)))
noncomputable def eZ:Ss:=
 (.cons (.set 1 (.lst (.cons (.tup (.cons (.c (.int 1)) (.cons (.c (.int 1)) .nil))) (.cons (.tup (.cons (.c (.int 2)) (.cons (.c (.int 1)) .nil))) (.cons (.tup (.cons (.c (.int 3)) (.cons (.c (.int 1)) .nil))) (.cons (.tup (.cons (.c (.int 1)) (.cons (.c (.int 2)) .nil))) (.cons (.tup (.cons (.c (.int 1)) (.cons (.c (.int 2)) .nil))) (.cons (.tup (.cons (.c (.int 2)) (.cons (.c (.int 2)) .nil))) (.cons (.tup (.cons (.c (.int 2)) (.cons (.c (.int 2)) .nil))) (.cons (.tup (.cons (.c (.int 3)) (.cons (.c (.int 2)) .nil))) (.cons (.tup (.cons (.c (.int 1)) (.cons (.c (.int 3)) .nil))) (.cons (.tup (.cons (.c (.int 1)) (.cons (.c (.int 3)) .nil))) (.cons (.tup (.cons (.c (.int 2)) (.cons (.c (.int 3)) .nil))) .nil)))))))))))))
 (.cons (.ret (.ix (.v 1) (.own "_law_pick" 2 (.cons (.v 0) (.cons (.c (.int 11)) .nil)))))
 .nil))
noncomputable def dg:Ss:=
 (.cons (.asg [1,2] (.own "_law_sizes" 1 (.cons (.v 0) .nil)))
 (.cons (.set 3 (.own "_law_rule_of" 4 (.cons (.v 0) (.cons (.v 1) (.cons (.own "_law_backs" 2 (.cons (.v 0) (.cons (.v 2) .nil))) (.cons (.tup .nil) .nil))))))
 (.cons (.set 4 .dnew)
 (.cons (.loop (.nm 5) (.rng (.cons (.own "_law_pick" 2 (.cons (.v 0) (.cons (.c (.int 9)) .nil))) .nil)) (.cons (.put (.v 4) (.own "_law_figure" 2 (.cons (.v 3) (.cons (.own "_law_free_three" 3 (.cons (.v 0) (.cons (.v 1) (.cons (.v 2) .nil)))) .nil))) (.c (.bl true)))
 .nil))
 (.cons (.ret (.tup (.cons (.ix (.v 3) (.c (.int 0))) (.cons (.ix (.v 3) (.c (.int 1))) (.cons (.bi .tuple (.cons (.bi .sorted (.cons (.v 4) .nil)) .nil)) .nil)))))
 .nil)))))
noncomputable def cp:Ss:=
 (.cons (.set 1 (.lst (.cons (.tup (.cons (.tup (.cons (.c (.int 1)) (.cons (.c (.int 0)) .nil))) (.cons (.disp (.cons (.tup (.cons (.c (.int 0)) (.cons (.c (.int 0)) .nil))) (.cons (.lst (.cons (.c (.int 0)) .nil)) .nil))) (.cons (.c (.int 3)) .nil)))) (.cons (.tup (.cons (.tup (.cons (.c (.int 0)) (.cons (.c (.int 2)) (.cons (.c (.int 1)) .nil)))) (.cons (.disp (.cons (.tup (.cons (.c (.int 1)) (.cons (.c (.int 1)) .nil))) (.cons (.lst (.cons (.c (.int 1)) .nil)) .nil))) (.cons (.c (.int 2)) .nil)))) (.cons (.tup (.cons (.tup (.cons (.c (.int 0)) (.cons (.c (.int 1)) .nil))) (.cons (.disp (.cons (.tup (.cons (.c (.int 1)) (.cons (.c (.int 1)) .nil))) (.cons (.lst (.cons (.c (.int 1)) .nil)) .nil))) (.cons (.c (.int 3)) .nil)))) .nil)))))
 (.cons (.ex (.me .append (.v 1) (.cons (.tup (.cons (.tup (.cons (.c (.int 0)) (.cons (.c (.int 1)) .nil))) (.cons (.disp (.cons (.tup (.cons (.c (.int 1)) (.cons (.c (.int 1)) .nil))) (.cons (.lst (.cons (.c (.int 1)) .nil)) (.cons (.tup (.cons (.c (.int 0)) (.cons (.c (.int 0)) .nil))) (.cons (.lst (.cons (.c (.int 1)) .nil)) .nil))))) (.cons (.c (.int 3)) .nil)))) .nil)))
 (.cons (.ex (.me .append (.v 1) (.cons (.tup (.cons (.tup (.cons (.c (.int 0)) (.cons (.c (.int 1)) .nil))) (.cons (.disp (.cons (.tup (.cons (.c (.int 1)) (.cons (.c (.int 1)) .nil))) (.cons (.lst .nil) .nil))) (.cons (.c (.int 1)) .nil)))) .nil)))
 (.cons (.ex (.me .append (.v 1) (.cons (.tup (.cons (.tup (.cons (.c (.int 0)) (.cons (.c (.int 2)) (.cons (.c (.int 1)) .nil)))) (.cons (.disp (.cons (.tup (.cons (.c (.int 0)) (.cons (.c (.int 0)) .nil))) (.cons (.lst (.cons (.c (.int 0)) .nil)) (.cons (.tup (.cons (.c (.int 0)) (.cons (.c (.int 1)) .nil))) (.cons (.lst (.cons (.c (.int 1)) .nil)) (.cons (.tup (.cons (.c (.int 1)) (.cons (.c (.int 0)) .nil))) (.cons (.lst (.cons (.c (.int 1)) .nil)) (.cons (.tup (.cons (.c (.int 1)) (.cons (.c (.int 1)) .nil))) (.cons (.lst (.cons (.c (.int 1)) .nil)) .nil))))))))) (.cons (.c (.int 2)) .nil)))) .nil)))
 (.cons (.ex (.me .append (.v 1) (.cons (.tup (.cons (.tup (.cons (.c (.int 1)) (.cons (.c (.int 0)) .nil))) (.cons .dnew (.cons (.c (.int 3)) .nil)))) .nil)))
 (.cons (.ex (.me .append (.v 1) (.cons (.tup (.cons (.tup (.cons (.c (.int 0)) (.cons (.c (.int 1)) (.cons (.c (.int 2)) .nil)))) (.cons (.disp (.cons (.tup (.cons (.c (.int 2)) (.cons (.c (.int 2)) .nil))) (.cons (.lst (.cons (.c (.int 2)) .nil)) (.cons (.tup (.cons (.c (.int 1)) (.cons (.c (.int 2)) .nil))) (.cons (.lst (.cons (.c (.int 1)) .nil)) (.cons (.tup (.cons (.c (.int 2)) (.cons (.c (.int 1)) .nil))) (.cons (.lst (.cons (.c (.int 1)) .nil)) (.cons (.tup (.cons (.c (.int 1)) (.cons (.c (.int 1)) .nil))) (.cons (.lst (.cons (.c (.int 1)) (.cons (.c (.int 2)) .nil))) .nil))))))))) (.cons (.c (.int 2)) .nil)))) .nil)))
 (.cons (.ex (.me .append (.v 1) (.cons (.tup (.cons (.tup (.cons (.c (.int 0)) (.cons (.c (.int 1)) (.cons (.c (.int 2)) .nil)))) (.cons (.disp (.cons (.tup (.cons (.c (.int 0)) (.cons (.c (.int 0)) .nil))) (.cons (.lst (.cons (.c (.int 0)) (.cons (.c (.int 1)) .nil))) .nil))) (.cons (.c (.int 2)) .nil)))) .nil)))
 (.cons (.ret (.ix (.v 1) (.own "_law_pick" 2 (.cons (.v 0) (.cons (.c (.int 9)) .nil)))))
 .nil))))))))
noncomputable def eh:Ss:=
 (.cons (.set 5 (.disp (.cons (.tup (.cons (.c (.int 1)) (.cons (.c (.int 0)) .nil))) (.cons (.v 2) (.cons (.tup (.cons (.c (.int 2)) (.cons (.c (.int 0)) .nil))) (.cons (.v 3) (.cons (.tup (.cons (.c (.int 2)) (.cons (.c (.int 1)) .nil))) (.cons (.v 4) .nil))))))))
 (.cons (.loop (.nm 6) (.seq (.bi .list (.cons (.v 5) .nil))) (.cons (.put (.v 5) (.tup (.cons (.ix (.v 6) (.c (.int 1))) (.cons (.ix (.v 6) (.c (.int 0))) .nil))) (.ix (.v 0) (.ix (.v 5) (.v 6))))
 .nil))
 (.cons (.loop (.tp [7,8,9]) (.seq (.own "_law_turns" 0 .nil)) (.cons (.ite (.cmp .notin (.ix (.v 5) (.tup (.cons (.v 7) (.cons (.v 9) .nil)))) (.me .get (.v 1) (.cons (.tup (.cons (.ix (.v 5) (.tup (.cons (.v 7) (.cons (.v 8) .nil)))) (.cons (.ix (.v 5) (.tup (.cons (.v 8) (.cons (.v 9) .nil)))) .nil))) (.cons (.lst (.cons (.ix (.v 5) (.tup (.cons (.v 7) (.cons (.v 9) .nil)))) .nil)) .nil)))) (.cons (.ret (.c (.bl true)))
 .nil) .nil)
 .nil))
 (.cons (.ret (.c (.bl false)))
 .nil))))
noncomputable def bK:Ss:=
 (.cons (.set 3 (.bi .len (.cons (.v 1) .nil)))
 (.cons (.set 4 (.lst (.cons (.lst (.cons (.tup (.cons (.c (.int 0)) .nil)) .nil)) (.cons (.lst (.cons (.tup (.cons (.c (.int 0)) (.cons (.c (.int 1)) .nil))) (.cons (.tup (.cons (.c (.int 1)) (.cons (.c (.int 0)) .nil))) .nil))) .nil))))
 (.cons (.ex (.me .append (.v 4) (.cons (.lst (.cons (.tup (.cons (.c (.int 0)) (.cons (.c (.int 1)) (.cons (.c (.int 2)) .nil)))) (.cons (.tup (.cons (.c (.int 0)) (.cons (.c (.int 2)) (.cons (.c (.int 1)) .nil)))) (.cons (.tup (.cons (.c (.int 2)) (.cons (.c (.int 0)) (.cons (.c (.int 1)) .nil)))) (.cons (.tup (.cons (.c (.int 2)) (.cons (.c (.int 1)) (.cons (.c (.int 0)) .nil)))) .nil))))) .nil)))
 (.cons (.set 5 (.ix (.v 4) (.op .sub (.v 3) (.c (.int 1)))))
 (.cons (.ite (.cmp .eq (.v 1) (.tup (.cons (.c (.int 0)) (.cons (.c (.int 1)) (.cons (.c (.int 2)) .nil))))) (.cons (.set 5 (.own "_law_turns" 0 .nil))
 .nil) .nil)
 (.cons (.set 6 (.ix (.v 5) (.own "_law_pick" 2 (.cons (.v 0) (.cons (.bi .len (.cons (.v 5) .nil)) .nil)))))
 (.cons (.set 7 (.op .mul (.lst (.cons (.c (.int 0)) .nil)) (.v 3)))
 (.cons (.loop (.nm 8) (.rng (.cons (.v 3) .nil)) (.cons (.put (.v 7) (.ix (.v 6) (.v 8)) (.ix (.v 6) (.ix (.v 1) (.v 8))))
 .nil))
 (.cons (.set 9 .dnew)
 (.cons (.loop (.tp [10,11]) (.seq (.v 2)) (.cons (.put (.v 9) (.tup (.cons (.ix (.v 6) (.v 10)) (.cons (.ix (.v 6) (.v 11)) .nil))) (.comp (.ix (.v 2) (.v 1)) (.nm 1) (.seq (.ix (.v 2) (.tup (.cons (.v 10) (.cons (.v 11) .nil))))) .nil [gV,gV,ba 6]))
 .nil))
 (.cons (.ret (.tup (.cons (.bi .tuple (.cons (.v 7) .nil)) (.cons (.v 9) .nil))))
 .nil)))))))))))
noncomputable def cq:Ss:=
 (.cons (.set 1 (.own "_law_pick" 2 (.cons (.v 0) (.cons (.c (.int 7)) .nil))))
 (.cons (.ite (.cmp .eq (.v 1) (.c (.int 0))) (.cons (.ret (.own "_law_free_rule" 1 (.cons (.v 0) .nil)))
 .nil) .nil)
 (.cons (.ite (.cmp .eq (.v 1) (.c (.int 1))) (.cons (.ret (.own "_law_one_way_rule" 1 (.cons (.v 0) .nil)))
 .nil) .nil)
 (.cons (.asg [2,3,4] (.own "_law_laying_kind" 1 (.cons (.v 0) .nil)))
 (.cons (.set 5 (.op .add (.c (.int 1)) (.own "_law_pick" 2 (.cons (.v 0) (.cons (.v 4) .nil)))))
 (.cons (.asg [2,3] (.own "_law_numbered" 3 (.cons (.v 0) (.cons (.v 2) (.cons (.v 3) .nil)))))
 (.cons (.set 6 (.own "_law_rule_of" 4 (.cons (.v 0) (.cons (.v 5) (.cons (.v 2) (.cons (.tup .nil) .nil))))))
 (.cons (.set 7 .dnew)
 (.cons (.set 8 (.bi .len (.cons (.v 2) .nil)))
 (.cons (.loop (.nm 9) (.rng (.cons (.op .mul (.op .mul (.v 8) (.v 8)) (.v 8)) .nil)) (.cons (.par 10 11 (.cons (.op .mod (.v 9) (.v 8)) (.cons (.op .mod (.op .fdiv (.v 9) (.v 8)) (.v 8)) .nil)))
 (.cons (.set 12 (.op .fdiv (.op .fdiv (.v 9) (.v 8)) (.v 8)))
 (.cons (.ite (.own "_law_breaks" 5 (.cons (.v 2) (.cons (.v 3) (.cons (.v 10) (.cons (.v 11) (.cons (.v 12) .nil)))))) (.cons (.loop (.nm 13) (.seq (.own "_law_rising" 1 (.cons (.v 5) .nil))) (.cons (.set 14 (.tup (.cons (.tup (.cons (.ix (.v 13) (.c (.int 0))) (.cons (.tup .nil) .nil))) (.cons (.tup (.cons (.ix (.v 13) (.c (.int 1))) (.cons (.tup (.cons (.v 10) .nil)) .nil))) .nil))))
 (.cons (.put (.v 7) (.own "_law_figure" 2 (.cons (.v 6) (.cons (.op .add (.v 14) (.tup (.cons (.tup (.cons (.ix (.v 13) (.c (.int 2))) (.cons (.tup (.cons (.v 11) (.cons (.v 12) .nil))) .nil))) .nil))) .nil))) (.c (.bl true)))
 .nil)))
 .nil) .nil)
 .nil))))
 (.cons (.ret (.tup (.cons (.ix (.v 6) (.c (.int 0))) (.cons (.ix (.v 6) (.c (.int 1))) (.cons (.bi .tuple (.cons (.bi .sorted (.cons (.v 7) .nil)) .nil)) .nil)))))
 .nil)))))))))))
noncomputable def ej:Ss:=
 (.cons (.set 1 (.lst .nil))
 (.cons (.loop (.nm 2) (.rng (.cons (.v 0) .nil)) (.cons (.loop (.nm 3) (.rng2 (.cons (.v 2) (.cons (.v 0) .nil))) (.cons (.set 1 (.op .add (.v 1) (.comp (.tup (.cons (.v 2) (.cons (.v 3) (.cons (.v 1) .nil)))) (.nm 1) (.rng2 (.cons (.v 3) (.cons (.v 0) .nil))) .nil [gV,gV,ba 2,ba 3])))
 .nil))
 .nil))
 (.cons (.ret (.v 1))
 .nil)))
noncomputable def cR:Ss:=
 (.cons (.asg [1,2] (.own "_law_sizes" 1 (.cons (.v 0) .nil)))
 (.cons (.set 3 (.own "_law_rule_of" 4 (.cons (.v 0) (.cons (.v 1) (.cons (.own "_law_backs" 2 (.cons (.v 0) (.cons (.v 2) .nil))) (.cons (.tup .nil) .nil))))))
 (.cons (.set 5 (.comp (.v 1) (.nm 1) (.rng (.cons (.v 2) .nil)) (.cons (.cmp .eq (.ix (.ix (.ix (.v 2) (.c (.int 1))) (.v 1)) (.c (.int 1))) (.v 1)) .nil) [gV,gV,ba 3]))
 (.cons (.ite (.or (.cmp .eq (.v 5) (.lst .nil)) (.cmp .eq (.v 2) (.c (.int 1)))) (.cons (.ret (.v 3))
 .nil) .nil)
 (.cons (.set 6 (.ix (.v 5) (.own "_law_pick" 2 (.cons (.v 0) (.cons (.bi .len (.cons (.v 5) .nil)) .nil)))))
 (.cons (.set 7 .dnew)
 (.cons (.loop (.nm 4) (.rng (.cons (.own "_law_pick" 2 (.cons (.v 0) (.cons (.c (.int 9)) .nil))) .nil)) (.cons (.set 8 (.own "_law_free_three" 3 (.cons (.v 0) (.cons (.v 1) (.cons (.v 2) .nil)))))
 (.cons (.ite (.and (.cmp .ne (.ix (.ix (.ix (.v 8) (.c (.int 1))) (.c (.int 1))) (.c (.int 0))) (.v 6)) (.cmp .notin (.v 6) (.ix (.ix (.v 8) (.c (.int 2))) (.c (.int 1))))) (.cons (.put (.v 7) (.own "_law_figure" 2 (.cons (.v 3) (.cons (.v 8) .nil))) (.c (.bl true)))
 .nil) .nil)
 .nil)))
 (.cons (.ret (.tup (.cons (.ix (.v 3) (.c (.int 0))) (.cons (.ix (.v 3) (.c (.int 1))) (.cons (.bi .tuple (.cons (.bi .sorted (.cons (.v 7) .nil)) .nil)) .nil)))))
 .nil))))))))
noncomputable def ce:Ss:=
 (.cons (.set 1 (.op .add (.c (.int 1)) (.own "_law_pick" 2 (.cons (.v 0) (.cons (.c (.int 3)) .nil)))))
 (.cons (.set 2 (.comp (.tup (.cons (.tup (.cons (.v 1) (.cons (.tup .nil) .nil))) (.cons (.tup (.cons (.v 1) (.cons (.tup (.cons (.c (.int 0)) .nil)) .nil))) (.cons (.tup (.cons (.v 1) (.cons (.tup (.cons (.c (.int 0)) (.cons (.c (.int 0)) .nil))) .nil))) .nil)))) (.nm 1) (.rng (.cons (.v 1) .nil)) (.cons (.cmp .eq (.own "_law_pick" 2 (.cons (.v 2) (.cons (.c (.int 2)) .nil))) (.c (.int 0))) .nil) [gV,gV,ba 0]))
 (.cons (.ret (.own "_law_rule_of" 4 (.cons (.v 0) (.cons (.v 1) (.cons (.tup (.cons (.c (.int 0)) .nil)) (.cons (.v 2) .nil))))))
 .nil)))
noncomputable def cg:Ss:=
 (.cons (.set 3 (.lst .nil))
 (.cons (.loop (.nm 4) (.rng (.cons (.v 2) .nil)) (.cons (.set 5 (.own "_law_pick" 2 (.cons (.v 0) (.cons (.bi .len (.cons (.ix (.v 1) (.c (.int 0))) .nil)) .nil))))
 (.cons (.ex (.me .append (.v 3) (.cons (.tup (.cons (.v 5) (.cons (.bi .tuple (.cons (.comp (.own "_law_pick" 2 (.cons (.v 2) (.cons (.bi .len (.cons (.ix (.v 3) (.c (.int 1))) .nil)) .nil))) (.nm 1) (.rng (.cons (.v 4) .nil)) .nil [gV,gV,ba 0,ba 1]) .nil)) .nil))) .nil)))
 .nil)))
 (.cons (.ret (.bi .tuple (.cons (.v 3) .nil)))
 .nil)))
noncomputable def cv:Ss:=
 (.cons (.ite (.cmp .is (.v 1) (.c .non)) (.cons (.ret (.cmp .is (.v 0) (.c .non)))
 .nil) .nil)
 (.cons (.ite (.or (.isi "bool" (.v 1)) (.isi "bool" (.v 0))) (.cons (.ret (.and (.isi "bool" (.v 1)) (.and (.isi "bool" (.v 0)) (.cmp .eq (.v 0) (.v 1)))))
 .nil) .nil)
 (.cons (.ite (.isi "int" (.v 1)) (.cons (.ret (.and (.isi "int" (.v 0)) (.cmp .eq (.v 0) (.v 1))))
 .nil) .nil)
 (.cons (.ite (.isi "str" (.v 1)) (.cons (.ret (.and (.isi "str" (.v 0)) (.cmp .eq (.v 0) (.v 1))))
 .nil) .nil)
 (.cons (.ite (.or (.cmp .ne (.isi "tuple" (.v 1)) (.isi "tuple" (.v 0))) (.cmp .ne (.isi "list" (.v 1)) (.isi "list" (.v 0)))) (.cons (.ret (.c (.bl false)))
 .nil) .nil)
 (.cons (.ret (.and (.cmp .eq (.bi .len (.cons (.v 0) .nil)) (.bi .len (.cons (.v 1) .nil))) (.bi .all (.cons (.comp (.own "_law_alike" 2 (.cons (.ix (.v 3) (.v 1)) (.cons (.ix (.v 2) (.v 1)) .nil))) (.nm 1) (.rng (.cons (.bi .len (.cons (.v 1) .nil)) .nil)) .nil [gV,gV,ba 1,ba 0]) .nil))))
 .nil))))))
noncomputable def Is (defs:JT (Kn×Df))(f:Kn)(np nn:J3)(b:Ss):Prop:=∃df:Df,defs.lookup f=ba df/\df.ps.length=np/\df.N.length=nn/\df.body=b
theorem aL {defs:JT (Kn×Df)}{fuel d:J3}{f:Kn}{np nn:J3}{b:Ss}{ws:JT W}{S:aa}{Q:QW}(h:Is defs f np nn b)(hl:ws.length=np)(ok:iG b=true)
  (hb:∀Q':QO,(∀w S',Q (w,S')->Q' (.rt w,S'))->wZ (aq defs fuel d) fuel b (ws.map ba++KY (nn - np) gV) S Q'):wO (bM (aq defs fuel (d+1)) f np ws S) Q:=by
 obtain⟨df,h1,h2,h3,h4⟩:=h;subst h4;refine E6 h1 hl (hl.trans h2.symm) ok λQ' hR=>?_
 have:=hb Q' hR;unfold fQ;rw[h3,hl];exact this
structure Gen (defs:JT (Kn×Df)):Prop where
 pick:Is defs ("_law_pick" : Kn) 2 4 cX
 letters:Is defs ("_law_letters" : Kn) 2 2 dG
 name:Is defs ("_law_name" : Kn) 2 3 fR
 names:Is defs ("_law_names" : Kn) 2 7 cZ
 between:Is defs ("_law_between" : Kn) 4 4 dH
 part:Is defs ("_law_part" : Kn) 3 6 fS
 turns:Is defs ("_law_turns" : Kn) 0 0 gv
 figure:Is defs ("_law_figure" : Kn) 2 2 eg
 backs:Is defs ("_law_backs" : Kn) 2 3 eY
 rule_of:Is defs ("_law_rule_of" : Kn) 4 6 dI
 free_three:Is defs ("_law_free_three" : Kn) 3 5 cz
 sizes:Is defs ("_law_sizes" : Kn) 1 2 eZ
 any_rule:Is defs ("_law_any_rule" : Kn) 1 6 dg
 laying_kind:Is defs ("_law_laying_kind" : Kn) 1 2 cp
 breaks:Is defs ("_law_breaks" : Kn) 5 10 eh
 numbered:Is defs ("_law_numbered" : Kn) 3 12 bK
 laying_rule:Is defs ("_law_laying_rule" : Kn) 1 15 cq
 rising:Is defs ("_law_rising" : Kn) 1 4 ej
 free_rule:Is defs ("_law_free_rule" : Kn) 1 9 cR
 one_way_rule:Is defs ("_law_one_way_rule" : Kn) 1 3 ce
structure FlA (S:aa)(r q:J3)(ns:JT Kh)(i c x n:Kh):Prop where
 at_r:S[r]?=ba (.lst [.ref q,.int i,.int c,.int x,.int n])
 at_q:S[q]?=ba (.lst (ns.map W.int))
 lt:q < r
 i0:0<=i
 c0:0<=c
 x0:0<=x
 x1:x < 2147483647
theorem FlA.ne {S:aa}{r q:J3}{ns:JT Kh}{i c x n:Kh}(h:FlA S r q ns i c x n):q≠r:=Kt h.lt
noncomputable def Fl (S:aa)(r:J3):Prop:=∃(q:J3) (ns:JT Kh) (i c x n:Kh),FlA S r q ns i c x n
theorem FlA.put {S:aa}{r q:J3}{ns:JT Kh}{i c x n i' c' x' n':Kh}(h:FlA S r q ns i c x n)(h1:0<=i')(h2:0<=c')(h3:0<=x')(h4:x' < 2147483647):FlA (S.set r (.lst [.ref q,.int i',.int c',.int x',.int n'])) r q ns i' c' x' n':=
 ⟨bV h.at_r,by rw[b6 (Ne.symm h.ne)]; exact h.at_q,h.lt,h1,h2,h3,h4⟩
theorem Fl.keep {S S':aa}{r:J3}(h:Fl S r)(h1:S'[r]?=S[r]?)(k:Kp r S S'):Fl S' r:=
 let ⟨q,ns,i,c,x,n,f⟩:=h; ⟨q,ns,i,c,x,n,by rw[h1]; exact f.at_r,k.get _ _ f.ne f.at_q,f.lt,f.i0,f.c0,f.x0,f.x1⟩
theorem Fl.lt {S:aa}{r:J3}(h:Fl S r):r < S.length:=let ⟨_,_,_,_,_,_,f⟩:=h; dQ f.at_r
structure Ka (S S':aa):Prop where
 get:∀(j:J3) (o:O),S[j]?=ba o->S'[j]?=ba o
 len:S.length<=S'.length
theorem Ka.refl {S:aa}:Ka S S:=⟨λ_ _ h=>h,J7 _⟩
theorem Ka.trans {S S' S'':aa}(a:Ka S S')(b:Ka S' S''):Ka S S'':=⟨λj o h=>b.get j o (a.get j o h),Kc a.len b.len⟩
theorem Ka.push {S:aa}{o:O}:Ka S (S++[o]):=⟨λj u h=>ap h,by simp⟩
theorem Ka.late {t:J3}{S0 S:aa}{o:O}(a:Ka S0 S)(h:S0.length<=t):Ka S0 (S.set t o):=
 ⟨λj u e=>by have:=dQ e; rw[b6 (by omega)]; exact a.get j u e,by simpa using a.len⟩
theorem Ka.kp {S S':aa}(a:Ka S S')(r:J3):Kp r S S':=⟨λj o _ h=>a.get j o h,a.len⟩
theorem Fl.ka {S S':aa}{r:J3}(h:Fl S r)(k:Ka S S'):Fl S' r:=h.keep (by obtain⟨q,ns,i,c,x,n,f⟩:=h; rw[k.get _ _ f.at_r,f.at_r]) (k.kp r)
theorem Fl.own {S:aa}{r t:J3}{o:O}(h:Fl S r)(ht:r < t):Fl (S.set t o) r:=by
 obtain⟨q,ns,i,c,x,n,f⟩:=h;have:=f.lt;exact⟨q,ns,i,c,x,n,by rw[b6 (KM ‹_›)]; exact f.at_r,by rw[b6 (by omega)]; exact f.at_q,f.lt,f.i0,f.c0,f.x0,f.x1⟩
theorem eR {S:aa}{r:J3}{xs:JT W}{i:J3}{w:W}{Q:QW}(h:S[r]?=ba (.lst xs))(hw:xs[i]?=ba w)(q:Q (w,S)):wO (qH (.ref r) (.int (i:Kh)) S) Q:=ae (zE h (KG i) (by rw[Km]; exact hw)) q
theorem oM {S:aa}{r:J3}{xs:JT W}{i:J3}{w:W}{Q:aa->Prop}(h:S[r]?=ba (.lst xs))(hi:T4 (i+1) xs.length=true)(q:Q (S.set r (.lst (xs.set i w)))):wO (i8 (.ref r) (.int (i:Kh)) w S) Q:=ae (Dq h (KG i) (by rw[Km]; exact Kd hi)) (by rw[Km]; exact q)
section
variable{defs:JT (Kn×Df)}{fuel d:J3}{S:aa}{r:J3}{Q:QW}
theorem bj (hd:Is defs ("_law_pick" : Kn) 2 4 cX){m:Kh}(hf:Fl S r)(h0:0 < m)(h1:m < 1073741824)(k:∀v S',0<=v->v < m->Fl S' r->Kp r S S'->Q (.int v,S')) :
  wO (bM (aq defs fuel (d+1)) "_law_pick" 2 [.ref r,.int m] S) Q:=by
 obtain⟨q,ns,i,c,x,n,f⟩:=hf;refine aL hd rfl rfl λQ' hR=>?_
 replace k:∀v S',0<=v->v < m->Fl S' r->Kp r S S'->Q' (.rt (.int v),S'):=λv S' a b c e=>hR _ _ (k v S' a b c e)
 clear hR;show wZ _ _ cX [ba (.ref r),ba (.int m),gV,gV] S Q';have bT:∀(S1:aa) (w2:J1 W) (i1 c1 x1 n1:Kh),FlA S1 r q ns i1 c1 x1 n1->Kp r S S1->wZ (aq defs fuel d) fuel (match cX with|.cons _ ss=>ss|.nil=>.nil) [ba (.ref r),ba (.int m),w2,gV] S1 Q':=by
  intro S1 w2 i1 c1 x1 n1 f1 k1;dsimp only[cX];refine st ?_;dsimp only[wS,wT,wE,wV,wG];refine eR (i:=2) f1.at_r rfl ?_;dsimp only[E5,wO,wB];refine aN (Q0:=Q') (λhg Q2 hn hr=>?_) (λhg Q2 hn hr=>?_)
  ·clear hn;refine st ?_;dsimp only[wS,wE,wV,wG];refine eR (i:=2) f1.at_r rfl (ae (jd h0) ?_);refine st ?_;dsimp only[wS,wE,wV,wG,Kj];refine eR (i:=2) f1.at_r rfl (ae (iF h0 h1) (oM (i:=2) f1.at_r rfl ?_));refine st ?_;dsimp only[wS,wE,wV,wG,Kj];exact hr _ _ (k _ _ (MM _ (by omega)) (MF _ h0) ⟨q,ns,i1,c1 / m,x1,n1,f1.put f1.i0 (Ol f1.c0 (by omega)) f1.x0 f1.x1⟩ (k1.trans .set))
  ·refine dq (hn _ _ ?_);clear hn hr;have f2:FlA (S1.set r (.lst [.ref q,.int i1,.int c1,.int x1,.int (n1+1)])) r q ns i1 c1 x1 (n1+1):=f1.put f1.i0 f1.c0 f1.x0 f1.x1;refine st ?_;dsimp only[wS,wE,wV,wG];refine eR (i:=4) f1.at_r rfl ?_;dsimp only[dP,wO];refine oM (i:=4) f1.at_r rfl ?_;refine st ?_;dsimp only[wS,wE,wV,wG,Kj];refine eR (i:=3) f2.at_r rfl (ae (r4 (by decide) (by decide)) ?_)
   dsimp only[dP,wO];refine eR (i:=4) f2.at_r rfl ?_;dsimp only[dP,wO];refine(oM (i:=3) f2.at_r rfl ?_);have f3:FlA ((S1.set r (.lst [.ref q,.int i1,.int c1,.int x1,.int (n1+1)])).set r (.lst [.ref q,.int i1,.int c1,.int ((x1*48271+12820163+(n1+1)) % 2147483647),.int (n1+1)])) r q ns i1 c1 ((x1*48271+12820163+(n1+1)) % 2147483647) (n1+1):=f2.put f1.i0 f1.c0 (MM _ (by decide)) (MF _ (by decide))
   dsimp only[Kj];generalize(x1*48271+12820163+(n1+1)) % 2147483647=y at f3 ⊢;have b1:y / 65521+7919 < 2 ^ 64:=by
    have:=f3.x1;have:=Int.ediv_le_self 65521 f3.x0;omega
   have b2 : -(2 ^ 64) < y / 65521+7919:=by
    have:=Ol f3.x0 (show(0:Kh)<=65521 by decide)
    omega
   refine st ?_;dsimp only[wS,wE,wV,wG,Kj];refine eR (i:=3) f3.at_r rfl (ae (jd (by decide)) ?_)
   dsimp only[dP,wO];refine eR (i:=3) f3.at_r rfl ?_;dsimp only[dP,wO];refine ae (r4 b2 b1) ?_;refine ae (jd h0) ?_;exact k _ _ (MM _ (by omega)) (MF _ h0) ⟨q,ns,_,_,_,_,f3⟩ (k1.trans (Kp.set.trans .set))
 dsimp only[cX]at bT ⊢;refine st ?_;dsimp only[wS,wT,wE,wV,wG,wA];refine eR (i:=2) f.at_r rfl ?_;dsimp only[je,wO,wB];have skip:∀Q2:QO,(∀ρ' S',wZ (aq defs fuel d) fuel _ ρ' S' Q'->Q2 (.nx ρ',S'))->Q2 (.nx [ba (.ref r),ba (.int m),gV,gV],S):=λQ2 hn=>hn _ _ (bT S gV i c x n f .refl)
 refine⟨λ_=>?_,λ_ Q2 hn hr=>⟨λz=>(by cases z),λ_=>(dq (skip Q2 hn)).out⟩⟩
 refine eR (i:=1) f.at_r rfl (eR (i:=0) f.at_r rfl (ae (Dr f.at_q) ?_));dsimp only[zD,wO,wB];refine aN (Q0:=Q') (λhl Q2 hn _=>?_) (λhg Q2 hn hr=>dq (skip Q2 hn))
 clear skip;have hl':i.toNat < ns.length:=by
  have:=KQ hl;rw[JV]at this;have:=f.i0;omega
 have hcell:(ns.map W.int)[i.toNat]?=ba (.int ns[i.toNat]):=by simp[hl']
 generalize ns[i.toNat]=cell at hcell;have f1:FlA (S.set r (.lst [.ref q,.int (i+1),.int c,.int x,.int n])) r q ns (i+1) c x n:=f.put (by have:=f.i0; omega) f.c0 f.x0 f.x1
 refine st ?_;dsimp only[wS,wE,wV,wG];refine eR (i:=0) f.at_r rfl (eR (i:=1) f.at_r rfl (ae (zE f.at_q f.i0 hcell) ?_));refine st ?_;dsimp only[wS,wE,wV,wG,Kj];refine eR (i:=1) f.at_r rfl ?_;dsimp only[dP,wO];refine oM (i:=1) f.at_r rfl ?_;refine st ?_;dsimp only[wS,wT,wE,wV,wG,E3,Jf,wO,wB];refine aN (Q0:=Q') (λhg Q3 hn3 _=>?_) (λhg Q3 hn3 _=>?_)
 ·refine st ?_;dsimp only[wS,wE,wV,wG];refine oM (i:=2) f1.at_r rfl (dq (hn3 _ _ (dq (hn _ _ ?_))));exact bT _ _ (i+1) cell x n (f1.put f1.i0 (by have:=KQ hg; omega) f.x0 f.x1) (Kp.set.trans .set)
 ·refine st ?_;dsimp only[wS,wE,wV,wG];refine eR (i:=3) f1.at_r rfl (ae (r4 (by decide) (by decide)) (ae (jd (by decide)) ?_))
  dsimp only[dP,wO];refine oM (i:=3) f1.at_r rfl (dq (hn3 _ _ (dq (hn _ _ ?_))));exact bT _ _ (i+1) c _ n (f1.put f1.i0 f.c0 (MM _ (by decide)) (MF _ (by decide))) (Kp.set.trans .set)
end
noncomputable def dr:J3->Ss->Ss
 | 0,ss=>ss
 | n+1,.cons _ ss=>dr n ss
 | _,.nil=>.nil
theorem aT {α:Type}{a:α}{Q:α->Prop}:wO (ba a) Q=Q a:=rfl
theorem bm {Φ:Kn->FF}{fuel:J3}{ρ:Fm}{S:aa}{Q:QO}{s:Sm}{ss:Ss}(h:∀K:Fm->aa->Prop,(∀ρ' S',wZ Φ fuel ss ρ' S' Q->K ρ' S')->wS Φ fuel s ρ S K Q):wZ Φ fuel (.cons s ss) ρ S Q:=st (h _ λ_ _ h=>h)
theorem Ho {Φ:Kn->FF}{fuel:J3}{ρ:Fm}{S:aa}{i:J3}{e:E}{K:Fm->aa->Prop}{Q:QO}(h:wE Φ e ρ S λp=>K (ρ.set i (ba p.1)) p.2):wS Φ fuel (.set i e) ρ S K Q:=h
theorem jh {n:J3}(h:T4 n 1000=true):n<=sizeLine:=Kc (Kd h) (by rw[K8]; decide)
theorem lr {n:J3}(h:n<=1000):n<=sizeLine:=Kc h (by rw[K8]; decide)
theorem ik {S:aa}{r:J3}{xs:JT W}{i:Kh}{w:W}{Q:QW}(h:S[r]?=ba (.lst xs))(h0:0<=i)(hw:xs[i.toNat]?=ba w)(q:Q (w,S)):wO (qH (.ref r) (.int i) S) Q:=ae (zE h h0 hw) q
theorem ay {S:aa}{xs:JT W}{i:Kh}{w:W}{Q:QW}(h0:0<=i)(hw:xs[i.toNat]?=ba w)(q:Q (w,S)):wO (qH (.tup xs) (.int i) S) Q:=ae (Hh h0 hw) q
theorem oN {S:aa}{r:J3}{xs:JT W}{y:W}{Q:QW}(h:S[r]?=ba (.lst xs))(hl:xs.length < 1000)(q:Q (.non,S.set r (.lst (xs++[y])))):wO (Me.append.fn (.ref r) [y] S) Q:=ae (vt h (Kx hl (jh rfl))) q
theorem fH {S:aa}{r:J3}{xs:JT W}{Q:QW}(h:S[r]?=ba (.lst xs))(q:Q (.int xs.length,S)):wO (Bi.len.fn [.ref r] S) Q:=ae (Dr h) q
theorem cH {S:aa}{xs:JT W}{Q:QW}(q:Q (.int xs.length,S)):wO (Bi.len.fn [.tup xs] S) Q:=q
theorem d4 {S:aa}{r:J3}{xs:JT W}{Q:QW}(h:S[r]?=ba (.lst xs))(q:Q (.tup xs,S)):wO (Bi.tuple.fn [.ref r] S) Q:=ae (Hi h) q
section
variable{Φ:Kn->FF}{fuel:J3}{ρ:Fm}{S S1:aa}{K:Fm->aa->Prop}
theorem dA {t:E}{a:Ss}{Q:QO}(ht:∀Q:QB,Q (false,S1)->wT Φ t ρ S Q)(h:K ρ S1):wS Φ fuel (.ite t a .nil) ρ S K Q:=by
 dsimp only[wS];exact ht _ λQ' h1 h2=>⟨λz=>(by cases z),λ_=>(dq (h1 _ _ h)).out⟩
theorem r6 {t:E}{a b:Ss}{Q:QO}(ht:∀Q:QB,Q (true,S1)->wT Φ t ρ S Q)(h:∀Q':QO,(∀ρ' S',K ρ' S'->Q' (.nx ρ',S'))->(∀w S',Q (.rt w,S')->Q' (.rt w,S'))->wZ Φ fuel a ρ S1 Q'):wS Φ fuel (.ite t a b) ρ S K Q:=by
 dsimp only[wS];exact ht _ λQ' h1 h2=>⟨λ_=>(h Q' h1 λw S' q=>h2 (.rt w) S' (λ_ z=>nomatch z) q).out,λz=>(by cases z)⟩
end
theorem zK:∀k:Fin 26,("abcdefghijklmnopqrstuvwxyz" : Kn).cps.toList[k.val]?=ba (97+k.val):=by decide
theorem vz:("abcdefghijklmnopqrstuvwxyz" : Kn).length<=sizeLine:=by decide
theorem md:∀cs:JT J3,jJ (cs.map λc=>W.str ⟨[c].toArray⟩)=ba (cs.map λc=>(⟨[c].toArray⟩ : Kn))
 | []=>rfl
 | c::cs=>by simp[jJ,md cs]
theorem oO:∀cs:JT J3,((cs.map λc=>(⟨[c].toArray⟩ : Kn)).map (·.length)).sum=cs.length
 | []=>rfl
 | c::cs=>by
  have:=oO cs;simp only[Lu,List.sum_cons,La];rw[this];show 1+cs.length=_;omega
theorem fT (a b:Kn):(a++b).cps.toList=a.cps.toList++b.cps.toList:=Op
theorem mf:∀cs:JT J3,(TW "" (cs.map λc=>(⟨[c].toArray⟩ : Kn))).cps.toList=cs
 | []=>rfl
 | [c]=>rfl
 | c::d::cs=>by
  have ih:=mf (d::cs);show(((⟨[c].toArray⟩ : Kn)++("" : Kn)++TW "" ((d::cs).map λc=>(⟨[c].toArray⟩ : Kn))).cps).toList=_
  rw[fT,fT,ih];rfl
theorem r8 (cs:JT J3):(SY "" (cs.map λc=>(⟨[c].toArray⟩ : Kn))).cps.toList=cs:=by
 show(Tx "" _).cps.toList=_;rw[StrLaws.glued_eq_join];exact mf cs
noncomputable def vA (y:Kn):Prop:=∀c∈y.cps.toList,97<=c/\c<=122
noncomputable def Name (y:Kn):Prop:=1<=y.cps.toList.length/\y.cps.toList.length<=8/\vA y
theorem vB (y:Kn):y.length=y.cps.toList.length:=by simp[To]
noncomputable def zL:JT Kn:=["markss","mark","way","wayss","bars","ba","somex","eachx","note","no","ands","ors","o","iss"]
theorem w6:∀y∈zL,Name y:=by
 have h:zL.all (λy=>decide (1<=y.cps.toList.length/\y.cps.toList.length<=8)&&y.cps.toList.all λc=>decide (97<=c/\c<=122))=true:=by decide
 intro y hy;have:=Kr.mp h y hy;rw[J2]at this;obtain⟨a,b⟩:=this;exact⟨(KQ a).1,(KQ a).2,λc hc=>KQ (Kr.mp b c hc)⟩
theorem mh {α:Type}{f:α->W}{xs:JT α}{i:J3}(h:i < xs.length):∃x∈xs,(xs.map f)[i]?=ba (f x):=⟨xs[i],K1 _,by rw[J6,J5 h]; rfl⟩
section
variable{defs:JT (Kn×Df)}{fuel d:J3}{S:aa}{r:J3}{Q:QW}
theorem jW (G:Gen defs){m:Kh}(hf:Fl S r)(h0:0<=m)(h1:m<=1000)(k:∀y S',y.cps.toList.length=m.toNat->vA y->Fl S' r->Kp r S S'->Q (.str y,S')) :
  wO (bM (aq defs fuel (d+2)) "_law_letters" 2 [.ref r,.int m] S) Q:=by
 refine aL G.letters rfl rfl λQ' hR=>?_
 show wZ _ _ dG [ba (.ref r),ba (.int m)] S Q';dsimp only[dG];refine st ?_;dsimp only[wS,wE,wA];refine⟨rfl,dF m (λi ys ρ S'=>(∃a,ρ=[gV,a,ba (.ref r)])/\Fl S' r/\Kp r S S'/\∃cs:JT J3,ys=cs.map (λc=>W.str ⟨[c].toArray⟩)/\cs.length=i/\∀c∈cs,97<=c/\c<=122) rfl rfl rfl ⟨by omega,by omega⟩ ⟨rfl,⟨gV,rfl⟩,hf,.refl,[],rfl,rfl,λ_ h=>nomatch h⟩ ?_ ?_⟩
 ·rintro i ys ρ S1 hi ⟨⟨a,rfl⟩,f1,k1,cs,rfl,hl,hc⟩;dsimp only[iS,wC,wE,wA,wV,wG,Kj];refine⟨λ_=>bj (d:=d) G.pick f1 (by decide) (by decide) λv S2 h2 h3 f2 k2=>?_,λz=>by cases z⟩
  have ha:=zK ⟨v.toNat,by omega⟩
  refine ae (Dp vz h2 ha) ⟨⟨_,rfl⟩,f2,k1.trans k2,cs++[97+v.toNat],by simp,by simp[hl],λc hx=>?_⟩
  rcases K2.mp hx with h|h
  ·exact hc c h
  ·rw[Kk.mp h]; omega
 ·rintro ys ρ S1 ⟨_,f1,k1,cs,rfl,hl,hc⟩;refine⟨by rw[JV,hl,K8]; omega,?_⟩
  have hz:((cs.map λc=>(⟨[c].toArray⟩ : Kn)).map (·.length)).sum+(cs.map λc=>(⟨[c].toArray⟩ : Kn)).length*("" : Kn).length<=16777216:=by
   rw[oO,show("" : Kn).length=0 from rfl,Pw]
   omega
  refine ae (a:=(.str (SY "" (cs.map λc=>(⟨[c].toArray⟩ : Kn))),S1++[.lst (cs.map λc=>W.str ⟨[c].toArray⟩)])) ?_ (hR _ _ (k _ _ (by rw[r8,hl]) (λc h=>hc c (by rw[r8]at h; exact h)) (f1.ka .push) (k1.trans .push)))
  simp only[Me.fn,uH,fD,az af,md];rw[Ks hz]
theorem E7 (G:Gen defs){y:Kn}(hf:Fl S r)(h0:y.cps.toList.length<=6)(h1:vA y)(k:∀z S',Name z->Fl S' r->Kp r S S'->Q (.str z,S')) :
  wO (bM (aq defs fuel (d+3)) "_law_name" 2 [.ref r,.str y] S) Q:=by
 refine aL G.name rfl rfl λQ' hR=>?_
 replace k:∀z S',Name z->Fl S' r->Kp r S S'->Q' (.rt (.str z),S'):=λz S' a b c=>hR _ _ (k z S' a b c)
 clear hR;show wZ _ _ fR [ba (.ref r),ba (.str y),gV] S Q';dsimp only[fR];refine bm λK hK=>?_
 dsimp only[wS,wT,wE,wV,wG,Hg,wO,wB];refine aN (Q0:=Q') (λ_ Q2 _ hr=>?_) (λ_ Q2 hn _=>?_)
 ·refine st ?_;dsimp only[wS,wE,wA,wV,wG];refine bj (d:=d+1) G.pick hf (by decide) (by decide) λv S1 v0 v1 f1 k1=>?_
  dsimp only[dP,wO];refine jW (d:=d) G f1 (by omega) (by omega) λz S2 hz hs f2 k2=>?_
  have hl:(y++z).cps.toList.length=y.cps.toList.length+z.cps.toList.length:=by rw[fT,J8]
  refine ae (E4 (by rw[vB,vB,K8]; omega)) (hr _ _ (k _ _ ⟨by omega,by omega,λc hc=>?_⟩ f2 (k1.trans k2)))
  rw[fT]at hc;exact(K2.mp hc).elim (h1 c) (hs c)
 ·refine dq (hn _ _ (hK _ _ ?_));clear hn hK;refine bm λK hK=>?_
  dsimp only[wS,wT,wE,wA,wV,wG];refine bj (d:=d+1) G.pick hf (by decide) (by decide) λv S1 v0 v1 f1 k1=>?_
  dsimp only[je,wO,wB];refine aN (Q0:=Q') (λ_ Q2 _ hr=>?_) (λ_ Q2 hn _=>?_)
  ·refine st ?_;dsimp only[wS,wE,wA,wV,wG,Kj];refine st ?_;dsimp only[wS,wE,wA,wV,wG,Kj];refine ae (t9 (i:=S1.length) (j:=(S1++[_]).length) (ap af) af (jh rfl)) ?_;dsimp only;refine st ?_;dsimp only[wS,wE,wA,wV,wG,Kj];refine bj (d:=d+1) G.pick (((f1.ka .push).ka .push).ka .push) (by decide) (by decide) λv S2 v0 v1 f2 k2=>?_
   have e:=k2.get _ _ (by have:=f1.lt; simp only[J8]; omega) af
   obtain⟨z,hz,ez⟩:=mh (f:=W.str) (xs:=zL) (i:=v.toNat) (by show v.toNat < 14; omega)
   exact ik e v0 ez (hr _ _ (k _ _ (w6 z hz) f2 (k1.trans (Kp.push.trans (Kp.push.trans (Kp.push.trans k2))))))
  ·refine dq (hn _ _ (hK _ _ ?_));clear hn hK;refine st ?_;dsimp only[wS,wE,wA,wV,wG];refine bj (d:=d+1) G.pick f1 (by decide) (by decide) λv S2 v0 v1 f2 k2=>?_
   dsimp only[dP,wO];exact jW (d:=d) G f2 (by omega) (by omega) λz S3 hz hs f3 k3=>k _ _ ⟨by omega,by omega,hs⟩ f3 (k1.trans (k2.trans k3))
end
theorem iH {α:Type}[Nk α]:∀(l m:JT α),l.Nodup->(∀x∈l,x∈m)->l.length<=m.length
 | [],_,_,_=>LR _
 | x::l,m,hn,hs=>by
  rw[Mf]at hn;have hx:x∈m:=hs x (.head _);have h1:=iH l (m.erase x) hn.2 λy hy=>(List.mem_erase_of_ne (λ(e:y=x)=>hn.1 (by rw[<- e]; exact hy))).mpr (hs y (.tail _ hy))
  rw[List.length_erase_of_mem hx]at h1;have:=List.length_pos_of_mem hx;rw[La]; omega
noncomputable def nj (k:J3):Kn:=⟨[97+k].toArray⟩
theorem zM {a b:J3}(h:nj a=nj b):a=b:=by
 unfold nj at h;injection h with h
 injection h with h
 injection h with h
 omega
theorem r9 (s:J3):((KA s).map nj).Nodup:=by
 unfold Tt;rw[Ni];exact List.nodup_range.imp λh e=>h (zM e)
theorem w8 {k:J3}(h:k < 26):Name (nj k):=⟨J7 1,(by decide:1<=8),λc hc=>by
 cases Kk.mp (show c∈[97+k]from hc)
 omega⟩
noncomputable def iI:JT Kn:=["marks","ways","bar","some","each","not","and","or","is"]
theorem zN (zs:JT Kn):(zs.map W.str).all cG=true:=by
 rw[Kr];intro x hx;obtain⟨z,_,rfl⟩:=Ko.mp hx;rfl
theorem Cw (zs:JT Kn)(y:Kn):((zs.map W.str).any λz=>AN z (.str y))=decide (y∈zs):=by
 induction zs with
 | nil=>rfl
 | cons z zs ih=>
  rw[Lu,Mz,ih];show((z==y)||_)=_
  by_cases h:z=y
  ·subst h; simp
  ·have:(z==y)=false:=by simpa using h
   rw[this,O4];have h2:(y∈z::zs)=(y∈zs):=by simp[Ne.symm h]
   simp only[h2]
theorem w9 {S:aa}{t:J3}{zs:JT Kn}{y:Kn}(h:S[t]?=ba (.lst (zs.map W.str))):eQ .isin (.str y) (.ref t) S=ba (.bl (decide (y∈zs)),S):=by
 simp only[eQ,p8 h,jG,FJ,C8,fD,az h];rw[Ks (by rw[zN]; rfl),Cw]
 rfl
theorem E8 {S:aa}{k:J3}:gg .mul (.str ⟨[k].toArray⟩) (.int 1) S=ba (.str ⟨[k].toArray⟩,S):=by
 simp only[gg,xY];rw[Ks ⟨by decide,by decide,by show 1*1<=sizeLine; rw[K8]; decide⟩]
 rfl
theorem ji {xs:JT W}{k:J3}:jH xs gV (ba (k:Kh))=xs.take k:=by
 unfold jH;rw[HT.lA,HT.uu,P3,SM]
 by_cases h:k<=xs.length
 ·rw[RJ h]
 ·rw[Rs (by omega),Mw (J7 _),Mw (by omega)]
theorem mj {xs:JT W}{k:J3}:jH xs (ba (k:Kh)) gV=xs.drop k:=by
 unfold jH;rw[HT.lA,HT.uu]
 by_cases h:k<=xs.length
 ·rw[RJ h,Mw (by rw[MA]; exact J7 _)]
 ·rw[Rs (by omega),N1 (J7 _),N1 (by omega)]; exact List.take_nil
section
variable{defs:JT (Kn×Df)}{fuel d:J3}{S:aa}{r:J3}{Q:QW}
theorem Cy {Φ:Kn->FF}{m z w:W}{t:J3}{y:Kn}{zs:JT Kn}{K:Fm->aa->Prop}{Q:QO}(hfu:20 < fuel)(hy:Name y)(e:S[t]?=ba (.lst (zs.map W.str)))(hl:zs.length<=15)
  (k:∀y s,Name y->y∉zs->K [ba (.ref r),ba m,ba z,ba (.ref t),ba w,ba (.str y),ba s] S) :
  wS Φ fuel (.whl (.cmp .isin (.v 5) (.v 3)) (.cons (.set 5 (.op .mul (.ix (.c (.str "abcdefghijklmnopqrstuvwxyz")) (.op .mod (.v 6) (.c (.int 26)))) (.op .add (.c (.int 1)) (.op .fdiv (.v 6) (.c (.int 26)))))) (.cons (.set 6 (.op .add (.v 6) (.c (.int 1)))) .nil)))
   [ba (.ref r),ba m,ba z,ba (.ref t),ba w,ba (.str y),ba (.int 0)] S K Q:=by
 dsimp only[wS];refine zI (λmm ρ S'=>∃(s:J3) (y:Kn),ρ=[ba (.ref r),ba m,ba z,ba (.ref t),ba w,ba (.str y),ba (.int s)]/\S'=S/\mm+s=18/\s<=16/\Name y/\(0 < s->y=nj (s - 1))/\∀k,k+1 < s->nj k∈zs) 18 rfl rfl (by omega) ⟨0,y,rfl,rfl,rfl,by exact Kd rfl,hy,λh=>absurd h (by omega),λk h=>absurd h (by omega)⟩ ?_
 rintro mm ρ S' ⟨s,y',rfl,rfl,hm,hs,hy',hc1,hc2⟩;dsimp only[wT,wE,wV,wG];refine ae (w9 e) ⟨λhin=>?_,λhout=>k _ _ hy' (L1 hout)⟩
 have all:∀k,k < s->nj k∈zs:=λk hk=>by
  by_cases h:k+1 < s
  ·exact hc2 k h
  ·have e:k=s - 1:=by omega
   rw[e,<- hc1 (Q8 ‹_›)]; exact KQ hin
 have hs15:s<=15:=by
  have h7:=iH ((KA s).map nj) zs (r9 s) λx hx=>by
   obtain⟨k,hk,rfl⟩:=Ko.mp hx;exact all k (KU.mp hk)
  rw[JV,KI]at h7;exact Kc ‹_› ‹_›
 refine⟨mm - 1,by omega,λQ2 hn _=>?_⟩
 have em:((s:Kh) % 26)=s:=Int.emod_eq_of_lt (by omega) (by omega)
 have ed:((s:Kh) / 26)=0:=Int.ediv_eq_zero_of_lt (by omega) (by omega)
 refine st ?_;dsimp only[wS,wE,wV,wG,Kj];refine ae (jd (by decide)) ?_
 rw[em];refine ae (Dp (i:=(s:Kh)) vz (KG s) (zK ⟨s,by exact MG ‹_› (Kd rfl)⟩)) ?_
 have e2:gg .fdiv (.int s) (.int 26) S'=ba (.int 0,S'):=by rw[iF (by omega) (by omega),ed]
 dsimp only;rw[e2];dsimp only[dP,aT];rw[show(1:Kh)+0=1 from rfl]
 refine ae E8 ?_;refine st ?_;dsimp only[wS,wE,wV,wG,Kj,dP,aT];exact dq (hn _ _ ⟨s+1,nj s,rfl,rfl,by omega,by omega,w8 (by exact MG ‹_› (Kd rfl)),λ_=>rfl,λk hk=>all k (by omega)⟩)
theorem Cz (hfu:20 < fuel)(G:Gen defs){m:J3}(hf:Fl S r)(h1:m<=6)(k:∀(ys:JT Kn) S',ys.length=m->(∀y∈ys,Name y)->(iI++ys).Nodup->Fl S' r->Kp r S S'->Q (.tup (ys.map W.str),S')) :
  wO (bM (aq defs fuel (d+4)) "_law_names" 2 [.ref r,.int m] S) Q:=by
 refine aL G.names rfl rfl λQ' hR=>?_
 replace k:∀(ys:JT Kn) S',ys.length=m->(∀y∈ys,Name y)->(iI++ys).Nodup->Fl S' r->Kp r S S'->Q' (.rt (.tup (ys.map W.str)),S'):=λz S' a b c e f=>hR _ _ (k z S' a b c e f)
 clear hR;show wZ _ _ cZ [ba (.ref r),ba (.int m),gV,gV,gV,gV,gV] S Q';have bT:∀(z:Kn) (S2:aa),z.cps.toList.length<=6->vA z->Fl S2 r->Kp r S S2->wZ (aq defs fuel (d+3)) fuel (dr 2 cZ) [ba (.ref r),ba (.int m),ba (.str z),gV,gV,gV,gV] S2 Q':=by
  intro z S2 hz1 hz2 f2 k2;dsimp only[dr,cZ];have hrt:=f2.lt;have hSt:=k2.len;refine st ?_;dsimp only[wS,wE,wA,wV,wG,Kj];refine bm λK hK=>?_
  refine ee (m:Kh) (λi ρ S'=>∃a4 a5 a6 ys,ρ=[ba (.ref r),ba (.int m),ba (.str z),ba (.ref S2.length),a4,a5,a6]/\S'[S2.length]?=ba (.lst ((iI++ys).map W.str))/\ys.length=i/\(∀y∈ys,Name y)/\(iI++ys).Nodup/\Fl S' r/\Kp r S S') rfl rfl (by omega) ?_ ?_ ?_
  ·dsimp only[wE,wV,wG];exact⟨rfl,gV,gV,gV,[],rfl,af,rfl,λ_ h=>(nomatch h),by decide,f2.ka .push,k2.trans .push⟩
  ·rintro i ρ S3 hi ⟨a4,a5,a6,ys,rfl,e3,hy1,hy2,hy3,f3,k3⟩ Q2 hn _;clear hK;refine st ?_;dsimp only[wS,wE,wA,wV,wG,Kj];refine E7 (d:=d) G f3 hz1 hz2 λy S4 hy f4 k4=>?_
   have e4:=k4.get _ _ (KM ‹_›) e3;refine st ?_;dsimp only[wS,wE,wA,wV,wG,Kj];refine st (Cy hfu hy e4 (by rw[J8,hy1]; show 9+i<=15; omega) λy' s hy' hnot=>?_)
   refine st ?_;dsimp only[wS,wE,wA,wV,wG,Kj];refine⟨dD e4,oN e4 (by rw[JV,J8,hy1]; show 9+i < 1000; omega) ?_⟩
   refine dq (hn _ _ ⟨_,_,_,ys++[y'],rfl,?_,by rw[J8,hy1]; rfl,λx hx=>?_,?_,f4.own hrt,(k3.trans k4).late hSt⟩)
   ·rw[bV e4,<- Mq,KS (l₁:=iI++ys)]; rfl
   ·rcases K2.mp hx with h|h
    ·exact hy2 x h
    ·rw[Kk.mp h]; exact hy'
   ·rw[<- Mq,Nj];refine⟨hy3,by simp,λa ha b hb e=>?_⟩
    rw[Kk.mp hb]at e;exact hnot (e ▸ ha)
  ·rintro ρ S3 ⟨a4,a5,a6,ys,rfl,e3,hy1,hy2,hy3,f3,k3⟩;refine hK _ _ (st ?_);dsimp only[wS,wE,wA,wV,wG,wP,wN];have hs:pE (.ref S2.length) (ba 9) gV S3=ba (.ref S3.length,S3++[.lst (ys.map W.str)]):=by
    have:jH ((iI++ys).map W.str) (ba ((9:J3):Kh)) gV=ys.map W.str:=by
     rw[mj,KS];exact RK rfl
    simp only[pE,az e3];rw[show(ba 9:J1 Kh)=ba ((9:J3):Kh)from rfl,this]
   refine ae hs (d4 af (k _ _ ?_ hy2 hy3 (f3.ka .push) (k3.trans .push)));rw[hy1]; exact Km m
 dsimp only[cZ];refine st ?_;dsimp only[wS,wE,Kj];refine bm λK hK=>?_
 dsimp only[wS,wT,wE,wA,wV,wG];refine bj (d:=d+2) G.pick hf (by decide) (by decide) λv S1 v0 v1 f1 k1=>?_
 dsimp only[je,wO,wB];refine aN (Q0:=Q') (λ_ Q2 hn _=>?_) (λ_ Q2 hn _=>?_)
 ·refine st ?_;dsimp only[wS,wE,wA,wV,wG,Kj];refine bj (d:=d+2) G.pick f1 (by decide) (by decide) λv S2 v0 v1 f2 k2=>?_
  dsimp only[dP,wO];exact jW (d:=d+1) G f2 (by omega) (by omega) λz S3 hz hs f3 k3=>dq (hn _ _ (hK _ _ (bT z S3 (by omega) hs f3 (k1.trans (k2.trans k3)))))
 ·exact dq (hn _ _ (hK _ _ (bT "" S1 (by decide) (λc hc=>nomatch hc) f1 k1)))
end
noncomputable abbrev Pt:=Kh×JT Kh
noncomputable abbrev Wd:=JT Pt
noncomputable def dR (p:Pt):W:=.tup [.int p.1,.tup (p.2.map W.int)]
noncomputable def bB (u:Wd):W:=.tup (u.map dR)
noncomputable def gU (p:Pt):T:=.tup [.int p.1,.tup (p.2.map T.int)]
noncomputable def cC (u:Wd):T:=.tup (u.map gU)
theorem vC:∀xs:JT Kh,T.ws (xs.map T.int)=xs.map W.int
 | []=>rfl
 | x::xs=>by simp[T.ws,T.w,vC xs]
theorem Hq (p:Pt):(gU p).w=dR p:=by simp[gU,dR,T.w,T.ws,vC]
theorem ud:∀u:Wd,T.ws (u.map gU)=u.map dR
 | []=>rfl
 | p::u=>by simp[T.ws,Hq,ud u]
theorem zO (u:Wd):(cC u).w=bB u:=by simp[cC,bB,T.w,ud]
theorem Hr (u:Wd):W.t (bB u)=ba (cC u):=by rw[<- zO]; exact T.w_t _
theorem ue:∀us:JT Wd,T.ws (us.map cC)=us.map bB
 | []=>rfl
 | u::us=>by simp[T.ws,zO,ue us]
theorem vD (us:JT Wd):W.ts (us.map bB)=ba (us.map cC):=by rw[<- ue]; exact T.ws_ts _
theorem mo:∀xs:JT Kh,T.depths (xs.map T.int)=0
 | []=>rfl
 | x::xs=>by simp[T.depths,T.depth,mo xs]
theorem zP (p:Pt):(gU p).depth=2:=by simp[gU,T.depth,T.depths,mo]
theorem jX:∀u:Wd,T.depths (u.map gU)<=2
 | []=>by simp[T.depths]
 | p::u=>by
  have:=jX u;simp only[Lu,T.depths,zP]; omega
theorem mq (u:Wd):(cC u).depth<=3:=by
 have:=jX u;simp only[cC,T.depth]; omega
theorem fI:∀us:JT Wd,T.depths (us.map cC)<=3
 | []=>by simp[T.depths]
 | u::us=>by
  have:=fI us;have:=mq u;simp only[Lu,T.depths]; omega
theorem E9 (u:Wd):gR (bB u)=ba (cC u):=by
 unfold gR;rw[Hr];show(if (cC u).isTup=true/\(cC u).depth<=aG then _ else _)=_
 rw[Ks ⟨rfl,by have:=mq u; unfold aG; exact Kc ‹_› (Kd rfl)⟩]
mutual
noncomputable def qc:T->T->KD
 | .int _,.int _=>true
 | .str _,.str _=>true
 | .tup xs,.tup ys=>fJ xs ys
 | _,_=>false
noncomputable def fJ:JT T->JT T->KD
 | [],_=>true
 | _,[]=>true
 | x::xs,y::ys=>qc x y&&fJ xs ys
end
mutual
theorem uf:∀x y:T,qc x y=true->(hZ x y).isSome=true
 | .int _,.int _,_=>rfl
 | .str _,.str _,_=>rfl
 | .tup xs,.tup ys,h=>by
  simp only[qc]at h;simp only[hZ];exact vE xs ys h
 | .int _,.str _,h|.int _,.tup _,h|.str _,.int _,h|.str _,.tup _,h|.tup _,.int _,h|.tup _,.str _,h=>by simp[qc]at h
theorem vE:∀xs ys:JT T,fJ xs ys=true->(dt xs ys).isSome=true
 | [],[],_=>rfl
 | [],_::_,_=>rfl
 | _::_,[],_=>rfl
 | x::xs,y::ys,h=>by
  simp only[fJ,J2]at h;simp only[dt];split
  ·exact vE xs ys h.2
  ·exact uf x y h.1
end
theorem sa:∀xs ys:JT Kh,fJ (xs.map T.int) (ys.map T.int)=true
 | [],_=>by simp[fJ]
 | _::_,[]=>by simp[fJ]
 | x::xs,y::ys=>by simp[fJ,qc,sa xs ys]
theorem zQ (p q:Pt):qc (gU p) (gU q)=true:=by simp[gU,qc,fJ,sa]
theorem vF:∀u v:Wd,fJ (u.map gU) (v.map gU)=true
 | [],_=>by simp[fJ]
 | _::_,[]=>by simp[fJ]
 | p::u,q::v=>by simp[fJ,zQ,vF u v]
theorem Fa (u v:Wd):qc (cC u) (cC v)=true:=by simp[cC,qc,vF]
theorem eA (us:JT Wd):eW (us.map cC)=true:=by
 unfold eW;rw[Kr];intro x hx;obtain⟨u,_,rfl⟩:=Ko.mp hx;rw[Kr];intro y hy;obtain⟨v,_,rfl⟩:=Ko.mp hy;exact uf _ _ (Fa u v)
theorem zR (us:JT Wd)(h:∀u∈us,u≠[]):(tB (us.map cC)).isSome=true:=by
 unfold tB;split
 ·rfl
 ·split
  ·rfl
  ·split
   ·rfl
   ·split
    ·rfl
    ·split
     ·rfl
     ·rename_i h5;exfalso;apply h5;rw[Kr];intro x hx;obtain⟨u,hu,rfl⟩:=Ko.mp hx;cases u with
      | nil=>exact absurd rfl (h [] hu)
      | cons p u=>rfl
noncomputable def dy (bs:JT Kh)(u:Wd)(i j:J3):Kh:=if j < i then((u.getD i (0,[])).2).getD j 0 else bs.getD (((u.getD j (0,[])).2).getD i 0).toNat 0
noncomputable def aA (bs:JT Kh)(u:Wd)(ps:JT J3):Wd:=(KA ps.length).map λk=>((u.getD (ps.getD k 0) (0,[])).1,(ps.take k).map λj=>dy bs u (ps.getD k 0) j)
noncomputable def bz:JT (JT J3):=[[0,1,2],[0,2,1],[1,0,2],[1,2,0],[2,0,1],[2,1,0]]
noncomputable def kO (bs:JT Kh)(u:Wd):Wd:=(bz.map (aA bs u)).getD (iA ((bz.map (aA bs u)).map cC)) []
noncomputable def bJ (n:Kn)(b:Kh):W:=.tup [.str n,.int b]
structure GoodW (a n:J3)(u:Wd):Prop where
 mark:∀(k:J3) (p:Pt),u[k]?=ba p->0<=p.1/\p.1 < a
 len:∀(k:J3) (p:Pt),u[k]?=ba p->p.2.length=k
 way:∀(k:J3) (p:Pt),u[k]?=ba p->∀w∈p.2,0<=w/\w < n
noncomputable def GoodB (bs:JT Kh):Prop:=bs=[0]\/bs=[0,1]\/bs=[1,0]\/bs=[0,1,2]\/bs=[1,0,2]\/bs=[0,2,1]
theorem GoodB.rng {bs:JT Kh}(h:GoodB bs):∀k:J3,k < bs.length->∃b:Kh,bs[k]?=ba b/\0<=b/\b < bs.length:=by
 rcases h with rfl|rfl|rfl|rfl|rfl|rfl <;> intro k hk
 ·match k,hk with
  | 0,_=>exact⟨0,rfl,by decide,by decide⟩
 ·match k,hk with
  | 0,_=>exact⟨0,rfl,by decide,by decide⟩
  | 1,_=>exact⟨1,rfl,by decide,by decide⟩
 ·match k,hk with
  | 0,_=>exact⟨1,rfl,by decide,by decide⟩
  | 1,_=>exact⟨0,rfl,by decide,by decide⟩
 ·match k,hk with
  | 0,_=>exact⟨0,rfl,by decide,by decide⟩
  | 1,_=>exact⟨1,rfl,by decide,by decide⟩
  | 2,_=>exact⟨2,rfl,by decide,by decide⟩
 ·match k,hk with
  | 0,_=>exact⟨1,rfl,by decide,by decide⟩
  | 1,_=>exact⟨0,rfl,by decide,by decide⟩
  | 2,_=>exact⟨2,rfl,by decide,by decide⟩
 ·match k,hk with
  | 0,_=>exact⟨0,rfl,by decide,by decide⟩
  | 1,_=>exact⟨2,rfl,by decide,by decide⟩
  | 2,_=>exact⟨1,rfl,by decide,by decide⟩
theorem getD_some {α:Type}{xs:JT α}{i:J3}{x d:α}(h:xs[i]?=ba x):xs.getD i d=x:=by simp[h]
theorem aD {α:Type}{xs:JT α}{i:J3}{d:α}(h:i < xs.length):xs[i]?=ba (xs.getD i d):=by simp[h]
theorem iJ {ns:JT Kn}{bs:JT Kh}{k:J3}{n:Kn}{b:Kh}(h1:ns[k]?=ba n)(h2:bs[k]?=ba b):(Kv bJ ns bs)[k]?=ba (bJ n b):=by
 rw[PX,h1,h2]
noncomputable def al (ps:JT J3):JT W:=ps.map λ(p:J3)=>W.int (p:Kh)
theorem lu {ps:JT J3}{k p:J3}(h:ps[k]?=ba p):(al ps)[k]?=ba (.int p):=by simp[al,h]
theorem bW (bs:JT Kh)(u:Wd)(ps:JT J3):(aA bs u ps).length=ps.length:=by unfold aA; rw[JV,KI]
theorem oP {u:Wd}{i:J3}(hi:i < u.length):(u.map dR)[((i:J3):Kh).toNat]?=ba (dR (u.getD i (0,[]))):=by
 rw[Km,J6,aD hi]; rfl
section
variable{defs:JT (Kn×Df)}{fuel d:J3}{S:aa}{r:J3}{Q:QW}
theorem zS {Φ:Kn->FF}{m0 b0:W}{ns:JT Kn}{bs:JT Kh}{a:J3}{u:Wd}{i j:J3}{Q:QO}(hb:GoodB bs)(hl:ns.length=bs.length)(hu:GoodW a bs.length u)(hi:i < u.length)(hj:j < u.length)(hij:i≠j)(k:Q (.rt (.int (dy bs u i j)),S)) :
  wZ Φ fuel dH [ba (.tup [m0,.tup (Kv bJ ns bs),b0]),ba (bB u),ba (.int i),ba (.int j)] S Q:=by
 have hpi:=aD (d:=(0,[])) hi;have hpj:=aD (d:=(0,[])) hj;unfold dy at k;dsimp only[dH];refine bm λK hK=>?_
 dsimp only[wS,wT,wE,wV,wG,zD,wO,wB,bB];refine aN (Q0:=Q) (λh Q2 _ hr=>?_) (λh Q2 hn _=>?_)
 ·have hji:j < i:=by have:=KQ h; exact Ma.mp ‹_›
  rw[Ks hji]at k;have hw:j < (u.getD i (0,[])).2.length:=by rw[hu.len i _ hpi]; exact hji
  refine st ?_;dsimp only[wS,wE,wV,wG];refine ay (KG i) (oP hi) (ay (by decide) rfl (ay (KG j) ?_ (hr _ _ k)))
  rw[Km,J6,aD (d:=0) hw]; rfl
 ·have hji:¬ j < i:=by have:=L1 h; omega
  rw[KF hji]at k;refine dq (hn _ _ (hK _ _ ?_));clear hn hK;have hw:i < (u.getD j (0,[])).2.length:=by rw[hu.len j _ hpj]; omega
  have hg:=aD (d:=0) hw;obtain⟨g1,g2⟩:=hu.way j _ hpj _ (Kf hg);obtain⟨b,hb1,hb2,hb3⟩:=hb.rng ((u.getD j (0,[])).2.getD i 0).toNat (by omega)
  have hn:((u.getD j (0,[])).2.getD i 0).toNat < ns.length:=by omega
  rw[getD_some hb1]at k;refine st ?_;dsimp only[wS,wE,wV,wG];refine ay (by decide) rfl (ay (KG j) (oP hj) (ay (by decide) rfl (ay (KG i) ?_ (ay g1 (iJ (J5 hn) hb1) (ay (by decide) rfl k)))))
  rw[Km,J6,hg]; rfl
theorem xa (G:Gen defs){m0 b0:W}{ns:JT Kn}{bs:JT Kh}{a:J3}{u:Wd}{i j:J3}(hb:GoodB bs)(hl:ns.length=bs.length)(hu:GoodW a bs.length u)(hi:i < u.length)(hj:j < u.length)(hij:i≠j)(k:Q (.int (dy bs u i j),S)) :
  wO (bM (aq defs fuel (d+1)) "_law_between" 4 [.tup [m0,.tup (Kv bJ ns bs),b0],bB u,.int i,.int j] S) Q:=
 aL G.between rfl rfl λQ' hR=>zS hb hl hu hi hj hij (hR _ _ k)
theorem ug (G:Gen defs){m0 b0:W}{ns:JT Kn}{bs:JT Kh}{a:J3}{u:Wd}{ps:JT J3}(hb:GoodB bs)(hl:ns.length=bs.length)(hu:GoodW a bs.length u)(hps:∀p∈ps,p < u.length)(hnd:ps.Nodup)(hsz:ps.length < 1000)(k:∀S',Ka S S'->Q (bB (aA bs u ps),S')) :
  wO (bM (aq defs fuel (d+2)) "_law_part" 3 [.tup [m0,.tup (Kv bJ ns bs),b0],bB u,.tup (al ps)] S) Q:=by
 refine aL G.part rfl rfl λQ' hR=>?_
 replace k:∀S',Ka S S'->Q' (.rt (bB (aA bs u ps)),S'):=λS' a=>hR _ _ (k S' a)
 clear hR;show wZ _ _ fS [ba (.tup [m0,.tup (Kv bJ ns bs),b0]),ba (bB u),ba (.tup (al ps)),gV,gV,gV] S Q';generalize hR0:W.tup [m0,.tup (Kv bJ ns bs),b0]=R;dsimp only[fS];refine st ?_;dsimp only[wS,wE,wA,Kj];refine bm λK hK=>?_
 have nl:(al ps).length=ps.length:=JV ..;refine ee (ps.length:Kh) (λk ρ S'=>∃a4 a5,ρ=[ba R,ba (bB u),ba (.tup (al ps)),ba (.ref S.length),a4,a5]/\S'[S.length]?=ba (.lst (((aA bs u ps).take k).map dR))/\Ka S S') rfl rfl (by omega) ?_ ?_ ?_
 ·dsimp only[wE,wA,wV,wG];refine cH ?_;rw[nl];exact⟨rfl,gV,gV,rfl,af,.push⟩
 ·rintro i ρ S1 hi ⟨a4,a5,rfl,e1,k1⟩ Q2 hn _;clear hK;have hi':i < ps.length:=by exact Ma.mp ‹_›
  have hp:ps[i]?=ba ps[i]:=J5 hi';have hpu:ps[i] < u.length:=hps _ (K1 hi');refine st ?_;dsimp only[wS,wE,wV,wG,Kj];refine ay (KG i) (by rw[Km]; exact lu hp) ?_
  refine st ?_;dsimp only[wS,wE,wA,wV,wG,Kj];refine⟨dD e1,ay (KG _) (oP hpu) (ay (by decide) rfl ?_)⟩
  refine qb (al (ps.take i)) (λj ys ρ2 S2=>(∃a1,ρ2=[gV,a1,ba (.int ps[i]),ba R,ba (bB u)])/\ys=((ps.take i).take j).map (λq=>W.int (dy bs u ps[i] q))/\Ka S1 S2) rfl rfl rfl ?_ ?_ ?_
  ·dsimp only[wE,wP,wV,wG,wN];refine ae (a:=(.tup (al (ps.take i)),S1)) ?_ ⟨rfl,⟨gV,rfl⟩,rfl,.refl⟩;simp only[pE,ji];unfold al;rw[O8]
  ·rintro j w ys ρ2 S2 hw ⟨⟨a1,rfl⟩,rfl,k2⟩;have hjl:j < (ps.take i).length:=by
    have:=(J9.mp hw).1;unfold al at this
    rwa [JV]at this
   have hq:(ps.take i)[j]?=ba (ps.take i)[j]:=J5 hjl;cases(lu hq).symm.trans hw;have hj:j < i:=by rw[Lj]at hjl; omega
   have eq:(ps.take i)[j]=ps[j]'(Pq ‹_› ‹_›):=O0;generalize(ps.take i)[j]=q at hq eq ⊢;refine ae (show ic (.nm 1) (.int (q:Kh)) [gV,a1,ba (.int ps[i]),ba R,ba (bB u)] S2=ba ([gV,ba (.int (q:Kh)),ba (.int ps[i]),ba R,ba (bB u)],S2)from rfl) ?_
   dsimp only[iS,wC,wE,wA,wV,wG];subst hR0;refine⟨λ_=>xa (d:=d) G hb hl hu hpu (by rw[eq]; exact hps _ (K1 _)) ?_ ⟨⟨_,rfl⟩,?_,k2⟩,λz=>by cases z⟩
   ·rw[eq];intro h;have:=(MZ hnd).mp h;omega
   ·rw[KZ,hq];simp
  ·rintro ys ρ2 S2 ⟨_,rfl,k2⟩;rw[show(al (ps.take i)).length=(ps.take i).length from JV ..,Lm]
   refine⟨lr (by rw[JV,Lj]; omega),d4 af ?_⟩
   have e2:=ap (u:=O.lst ((ps.take i).map λq=>W.int (dy bs u ps[i] q))) (k2.get _ _ e1)
   refine oN e2 (by rw[JV,Lj]; omega) (dq (hn _ _ ⟨_,_,rfl,?_,((k1.trans k2).trans .push).late (J7 _)⟩))
   rw[bV e2];have ep:(aA bs u ps)[i]?=ba ((u.getD ps[i] (0,[])).1,(ps.take i).map λq=>dy bs u ps[i] q):=by
    unfold aA;rw[J6,Mu hi',K4,getD_some hp]
   rw[KZ,ep];simp[dR,Ra]
 ·rintro ρ S1 ⟨a4,a5,rfl,e1,k1⟩;rw[Km,<- bW bs u ps,Lm]at e1;refine hK _ _ (st ?_);dsimp only[wS,wE,wA,wV,wG];exact d4 e1 (k _ k1)
theorem qd (G:Gen defs)(k:Q (.ref S.length,S++[.lst (bz.map λt=>W.tup (al t))])):wO (bM (aq defs fuel (d+1)) "_law_turns" 0 [] S) Q:=by
 refine aL G.turns rfl rfl λQ' hR=>?_
 dsimp only[gv];refine st ?_;dsimp only[wS,wE,wA];exact hR _ _ k
theorem eN (bt:J3->J3->KD):∀n:J3,argBest bt n<=n
 | 0=>J7 _
 | n+1=>by have:=eN bt n; simp only[argBest]; split <;> omega
theorem jj (G:Gen defs){m0 b0:W}{ns:JT Kn}{bs:JT Kh}{a:J3}{u:Wd}(hb:GoodB bs)(hl:ns.length=bs.length)(hu:GoodW a bs.length u)(h3:u.length=3)(k:∀S',Ka S S'->Q (bB (kO bs u),S')) :
  wO (bM (aq defs fuel (d+3)) "_law_figure" 2 [.tup [m0,.tup (Kv bJ ns bs),b0],bB u] S) Q:=by
 refine aL G.figure rfl rfl λQ' hR=>?_
 replace k:∀S',Ka S S'->Q' (.rt (bB (kO bs u)),S'):=λS' a=>hR _ _ (k S' a)
 clear hR;show wZ _ _ eg [ba (.tup [m0,.tup (Kv bJ ns bs),b0]),ba (bB u)] S Q';generalize hR0:W.tup [m0,.tup (Kv bJ ns bs),b0]=R;dsimp only[eg];refine st ?_;dsimp only[wS,wE,wA];refine vy S.length (bz.map λt=>W.tup (al t)) (λi ys ρ2 S2=>(∃a1,ρ2=[gV,a1,ba R,ba (bB u)])/\ys=((bz.take i).map λt=>bB (aA bs u t))/\Ka (S++[.lst (bz.map λt=>W.tup (al t))]) S2) rfl rfl rfl ?_ ?_ ?_ ?_
 ·dsimp only[wE,wA];exact qd (d:=d+1) G ⟨rfl,⟨gV,rfl⟩,rfl,.refl⟩
 ·rintro i ys ρ2 S2 ⟨_,_,k2⟩;exact k2.get _ _ af
 ·rintro i w ys ρ2 S2 hw ⟨⟨a1,rfl⟩,rfl,k2⟩;rw[J6,J0]at hw;obtain⟨t,ht,rfl⟩:=hw;have ht3:(∀p∈t,p < 3)/\t.Nodup/\t.length < 1000:=by
   have:∀t∈bz,(∀p∈t,p < 3)/\t.Nodup/\t.length < 1000:=by decide
   exact this t (Kf ht)
  refine ae (show ic (.nm 1) (.tup (al t)) [gV,a1,ba R,ba (bB u)] S2=ba ([gV,ba (.tup (al t)),ba R,ba (bB u)],S2)from rfl) ?_
  dsimp only[iS,wC,wE,wA,wV,wG];subst hR0;refine⟨λ_=>ug (d:=d) G hb hl hu (λp hp=>by rw[h3]; exact ht3.1 p hp) ht3.2.1 ht3.2.2 λS3 k3=>⟨⟨_,rfl⟩,?_,k2.trans k3⟩,λz=>by cases z⟩
  rw[KZ,ht];simp
 ·rintro ys ρ2 S2 ⟨_,rfl,k2⟩;have e:((bz.take (bz.map λt=>W.tup (al t)).length).map λt=>bB (aA bs u t))=(bz.map (aA bs u)).map bB:=by
   rw[JV,Lm,LN]; rfl
  rw[e];refine⟨jh rfl,ae (a:=(bB (kO bs u),S2++[.lst ((bz.map (aA bs u)).map bB)])) ?_ (k _ ((Ka.push.trans k2).trans .push))⟩;simp only[Bi.fn,ww,az af,vD];rw[Ks ⟨by have:=fI (bz.map (aA bs u)); unfold ci; exact Kc ‹_› (Kd rfl),eA _⟩]
  unfold kO;have hlt:iA ((bz.map (aA bs u)).map cC) < (bz.map (aA bs u)).length:=MG (eN _ _) (by decide:5 < 6)
  rw[J6,aD (d:=[]) hlt];rfl
end
noncomputable def ag (xs:JT Kh):JT W:=xs.map W.int
noncomputable def dh (us:JT Wd):JT Wd:=dN (mV (us.map cC)) [] us
theorem sd {α β:Type}{lt:J3->J3->KD}{d:α}{d':β}{f:α->β}{us:JT α}:dN lt d' (us.map f)=(dN lt d us).map f:=by
 unfold dN;rw[JV];split
 ·rfl
 ·rw[LN];refine LG λi hi=>?_
  have hl:i < us.length:=ln (by omega) i hi
  simp[hl]
theorem uh {S:aa}{x:W}{us:JT Wd}(h:eE S x=ba (us.map bB))(h64:us.length < 64)(hne:∀u∈us,u≠[]):fO [x] S=ba (.ref S.length,S++[.lst ((dh us).map bB)]):=by
 have ok:iy (us.map cC)=true:=by
  unfold iy;simp only[J2,LX,Kq,JV];exact⟨⟨h64,by have:=fI us; unfold ci; exact Kc ‹_› (Kd rfl)⟩,.inr ⟨zR us hne,eA us⟩⟩
 simp only[fO,h,vD];rw[Ks ok,sd (d:=[])];rfl
noncomputable def d6 (ms ns:JT Kn)(bs:JT Kh)(us:JT Wd):W:=.tup [.tup (ms.map W.str),.tup (Kv bJ ns bs),.tup (us.map bB)]
structure GoodN (ms ns:JT Kn):Prop where
 name:∀y∈ms++ns,Name y
 nd:(iI++(ms++ns)).Nodup
theorem GoodW.nil {a n:J3}:GoodW a n []:=⟨λk p h=>(by simp at h),λk p h=>(by simp at h),λk p h=>(by simp at h)⟩
theorem GoodW.snoc {a n:J3}{u:Wd}{m:Kh}{ws:JT Kh}(h:GoodW a n u)(h1:0<=m/\m < a)(h2:ws.length=u.length)(h3:∀w∈ws,0<=w/\w < (n:Kh)):GoodW a n (u++[(m,ws)]):=by
 have key:∀(k:J3) (p:Pt),(u++[(m,ws)])[k]?=ba p->u[k]?=ba p\/(k=u.length/\p=(m,ws)):=λk p e=>by
  rcases Nat.lt_or_ge k u.length with hk|hk
  ·rw[K9 hk]at e; exact .inl e
  ·rw[MD hk]at e;have:k - u.length=0:=by
    have:=(J9.mp e).1;simp at this; assumption
   rw[this]at e;cases e;exact .inr ⟨by omega,rfl⟩
 refine⟨λk p e=>?_,λk p e=>?_,λk p e=>?_⟩ <;> rcases key k p e with e|⟨rfl,rfl⟩
 ·exact h.mark k p e
 ·exact h1
 ·exact h.len k p e
 ·exact h2
 ·exact h.way k p e
 ·exact h3
theorem GoodB.inv {bs:JT Kh}(h:GoodB bs):∀k:J3,k < bs.length->bs.getD (bs.getD k 0).toNat 0=k:=by
 rcases h with rfl|rfl|rfl|rfl|rfl|rfl <;> decide
theorem GoodB.at {bs:JT Kh}(h:GoodB bs){x:Kh}(h0:0<=x)(h1:x < bs.length):bs[x.toNat]?=ba (bs.getD x.toNat 0)/\0<=bs.getD x.toNat 0/\bs.getD x.toNat 0 < bs.length:=by
 obtain⟨b,h2,h3⟩:=h.rng x.toNat (by omega)
 rw[getD_some h2];exact⟨h2,h3⟩
theorem CA {S:aa}{x:W}{xs:JT W}(h:eE S x=ba xs):dc [x] S=gV:=by
 cases x with
 | ref i=>
  have e2:FK S i=gV:=by
   unfold FK;cases e:S[i]? with
   | none=>rfl
   | some o=>
    cases o with
    | stt ss=>simp[eE,gf,kB,e]at h
    | _=>rfl
  simp only[dc,e2]
 | _=>rfl
theorem zU {S:aa}{x:W}{us:JT Wd}{Q:QW}(h:eE S x=ba (us.map bB))(h64:us.length < 64)(hne:∀u∈us,u≠[])(q:Q (.ref S.length,S++[.lst ((dh us).map bB)])):wO (Bi.sorted.fn [x] S) Q:=by
 refine ae ?_ q;show(match dc [x] S with
  | some r=>ba r
  | none=>fO [x] S)=_
 rw[CA h];exact uh h h64 hne
noncomputable def zW:JT (J3×J3):=[(1,1),(2,1),(3,1),(1,2),(1,2),(2,2),(2,2),(3,2),(1,3),(1,3),(2,3)]
theorem zX:∀p∈zW,1<=p.1/\p.1<=3/\1<=p.2/\p.2<=3/\p.1*p.2<=6:=by decide
noncomputable def mr:J3->JT (JT Kh)
 | 1=>[[0]]
 | 2=>[[0,1],[1,0]]
 | _=>[[0,1,2],[1,0,2],[0,2,1]]
theorem zY:∀n:J3,1<=n->n<=3->(∀b∈mr n,GoodB b/\b.length=n)/\0 < (mr n).length/\(mr n).length<=3
 | 1,_,_=>⟨λb h=>by cases Kk.mp h; exact⟨.inl rfl,rfl⟩,by decide,by decide⟩
 | 2,_,_=>⟨λb h=>by
   rcases Kz.mp h with rfl|h
   ·exact⟨.inr (.inl rfl),rfl⟩
   ·cases Kk.mp h; exact⟨.inr (.inr (.inl rfl)),rfl⟩,by decide,by decide⟩
 | 3,_,_=>⟨λb h=>by
   rcases Kz.mp h with rfl|h
   ·exact⟨.inr (.inr (.inr (.inl rfl))),rfl⟩
   ·rcases Kz.mp h with rfl|h
    ·exact⟨.inr (.inr (.inr (.inr (.inl rfl)))),rfl⟩
    ·cases Kk.mp h; exact⟨.inr (.inr (.inr (.inr (.inr rfl)))),rfl⟩,by decide,by decide⟩
 | 0,h,_=>absurd h (by decide)
 | n+4,_,h=>absurd h (by omega)
section
variable{defs:JT (Kn×Df)}{fuel d:J3}{S:aa}{r:J3}{Q:QW}
theorem qf (G:Gen defs)(hf:Fl S r)(k:∀(a n:J3) S',1<=a->a<=3->1<=n->n<=3->a*n<=6->Fl S' r->Kp r S S'->Q (.tup [.int a,.int n],S')) :
  wO (bM (aq defs fuel (d+2)) "_law_sizes" 1 [.ref r] S) Q:=by
 refine aL G.sizes rfl rfl λQ' hR=>?_
 show wZ _ _ eZ [ba (.ref r),gV] S Q';dsimp only[eZ];refine st ?_;dsimp only[wS,wE,wA,Kj];refine st ?_;dsimp only[wS,wE,wA,wV,wG];refine bj (d:=d) G.pick (hf.ka .push) (by decide) (by decide) λv S1 v0 v1 f1 k1=>?_
 have e:=k1.get _ _ (KM hf.lt) af;obtain⟨p,hp,ep⟩:=mh (f:=λp:J3×J3=>W.tup [.int p.1,.int p.2]) (xs:=zW) (i:=v.toNat) (by show v.toNat < 11; omega)
 obtain⟨a1,a3,n1,n3,an⟩:=zX p hp;exact ik e v0 ep (hR _ _ (k _ _ _ a1 a3 n1 n3 an f1 (Kp.push.trans k1)))
theorem qh (G:Gen defs){n:J3}(hf:Fl S r)(h1:1<=n)(h3:n<=3)(k:∀(bs:JT Kh) S',GoodB bs->bs.length=n->Fl S' r->Kp r S S'->Q (.tup (ag bs),S')) :
  wO (bM (aq defs fuel (d+2)) "_law_backs" 2 [.ref r,.int n] S) Q:=by
 refine aL G.backs rfl rfl λQ' hR=>?_
 replace k:∀(bs:JT Kh) S',GoodB bs->bs.length=n->Fl S' r->Kp r S S'->Q' (.rt (.tup (ag bs)),S'):=λz S' a b c e=>hR _ _ (k z S' a b c e)
 clear hR;show wZ _ _ eY [ba (.ref r),ba (.int n),gV] S Q';dsimp only[eY];refine bm λK hK=>?_
 dsimp only[wS,wE,wA,wV,wG,Kj];dsimp only[Dm,aT];obtain⟨hg,g0,g3⟩:=zY n h1 h3;have fin:∀(t:J3) (S1:aa),S.length<=t->S1[t]?=ba (.lst ((mr n).map λb=>.tup (ag b)))->Ka S S1->K [ba (.ref r),ba (.int n),ba (.ref t)] S1:=by
  intro t S1 ht et ka;refine hK _ _ (st ?_);dsimp only[wS,wE,wA,wV,wG];refine fH et ?_;rw[JV];refine bj (d:=d) G.pick (hf.ka ka) (by omega) (by omega) λv S2 v0 v1 f2 k2=>?_
  have e2:=k2.get _ _ (by have:=hf.lt; omega) et
  obtain⟨b,hb,eb⟩:=mh (f:=λb:JT Kh=>W.tup (ag b)) (xs:=mr n) (i:=v.toNat) (by omega)
  exact ik e2 v0 eb (k b S2 (hg b hb).1 (hg b hb).2 f2 ((ka.kp r).trans k2))
 clear hK g0 g3 hg;rcases(show n=1\/n=2\/n=3 by omega)with rfl|rfl|rfl
 ·exact eR (i:=0) af rfl (fin _ _ (J7 _) (ap (ap (ap af))) (Ka.push.trans (Ka.push.trans (Ka.push.trans .push))))
 ·exact eR (i:=1) af rfl (fin _ _ (by simp) (ap (ap af)) (Ka.push.trans (Ka.push.trans (Ka.push.trans .push))))
 ·exact eR (i:=2) af rfl (fin _ _ (by simp only[J8]; omega) (ap af) (Ka.push.trans (Ka.push.trans (Ka.push.trans .push))))
theorem oQ (hfu:20 < fuel)(G:Gen defs){a:J3}{bs:JT Kh}{x:W}{us:JT Wd}(hf:Fl S r)(ha:a<=3)(hb:bs.length<=3)(hx:∀S',Kp r S S'->eE S' x=ba (us.map bB))(h64:us.length < 64)(hne:∀u∈us,u≠[])
  (k:∀(ms ns:JT Kn) S',ms.length=a->ns.length=bs.length->GoodN ms ns->Fl S' r->Kp r S S'->Q (d6 ms ns bs (dh us),S')) :
  wO (bM (aq defs fuel (d+5)) "_law_rule_of" 4 [.ref r,.int a,.tup (ag bs),x] S) Q:=by
 refine aL G.rule_of rfl rfl λQ' hR=>?_
 replace k:∀(ms ns:JT Kn) S',ms.length=a->ns.length=bs.length->GoodN ms ns->Fl S' r->Kp r S S'->Q' (.rt (d6 ms ns bs (dh us)),S'):=λz y S' a b c e f=>hR _ _ (k z y S' a b c e f)
 clear hR;show wZ _ _ dI [ba (.ref r),ba (.int a),ba (.tup (ag bs)),ba x,gV,gV] S Q';have hbl:(ag bs).length=bs.length:=JV ..;dsimp only[dI];refine bm λK hK=>?_
 dsimp only[wS,wE,wA,wV,wG,Kj];refine cH ?_;rw[hbl];dsimp only[dP,aT];refine Cz (d:=d) (m:=a+bs.length) hfu G hf (by omega) λys S1 q2 q3 q4 f1 k1=>hK _ _ ?_
 clear hK K;have hzl:(Kv bJ (ys.drop a) bs).length=bs.length:=by
  rw[LP,MA]; omega
 refine bm λK hK=>?_
 dsimp only[wS,wE,wA,Kj];refine dF (bs.length:Kh) (λk zs ρ2 S2=>(∃a1,ρ2=[gV,a1,ba (.tup (ag bs)),ba (.int a),ba (.tup (ys.map W.str))])/\zs=((Kv bJ (ys.drop a) bs).take k)/\S2=S1) rfl rfl rfl (by omega) ?_ ?_ ?_
 ·dsimp only[wE,wA,wV,wG];refine cH ?_;rw[hbl];exact⟨rfl,⟨gV,rfl⟩,rfl,rfl⟩
 ·rintro i zs ρ2 S2 hi ⟨⟨a1,rfl⟩,rfl,rfl⟩;clear hK;have hi':i < bs.length:=by exact Ma.mp ‹_›
  have h1:a+i < ys.length:=by omega
  dsimp only[iS,wC,wE,wA,wV,wG,Kj,dP,aT];refine⟨λ_=>ay (by omega) (w:=.str ys[a+i]) ?_ (ay (by omega) (w:=.int bs[i]) ?_ ⟨⟨_,rfl⟩,?_,rfl⟩),λz=>by cases z⟩
  ·rw[show((a:Kh)+(i:Kh)).toNat=a+i by omega,J6,J5 h1]; rfl
  ·unfold ag;rw[Km,J6,J5 hi']; rfl
  ·have ez:(Kv bJ (ys.drop a) bs)[i]?=ba (bJ ys[a+i] bs[i]):=iJ (by rw[List.getElem?_drop]; exact J5 h1) (J5 hi')
   rw[KZ,ez];rfl
 ·rintro zs ρ2 S2 ⟨_,rfl,rfl⟩;rw[Km,<- hzl,Lm];refine⟨lr (by omega),d4 af (hK _ _ ?_)⟩
  clear hK K;refine st ?_;dsimp only[wS,wE,wA,wP,wV,wG,wN];have hs:pE (.tup (ys.map W.str)) gV (ba (a:Kh)) (S2++[O.lst (Kv bJ (ys.drop a) bs)])=ba (.tup ((ys.take a).map W.str),S2++[O.lst (Kv bJ (ys.drop a) bs)]):=by
   simp only[pE,ji];rw[O8]
  refine ae hs (zU (hx _ (k1.trans .push)) h64 hne (d4 af ?_));refine k (ys.take a) (ys.drop a) _ ?_ ?_ ⟨?_,?_⟩ ((f1.ka .push).ka .push) (k1.trans (Kp.push.trans .push))
  ·rw[Lj]; omega
  ·rw[MA]; omega
  ·rw[N4]; exact q3
  ·rw[N4]; exact q4
theorem fU (hfu:20 < fuel)(G:Gen defs){a:J3}{bs:JT Kh}(hf:Fl S r)(ha:a<=3)(hb:bs.length<=3)
  (k:∀(ms ns:JT Kn) S',ms.length=a->ns.length=bs.length->GoodN ms ns->Fl S' r->Kp r S S'->Q (d6 ms ns bs [],S')) :
  wO (bM (aq defs fuel (d+5)) "_law_rule_of" 4 [.ref r,.int a,.tup (ag bs),.tup []] S) Q:=
 oQ hfu G hf ha hb (us:=[]) (λ_ _=>rfl) (by decide) (λ_ h=>nomatch h) k
theorem draws {Φ:Kn->FF}{ρ:Fm}{elt e:E}{cap:JT (J1 J3)}{n i:J3}{R:Fm}(oe:ey elt=true)(oi:ey e=true)(h1:i<=1000)(hc:fP cap ρ=gV::gV::R)(hf:Fl S r)(he:∀Q:QW,Q (.int i,S)->wE Φ e ρ S Q)
  (hp:∀(a:J1 W) (S1:aa) (Q:QW),Fl S1 r->(∀v S',0<=v->v < (n:Kh)->Fl S' r->Kp r S1 S'->Q (.int v,S'))->wE Φ elt (gV::a::R) S1 Q)
  (k:∀(vs:JT Kh) S',vs.length=i->(∀w∈vs,0<=w/\w < (n:Kh))->Fl S' r->Kp r S S'->Q (.ref S'.length,S'++[.lst (ag vs)])) :
  Wp (aH Φ (.comp elt (.nm 1) (.rng (.cons e .nil)) .nil cap) ρ S) Q:=by
 refine dF (i:Kh) (λj ys ρ2 S3=>(∃a1,ρ2=gV::a1::R)/\(∃vs:JT Kh,ys=ag vs/\vs.length=j/\∀w∈vs,0<=w/\w < (n:Kh))/\Fl S3 r/\Kp r S S3) oi oe rfl (by omega) (he _ ⟨rfl,⟨gV,hc⟩,⟨[],rfl,rfl,λ_ h=>nomatch h⟩,hf,.refl⟩) ?_ ?_
 ·rintro j ys ρ2 S3 hj ⟨⟨a1,rfl⟩,⟨vs,rfl,hvl,hv⟩,f3,k3⟩;refine⟨λ_=>hp _ _ _ f3 λv S4 v0 v1 f4 k4=>⟨⟨_,rfl⟩,⟨vs++[v],(KS (l₁:=vs) (l₂:=[v])).symm,by rw[J8,hvl]; rfl,λw hw=>?_⟩,f4,k3.trans k4⟩,λz=>by cases z⟩
  rcases K2.mp hw with h|h
  ·exact hv w h
  ·rw[Kk.mp h]; exact⟨v0,v1⟩
 ·rintro ys ρ2 S3 ⟨_,⟨vs,rfl,hvl,hv⟩,f3,k3⟩;rw[Km]at hvl;exact⟨lr (by rw[show(ag vs).length=vs.length from JV ..]; omega),k vs S3 hvl hv f3 k3⟩
theorem jk (G:Gen defs){a n:J3}(hf:Fl S r)(ha:0 < a)(ha3:a<=3)(hn:0 < n)(hn3:n<=3)(k:∀(u:Wd) S',u.length=3->GoodW a n u->Fl S' r->Kp r S S'->Q (bB u,S')) :
  wO (bM (aq defs fuel (d+2)) "_law_free_three" 3 [.ref r,.int a,.int n] S) Q:=by
 refine aL G.free_three rfl rfl λQ' hR=>?_
 replace k:∀(u:Wd) S',u.length=3->GoodW a n u->Fl S' r->Kp r S S'->Q' (.rt (bB u),S'):=λz S' a b c e=>hR _ _ (k z S' a b c e)
 clear hR;show wZ _ _ cz [ba (.ref r),ba (.int a),ba (.int n),gV,gV] S Q';dsimp only[cz];have hrt:=hf.lt;refine st ?_;dsimp only[wS,wE,wA,Kj];refine bm λK hK=>?_
 refine ee 3 (λk ρ S'=>∃a4 u,ρ=[ba (.ref r),ba (.int a),ba (.int n),ba (.ref S.length),a4]/\S'[S.length]?=ba (.lst (u.map dR))/\u.length=k/\GoodW a n u/\Fl S' r/\Kp r S S') rfl rfl (by decide) ⟨rfl,gV,[],rfl,af,rfl,.nil,hf.ka .push,.push⟩ ?_ ?_
 ·rintro i ρ S1 hi ⟨a4,u,rfl,e1,hul,hu,f1,k1⟩ Q2 hn' _;clear hK;refine st ?_;dsimp only[wS,wE,wA,wV,wG,Kj];refine⟨dD e1,bj (d:=d) G.pick f1 (by omega) (by omega) λv S2 v0 v1 f2 k2=>?_⟩
  have e2:=k2.get _ _ (KM ‹_›) e1;refine draws (n:=n) (i:=i) (R:=[ba (.ref r),ba (.int n)]) rfl rfl (by omega) rfl f2 (λQ q=>q) (λa S1 Q f q=>bj (d:=d) G.pick f (by omega) (by omega) q) λvs S3 hvl hv f3 k3=>?_
  have e3:=ap (u:=O.lst (ag vs)) (k3.get _ _ (KM ‹_›) e2);refine d4 af (oN e3 (by rw[JV]; omega) (dq (hn' _ _ ⟨_,u++[(v,vs)],rfl,?_,by rw[J8,hul]; rfl,hu.snoc ⟨v0,v1⟩ (hvl.trans hul.symm) hv,(f3.ka .push).own hrt,(k1.trans (k2.trans (k3.trans .push))).late (J7 _)⟩)))
  rw[bV e3,KS]; rfl
 ·rintro ρ S1 ⟨a4,u,rfl,e1,hul,hu,f1,k1⟩;refine hK _ _ (st ?_);dsimp only[wS,wE,wA,wV,wG];exact d4 e1 (k u _ hul hu f1 k1)
theorem sf (G:Gen defs)(hg:Is defs ("_law_any_world" : Kn) 3 6 cg){a:J3}{bs:JT Kh}{ms ns:JT Kn}{b0:W}{many:J3}(hf:Fl S r)(ha:0 < a)(ha3:a<=3)(hb:GoodB bs)(hml:ms.length=a)(hnl:ns.length=bs.length)(hm:many<=999)(k:∀(u:Wd) S',u.length=many->GoodW a bs.length u->Fl S' r->Kp r S S'->Q (bB u,S')) :
  wO (bM (aq defs fuel (d+2)) "_law_any_world" 3 [.ref r,.tup [.tup (ms.map W.str),.tup (Kv bJ ns bs),b0],.int many] S) Q:=by
 refine aL hg rfl rfl λQ' hR=>?_
 replace k:∀(u:Wd) S',u.length=many->GoodW a bs.length u->Fl S' r->Kp r S S'->Q' (.rt (bB u),S'):=λz S' a b c e=>hR _ _ (k z S' a b c e)
 clear hR;have hb1:1<=bs.length/\bs.length<=3:=by rcases hb with rfl|rfl|rfl|rfl|rfl|rfl <;> decide
 have hzl:(Kv bJ ns bs).length=bs.length:=by rw[LP]; omega
 have hmm:(ms.map W.str).length=a:=by rw[JV,hml]
 generalize ms.map W.str=M at hmm;generalize Kv bJ ns bs=N at hzl;show wZ _ _ cg [ba (.ref r),ba (.tup [.tup M,.tup N,b0]),ba (.int many),gV,gV,gV] S Q';dsimp only[cg];have hrt:=hf.lt;refine st ?_;dsimp only[wS,wE,wA,Kj];refine bm λK hK=>?_
 refine ee (many:Kh) (λk ρ S'=>∃a4 a5 u,ρ=[ba (.ref r),ba (.tup [.tup M,.tup N,b0]),ba (.int many),ba (.ref S.length),a4,a5]/\S'[S.length]?=ba (.lst (u.map dR))/\u.length=k/\GoodW a bs.length u/\Fl S' r/\Kp r S S') rfl rfl (by omega) ⟨rfl,gV,gV,[],rfl,af,rfl,.nil,hf.ka .push,.push⟩ ?_ ?_
 ·rintro i ρ S1 hi ⟨a4,a5,u,rfl,e1,hul,hu,f1,k1⟩ Q2 hn' _;clear hK;refine st ?_;dsimp only[wS,wE,wA,wV,wG,Kj];refine ay (by decide) rfl (cH ?_)
  rw[hmm];refine bj (d:=d) G.pick f1 (by omega) (by omega) λv S2 v0 v1 f2 k2=>?_
  have e2:=k2.get _ _ (KM ‹_›) e1;refine st ?_;dsimp only[wS,wE,wA,wV,wG,Kj];refine⟨dD e2,draws (n:=bs.length) (i:=i) (R:=[ba (.ref r),ba (.tup [.tup M,.tup N,b0])]) rfl rfl (by omega) rfl f2 (λQ q=>q) (λa S1 Q f q=>?_) λvs S3 hvl hv f3 k3=>?_⟩
  ·dsimp only[wE,wA,wV,wG];refine ay (by decide) rfl (cH ?_)
   rw[hzl];exact bj (d:=d) G.pick f (by omega) (by omega) q
  have e3:=ap (u:=O.lst (ag vs)) (k3.get _ _ (KM ‹_›) e2);refine d4 af (oN e3 (by rw[JV]; omega) (dq (hn' _ _ ⟨_,_,u++[(v,vs)],rfl,?_,by rw[J8,hul]; rfl,hu.snoc ⟨v0,v1⟩ (hvl.trans hul.symm) hv,(f3.ka .push).own hrt,(k1.trans (k2.trans (k3.trans .push))).late (J7 _)⟩)))
  rw[bV e3,KS]; rfl
 ·rintro ρ S1 ⟨a4,a5,u,rfl,e1,hul,hu,f1,k1⟩;refine hK _ _ (st ?_);dsimp only[wS,wE,wA,wV,wG];exact d4 e1 (k u _ (by omega) hu f1 k1)
end
noncomputable def fu (n:J3):JT Kh:=(KA n).map λ(k:J3)=>(k:Kh)
noncomputable def zZ (a n:J3):JT Wd:=(fu a).flatMap λm0=>(fu a).flatMap λm1=>(fu a).flatMap λm2=>(fu n).flatMap λw1=>(fu n).flatMap λw2=>(fu n).map λw3=>[(m0,[]),(m1,[w1]),(m2,[w2,w3])]
noncomputable def bn (a:J3)(bs:JT Kh):JT Wd:=((zZ a bs.length).map (kO bs)).eraseDups
theorem di {n:J3}{x:Kh}(h0:0<=x)(h1:x < n):x∈fu n:=Ko.mpr ⟨x.toNat,KU.mpr (by omega),by omega⟩
theorem xb {a n:J3}{u:Wd}(h:GoodW a n u)(h3:u.length=3):u∈zZ a n:=by
 match u,h3 with
 | [(m0,w0),(m1,w1),(m2,w2)],_=>
  have l0:=h.len 0 _ rfl;have l1:=h.len 1 _ rfl;have l2:=h.len 2 _ rfl;simp only at l0 l1 l2
  match w0,l0 with
  | [],_=>
   match w1,l1 with
   | [x],_=>
    match w2,l2 with
    | [y,z],_=>
     have a0:=h.mark 0 _ rfl;have a1:=h.mark 1 _ rfl;have a2:=h.mark 2 _ rfl;have b1:=h.way 1 _ rfl x (by simp)
     have b2:=h.way 2 _ rfl y (by simp)
     have b3:=h.way 2 _ rfl z (by simp)
     unfold zZ;simp only[Oa,Ko];exact⟨m0,di a0.1 a0.2,m1,di a1.1 a1.2,m2,di a2.1 a2.2,x,di b1.1 b1.2,y,di b2.1 b2.2,z,di b3.1 b3.2,rfl⟩
theorem vG {a:J3}{bs:JT Kh}{u:Wd}(h:GoodW a bs.length u)(h3:u.length=3):kO bs u∈bn a bs:=by
 unfold bn;rw[QG];exact Ko.mpr ⟨u,xb h h3,rfl⟩
structure SizeOk (a:J3)(bs:JT Kh):Prop where
 pos:0 < a
 good:GoodB bs
 most:a*bs.length<=6
 a3:a<=3
theorem SizeOk.n3 {a:J3}{bs:JT Kh}(h:SizeOk a bs):0 < bs.length/\bs.length<=3:=by
 rcases h.good with rfl|rfl|rfl|rfl|rfl|rfl <;> decide
theorem Jh:(bn 1 [0]).length < 64/\(bn 2 [0]).length < 64/\(bn 3 [0]).length < 64:=by decide +kernel
theorem HR:(bn 1 [0,1]).length < 64/\(bn 2 [0,1]).length < 64/\(bn 1 [1,0]).length < 64/\(bn 2 [1,0]).length < 64:=by decide +kernel
theorem Ji:(bn 1 [0,1,2]).length < 64/\(bn 1 [1,0,2]).length < 64/\(bn 1 [0,2,1]).length < 64:=by decide +kernel
theorem Jj:(bn 3 [0,1]).length < 64:=by decide +kernel
theorem Jk:(bn 3 [1,0]).length < 64:=by decide +kernel
theorem Jl:(bn 2 [0,1,2]).length < 64:=by decide +kernel
theorem Jm:(bn 2 [1,0,2]).length < 64:=by decide +kernel
theorem Jn:(bn 2 [0,2,1]).length < 64:=by decide +kernel
theorem qk {a:J3}{bs:JT Kh}(h:SizeOk a bs):(bn a bs).length < 64:=by
 obtain⟨h0,hb,hm,h3⟩:=h;have ha:a=1\/a=2\/a=3:=by omega
 rcases hb with rfl|rfl|rfl|rfl|rfl|rfl <;> rcases ha with rfl|rfl|rfl
 ·exact Jh.1
 ·exact Jh.2.1
 ·exact Jh.2.2
 ·exact HR.1
 ·exact HR.2.1
 ·exact Jj
 ·exact HR.2.2.1
 ·exact HR.2.2.2
 ·exact Jk
 ·exact Ji.1
 ·exact Jl
 ·simp at hm
 ·exact Ji.2.1
 ·exact Jm
 ·simp at hm
 ·exact Ji.2.2
 ·exact Jn
 ·simp at hm
theorem Aa (bs:JT Kh)(u:Wd):∃t∈bz,kO bs u=aA bs u t:=by
 have h7:(bz.map (aA bs u)).length=6:=by rw[JV]; rfl
 have h8:((bz.map (aA bs u)).map cC).length=6:=by rw[JV,h7]
 have hlt:iA ((bz.map (aA bs u)).map cC) < (bz.map (aA bs u)).length:=by
  unfold iA;have h6:=eN (mV ((bz.map (aA bs u)).map cC)) (((bz.map (aA bs u)).map cC).length - 1);rw[h7]; exact MG ‹_› (Kd rfl)
 unfold kO;rw[getD_some (J5 hlt)];obtain⟨t,ht,e⟩:=Ko.mp (K1 hlt);exact⟨t,ht,e.symm⟩
theorem CB (bs:JT Kh)(u:Wd):kO bs u≠[]:=by
 obtain⟨t,ht,e⟩:=Aa bs u;rw[e];have:∀t∈bz,t≠[]:=by decide
 have h:=this t ht;intro z;have hl:(aA bs u t).length=t.length:=by simp[aA]
 rw[z]at hl;exact h (Ms.mp hl.symm)
theorem sg:∀ {xs ys:JT Kh},xs.map T.int=ys.map T.int->xs=ys
 | [],[],_=>rfl
 | [],_::_,h=>by cases h
 | _::_,[],h=>by cases h
 | x::xs,y::ys,h=>by
  rw[Lu,Lu]at h;injection h with h1 h2
  injection h1 with h1
  rw[h1,sg h2]
theorem CC {p q:Pt}(h:gU p=gU q):p=q:=by
 unfold gU at h;injection h with h
 injection h with h1 h2
 injection h1 with h1
 injection h2 with h2 _
 injection h2 with h2
 exact TR h1 (sg h2)
theorem gN {u v:Wd}(h:cC u=cC v):u=v:=by
 unfold cC at h;injection h with h
 have inj:∀ {u v:Wd},u.map gU=v.map gU->u=v:=by
  intro u
  induction u with
  | nil=>intro v h; cases v with
   | nil=>rfl
   | cons _ _=>cases h
  | cons p u ih=>intro v h; cases v with
   | nil=>cases h
   | cons q v=>
    rw[Lu,Lu]at h;injection h with h1 h2
    rw[CC h1,ih h2]
 exact inj h
theorem oR {kvs:JT (T×W)}{k:T}{v:W}:(fm kvs k v).map (·.1)=if k∈kvs.map (·.1)then kvs.map (·.1)else kvs.map (·.1)++[k]:=by
 have hany:(kvs.any λp=>decide (p.1=k))=decide (k∈kvs.map (·.1)):=by
  induction kvs with
  | nil=>rfl
  | cons p kvs ih=>
   rw[Mz,ih,Lu]
   by_cases e:p.1=k
   ·subst e; simp
   ·rw[KN e,O4];have:(k∈p.1::kvs.map (·.1))=(k∈kvs.map (·.1)):=by simp[Ne.symm e]
    simp only[this]
 unfold fm;rw[hany]
 by_cases h:k∈kvs.map (·.1)
 ·rw[Ks h,Ks (Ly h),LN];refine LG λp _=>?_
  show(if p.1=k then(p.1,v)else p).1=p.1
  split <;> rfl
 ·rw[KF h,KF (by simpa using h),KS]
  rfl
structure FigD (L:JT Wd)(kvs:JT (T×W))(fs:JT Wd):Prop where
 keys:kvs.map (·.1)=fs.map cC
 nd:fs.Nodup
 mem:∀f∈fs,f∈L
theorem FigD.nil {L:JT Wd}:FigD L [] []:=⟨rfl,P7,λ_ h=>nomatch h⟩
theorem FigD.len {L:JT Wd}{kvs:JT (T×W)}{fs:JT Wd}(h:FigD L kvs fs):kvs.length=fs.length/\fs.length<=L.length:=by
 have:=congrArg SS h.keys;rw[JV,JV]at this;exact⟨this,iH fs L h.nd h.mem⟩
theorem FigD.put {L:JT Wd}{kvs:JT (T×W)}{fs:JT Wd}{f:Wd}{v:W}(h:FigD L kvs fs)(hf:f∈L):∃fs',FigD L (fm kvs (cC f) v) fs':=by
 by_cases hm:f∈fs
 ·refine⟨fs,?_,h.nd,h.mem⟩;rw[oR,Ks (by rw[h.keys]; exact Ko.mpr ⟨f,hm,rfl⟩),h.keys]
 ·refine⟨fs++[f],?_,?_,λg hg=>?_⟩
  ·rw[oR,KF,h.keys,KS]
   ·rfl
   ·rw[h.keys];intro z;obtain⟨g,hg,e⟩:=Ko.mp z;exact hm (gN e ▸ hg)
  ·rw[Nj];refine⟨h.nd,by simp,λa ha b hb e=>?_⟩
   rw[Kk.mp hb]at e;exact hm (e ▸ ha)
  ·rcases K2.mp hg with h'|h'
   ·exact h.mem g h'
   ·rw[Kk.mp h']; exact hf
theorem FigD.items {S:aa}{t:J3}{L:JT Wd}{kvs:JT (T×W)}{fs:JT Wd}(h:FigD L kvs fs)(e:S[t]?=ba (.dic kvs)):eE S (.ref t)=ba (fs.map bB):=by
 simp only[eE,p9 e,dE e,K4];congr 1;have:(kvs.map (·.1)).map T.w=(fs.map cC).map T.w:=by rw[h.keys]
 rw[LN,LN]at this
 calc kvs.map (λp=>p.1.w)=kvs.map (T.w∘λx=>x.1):=rfl
  _=fs.map (T.w∘cC):=this
  _=fs.map bB:=by
   refine LG λf _=>?_
   exact zO f
theorem sh {a:J3}{bs:JT Kh}{f:Wd}(h:f∈bn a bs):f≠[]:=by
 unfold bn at h;rw[QG]at h;obtain⟨u,_,rfl⟩:=Ko.mp h;exact CB bs u
theorem Hs {S:aa}{t:J3}{kvs:JT (T×W)}{u:Wd}{v:W}(h:S[t]?=ba (.dic kvs))(hl:kvs.length < sizeLine):i8 (.ref t) (bB u) v S=ba (S.set t (.dic (fm kvs (cC u) v))):=by
 have hk:=E9 u;unfold bB at hk ⊢;simp only[i8,pM,h,hk];rw[Ks hl]
structure RuleAt (a:J3)(bs:JT Kh)(ms ns:JT Kn)(gs:JT Wd):Prop where
 size:SizeOk a bs
 ml:ms.length=a
 nl:ns.length=bs.length
 nm:GoodN ms ns
 nd:gs.Nodup
 mem:∀g∈gs,g∈bn a bs
noncomputable def eO (w:W):Prop:=∃a bs ms ns gs,w=d6 ms ns bs (dh gs)/\RuleAt a bs ms ns gs
section
variable{Φ:Kn->FF}{fuel:J3}{ρ:Fm}{S:aa}{K:Fm->aa->Prop}{Q:QO}
theorem jl {i0:J3}{e:E}{b:Ss}(oe:ey e=true)(ok:iG b=true)(he:wE Φ e ρ S λp=>∃(j:Kh) (I:J3->Fm->aa->Prop),p.1=.int j/\(-(2 ^ 62)<=j/\j < 2 ^ 62)/\I 0 ρ p.2/\
  (∀(i:J3) (ρ:Fm) (S:aa),(i:Kh) < j->I i ρ S->zH Φ fuel b (ρ.set i0 (ba (.int i))) S (I (i+1)) Q)/\∀ρ S,I j.toNat ρ S->K ρ S):Wp (gJ Φ fuel (.loop (.nm i0) (.rng (.cons e .nil)) b) ρ S) (uc K Q):=by
 obtain⟨w,S1,e1,j,I,rfl,hj,h0,hs,hend⟩:=cu oe he;have hl:(du 0 j.toNat).length=j.toNat:=by simp[du]
 refine jV (mi:=.its (du 0 j.toNat)) (S1:=S1) (xs:=du 0 j.toNat) I ok ?_ (λ_ _ _ _=>rfl) rfl h0 (λi w ρ S hw hI=>?_) λρ S hI=>hend ρ S (hl ▸ hI)
 ·simp only[lp,dz,eF,jO,tR,e1];rw[Ks hj]
 ·rw[eG]at hw;split at hw
  ·rename_i hk;cases hw;rw[Ow];exact hs i ρ S (by omega) hI
  ·cases hw
theorem mw {tg:Tg}{e:E}{b:Ss}(oe:ey e=true)(ok:iG b=true)(he:wE Φ e ρ S λp=>∃(t:J3) (xs:JT W) (I:J3->Fm->aa->Prop),p.1=.ref t/\I 0 ρ p.2/\(∀i ρ S,I i ρ S->S[t]?=ba (.lst xs))/\
  (∀(i:J3) (w:W) (ρ:Fm) (S:aa),xs[i]?=ba w->I i ρ S->wO (ic tg w ρ S) λq=>zH Φ fuel b q.1 q.2 (I (i+1)) Q)/\∀ρ S,I xs.length ρ S->K ρ S):Wp (gJ Φ fuel (.loop tg (.seq e) b) ρ S) (uc K Q):=by
 obtain⟨w,S1,e1,t,xs,I,rfl,h0,hat,hs,hend⟩:=cu oe he;exact jV (mi:=.live t) (S1:=S1) I ok (by simp only[lp,fY,e1,az (hat _ _ _ h0)]) (λi ρ S h=>by simp only[MI.at,az (hat _ _ _ h)]) (by simp only[MI.len,az (hat _ _ _ h0),K4]) h0 hs hend
end
section
variable{defs:JT (Kn×Df)}{fuel d:J3}{S:aa}{r:J3}{Q:QW}
theorem Ab {q:J3}{a:J3}{bs:JT Kh}{ms ns:JT Kn}{fs0:JT Wd}{kvs:JT (T×W)}{fs:JT Wd}(h3:S[q]?=ba (.dic kvs))(h4:FigD (bn a bs) kvs fs)(hs:SizeOk a bs)(hml:ms.length=a)(hnl:ns.length=bs.length)(hnm:GoodN ms ns)(k:∀w S',eO w->Ka S S'->Q (w,S')) :
  wO (qH (d6 ms ns bs fs0) (.int 0) S) λp=>wO (qH (d6 ms ns bs fs0) (.int 1) p.2) λq'=>wO (Bi.sorted.fn [.ref q] q'.2) λs=>wO (Bi.tuple.fn [s.1] s.2) λz=>Q (.tup [p.1,q'.1,z.1],z.2):=by
 refine ay (by decide) rfl (ay (by decide) rfl ?_)
 have hl:=h4.len;exact zU (h4.items h3) (by have:=qk hs; omega) (λf hf=>sh (h4.mem f hf)) (d4 af (k _ _ ⟨a,bs,ms,ns,fs,rfl,hs,hml,hnl,hnm,h4.nd,h4.mem⟩ .push))
theorem Ac {q:J3}{a:J3}{bs:JT Kh}{u:Wd}{kvs:JT (T×W)}{fs:JT Wd}{Q:aa->Prop}(h3:S[q]?=ba (.dic kvs))(h4:FigD (bn a bs) kvs fs)(hs:SizeOk a bs)(hu:GoodW a bs.length u)(hu3:u.length=3)
  (k:∀o,(∃kvs fs,(S.set q o)[q]?=ba (.dic kvs)/\FigD (bn a bs) kvs fs)->Q (S.set q o)):wO (i8 (.ref q) (bB (kO bs u)) (.bl true) S) Q:=by
 have hl:=h4.len;have:=qk hs;obtain⟨fs',h5⟩:=h4.put (v:=.bl true) (vG hu hu3);exact ae (Hs h3 (by rw[K8]; omega)) (k _ ⟨_,fs',bV h3,h5⟩)
theorem uj (hfu:20 < fuel)(G:Gen defs)(hf:Fl S r)(k:∀w S',eO w->Fl S' r->Kp r S S'->Q (w,S')):wO (bM (aq defs fuel (d+6)) "_law_any_rule" 1 [.ref r] S) Q:=by
 refine aL G.any_rule rfl rfl λQ' hR=>?_
 replace k:∀w S',eO w->Fl S' r->Kp r S S'->Q' (.rt w,S'):=λz S' a b c=>hR _ _ (k z S' a b c)
 clear hR;show wZ _ _ dg [ba (.ref r),gV,gV,gV,gV,gV] S Q';dsimp only[dg];refine bm λK hK=>?_
 dsimp only[wS,wE,wA,wV,wG];refine qf (d:=d+3) G hf λa n S1 a1 a3 n1 n3 an f1 k1=>?_
 dsimp only[wU];refine ae (show dB [1,2] [.int a,.int n] [ba (.ref r),gV,gV,gV,gV,gV]=ba [ba (.ref r),ba (.int a),ba (.int n),gV,gV,gV]from rfl) (hK _ _ ?_)
 clear hK K;refine bm λK hK=>?_
 dsimp only[wS,wE,wA,wV,wG,Kj];refine qh (d:=d+3) G f1 n1 n3 λbs S2 hb hbl f2 k2=>?_
 have hsz:SizeOk a bs:=⟨by omega,hb,by rw[hbl]; exact an,a3⟩
 refine fU (d:=d) hfu G f2 a3 (by omega) λms ns S3 hml hnl hnm f3 k3=>hK _ _ ?_
 clear hK K;have hrt:=f3.lt;replace k3:Kp r S S3:=k1.trans (k2.trans k3);clear k1 k2 f1 f2;refine st ?_;dsimp only[wS,wE,Kj];refine bm λK hK=>?_
 refine jl rfl rfl ?_;dsimp only[wE,wA,wV,wG];refine bj (d:=d+4) G.pick (f3.ka .push) (by decide) (by decide) λv S4 v0 v9 f4 k4=>?_
 refine⟨v,λk ρ S'=>(∃a5,ρ=[ba (.ref r),ba (.int a),ba (.int n),ba (d6 ms ns bs []),ba (.ref S3.length),a5])/\(∃kvs fs,S'[S3.length]?=ba (.dic kvs)/\FigD (bn a bs) kvs fs)/\Fl S' r/\Kp r S S',rfl,by omega,⟨⟨gV,rfl⟩,⟨[],[],k4.get _ _ (KM ‹_›) af,.nil⟩,f4,(k3.trans .push).trans k4⟩,?_,?_⟩
 ·rintro i ρ S5 hi ⟨⟨a5,rfl⟩,⟨kvs,fs,e5,hd⟩,f5,k5⟩ Q2 hn _;clear hK;refine st ?_;dsimp only[wS,wE,wA,wV,wG,Kj];refine jk (d:=d+3) G f5 (by omega) a3 (by omega) n3 λu S6 hu3 hu f6 k6=>?_
  have hu:GoodW a bs.length u:=hbl.symm ▸ hu;refine jj (d:=d+2) G hb hnl hu hu3 λS7 k7=>?_
  have e7:=k7.get _ _ (k6.get _ _ (KM ‹_›) e5);exact Ac e7 hd hsz hu hu3 λo ho=>dq (hn _ _ ⟨⟨_,rfl⟩,ho,(f6.ka k7).own hrt,((k5.trans k6).trans (k7.kp r)).late k3.len⟩)
 ·rintro ρ S5 ⟨⟨a5,rfl⟩,⟨kvs,fs,e5,hd⟩,f5,k5⟩;refine hK _ _ (st ?_);dsimp only[wS,wE,wA,wV,wG];exact Ab (Q:=λp=>Q' (.rt p.1,p.2)) e5 hd hsz hml hnl hnm λw S6 hw k6=>k w S6 hw (f5.ka k6) (k5.trans (k6.kp r))
end
noncomputable def ql (t:Kh×Kh×Kh):W:=.tup [.int t.1,.int t.2.1,.int t.2.2]
noncomputable def si (a:J3)(t:Kh×Kh×Kh):Prop:=(0<=t.1/\t.1 < a)/\(0<=t.2.1/\t.2.1 < a)/\(0<=t.2.2/\t.2.2 < a)
noncomputable def Ad (k:Kh):Wd:=[(k,[]),(k,[0]),(k,[0,0])]
theorem Jo:∀k∈fu 1,Ad k∈bn 1 [0]:=by decide +kernel
theorem Jp:∀k∈fu 2,Ad k∈bn 2 [0]:=by decide +kernel
theorem Jq:∀k∈fu 3,Ad k∈bn 3 [0]:=by decide +kernel
theorem CD {a:J3}{k:Kh}(h0:1<=a)(h3:a<=3)(hk:0<=k)(hk2:k < a):Ad k∈bn a [0]:=by
 have ha:a=1\/a=2\/a=3:=by omega
 rcases ha with rfl|rfl|rfl
 ·exact Jo k (di hk hk2)
 ·exact Jp k (di hk hk2)
 ·exact Jq k (di hk hk2)
theorem CF {a b:Kh}(h:Ad a=Ad b):a=b:=by
 unfold Ad at h;injection h with h1 h2
 injection h1
theorem qm:GoodB [0]:=.inl rfl
theorem Ht {S:aa}{i j:J3}{xs:JT W}(h1:S[i]?=ba (.lst xs))(h2:S[j]?=ba (.lst [])):eQ .eq (.ref i) (.ref j) S=ba (.bl xs.isEmpty,S):=by
 show(kq S (19+1) (.ref i) (.ref j)).map _=_;simp only[kq,cQ h1,cQ h2];cases xs with
 | nil=>rfl
 | cons x xs=>rfl
theorem CG {S:aa}{f:Kh}{ws:JT Kh}:∃b,eQ .notin (.int f) (.tup (ag ws)) S=ba (.bl b,S):=by
 have hf:(cG (.int f)&&(ag ws).all cG)=true:=by
  simp only[cG,Od,Kr];intro x hx;obtain⟨z,_,rfl⟩:=Ko.mp hx;rfl
 refine⟨!(ag ws).any λz=>AN z (.int f),?_⟩
 show jG .notin (.int f) (.tup (ag ws)) S=_;simp only[jG,FJ,C8,fD,hf,LQ,K4]
section
variable{Φ:Kn->FF}{fuel:J3}{ρ:Fm}{S:aa}{K:Fm->aa->Prop}{Q:QO}
theorem Ae {i0:J3}{a b:E}{bd:Ss}(i j:Kh)(I:J3->Fm->aa->Prop)(oa:ey a=true)(ob:ey b=true)(ok:iG bd=true)(hj : -(2 ^ 62)<=i/\i < 2 ^ 62/\-(2 ^ 62)<=j/\j < 2 ^ 62)(he:wE Φ a ρ S λp=>p.1=.int i/\wE Φ b ρ p.2 λq=>q.1=.int j/\I 0 ρ q.2)
  (hstep:∀(k:J3) (ρ:Fm) (S:aa),(k:Kh) < j - i->I k ρ S->zH Φ fuel bd (ρ.set i0 (ba (.int (i+k)))) S (I (k+1)) Q) (hend:∀ρ S,I (j - i).toNat ρ S->K ρ S):Wp (gJ Φ fuel (.loop (.nm i0) (.rng2 (.cons a (.cons b .nil))) bd) ρ S) (uc K Q):=by
 obtain⟨w,S1,e1,rfl,h1⟩:=cu oa he;obtain⟨w,S2,e2,rfl,h0⟩:=cu ob h1;have hl:(du i (j - i).toNat).length=(j - i).toNat:=by simp[du]
 refine jV (mi:=.its (du i (j - i).toNat)) (S1:=S2) (xs:=du i (j - i).toNat) I ok ?_ (λ_ _ _ _=>rfl) rfl h0 (λk w ρ S hw hI=>?_) λρ S hI=>hend ρ S (hl ▸ hI)
 ·simp only[lp,dz,eF,jO,iRng2,e1,e2];rw[Ks hj]
 ·rw[eG]at hw;split at hw
  ·rename_i hk;cases hw;exact hstep k ρ S (by omega) hI
  ·cases hw
theorem Ag {elt a b:E}{i0:J3}{cs:Es}{cap:JT (J1 J3)}{Q:QW}(i j:Kh)(I:J3->JT W->Fm->aa->Prop)(oa:ey a=true)(ob:ey b=true)(oe:ey elt=true)(oc:qI cs=true)(hj : -(2 ^ 62)<=i/\i < 2 ^ 62/\-(2 ^ 62)<=j/\j < 2 ^ 62)(he:wE Φ a ρ S λp=>p.1=.int i/\wE Φ b ρ p.2 λq=>q.1=.int j/\I 0 [] (fP cap ρ) q.2)
  (hstep:∀(k:J3) (ys:JT W) (ρ:Fm) (S:aa),(k:Kh) < j - i->I k ys ρ S->iS Φ elt cs (ρ.set i0 (ba (.int (i+k)))) S (λy=>I (k+1) (ys++[y])) (I (k+1) ys))
  (hend:∀ys ρ S,I (j - i).toNat ys ρ S->ys.length<=sizeLine/\Q (.ref S.length,S++[.lst ys])):Wp (aH Φ (.comp elt (.nm i0) (.rng2 (.cons a (.cons b .nil))) cs cap) ρ S) Q:=by
 obtain⟨w,S1,e1,rfl,h1⟩:=cu oa he;obtain⟨w,S2,e2,rfl,h0⟩:=cu ob h1;have hl:(du i (j - i).toNat).length=(j - i).toNat:=by simp[du]
 refine ma (mi:=.its (du i (j - i).toNat)) (S1:=S2) (xs:=du i (j - i).toNat) I oe oc ?_ (λ_ _ _ _ _=>rfl) rfl h0 (λk w ys ρ S hw hI=>?_) λys ρ S hI=>hend ys ρ S (hl ▸ hI)
 ·simp only[lp,dz,eF,jO,iRng2,e1,e2];rw[Ks hj]
 ·rw[eG]at hw;split at hw
  ·rename_i hk;cases hw;exact hstep k ys ρ S (by omega) hI
  ·cases hw
end
section
variable{defs:JT (Kn×Df)}{fuel d:J3}{S:aa}{r:J3}{Q:QW}
theorem Ah (G:Gen defs){a:J3}(ha:a<=3)(k:∀(q:J3) (ts:JT (Kh×Kh×Kh)) (S':aa),S'[q]?=ba (.lst (ts.map ql))->(∀t∈ts,si a t)->S.length<=q->Ka S S'->Q (.ref q,S')) :
  wO (bM (aq defs fuel (d+1)) "_law_rising" 1 [.int a] S) Q:=by
 refine aL G.rising rfl rfl λQ' hR=>?_
 replace k:∀(q:J3) (ts:JT (Kh×Kh×Kh)) (S':aa),S'[q]?=ba (.lst (ts.map ql))->(∀t∈ts,si a t)->S.length<=q->Ka S S'->Q' (.rt (.ref q),S'):=λq ts S' a b c e=>hR _ _ (k q ts S' a b c e)
 clear hR;show wZ _ _ ej [ba (.int a),gV,gV,gV] S Q';dsimp only[ej];refine st ?_;dsimp only[wS,wE,wA,Kj];refine bm λK hK=>?_
 refine ee (a:Kh) (λi ρ S'=>∃(q:J3) (ts:JT (Kh×Kh×Kh)) (a2 a3:J1 W),ρ=[ba (.int a),ba (.ref q),a2,a3]/\S'[q]?=ba (.lst (ts.map ql))/\(∀t∈ts,si a t)/\S.length<=q/\ts.length<=9*i/\Ka S S') rfl rfl (by omega) ⟨rfl,_,[],_,_,rfl,af,λ_ h=>(nomatch h),J7 _,LR _,.push⟩ ?_ ?_
 ·rintro i ρ S1 hi ⟨q,ts,a2,a3,rfl,e1,ht,hq,hl,k1⟩ Q2 hn _;clear hK k;refine bm λK hK=>?_
  refine Ae (i:Kh) (a:Kh) (λj ρ S'=>∃(q:J3) (ts:JT (Kh×Kh×Kh)) (a3:J1 W),ρ=[ba (.int a),ba (.ref q),ba (.int i),a3]/\S'[q]?=ba (.lst (ts.map ql))/\(∀t∈ts,si a t)/\S.length<=q/\ts.length<=9*i+3*j/\Ka S S') rfl rfl rfl (by omega) ⟨rfl,rfl,q,ts,a3,rfl,e1,ht,hq,by omega,k1⟩ ?_ ?_
  ·rintro j ρ S2 hj ⟨q,ts,a3,rfl,e2,ht,hq,hl,k2⟩ Q3 hn3 _;clear hK hn;refine st ?_;dsimp only[wS,wE,wV,wG,Kj];refine Ag ((i:Kh)+j) (a:Kh) (λm ys ρ2 S3=>(∃a1,ρ2=[gV,a1,ba (.int i),ba (.int ((i:Kh)+j))])/\(∃us:JT (Kh×Kh×Kh),ys=us.map ql/\us.length=m/\∀t∈us,si a t)/\S3=S2) rfl rfl rfl rfl (by omega) ⟨rfl,rfl,⟨gV,rfl⟩,⟨[],rfl,rfl,λ_ h=>nomatch h⟩,rfl⟩ ?_ ?_
   ·rintro m ys ρ2 S3 hm ⟨⟨a1,rfl⟩,⟨us,rfl,hul,hu⟩,rfl⟩;refine⟨λ_=>⟨⟨_,rfl⟩,⟨us++[((i:Kh),(i:Kh)+j,(i:Kh)+j+m)],by rw[KS]; rfl,by rw[J8,hul]; rfl,λt h=>?_⟩,rfl⟩,λz=>by cases z⟩
    rcases K2.mp h with h|h
    ·exact hu t h
    ·rw[Kk.mp h];exact⟨⟨by omega,by assumption⟩,⟨by dsimp only; omega,by dsimp only; omega⟩,⟨by dsimp only; omega,by dsimp only; omega⟩⟩
   ·rintro ys ρ2 S3 ⟨_,⟨us,rfl,hul,hu⟩,rfl⟩;refine⟨lr (by rw[JV]; omega),ae (t9 (ap e2) af ?_) (dq (hn3 _ _ ⟨_,ts++us,_,rfl,?_,λt h=>(K2.mp h).elim (ht t) (hu t),?_,?_,k2.trans (Ka.push.trans .push)⟩))⟩
    ·refine lr ?_;rw[J8,JV,JV];omega
    ·rw[KS]; exact af
    ·have:=k2.len;simp only[J8]; omega
    ·rw[J8]; omega
  ·rintro ρ S2 ⟨q,ts,a3,rfl,e2,ht,hq,hl,k2⟩;exact hK _ _ (dq (hn _ _ ⟨q,ts,_,_,rfl,e2,ht,hq,by omega,k2⟩))
 ·rintro ρ S1 ⟨q,ts,a2,a3,rfl,e1,ht,hq,hl,k1⟩;refine hK _ _ (st ?_);exact k q ts S1 e1 ht hq k1
theorem xc (hfu:20 < fuel)(G:Gen defs)(hf:Fl S r)(k:∀w S',eO w->Fl S' r->Kp r S S'->Q (w,S')):wO (bM (aq defs fuel (d+6)) "_law_one_way_rule" 1 [.ref r] S) Q:=by
 refine aL G.one_way_rule rfl rfl λQ' hR=>?_
 replace k:∀w S',eO w->Fl S' r->Kp r S S'->Q' (.rt w,S'):=λz S' a b c=>hR _ _ (k z S' a b c)
 clear hR;show wZ _ _ ce [ba (.ref r),gV,gV] S Q';dsimp only[ce];refine bm λK hK=>?_
 dsimp only[wS,wE,wA,wV,wG,Kj];refine bj (d:=d+4) G.pick hf (by decide) (by decide) λv S1 v0 v3 f1 k1=>?_
 dsimp only[dP,aT];obtain⟨a,ea⟩ : ∃a:J3,1+v=a:=⟨(1+v).toNat,by omega⟩
 rw[ea];refine hK _ _ ?_;clear hK K;refine bm λK hK=>?_
 dsimp only[wS,wE,Kj];refine dF (a:Kh) (λk zs ρ2 S2=>(∃a1,ρ2=[gV,a1,ba (.ref r)])/\(∃ks:JT Kh,zs=(ks.map Ad).map bB/\ks.Pairwise (·≠·)/\ks.length<=k/\∀x∈ks,0<=x/\x < k)/\Fl S2 r/\Kp r S1 S2) rfl rfl rfl (by omega) ⟨rfl,⟨gV,rfl⟩,⟨[],rfl,.nil,J7 _,λ_ h=>(nomatch h)⟩,f1,.refl⟩ ?_ ?_
 ·rintro i zs ρ2 S2 hi ⟨⟨a1,rfl⟩,⟨ks,rfl,hkp,hkl,hks⟩,f2,k2⟩;clear hK k;dsimp only[iS,wC,wT,wE,wA,wV,wG,Kj];refine bj (d:=d+4) G.pick f2 (by decide) (by decide) λv S3 _ _ f3 k3=>?_
  dsimp only[je,aT,wB];refine⟨λ_=>⟨⟨_,rfl⟩,⟨ks++[(i:Kh)],by simp[Ad,bB,dR],?_,by rw[J8]; exact N6 hkl,λx hx=>?_⟩,f3,k2.trans k3⟩,λ_=>⟨⟨_,rfl⟩,⟨ks,rfl,hkp,by exact MP ‹_›,λx hx=>⟨(hks x hx).1,by have:=(hks x hx).2; omega⟩⟩,f3,k2.trans k3⟩⟩
  ·rw[List.pairwise_append];refine⟨hkp,by simp,λx hx y hy e=>?_⟩
   have:=(hks x hx).2;rw[Kk.mp hy]at e;omega
  ·rcases K2.mp hx with h|h
   ·exact⟨(hks x h).1,by have:=(hks x h).2; omega⟩
   ·rw[Kk.mp h]; omega
 ·rintro zs ρ2 S2 ⟨_,⟨ks,rfl,hkp,hkl,hks⟩,f2,k2⟩;rw[Km]at hkl hks;refine⟨lr (by rw[JV,JV]; omega),hK _ _ (st ?_)⟩
  clear hK K;dsimp only[wS,wE,wA,wV,wG,Kj];have hlt:=f2.lt;refine oQ (d:=d) (a:=a) (bs:=[0]) (us:=ks.map Ad) hfu G (f2.ka .push) (by omega) (by decide) (λS' kk=>?_) (by rw[JV]; omega) (λu hu=>by obtain⟨x,_,rfl⟩:=Ko.mp hu; exact Rt _ _) λms ns S3 hml hnl hnm f3 k3=>?_
  ·simp only[eE,az (kk.get _ _ (KM ‹_›) af)]
  refine k _ _ ⟨a,[0],ms,ns,ks.map Ad,rfl,⟨⟨by omega,qm,by simp; omega,by omega⟩,hml,hnl,hnm,?_,λg hg=>?_⟩⟩ f3 (k1.trans (k2.trans (Kp.push.trans k3)))
  ·unfold Tt;rw[Ni];exact hkp.imp λh e=>h (CF e)
  ·obtain⟨x,hx,rfl⟩:=Ko.mp hg;exact CD (by omega) (by omega) (hks x hx).1 (hks x hx).2
theorem sj (hfu:20 < fuel)(G:Gen defs)(hf:Fl S r)(k:∀w S',eO w->Fl S' r->Kp r S S'->Q (w,S')):wO (bM (aq defs fuel (d+6)) "_law_free_rule" 1 [.ref r] S) Q:=by
 refine aL G.free_rule rfl rfl λQ' hR=>?_
 replace k:∀w S',eO w->Fl S' r->Kp r S S'->Q' (.rt w,S'):=λz S' a b c=>hR _ _ (k z S' a b c)
 clear hR;show wZ _ _ cR [ba (.ref r),gV,gV,gV,gV,gV,gV,gV,gV] S Q';dsimp only[cR];refine bm λK hK=>?_
 dsimp only[wS,wE,wA,wV,wG];refine qf (d:=d+3) G hf λa n S1 a1 a3 n1 n3 an f1 k1=>?_
 dsimp only[wU];refine ae (show dB [1,2] [.int a,.int n] [ba (.ref r),gV,gV,gV,gV,gV,gV,gV,gV]=ba [ba (.ref r),ba (.int a),ba (.int n),gV,gV,gV,gV,gV,gV]from rfl) (hK _ _ ?_)
 clear hK K;refine bm λK hK=>?_
 dsimp only[wS,wE,wA,wV,wG,Kj];refine qh (d:=d+3) G f1 n1 n3 λbs S2 hb hbl f2 k2=>?_
 have hsz:SizeOk a bs:=⟨by omega,hb,by rw[hbl]; exact an,a3⟩
 refine fU (d:=d) hfu G f2 a3 (by omega) λms ns S3 hml hnl hnm f3 k3=>hK _ _ ?_
 clear hK K;have hrt:=f3.lt;replace k3:Kp r S S3:=k1.trans (k2.trans k3);clear k1 k2 f1 f2;refine bm λK hK=>?_
 dsimp only[wS,wE,Kj];refine dF (n:Kh) (λi zs ρ2 S2=>(∃a1,ρ2=[gV,a1,ba (d6 ms ns bs [])])/\(∃ks:JT Kh,zs=ag ks/\ks.length<=i)/\S2=S3) rfl rfl rfl (by omega) ⟨rfl,⟨gV,rfl⟩,⟨[],rfl,J7 _⟩,rfl⟩ ?_ ?_
 ·rintro i zs ρ2 S2 hi ⟨⟨a1,rfl⟩,⟨ks,rfl,hkl⟩,rfl⟩;clear hK k;have hi':i < bs.length:=by omega
  dsimp only[iS,wC,wT,wE,wA,wV,wG,Kj];refine ay (by decide) rfl (ay (KG i) (by rw[Km]; exact iJ (J5 (by omega)) (J5 hi')) (ay (by decide) rfl ?_))
  dsimp only[je,aT,wB];exact⟨λ_=>⟨⟨_,rfl⟩,⟨ks++[(i:Kh)],by unfold ag; rw[KS]; rfl,by rw[J8]; exact N6 hkl⟩,rfl⟩,λ_=>⟨⟨_,rfl⟩,⟨ks,rfl,by exact MP ‹_›⟩,rfl⟩⟩
 ·rintro zs ρ2 S2 ⟨_,⟨ks,rfl,hkl⟩,rfl⟩;rw[Km]at hkl;have il:(ag ks).length=ks.length:=JV ..;refine⟨lr (by omega),hK _ _ ?_⟩
  clear hK K;refine bm λK hK=>?_
  dsimp only[wS,wT,wE,wA,wV,wG,Kj];refine ae (Ht (ap af) af) ?_;dsimp only[wB];have f4:=(f3.ka (Ka.push (o:=O.lst (ag ks)))).ka (Ka.push (o:=O.lst []));have k4:=k3.trans ((Kp.push (o:=O.lst (ag ks))).trans (Kp.push (o:=O.lst [])));have e4:=ap (u:=O.lst []) (af (S:=S2) (o:=O.lst (ag ks)));have hl4:S2.length < (S2++[O.lst (ag ks)]++[O.lst []]).length:=by simp
  generalize hS4:S2++[O.lst (ag ks)]++[O.lst []]=S4 at f4 k4 e4 hl4;clear hS4;have ret:∀Q2:QO,(∀w S',Q' (.rt w,S')->Q2 (.rt w,S'))->wZ (aq defs fuel (d+5)) fuel (.cons (.ret (.v 3)) .nil) [ba (.ref r),ba (.int a),ba (.int n),ba (d6 ms ns bs []),gV,ba (.ref S2.length),gV,gV,gV] S4 Q2:=λQ2 hr=>st (hr _ _ (k _ _ ⟨a,bs,ms,ns,[],rfl,hsz,hml,hnl,hnm,.nil,λ_ h=>(nomatch h)⟩ f4 k4))
  refine⟨λ_=>aN (Q0:=Q') (λ_ Q2 _ hr=>ret Q2 hr) (λz=>by cases z),λhne=>?_⟩
  dsimp only[je,aT,wB];refine aN (Q0:=Q') (λ_ Q2 _ hr=>ret Q2 hr) (λ_ Q2 hn _=>dq (hn _ _ (hK _ _ ?_)))
  clear hK ret hn;have hk0:0 < ks.length:=by
   cases ks with
   | nil=>cases hne
   | cons x ks=>exact Nat.succ_pos _
  refine bm λK hK=>?_
  dsimp only[wS,wE,wA,wV,wG,Kj];refine fH e4 ?_;rw[il];refine bj (d:=d+4) G.pick f4 (by omega) (by omega) λv S5 v0 v1 f5 k5=>?_
  have e5:=k5.get _ _ (KM ‹_›) e4;obtain⟨x,_,ex⟩:=mh (f:=W.int) (xs:=ks) (i:=v.toNat) (by omega)
  refine ik e5 v0 ex (hK _ _ ?_);clear hK K;replace k5:Kp r S S5:=k4.trans k5;have hrt5:=f5.lt;refine st ?_;dsimp only[wS,wE,Kj];refine bm λK hK=>?_
  refine jl rfl rfl ?_;dsimp only[wE,wA,wV,wG];refine bj (d:=d+4) G.pick (f5.ka .push) (by decide) (by decide) λv S6 v0 v9 f6 k6=>?_
  refine⟨v,λ_ ρ S'=>(∃a4 a8,ρ=[ba (.ref r),ba (.int a),ba (.int n),ba (d6 ms ns bs []),a4,ba (.ref S2.length),ba (.int x),ba (.ref S5.length),a8])/\(∃kvs fs,S'[S5.length]?=ba (.dic kvs)/\FigD (bn a bs) kvs fs)/\Fl S' r/\Kp r S S',rfl,by omega,⟨⟨gV,gV,rfl⟩,⟨[],[],k6.get _ _ (KM ‹_›) af,.nil⟩,f6,(k5.trans .push).trans k6⟩,?_,?_⟩
  ·rintro i ρ S7 hi ⟨⟨a4,a8,rfl⟩,⟨kvs,fs,e7,hd⟩,f7,k7⟩ Q2 hn _;clear hK k;refine st ?_;dsimp only[wS,wE,wA,wV,wG,Kj];refine jk (d:=d+3) G f7 (by omega) a3 (Kx ‹_› ‹_›) n3 λu S8 hu3 hu f8 k8=>?_
   have hu:GoodW a bs.length u:=hbl.symm ▸ hu;have e8:=k8.get _ _ (KM ‹_›) e7;obtain⟨p0,p1,p2,rfl⟩ : ∃p0 p1 p2,u=[p0,p1,p2]:=by
    match u,hu3 with
    | [p0,p1,p2],_=>exact⟨p0,p1,p2,rfl⟩
   have l1:=hu.len 1 p1 rfl;obtain⟨m1,ws1⟩:=p1;obtain⟨w1,rfl⟩ : ∃w1,ws1=[w1]:=by
    match ws1,l1 with
    | [w1],_=>exact⟨w1,rfl⟩
   obtain⟨b,hb2⟩:=CG (S:=S8) (f:=x) (ws:=p2.2);have kk:=k7.trans k8;refine bm λK hK=>?_
   dsimp only[wS,wT,wE,wA,wV,wG];refine ay (by decide) rfl (ay (by decide) rfl (ay (by decide) rfl ?_))
   dsimp only[Je,aT,wB];have skip:K [ba (.ref r),ba (.int a),ba (.int n),ba (d6 ms ns bs []),ba (.int i),ba (.ref S2.length),ba (.int x),ba (.ref S5.length),ba (bB [p0,(m1,[w1]),p2])] S8:=hK _ _ (dq (hn _ _ ⟨⟨_,_,rfl⟩,⟨kvs,fs,e8,hd⟩,f8,kk⟩));refine⟨λ_=>?_,λ_=>aN (Q0:=Q2) (λz=>by cases z) λ_ Q3 hn3 _=>dq (hn3 _ _ skip)⟩
   refine ay (by decide) rfl (ay (by decide) rfl (ae hb2 ?_))
   dsimp only[wB];refine aN (Q0:=Q2) (λ_ Q3 hn3 _=>?_) λ_ Q3 hn3 _=>dq (hn3 _ _ skip)
   clear skip;refine st ?_;dsimp only[wS,wE,wA,wV,wG];refine jj (d:=d+2) G hb hnl hu hu3 λS9 k9=>?_
   exact Ac (k9.get _ _ e8) hd hsz hu hu3 λo ho=>dq (hn3 _ _ (hK _ _ (dq (hn _ _ ⟨⟨_,_,rfl⟩,ho,(f8.ka k9).own hrt5,(kk.trans (k9.kp r)).late k5.len⟩))))
  ·rintro ρ S7 ⟨⟨a4,a8,rfl⟩,⟨kvs,fs,e7,hd⟩,f7,k7⟩;refine hK _ _ (st ?_);dsimp only[wS,wE,wA,wV,wG];exact Ab (Q:=λp=>Q' (.rt p.1,p.2)) e7 hd hsz hml hnl hnm λw S8 hw k8=>k w S8 hw (f7.ka k8) (k7.trans (k8.kp r))
end
noncomputable def b7 (u v:Kh):T:=.tup [.int u,.int v]
noncomputable def dS (u v:Kh):W:=.tup [.int u,.int v]
theorem jm {u v:Kh}:gR (dS u v)=ba (b7 u v):=rfl
theorem Ai {kvs:JT (T×W)}{k:T}{v:W}{p:T×W}(h:p∈fm kvs k v):p∈kvs\/p=(k,v):=by
 unfold fm at h;split at h
 ·obtain⟨q,hq,rfl⟩:=Ko.mp h;split
  ·rename_i e; exact .inr (by rw[e])
  ·exact .inl hq
 ·rcases K2.mp h with h|h
  ·exact .inl h
  ·exact .inr (Kk.mp h)
theorem sn {kvs:JT (T×W)}{k:T}{v:W}(h:cV kvs k=ba v):(k,v)∈kvs:=by
 unfold cV at h;rw[J0]at h;obtain⟨p,h1,rfl⟩:=h;have:=PK h1;rw[<- KQ this];exact List.mem_of_find?_eq_some h1
theorem CH {kvs:JT (T×W)}{p:T×W}(h:p∈kvs):∃v,cV kvs p.1=ba v:=by
 unfold cV;cases e:kvs.find? λq=>decide (q.1=p.1)with
 | some q=>exact⟨q.2,rfl⟩
 | none=>exact absurd (List.find?_eq_none.mp e p h) (by simp)
noncomputable def MustE (S:aa)(n b:J3)(kvs:JT (T×W)):Prop:=∀p∈kvs,∃(u v:Kh) (l:J3) (ws:JT Kh),p=(b7 u v,W.ref l)/\(0<=u/\u < n)/\(0<=v/\v < n)/\b<=l/\S[l]?=ba (.lst (ag ws))/\ws.length<=3/\∀w∈ws,0<=w/\w < (n:Kh)
theorem MustE.mono {S S':aa}{n b:J3}{kvs:JT (T×W)}(h:MustE S n b kvs)(k:∀(l:J3) (ws:JT Kh),b<=l->S[l]?=ba (.lst (ag ws))->S'[l]?=ba (.lst (ag ws))):MustE S' n b kvs:=λp hp=>
 let ⟨u,v,l,ws,h1,h2,h3,h4,h5,h6⟩:=h p hp
 ⟨u,v,l,ws,h1,h2,h3,h4,k l ws h4 h5,h6⟩
theorem MustE.ka {S S':aa}{n b:J3}{kvs:JT (T×W)}(h:MustE S n b kvs)(k:Ka S S'):MustE S' n b kvs:=h.mono λl ws _ e=>k.get _ _ e
theorem MustE.kp {S S':aa}{n b r:J3}{kvs:JT (T×W)}(h:MustE S n b kvs)(hr:r < b)(k:Kp r S S'):MustE S' n b kvs:=h.mono λl ws hl e=>k.get _ _ (by omega) e
theorem MustE.set {S:aa}{n b t:J3}{kvs k:JT (T×W)}{o:O}(h:MustE S n b kvs)(ht:S[t]?=ba (.dic k)):MustE (S.set t o) n b kvs:=h.mono λl ws hl e=>by
 rw[b6 (by rintro rfl; rw[ht]at e; cases e)]; exact e
theorem MustE.put {S:aa}{n b:J3}{kvs:JT (T×W)}{u v:Kh}{l:J3}{ws:JT Kh}(h:MustE S n b kvs)(h2:0<=u/\u < n)(h3:0<=v/\v < n)(h4:b<=l)(h5:S[l]?=ba (.lst (ag ws)))(h6:ws.length<=3)(h7:∀w∈ws,0<=w/\w < (n:Kh)):MustE S n b (fm kvs (b7 u v) (.ref l)):=λp hp=>by
 rcases Ai hp with hp|rfl
 ·exact h p hp
 ·exact⟨u,v,l,ws,rfl,h2,h3,h4,h5,h6,h7⟩
noncomputable abbrev CI:=Kh×Kh×JT Kh
noncomputable def sr (ws:JT Kh):Es:=ws.foldr (λw es=>.cons (.c (.int w)) es) .nil
noncomputable def vH:JT CI->Es
 | []=>.nil
 | e::L=>.cons (.tup (.cons (.c (.int e.1)) (.cons (.c (.int e.2.1)) .nil))) (.cons (.lst (sr e.2.2)) (vH L))
noncomputable def xf:JT CI->J3->JT W
 | [],_=>[]
 | e::L,s=>dS e.1 e.2.1::.ref s::xf L (s+1)
noncomputable def xg (L:JT CI):aa:=L.map λe=>O.lst (ag e.2.2)
noncomputable def vI (n:J3)(e:CI):KD:=decide ((0<=e.1/\e.1 < n)/\(0<=e.2.1/\e.2.1 < n)/\e.2.2.length<=3)&&e.2.2.all λw=>decide (0<=w/\w < (n:Kh))
section
variable{Φ:Kn->FF}{ρ:Fm}
theorem uk {S:aa}:∀ {ws:JT Kh} {Q:JT W×aa->Prop},Q (ag ws,S)->wA Φ (sr ws) ρ S Q
 | [],Q,q=>by show wA Φ .nil ρ S Q; exact q
 | w::ws,Q,q=>by show wA Φ (.cons (.c (.int w)) (sr ws)) ρ S Q; dsimp only[wA,wE]; exact uk q
theorem Aj:∀ {L:JT CI} {S:aa} {Q:JT W×aa->Prop},Q (xf L S.length,S++xg L)->wA Φ (vH L) ρ S Q
 | [],S,Q,q=>by
  show wA Φ .nil ρ S Q;dsimp only[wA]
  rwa [show S++xg []=S from LW S]at q
 | e::L,S,Q,q=>by
  show wA Φ (.cons (.tup (.cons (.c (.int e.1)) (.cons (.c (.int e.2.1)) .nil))) (.cons (.lst (sr e.2.2)) (vH L))) ρ S Q;dsimp only[wA,wE];refine uk (Aj ?_);rw[J8,Mq];exact q
end
theorem oT {S:aa}{n b:J3}:∀(L:JT CI) (s:J3) (kvs:JT (T×W)),MustE S n b kvs->b<=s->(∀e∈L,vI n e=true)->(∀i e,L[i]?=ba e->S[s+i]?=ba (.lst (ag e.2.2)))->∃kvs',dX kvs (xf L s)=ba kvs'/\MustE S n b kvs'/\kvs'.length<=kvs.length+L.length
 | [],s,kvs,hm,hb,hL,hS=>⟨kvs,by simp[xf,dX],hm,by simp⟩
 | e::L,s,kvs,hm,hb,hL,hS=>by
  have h1:=hL e (by simp)
  unfold vI at h1;rw[J2,Kr]at h1;obtain⟨h2,h3,h4⟩:=KQ h1.1;obtain⟨kvs',k1,k2,k3⟩:=oT L (s+1) (fm kvs (b7 e.1 e.2.1) (.ref s)) (hm.put h2 h3 hb (by have:=hS 0 e rfl; simpa using this) h4 (λw hw=>KQ (h1.2 w hw))) (MP ‹_›) (λx hx=>hL x (by simp[hx])) (λi x hx=>by have:=hS (i+1) x (by simpa using hx); rw[show s+1+i=s+(i+1) by omega]; exact this)
  refine⟨kvs',?_,k2,?_⟩
  ·simp only[xf,dX,jm]; exact k1
  ·have:=dM kvs (b7 e.1 e.2.1) (.ref s);rw[La]; omega
noncomputable def KB:JT (JT Kh):=[[1,0],[0,2,1],[0,1],[0,1,2]]
noncomputable def KindOk (S:aa)(b:J3)(w:W):Prop:=∃(bs:JT Kh) (q:J3) (kvs:JT (T×W)) (most:Kh),w=.tup [.tup (ag bs),.ref q,.int most]/\bs∈KB/\1<=most/\most<=3/\most*bs.length<=6/\S[q]?=ba (.dic kvs)/\b<=q/\kvs.length<=4/\MustE S bs.length b kvs
theorem KindOk.mono {S S':aa}{b:J3}{w:W}(h:KindOk S b w)(k1:∀(l:J3) (ws:JT Kh),b<=l->S[l]?=ba (.lst (ag ws))->S'[l]?=ba (.lst (ag ws)))(k2:∀(l:J3) (kvs:JT (T×W)),b<=l->S[l]?=ba (.dic kvs)->S'[l]?=ba (.dic kvs)):KindOk S' b w:=
 let ⟨bs,q,kvs,most,h1,h2,h3,h4,h5,h6,h7,h8,h9⟩:=h
 ⟨bs,q,kvs,most,h1,h2,h3,h4,h5,k2 _ _ h7 h6,h7,h8,h9.mono k1⟩
theorem KindOk.ka {S S':aa}{b:J3}{w:W}(h:KindOk S b w)(k:Ka S S'):KindOk S' b w:=h.mono (λl ws _ e=>k.get _ _ e) (λl ws _ e=>k.get _ _ e)
noncomputable def Ak (bs:JT Kh)(L:JT CI)(most:Kh):E:=.tup (.cons (.tup (sr bs)) (.cons (.disp (vH L)) (.cons (.c (.int most)) .nil)))
section
variable{Φ:Kn->FF}{ρ:Fm}{S:aa}
theorem qo (bs:JT Kh)(L:JT CI)(most:Kh){b:J3}{Q:QW}(hb:b<=S.length)(h1:bs∈KB)(h2:1<=most/\most<=3/\most*bs.length<=6)(hL:∀e∈L,vI bs.length e=true)(h4:L.length<=4)(k:∀w S',KindOk S' b w->Ka S S'->Q (w,S')) :
  wE Φ (Ak bs L most) ρ S Q:=by
 unfold Ak;dsimp only[wE,wA];refine uk (Aj ?_);obtain⟨kvs,k1,k2,k3⟩:=oT (S:=S++[O.dic []]++xg L) (n:=bs.length) (b:=b) L (S.length+1) [] (λ_ h=>nomatch h) (MP ‹_›) hL (λi e he=>by
  rw[MD (by simp),show S.length+1+i - (S++[O.dic []]).length=i by simp]
  simp[xg,he])
 have hat:(S++[O.dic []]++xg L)[S.length]?=ba (.dic []):=by
  rw[K9 (by simp)]; exact af
 refine⟨hat,ae (show dX [] (xf L (S++[O.dic []]).length)=ba kvs by rw[J8]; exact k1) (k _ _ ⟨bs,S.length,kvs,most,rfl,h1,h2.1,h2.2.1,h2.2.2,bV hat,hb,?_,k2.set hat⟩ ⟨λj o h=>?_,by simp⟩)⟩
 ·simp only[Mg]at k3; omega
 ·have:j < S.length:=dQ h;show((S++[O.dic []]++xg L).set S.length (O.dic kvs))[j]?=ba o;rw[b6 (KM ‹_›),K9 (by simp; omega)]
  exact ap h
structure Menu (S0 S:aa)(r t m:J3):Prop where
 at_t:∃xs:JT W,S[t]?=ba (.lst xs)/\xs.length=m/\∀x∈xs,KindOk S S0.length x
 pos:0 < m
 lr:m<=9
 fl:Fl S r
 kp:Kp r S0 S
 lt:S0.length<=t
 rlt:r < S0.length
theorem su {S0 S S':aa}{r t m:J3}{w:W}(h:Menu S0 S r t m)(hw:KindOk S' S0.length w)(k:Ka S S')(hm:m < 9):∃xs,S'[t]?=ba (.lst xs)/\xs.length < sizeLine/\Menu S0 (S'.set t (.lst (xs++[w]))) r t (m+1):=by
 obtain⟨⟨xs,h1,h2,h3⟩,hp,hf,fl,kp,lt,rlt⟩:=h;have e:S'[t]?=ba (.lst xs):=k.get _ _ h1;have stay:∀x,KindOk S' S0.length x->KindOk (S'.set t (.lst (xs++[w]))) S0.length x:=λx hx=>hx.mono (λl ws hl el=>by
  by_cases hlt:t=l
  ·exfalso;subst hlt;rw[e]at el;injection el with el
   injection el with el
   match xs,h2,h3 with
   | [],h2,_=>simp at h2; omega
   | x::xs,_,h3=>
    obtain⟨bs,q,kvs,most,hx,_⟩:=h3 x (by simp)
    subst hx
    match ws with
    | []=>simp[ag]at el
    | w::ws=>simp[ag]at el
  ·rw[b6 hlt]; exact el) (λl kvs hl el=>by
  rw[b6 (by rintro rfl; rw[e]at el; cases el)]; exact el)
 refine⟨xs,e,(by rw[K8]; omega),⟨xs++[w],bV e,by simp; assumption,λx hx=>?_⟩,by omega,by exact QU ‹_›,(fl.ka k).own (Kx ‹_› ‹_›),(kp.trans (k.kp r)).late lt,lt,rlt⟩
 rcases K2.mp hx with hx|hx
 ·exact stay x ((h3 x hx).ka k)
 ·rw[Kk.mp hx]; exact stay w hw
theorem sv (bs:JT Kh)(L:JT CI)(most:Kh){fuel:J3}{S0:aa}{r t m:J3}{x0:J1 W}{K:Fm->aa->Prop}{Q:QO}(h:Menu S0 S r t m)(hm:m < 9)(h1:bs∈KB)(h2:1<=most/\most<=3/\most*bs.length<=6)(hL:∀e∈L,vI bs.length e=true)(h4:L.length<=4)(k:∀S',Menu S0 S' r t (m+1)->K [x0,ba (.ref t)] S') :
  wS Φ fuel (.ex (.me .append (.v 1) (.cons (Ak bs L most) .nil))) [x0,ba (.ref t)] S K Q:=by
 dsimp only[wS,wE,wA,wV,wG];obtain⟨xs,e1,e2,e3⟩:=h.at_t;refine⟨dD e1,qo bs L most (Kc h.lt (L8 (dQ e1))) h1 h2 hL h4 λw S' k1 k2=>?_⟩
 obtain⟨xs',f1,f2,f3⟩:=su h k1 k2 hm;exact ae (vt f1 f2) (k _ f3)
theorem nk {defs:JT (Kn×Df)}{fuel d:J3}{r:J3}{Q:QW}(G:Gen defs)(hf:Fl S r)(k:∀w S',KindOk S' S.length w->Fl S' r->Kp r S S'->Q (w,S')):wO (bM (aq defs fuel (d+2)) "_law_laying_kind" 1 [.ref r] S) Q:=by
 refine aL G.laying_kind rfl rfl λQ' hR=>?_
 replace k:∀w S',KindOk S' S.length w->Fl S' r->Kp r S S'->Q' (.rt w,S'):=λz S' a b c=>hR _ _ (k z S' a b c)
 clear hR;show wZ _ _ cp [ba (.ref r),gV] S Q';have hrt:=hf.lt;unfold cp;refine bm λK hK=>?_
 refine Ho ?_;change wA _ _ _ _ _;change wE _ _ _ _ _;refine qo [1,0] [(0,0,[0])] 3 (b:=S.length) (J7 _) (by decide) (by decide) (by decide) (by decide) λw1 S1 k1 a1=>?_
 change wE _ _ _ _ _;refine qo [0,2,1] [(1,1,[1])] 2 (b:=S.length) a1.len (by decide) (by decide) (by decide) (by decide) λw2 S2 k2 a2=>?_
 have a12:=a1.trans a2;change wE _ _ _ _ _;refine qo [0,1] [(1,1,[1])] 3 (b:=S.length) a12.len (by decide) (by decide) (by decide) (by decide) λw3 S3 k3 a3=>?_
 have a13:=a12.trans a3;dsimp only[wA];refine hK _ _ ?_;clear hK K;have m3:Menu S (S3++[O.lst [w1,w2,w3]]) r S3.length 3:=by
  refine⟨⟨[w1,w2,w3],af,rfl,λx hx=>?_⟩,by decide,by decide,(hf.ka a13).ka .push,(a13.trans .push).kp r,a13.len,hrt⟩
  rcases Kz.mp hx with rfl|hx
  ·exact(k1.ka (a2.trans a3)).ka .push
  ·rcases Kz.mp hx with rfl|hx
   ·exact(k2.ka a3).ka .push
   ·rw[Kk.mp hx];exact k3.ka .push
 dsimp only[Kj];clear k1 k2 k3 a1 a2 a3 a12 a13;generalize S3.length=t at m3;generalize S3++[O.lst [w1,w2,w3]]=S3' at m3;refine bm λK hK=>sv [0,1] [(1,1,[1]),(0,0,[1])] 3 m3 (by decide) (by decide) (by decide) (by decide) (by decide) λS4 m4=>hK _ _ ?_
 refine bm λK hK=>sv [0,1] [(1,1,[])] 1 m4 (by decide) (by decide) (by decide) (by decide) (by decide) λS5 m5=>hK _ _ ?_
 refine bm λK hK=>sv [0,2,1] [(0,0,[0]),(0,1,[1]),(1,0,[1]),(1,1,[1])] 2 m5 (by decide) (by decide) (by decide) (by decide) (by decide) λS6 m6=>hK _ _ ?_
 refine bm λK hK=>?_
 dsimp only[wS,wE,wA,wV,wG];obtain⟨xs,e1,e2,e3⟩:=m6.at_t;obtain⟨xs',f1,f2,m7⟩:=su (S':=S6++[O.dic []]) (w:=.tup [.tup (ag [1,0]),.ref S6.length,.int 3]) m6 ⟨[1,0],S6.length,[],3,rfl,by decide,by decide,by decide,by decide,af,m6.kp.len,by decide,λ_ h=>(nomatch h)⟩ .push (by decide)
 refine⟨dD e1,ae (vt f1 f2) (hK _ _ ?_)⟩;refine bm λK hK=>sv [0,1,2] [(2,2,[2]),(1,2,[1]),(2,1,[1]),(1,1,[1,2])] 2 m7 (by decide) (by decide) (by decide) (by decide) (by decide) λS8 m8=>hK _ _ ?_
 refine bm λK hK=>sv [0,1,2] [(0,0,[0,1])] 2 m8 (by decide) (by decide) (by decide) (by decide) (by decide) λS9 m9=>hK _ _ ?_
 refine st ?_;dsimp only[wS,wE,wA,wV,wG];refine bj (d:=d) G.pick m9.fl (by decide) (by decide) λv S10 v0 v9 f10 k10=>?_
 obtain⟨xs,g1,g2,g3⟩:=m9.at_t;have hlt:=m9.lt;have hv:v.toNat < xs.length:=by omega
 exact ik (k10.get _ _ (by omega) g1) v0 (J5 hv) (k _ _ ((g3 _ (K1 hv)).mono (λl ws hl e=>k10.get _ _ (by omega) e) (λl ws hl e=>k10.get _ _ (by omega) e)) f10 (m9.kp.trans k10))
end
noncomputable def sw (bs:JT Kh):JT (JT Kh):=if bs=[0,1,2]then[[0,1,2],[0,2,1],[1,0,2],[1,2,0],[2,0,1],[2,1,0]]else if bs.length=2 then[[0,1],[1,0]]else[[0,1,2],[0,2,1],[2,0,1],[2,1,0]]
noncomputable def im (bs nm:JT Kh):J3->JT Kh
 | 0=>KY bs.length 0
 | k+1=>(im bs nm k).set (nm.getD k 0).toNat (nm.getD (bs.getD k 0).toNat 0)
theorem jY (bs nm:JT Kh):∀k,(im bs nm k).length=bs.length
 | 0=>by simp[im]
 | k+1=>by simp[im,jY bs nm k]
theorem CJ:∀bs∈KB,∀nm∈sw bs,nm.length=bs.length/\(∀x∈nm,0<=x/\x < (bs.length:Kh))/\(∀x∈bs,0<=x/\x < (bs.length:Kh))/\GoodB (im bs nm bs.length):=by
 unfold GoodB;decide +kernel
theorem Al:∀bs∈KB,(bs.length=2\/bs.length=3)/\0 < (sw bs).length/\(sw bs).length < 10:=by decide
section
variable{Φ:Kn->FF}{fuel:J3}{ρ:Fm}{S:aa}{K:Fm->aa->Prop}{Q:QO}
theorem CK {tg:Tg}{e:E}{b:Ss}(r:J3)(kvs:JT (T×W))(I:J3->Fm->aa->Prop)(oe:ey e=true)(ok:iG b=true)(he:wE Φ e ρ S λp=>p.1=.ref r/\p.2[r]?=ba (.dic kvs)/\I 0 ρ (p.2.set r (.frd kvs)))
  (hstep:∀(i:J3) (p:T×W) (ρ:Fm) (S:aa),kvs[i]?=ba p->I i ρ S->wO (ic tg p.1.w ρ S) λq=>zH Φ fuel b q.1 q.2 (I (i+1)) Q) (hend:∀ρ S,I kvs.length ρ S->K ρ S):Wp (gJ Φ fuel (.loop tg (.seq e) b) ρ S) (uc K Q):=by
 obtain⟨w,S1,e1,rfl,e2,h0⟩:=cu oe he;refine jV (mi:=.its (kvs.map λp=>p.1.w)) (S1:=S1.set r (.frd kvs)) (xs:=kvs.map λp=>p.1.w) I ok (by simp only[lp,fY,e1,p9 e2,dE e2]) (λ_ _ _ _=>rfl) rfl h0 (λi w ρ S hw hI=>?_) λρ S hI=>hend ρ S (by rwa [JV]at hI)
 rw[J6,J0]at hw;obtain⟨p,hp,rfl⟩:=hw;exact hstep i p ρ S hp hI
end
section
variable{defs:JT (Kn×Df)}{fuel d:J3}{S:aa}{r:J3}{Q:QW}
theorem Hu {i n:J3}{x:W}(h:S[i]?=ba (.lst [x]))(hn:n<=1000)(q:Q (.ref S.length,S++[.lst (KY n x)])):wO (gg .mul (.ref i) (.int (n:Kh)) S) Q:=by
 refine ae ?_ q;have:n<=sizeLine:=lr hn;simp only[gg,xY,cQ h];rw[Ks ⟨by omega,by omega,by simpa using this⟩]
 unfold mY;simp[this]
theorem oU {q:J3}{kvs:JT (T×W)}{u v:Kh}{w:W}(h:kB S q=ba kvs)(hg:cV kvs (b7 u v)=ba w):qH (.ref q) (.tup [.int u,.int v]) S=ba (w,S):=by
 have hk:gR (.tup [.int u,.int v])=ba (b7 u v):=jm;simp only[qH,h,hk,hg,K4]
theorem Am {q:J3}{kvs:JT (T×W)}{u v:Kh}{w:W}(h:S[q]?=ba (.dic kvs))(hl:kvs.length < sizeLine):i8 (.ref q) (.tup [.int u,.int v]) w S=ba (S.set q (.dic (fm kvs (b7 u v) w))):=by
 have hk:gR (.tup [.int u,.int v])=ba (b7 u v):=jm;simp only[i8,pM,h,hk];rw[Ks hl]
theorem jZ {xs:JT Kh}{x:Kh}(h0:0<=x)(h1:x.toNat < xs.length):(ag xs)[x.toNat]?=ba (.int (xs.getD x.toNat 0)):=by
 unfold ag;rw[J6,aD (d:=0) h1]; rfl
theorem gw {xs:JT Kh}{i:J3}(h:i < xs.length):xs.getD i 0∈xs:=Kf (aD (d:=0) h)
theorem nq (G:Gen defs){Q:QO}{bs:JT Kh}{x0 x2:J1 W}(hb:bs∈KB)
  (hk:∀(m s:J3) (S':aa),Ka S S'->S'[s]?=ba (.lst ((sw bs).map λnm=>W.tup (ag nm)))->S.length<=s->wZ (aq defs fuel (d+1)) fuel (dr 5 bK) [x0,ba (.tup (ag bs)),x2,ba (.int bs.length),ba (.ref m),ba (.ref s),gV,gV,gV,gV,gV,gV] S' Q) :
  wZ (aq defs fuel (d+1)) fuel bK [x0,ba (.tup (ag bs)),x2,gV,gV,gV,gV,gV,gV,gV,gV,gV] S Q:=by
 generalize hd5:dr 5 bK=bT at hk;unfold bK at hd5 ⊢;dsimp only[dr]at hd5;rw[hd5];clear hd5;refine bm λK hK=>?_
 dsimp only[wS,wE,wA,wV,wG,Kj];refine cH ?_;rw[show(ag bs).length=bs.length from JV ..]
 refine hK _ _ ?_;clear hK K;refine bm λK hK=>?_
 dsimp only[wS,wE,wA,wV,wG,Kj];have hm:(((S++[O.lst [.tup [.int 0]]])++[O.lst [.tup [.int 0,.int 1],.tup [.int 1,.int 0]]])++[O.lst [.ref S.length,.ref (S++[O.lst [.tup [.int 0]]]).length]])[((S++[O.lst [.tup [.int 0]]])++[O.lst [.tup [.int 0,.int 1],.tup [.int 1,.int 0]]]).length]?=ba (.lst [.ref S.length,.ref (S++[O.lst [.tup [.int 0]]]).length]):=af;refine hK _ _ ?_;clear hK K;generalize hS1:S++[O.lst [.tup [.int 0]]]=S1 at hm ⊢;generalize hS2:S1++[O.lst [.tup [.int 0,.int 1],.tup [.int 1,.int 0]]]=S2 at hm ⊢;generalize hS3:S2++[O.lst [.ref S.length,.ref S1.length]]=S3 at hm ⊢;have l1:S1.length=S.length+1:=by rw[<- hS1]; simp
 have l2:S2.length=S1.length+1:=by rw[<- hS2]; simp
 have l3:S3.length=S2.length+1:=by rw[<- hS3]; simp
 have kS2:Ka S S2:=by rw[<- hS2,<- hS1]; exact Ka.push.trans .push
 refine bm λK hK=>?_
 dsimp only[wS,wE,wA,wV,wG,Kj];refine⟨dD hm,oN (ap hm) (by decide:2 < 1000) (hK _ _ ?_)⟩
 clear hK K;generalize hS5:(S3++[O.lst [.tup [.int 0,.int 1,.int 2],.tup [.int 0,.int 2,.int 1],.tup [.int 2,.int 0,.int 1],.tup [.int 2,.int 1,.int 0]]]).set S2.length (.lst ([.ref S.length,.ref S1.length]++[.ref S3.length]))=S5;have k5:Ka S S5:=by
  rw[<- hS5,<- hS3];exact Ka.late (kS2.trans (Ka.push.trans .push)) (by omega)
 have m5:S5[S2.length]?=ba (.lst [.ref S.length,.ref S1.length,.ref S3.length]):=by
  rw[<- hS5]; exact bV (ap hm)
 have p5:S5[S1.length]?=ba (.lst [.tup [.int 0,.int 1],.tup [.int 1,.int 0]]):=by
  rw[<- hS5,b6 (by omega),<- hS3,<- hS2]
  exact ap (ap af)
 have t5:S5[S3.length]?=ba (.lst [.tup [.int 0,.int 1,.int 2],.tup [.int 0,.int 2,.int 1],.tup [.int 2,.int 0,.int 1],.tup [.int 2,.int 1,.int 0]]):=by
  rw[<- hS5,b6 (by omega)]
  exact af
 have h1:S.length<=S1.length:=by omega
 have h3:S.length<=S3.length:=by omega
 clear hS1 hS2 hS3 hS5 hm l1 l2 l3 kS2;refine bm λK hK=>?_
 dsimp only[wS,wE,wA,wV,wG,Kj,Dm,aT];have hb':bs=[1,0]\/bs=[0,2,1]\/bs=[0,1]\/bs=[0,1,2]:=by simpa [KB]using hb
 rcases hb' with rfl|rfl|rfl|rfl
 ·refine eR (i:=1) m5 rfl (hK _ _ (bm λK hK=>dA (λQ q=>q) (hK _ _ (hk _ _ _ k5 p5 h1))))
 ·refine eR (i:=2) m5 rfl (hK _ _ (bm λK hK=>dA (λQ q=>q) (hK _ _ (hk _ _ _ k5 t5 h3))))
 ·refine eR (i:=1) m5 rfl (hK _ _ (bm λK hK=>dA (λQ q=>q) (hK _ _ (hk _ _ _ k5 p5 h1))))
 ·refine eR (i:=2) m5 rfl (hK _ _ (bm λK hK=>r6 (λQ q=>q) λQ2 hn _=>?_))
  refine st ?_;dsimp only[wS,wE,wA,wV,wG,Kj];exact qd (d:=d) G (dq (hn _ _ (hK _ _ (hk _ _ _ (k5.trans .push) af k5.len))))
theorem um (G:Gen defs){S0:aa}{bs:JT Kh}{q:J3}{kvs:JT (T×W)}(hb:bs∈KB)(hf:Fl S r)(hr:r < S0.length)(kp:Kp r S0 S)(hq:S[q]?=ba (.dic kvs))(hq0:S0.length<=q)(h4:kvs.length<=4)(hm:MustE S bs.length S0.length kvs)
  (k:∀(bs':JT Kh) (q':J3) (kvs':JT (T×W)) S',GoodB bs'->bs'.length=bs.length->S'[q']?=ba (.dic kvs')->S0.length<=q'->MustE S' bs.length S0.length kvs'->Fl S' r->Kp r S0 S'->Q (.tup [.tup (ag bs'),.ref q'],S')) :
  wO (bM (aq defs fuel (d+2)) "_law_numbered" 3 [.ref r,.tup (ag bs),.ref q] S) Q:=by
 refine aL G.numbered rfl rfl λQ' hR=>?_
 replace k:∀(bs':JT Kh) (q':J3) (kvs':JT (T×W)) S',GoodB bs'->bs'.length=bs.length->S'[q']?=ba (.dic kvs')->S0.length<=q'->MustE S' bs.length S0.length kvs'->Fl S' r->Kp r S0 S'->Q' (.rt (.tup [.tup (ag bs'),.ref q']),S'):=λa b c e f g h i j l m=>hR _ _ (k a b c e f g h i j l m)
 clear hR;refine nq (d:=d) G hb ?_;intro m s S1 k1 e1 hs;dsimp only[dr,bK];have hrt:=hf.lt;obtain⟨hb1,hb2,hb3⟩:=Al bs hb;refine bm λK hK=>?_
 dsimp only[wS,wE,wA,wV,wG,Kj];refine fH e1 ?_;rw[JV];refine bj (d:=d) G.pick (hf.ka k1) (by omega) (by omega) λv S2 v0 v1 f2 k2=>?_
 obtain⟨nm,hnmm,enm⟩:=mh (f:=λnm=>W.tup (ag nm)) (xs:=sw bs) (i:=v.toNat) (by omega)
 obtain⟨n1,n2,n3,n4⟩:=CJ bs hb nm hnmm;refine ik (k2.get _ _ (by omega) e1) v0 enm (hK _ _ ?_)
 clear hK K;refine bm λK hK=>?_
 dsimp only[wS,wE,wA,wV,wG,Kj];refine Hu af (by omega) (hK _ _ ?_)
 clear hK K;generalize hS4:S2++[O.lst [.int 0]]=S4;have k24:Ka S2 S4:=hS4 ▸ .push;have f4:Fl S4 r:=f2.ka k24;have kp4:Kp r S0 S4:=(kp.trans (k1.kp r)).trans (k2.trans (k24.kp r));have q4:S4[q]?=ba (.dic kvs):=k24.get _ _ (k2.get _ _ (by omega) (k1.get _ _ hq))
 have m4:MustE S4 bs.length S0.length kvs:=((hm.ka k1).kp hr k2).ka k24;clear hS4 k24 hm hq f2 k2 k1 e1 enm hf;refine bm λK hK=>?_
 refine ee (bs.length:Kh) (λk ρ S'=>(∃x8,ρ=[ba (.ref r),ba (.tup (ag bs)),ba (.ref q),ba (.int bs.length),ba (.ref m),ba (.ref s),ba (.tup (ag nm)),ba (.ref S4.length),x8,gV,gV,gV])/\S'[S4.length]?=ba (.lst (ag (im bs nm k)))/\Ka S4 S') rfl rfl (by omega) ⟨rfl,⟨_,rfl⟩,?_,.push⟩ ?_ ?_
 ·rw[af]; simp[im,ag]
 ·rintro i ρ S5 hi ⟨⟨x8,rfl⟩,e5,k5⟩ Q2 hn _;clear hK k;have hi':i < bs.length:=by exact Ma.mp ‹_›
  have hi1:i < nm.length:=by omega
  have c:=n3 _ (gw hi');have c2:=n2 _ (gw hi1);refine st ?_;dsimp only[wS,wE,wA,wV,wG,Kj];refine ay (KG i) (jZ (KG i) hi') (ay c.1 (jZ c.1 (by rw[Km]; omega)) (ay (KG i) (jZ (KG i) hi1) ?_))
  rw[Km];refine ae (Dq e5 c2.1 (by rw[show(ag (im bs nm i)).length=_ from JV ..,jY]; omega)) (dq (hn _ _ ⟨⟨_,rfl⟩,?_,k5.late (J7 _)⟩))
  rw[bV e5];unfold ag;rw[im,List.map_set]
 ·rintro ρ S5 ⟨⟨x8,rfl⟩,e5,k5⟩;rw[Km]at e5;refine hK _ _ (st ?_);clear hK K;dsimp only[wS,wE,Kj];have f5:Fl S5 r:=f4.ka k5;have q5:S5[q]?=ba (.dic kvs):=k5.get _ _ q4;have m5:MustE S5 bs.length S0.length kvs:=m4.ka k5;have kp5:Kp r S0 S5:=kp4.trans (k5.kp r);have hq5:=dQ q5;have ht5:=dQ e5;have hqt:q≠S4.length:=by rintro rfl; rw[e5]at q5; cases q5
  have hn9:(bs.length:Kh)<=3:=by omega
  have hr5:=f5.lt;clear k5 m4 q4 f4;refine bm λK hK=>?_
  refine CK q kvs (λk ρ S'=>(∃x10 x11,ρ=[ba (.ref r),ba (.tup (ag bs)),ba (.ref q),ba (.int bs.length),ba (.ref m),ba (.ref s),ba (.tup (ag nm)),ba (.ref S4.length),x8,ba (.ref S5.length),x10,x11])/\S'[q]?=ba (.frd kvs)/\MustE S' bs.length S0.length kvs/\S'[S4.length]?=ba (.lst (ag (im bs nm bs.length)))/\(∃kvs',S'[S5.length]?=ba (.dic kvs')/\kvs'.length<=k/\MustE S' bs.length S0.length kvs')/\Fl S' r/\Kp r S0 S') rfl rfl ⟨rfl,ap q5,⟨gV,gV,rfl⟩,bV (ap q5),(m5.ka .push).set (ap q5),?_,⟨[],?_,J7 _,λ_ h=>(nomatch h)⟩,(f5.ka .push).own (by omega),(kp5.trans .push).late hq0⟩ ?_ ?_
  ·rw[b6 hqt]; exact ap e5
  ·rw[b6 (Kt ‹_›)]; exact af
  ·rintro i p ρ S6 hp ⟨⟨x10,x11,rfl⟩,q6,m6,t6,⟨kvs',o6,l6,mm6⟩,f6,kp6⟩;clear hK k;have hpm:=Kf hp;have hil:=(J9.mp hp).1;obtain⟨u,v',l,ws,rfl,hu,hv',hl,hws,hl3,hw3⟩:=m6 p hpm;obtain⟨g,hg⟩:=CH hpm;obtain⟨u2,v2,l2,ws2,he2,_,_,hl2,hws2,hl32,hw32⟩:=m6 _ (sn hg);injection he2 with _ he2
   subst he2;have hul:u.toNat < nm.length:=by omega
   have hvl:v'.toNat < nm.length:=by omega
   refine ae (show ic (.tp [10,11]) (b7 u v',W.ref l).1.w [ba (.ref r),ba (.tup (ag bs)),ba (.ref q),ba (.int bs.length),ba (.ref m),ba (.ref s),ba (.tup (ag nm)),ba (.ref S4.length),x8,ba (.ref S5.length),x10,x11] S6=ba ([ba (.ref r),ba (.tup (ag bs)),ba (.ref q),ba (.int bs.length),ba (.ref m),ba (.ref s),ba (.tup (ag nm)),ba (.ref S4.length),x8,ba (.ref S5.length),ba (.int u),ba (.int v')],S6)from rfl) λQ2 hn _=>?_
   refine st ?_;dsimp only[wS,wE,wA,wV,wG,Kj];refine vy l2 (ag ws2) (λi zs ρ2 S7=>(∃a1,ρ2=[gV,a1,ba (.tup (ag nm))])/\zs=ag ((ws2.take i).map λw=>nm.getD w.toNat 0)/\S7=S6) rfl rfl rfl ?_ ?_ ?_ ?_
   ·dsimp only[wE,wA,wV,wG];exact ae (oU (Cv q6) hg) ⟨rfl,⟨_,rfl⟩,rfl,rfl⟩
   ·rintro i zs ρ2 S7 ⟨_,_,rfl⟩;exact hws2
   ·rintro i w zs ρ2 S7 hw ⟨⟨a1,rfl⟩,rfl,rfl⟩;unfold ag at hw;rw[J6,J0]at hw;obtain⟨x,hx,rfl⟩:=hw;obtain⟨x0,x1⟩:=hw32 x (Kf hx);have hxl:x.toNat < nm.length:=by omega
    refine ae (show ic (.nm 1) (.int x) [gV,a1,ba (.tup (ag nm))] S7=ba ([gV,ba (.int x),ba (.tup (ag nm))],S7)from rfl) ?_
    dsimp only[iS,wC,wE,wA,wV,wG];refine⟨λ_=>ay x0 (jZ x0 hxl) ⟨⟨_,rfl⟩,?_,rfl⟩,λz=>by cases z⟩
    rw[KZ,hx];simp[ag]
   ·rintro zs ρ2 S7 ⟨_,rfl,rfl⟩;rw[show(ag ws2).length=ws2.length from JV ..,Lm]
    refine⟨lr (by simp[ag]; exact Kc ‹_› (Kd rfl)),ay hu.1 (jZ hu.1 hul) (ay hv'.1 (jZ hv'.1 hvl) ?_)⟩
    refine ae (Am (ap o6) (by rw[K8]; omega)) (dq (hn _ _ ⟨⟨_,_,rfl⟩,?_,(m6.ka .push).set (ap o6),?_,⟨_,bV (ap o6),?_,?_⟩,(f6.ka .push).own ‹_›,(kp6.trans .push).late kp5.len⟩))
    ·rw[b6 (KM ‹_›)]; exact ap q6
    ·rw[b6 (KM ‹_›)]; exact ap t6
    ·exact Kc (dM ..) (N6 l6)
    ·refine((mm6.ka .push).put (n2 _ (gw hul)) (n2 _ (gw hvl)) kp6.len af (by simp; assumption) ?_).set (ap o6)
     intro w hw;obtain⟨x,hx,rfl⟩:=Ko.mp hw;obtain⟨x0,x1⟩:=hw32 x hx;exact n2 _ (gw (by omega))
  ·rintro ρ S6 ⟨⟨x10,x11,rfl⟩,q6,m6,t6,⟨kvs',o6,l6,mm6⟩,f6,kp6⟩;refine hK _ _ (st ?_);dsimp only[wS,wE,wA,wV,wG];exact d4 t6 (k _ _ kvs' _ n4 (jY _ _ _) o6 kp5.len mm6 f6 kp6)
end
noncomputable def xh (x y z:Kh):JT (T×W):=[(b7 1 0,.int x),(b7 2 0,.int y),(b7 2 1,.int z)]
noncomputable def CL (x y z a b c:Kh):J3->JT (T×W)
 | 0=>xh x y z
 | 1=>xh x y z++[(b7 0 1,.int a)]
 | 2=>xh x y z++[(b7 0 1,.int a),(b7 0 2,.int b)]
 | _=>xh x y z++[(b7 0 1,.int a),(b7 0 2,.int b),(b7 1 2,.int c)]
theorem Fb {n x y z a b c:Kh}(hx:0<=x/\x < n)(hy:0<=y/\y < n)(hz:0<=z/\z < n)(ha:0<=a/\a < n)(hb:0<=b/\b < n)(hc:0<=c/\c < n):∀i j:J3,i < 3->j < 3->i≠j->∃p:Kh,cV (CL x y z a b c 3) (b7 i j)=ba (.int p)/\0<=p/\p < n:=by
 intro i j hi hj hij
 match i,j,hi,hj,hij with
 | 0,0,_,_,h=>exact absurd rfl h
 | 0,1,_,_,_=>exact⟨a,by rfl,ha⟩
 | 0,2,_,_,_=>exact⟨b,by rfl,hb⟩
 | 1,0,_,_,_=>exact⟨x,by rfl,hx⟩
 | 1,1,_,_,h=>exact absurd rfl h
 | 1,2,_,_,_=>exact⟨c,by rfl,hc⟩
 | 2,0,_,_,_=>exact⟨y,by rfl,hy⟩
 | 2,1,_,_,_=>exact⟨z,by rfl,hz⟩
 | 2,2,_,_,h=>exact absurd rfl h
theorem sx:∀t∈bz,t.length=3/\t.getD 0 0 < 3/\t.getD 1 0 < 3/\t.getD 2 0 < 3/\t.getD 0 0≠t.getD 1 0/\t.getD 1 0≠t.getD 2 0/\t.getD 0 0≠t.getD 2 0:=by decide
theorem An {t:JT J3}(h:t∈bz):∃i j k:J3,t=[i,j,k]/\i < 3/\j < 3/\k < 3/\i≠j/\j≠k/\i≠k:=by
 obtain⟨h1,h2⟩:=sx t h
 match t,h1,h2 with
 | [i,j,k],_,h2=>exact⟨i,j,k,rfl,h2⟩
section
variable{defs:JT (Kn×Df)}{fuel d:J3}{S:aa}{r:J3}{Q:QW}
theorem Ao {l:J3}{f:Kh}{ws:JT Kh}(h:S[l]?=ba (.lst (ag ws))):∃b,eQ .notin (.int f) (.ref l) S=ba (.bl b,S):=by
 have hf:(cG (.int f)&&(ag ws).all cG)=true:=by
  simp only[cG,Od,Kr];intro x hx;obtain⟨z,_,rfl⟩:=Ko.mp hx;rfl
 refine⟨!(ag ws).any λz=>AN z (.int f),?_⟩
 simp only[eQ,p8 h,jG,FJ,C8,fD,az h,hf,LQ,K4]
theorem Fc {q:J3}{kvs:JT (T×W)}(h:S[q]?=ba (.dic kvs)):tyOk "dict" S (.ref q)=true:=by simp[tyOk,dE h]
theorem CM {q:J3}{kvs:JT (T×W)}(h:S[q]?=ba (.dic kvs))(k:Q (.ref S.length,S++[.lst (kvs.map λp=>p.1.w)])):wO (Bi.list.fn [.ref q] S) Q:=by
 refine ae ?_ k;have h1:yk S q=gV:=by simp[yk,h]
 have h2:kA [.ref q] S=gV:=by simp[kA,h1,iW,fD,p9 h]
 simp only[Bi.fn,Cn,h2,ou,dE h]
theorem Ap (G:Gen defs){bs:JT Kh}{q b0:J3}{kvs:JT (T×W)}{x y z:Kh}(hb:GoodB bs)(hx:0<=x/\x < bs.length)(hy:0<=y/\y < bs.length)(hz:0<=z/\z < bs.length)(hq:S[q]?=ba (.dic kvs))(hm:MustE S bs.length b0 kvs)
  (k:∀b S',Ka S S'->Q (.bl b,S')):wO (bM (aq defs fuel (d+2)) "_law_breaks" 5 [.tup (ag bs),.ref q,.int x,.int y,.int z] S) Q:=by
 refine aL G.breaks rfl rfl λQ' hR=>?_
 replace k:∀b S',Ka S S'->Q' (.rt (.bl b),S'):=λa b c=>hR _ _ (k a b c)
 clear hR;show wZ _ _ eh [ba (.tup (ag bs)),ba (.ref q),ba (.int x),ba (.int y),ba (.int z),gV,gV,gV,gV,gV] S Q';obtain⟨a,ha1,ha⟩:=hb.rng x.toNat (by omega)
 obtain⟨b,hb1,hb2⟩:=hb.rng y.toNat (by omega)
 obtain⟨c,hc1,hc⟩:=hb.rng z.toNat (by omega)
 have hqt:=dQ hq;unfold eh;refine bm λK hK=>?_
 dsimp only[wS,wE,wA,wV,wG,Kj];refine⟨af,ae (show dX [] [.tup [.int 1,.int 0],.int x,.tup [.int 2,.int 0],.int y,.tup [.int 2,.int 1],.int z]=ba (xh x y z)from rfl) (hK _ _ ?_)⟩
 clear hK K;have e1:((S++[O.dic []]).set S.length (.dic (xh x y z)))[S.length]?=ba (.dic (xh x y z)):=bV af;have k1:Ka S ((S++[O.dic []]).set S.length (.dic (xh x y z))):=Ka.push.late (J7 _);have l1:((S++[O.dic []]).set S.length (.dic (xh x y z))).length=S.length+1:=by simp
 generalize(S++[O.dic []]).set S.length (.dic (xh x y z))=S1 at e1 k1 l1 ⊢;refine bm λK hK=>?_
 refine mw rfl rfl ?_;dsimp only[wE,wA,wV,wG];refine CM e1 ⟨S1.length,[dS 1 0,dS 2 0,dS 2 1],(λk ρ S'=>(∃x6,ρ=[ba (.tup (ag bs)),ba (.ref q),ba (.int x),ba (.int y),ba (.int z),ba (.ref S.length),x6,gV,gV,gV])/\S'[S.length]?=ba (.dic (CL x y z a b c k))/\S'[S1.length]?=ba (.lst [dS 1 0,dS 2 0,dS 2 1])/\Ka S S'),rfl,⟨⟨_,rfl⟩,ap e1,af,k1.trans .push⟩,λi ρ S' h=>h.2.2.1,?_,?_⟩
 ·have step:∀(u v f g:Kh) (kv kv':JT (T×W)) (S':aa) (i:J3),cV kv (b7 u v)=ba (.int f)->0<=f->bs[f.toNat]?=ba g->kv.length < 10->fm kv (b7 v u) (.int g)=kv'->CL x y z a b c (i+1)=kv'->∀x6:J1 W,S'[S.length]?=ba (.dic kv)->S'[S1.length]?=ba (.lst [dS 1 0,dS 2 0,dS 2 1])->Ka S S'->
    wO (ic (.nm 6) (dS u v) [ba (.tup (ag bs)),ba (.ref q),ba (.int x),ba (.int y),ba (.int z),ba (.ref S.length),x6,gV,gV,gV] S') λp=>zH (aq defs fuel (d+1)) fuel (.cons (.put (.v 5) (.tup (.cons (.ix (.v 6) (.c (.int 1))) (.cons (.ix (.v 6) (.c (.int 0))) .nil))) (.ix (.v 0) (.ix (.v 5) (.v 6)))) .nil) p.1 p.2 (λρ S'=>(∃x6,ρ=[ba (.tup (ag bs)),ba (.ref q),ba (.int x),ba (.int y),ba (.int z),ba (.ref S.length),x6,gV,gV,gV])/\S'[S.length]?=ba (.dic (CL x y z a b c (i+1)))/\S'[S1.length]?=ba (.lst [dS 1 0,dS 2 0,dS 2 1])/\Ka S S') Q':=by
   clear hK k;intro u v f g kv kv' S' i h1 h2 h3 h4 h5 h6 x6 e e' k;refine ae (show ic (.nm 6) (dS u v) [ba (.tup (ag bs)),ba (.ref q),ba (.int x),ba (.int y),ba (.int z),ba (.ref S.length),x6,gV,gV,gV] S'=ba ([ba (.tup (ag bs)),ba (.ref q),ba (.int x),ba (.int y),ba (.int z),ba (.ref S.length),ba (dS u v),gV,gV,gV],S')from rfl) λQ2 hn _=>?_
   refine st ?_;dsimp only[wS,wE,wA,wV,wG];refine ae (oU (dE e) h1) (ay h2 (w:=.int g) (by unfold ag; rw[J6,h3]; rfl) (ay (by decide) rfl (ay (by decide) rfl ?_)))
   refine ae (Am e (by rw[K8]; omega)) (dq (hn _ _ ⟨⟨_,rfl⟩,?_,?_,k.late (J7 _)⟩))
   ·rw[bV e,h5,h6]
   ·rw[b6 (by omega)]; exact e'
  rintro i w ρ S2 hw ⟨⟨x6,rfl⟩,e2,l2,k2⟩
  match i,hw,e2 with
  | 0,hw,e2=>cases hw; exact step 1 0 x a _ _ S2 0 (by rfl) hx.1 ha1 (by simp[CL,xh]) (by rfl) (by rfl) x6 e2 l2 k2
  | 1,hw,e2=>cases hw; exact step 2 0 y b _ _ S2 1 (by rfl) hy.1 hb1 (by simp[CL,xh]) (by rfl) (by rfl) x6 e2 l2 k2
  | 2,hw,e2=>cases hw; exact step 2 1 z c _ _ S2 2 (by rfl) hz.1 hc1 (by simp[CL,xh]) (by rfl) (by rfl) x6 e2 l2 k2
  | n+3,hw,_=>simp at hw
 ·rintro ρ S2 ⟨⟨x6,rfl⟩,e2,l2,k2⟩;have hv:=Fb hx hy hz ha hb2 hc;have e2:S2[S.length]?=ba (.dic (CL x y z a b c 3)):=e2;refine hK _ _ ?_;clear hK K;have hlt2:=dQ e2;refine bm λK hK=>?_
  refine mw rfl rfl ?_;dsimp only[wE,wA,wV,wG];refine qd (d:=d) G ⟨S2.length,bz.map (λt=>W.tup (al t)),(λk ρ S'=>(∃x7 x8 x9,ρ=[ba (.tup (ag bs)),ba (.ref q),ba (.int x),ba (.int y),ba (.int z),ba (.ref S.length),x6,x7,x8,x9])/\S'[S.length]?=ba (.dic (CL x y z a b c 3))/\S'[S2.length]?=ba (.lst (bz.map (λt=>W.tup (al t))))/\Ka S S'),rfl,⟨⟨_,_,_,rfl⟩,ap e2,af,k2.trans .push⟩,λi ρ S' h=>h.2.2.1,?_,?_⟩
  ·rintro i w ρ S3 hw ⟨⟨x7,x8,x9,rfl⟩,e3,l3,k3⟩;clear hK;rw[J6,J0]at hw;obtain⟨t,ht,rfl⟩:=hw;obtain⟨i1,j1,h1,rfl,hi1,hj1,hh1,n1,n2,n3⟩:=An (Kf ht);obtain⟨p1,g1,r1⟩:=hv i1 j1 hi1 hj1 n1;obtain⟨p2,g2,r2⟩:=hv j1 h1 hj1 hh1 n2;obtain⟨p3,g3,r3⟩:=hv i1 h1 hi1 hh1 n3;have q3:=k3.get _ _ hq;refine ae (show ic (.tp [7,8,9]) (W.tup (al [i1,j1,h1])) [ba (.tup (ag bs)),ba (.ref q),ba (.int x),ba (.int y),ba (.int z),ba (.ref S.length),x6,x7,x8,x9] S3=ba ([ba (.tup (ag bs)),ba (.ref q),ba (.int x),ba (.int y),ba (.int z),ba (.ref S.length),x6,ba (.int i1),ba (.int j1),ba (.int h1)],S3)from rfl) λQ2 hn hr=>?_
   refine bm λK hK=>?_
   dsimp only[wS,wT,wE,wA,wV,wG];refine ae (oU (dE e3) g3) ⟨Fc q3,ae (oU (dE e3) g1) (ae (oU (dE e3) g2) (ae (oU (dE e3) g3) ?_))⟩;have hget:Me.get.fn (.ref q) [.tup [.int p1,.int p2],.ref S3.length] (S3++[O.lst [.int p3]])=ba ((cV kvs (b7 p1 p2)).getD (.ref S3.length),S3++[O.lst [.int p3]]):=by
    have hk:gR (.tup [.int p1,.int p2])=ba (b7 p1 p2):=jm;simp only[Me.fn,uL,dE (ap q3),hk]
   refine ae hget ?_;have hres:∃(l:J3) (ws:JT Kh),(cV kvs (b7 p1 p2)).getD (.ref S3.length)=.ref l/\(S3++[O.lst [.int p3]])[l]?=ba (.lst (ag ws)):=by
    cases hg:cV kvs (b7 p1 p2)with
    | none=>exact⟨S3.length,[p3],rfl,af⟩
    | some g=>
     obtain⟨u,v,l,ws,he,_,_,_,hl,_⟩:=(hm.ka k3) _ (sn hg);injection he with _ he
     subst he;exact⟨l,ws,rfl,ap hl⟩
   obtain⟨l,ws,hl1,hl2⟩:=hres;dsimp only;rw[hl1];obtain⟨kb,hkb⟩:=Ao (f:=p3) hl2;refine ae hkb ?_;dsimp only[wB];refine aN (Q0:=Q2) (λ_ Q3 _ hr3=>st (hr3 _ _ (hr _ _ (k _ _ (k3.trans .push))))) λ_ Q3 hn3 _=>dq (hn3 _ _ (hK _ _ (dq (hn _ _ ⟨⟨_,_,_,rfl⟩,ap e3,ap l3,k3.trans .push⟩))))
  ·rintro ρ S3 ⟨⟨x7,x8,x9,rfl⟩,e3,l3,k3⟩;exact hK _ _ (st (k _ _ k3))
end
theorem Hv {a n:J3}{m0 m1 m2 x y z:Kh}(h0:0<=m0/\m0 < a)(h1:0<=m1/\m1 < a)(h2:0<=m2/\m2 < a)(hx:0<=x/\x < n)(hy:0<=y/\y < n)(hz:0<=z/\z < n):GoodW a n [(m0,[]),(m1,[x]),(m2,[y,z])]:=by
 refine⟨λk p h=>?_,λk p h=>?_,λk p h=>?_⟩ <;> match k,h with
 | 0,h=>cases h; first|exact h0|rfl|(intro w hw; cases hw)
 | 1,h=>cases h; first|exact h1|rfl|(intro w hw; rw[Kk.mp hw]; exact hx)
 | 2,h=>cases h; first|exact h2|rfl|(intro w hw; rcases Kz.mp hw with e|hw <;> first|exact e ▸ hy|(rw[Kk.mp hw]; exact hz))
 | n+3,h=>simp at h
theorem Fd {Φ:Kn->FF}{ρ:Fm}{S:aa}{i n:J3}{Q:QW}(hv:∀Q:W->Prop,Q (.int n)->wV ρ i Q)(hn:n<=3)(k:∀j:Kh,0<=j->j<=27->j=(n:Kh)*n*n->Q (.int j,S)):wE Φ (.op .mul (.op .mul (.v i) (.v i)) (.v i)) ρ S Q:=by
 have b1 : -(2 ^ 64) < (n:Kh):=by omega
 have b2:(n:Kh) < 2 ^ 64:=by omega
 have hc:(n:Kh)*n*n<=27/\0<=(n:Kh)*n*n:=by rcases(show n=0\/n=1\/n=2\/n=3 by omega)with h|h|h|h <;> rw[h] <;> decide
 dsimp only[wE];have em:∀m:Kh,gg .mul (.int m) (.int n) S=ba (.int (m*n),S):=λm=>r4 b1 b2
 generalize gg .mul=B at em ⊢;refine hv _ ?_;refine hv _ ?_;refine ae (em _) ?_;refine hv _ ?_;refine ae (em _) ?_;have:=k _ hc.2 hc.1 rfl;exact this
theorem Aq {Φ:Kn->FF}{fuel:J3}{ρ:Fm}{S:aa}{K:Fm->aa->Prop}{Q:QO}{i0 i n:J3}{b:Ss}(hv:∀Q:W->Prop,Q (.int n)->wV ρ i Q)(hn:n<=3)(ok:iG b=true)
  (h:∀j:Kh,0<=j->j<=27->j=(n:Kh)*n*n->∃I:J3->Fm->aa->Prop,I 0 ρ S/\(∀(i:J3) (ρ:Fm) (S:aa),(i:Kh) < j->I i ρ S->zH Φ fuel b (ρ.set i0 (ba (.int i))) S (I (i+1)) Q)/\∀ρ S,I j.toNat ρ S->K ρ S) :
  Wp (gJ Φ fuel (.loop (.nm i0) (.rng (.cons (.op .mul (.op .mul (.v i) (.v i)) (.v i)) .nil)) b) ρ S) (uc K Q):=
 have hw:=Fd (Φ:=Φ) (S:=S) (Q:=λp=>∃(j:Kh) (I:J3->Fm->aa->Prop),p.1=.int j/\(-(2 ^ 62)<=j/\j < 2 ^ 62)/\I 0 ρ p.2/\(∀(i:J3) (ρ:Fm) (S:aa),(i:Kh) < j->I i ρ S->zH Φ fuel b (ρ.set i0 (ba (.int i))) S (I (i+1)) Q)/\∀ρ S,I j.toNat ρ S->K ρ S) hv hn λj j0 j27 e=>let ⟨I,h0,h1,h2⟩:=h j j0 j27 e; ⟨j,I,rfl,by omega,h0,h1,h2⟩
 jl rfl ok hw
section
variable{defs:JT (Kn×Df)}{fuel d:J3}{S:aa}{r:J3}{Q:QW}
theorem Ar (hfu:20 < fuel)(G:Gen defs)(hf:Fl S r)(k:∀w S',eO w->Fl S' r->Kp r S S'->Q (w,S')):wO (bM (aq defs fuel (d+7)) "_law_laying_rule" 1 [.ref r] S) Q:=by
 refine aL G.laying_rule rfl rfl λQ' hR=>?_
 replace k:∀w S',eO w->Fl S' r->Kp r S S'->Q' (.rt w,S'):=λz S' a b c=>hR _ _ (k z S' a b c)
 clear hR;show wZ _ _ cq [ba (.ref r),gV,gV,gV,gV,gV,gV,gV,gV,gV,gV,gV,gV,gV,gV] S Q';unfold cq;refine bm λK hK=>?_
 dsimp only[wS,wE,wA,wV,wG,Kj];refine bj (d:=d+5) G.pick hf (by decide) (by decide) λv S1 v0 v7 f1 k1=>hK _ _ ?_
 clear hK K;refine bm λK hK=>?_
 dsimp only[wS,wT,wE,wV,wG,je,aT,wB];refine aN (Q0:=Q') (λ_ Q2 _ hr=>?_) (λ_ Q2 hn _=>dq (hn _ _ (hK _ _ ?_)))
 ·refine st ?_;dsimp only[wS,wE,wA,wV,wG];exact sj (d:=d) hfu G f1 λw S2 a b c=>hr _ _ (k w S2 a b (k1.trans c))
 clear hK K hn;refine bm λK hK=>?_
 dsimp only[wS,wT,wE,wV,wG,je,aT,wB];refine aN (Q0:=Q') (λ_ Q2 _ hr=>?_) (λ_ Q2 hn _=>dq (hn _ _ (hK _ _ ?_)))
 ·refine st ?_;dsimp only[wS,wE,wA,wV,wG];exact xc (d:=d) hfu G f1 λw S2 a b c=>hr _ _ (k w S2 a b (k1.trans c))
 clear hK K hn;have hr1:=f1.lt;refine bm λK hK=>?_
 dsimp only[wS,wE,wA,wV,wG];refine nk (d:=d+4) G f1 λw2 S2 hw2 f2 k2=>?_
 obtain⟨bs0,q0,kvs0,most,rfl,hbs0,m1,m3,m6,hq0,hq0l,h40,hm0⟩:=hw2;dsimp only[wU];refine ae (show dB [2,3,4] [.tup (ag bs0),.ref q0,.int most] [ba (.ref r),ba (.int v),gV,gV,gV,gV,gV,gV,gV,gV,gV,gV,gV,gV,gV]=ba [ba (.ref r),ba (.int v),ba (.tup (ag bs0)),ba (.ref q0),ba (.int most),gV,gV,gV,gV,gV,gV,gV,gV,gV,gV]from rfl) (hK _ _ ?_)
 clear hK K;refine bm λK hK=>?_
 dsimp only[wS,wE,wA,wV,wG,Kj];refine bj (d:=d+5) G.pick f2 (by omega) (by omega) λv3 S3 v30 v3m f3 k3=>?_
 dsimp only[dP,aT];obtain⟨a,ea⟩ : ∃a:J3,1+v3=a:=⟨(1+v3).toNat,by omega⟩
 rw[ea];refine hK _ _ ?_;clear hK K;refine bm λK hK=>?_
 dsimp only[wS,wE,wA,wV,wG];refine um (d:=d+4) G (S0:=S1) hbs0 f3 hr1 (k2.trans k3) (k3.get _ _ (by omega) hq0) hq0l h40 (hm0.kp hr1 k3) λbs q kvs S4 hb hbl hq hql hm f4 k4=>?_
 dsimp only[wU];refine ae (show dB [2,3] [.tup (ag bs),.ref q] [ba (.ref r),ba (.int v),ba (.tup (ag bs0)),ba (.ref q0),ba (.int most),ba (.int a),gV,gV,gV,gV,gV,gV,gV,gV,gV]=ba [ba (.ref r),ba (.int v),ba (.tup (ag bs)),ba (.ref q),ba (.int most),ba (.int a),gV,gV,gV,gV,gV,gV,gV,gV,gV]from rfl) (hK _ _ ?_)
 clear hK K;rw[<- hbl]at hm m6;have hn:bs.length=2\/bs.length=3:=by rw[hbl]; exact(Al bs0 hbs0).1
 have hsz:SizeOk a bs:=⟨by omega,hb,by
  have h1:(a:Kh)*bs.length<=most*bs.length:=Int.mul_le_mul_of_nonneg_right (by omega) (by omega)
  exact_mod_cast Int.le_trans h1 m6,by omega⟩
 clear m6 hm0 hq0 hq0l h40 hbl hbs0 k2 k3 f2 f3;refine bm λK hK=>?_
 dsimp only[wS,wE,wA,wV,wG,Kj];refine fU (d:=d+1) hfu G f4 (by omega) (by omega) λms ns S5 hml hnl hnm f5 k5=>hK _ _ ?_
 clear hK K;have kk:Kp r S S5:=k1.trans (k4.trans k5);have hrt:=f5.lt;have hq5:S5[q]?=ba (.dic kvs):=k5.get _ _ (by omega) hq
 have hm5:MustE S5 bs.length S1.length kvs:=hm.kp hr1 k5;have hqn:q < S5.length:=dQ hq5;clear k1 k4 k5 f4 hm hq hql f1;refine st ?_;dsimp only[wS,wE,Kj];refine bm λK hK=>?_
 dsimp only[wS,wE,wA,wV,wG,Kj];refine cH ?_;rw[show(ag bs).length=bs.length from JV ..]
 refine hK _ _ ?_;clear hK K;refine bm λK hK=>?_
 refine Aq (n:=bs.length) (λQ q=>q) (by omega) rfl λj j0 j27 hj=>?_
 refine⟨(λ_ ρ S'=>(∃x9 x10 x11 x12 x13 x14,ρ=[ba (.ref r),ba (.int v),ba (.tup (ag bs)),ba (.ref q),ba (.int most),ba (.int a),ba (d6 ms ns bs []),ba (.ref S5.length),ba (.int bs.length),x9,x10,x11,x12,x13,x14])/\(∃kvs fs,S'[S5.length]?=ba (.dic kvs)/\FigD (bn a bs) kvs fs)/\S'[q]?=ba (.dic kvs)/\MustE S' bs.length S1.length kvs/\Fl S' r/\Kp r S S'),⟨⟨_,_,_,_,_,_,rfl⟩,⟨[],[],af,.nil⟩,ap hq5,hm5.ka .push,f5.ka .push,kk.trans .push⟩,?_,?_⟩
 ·rintro i ρ S6 hi ⟨⟨x9,x10,x11,x12,x13,x14,rfl⟩,⟨kvd,fs,e6,hd⟩,hq6,hm6,f6,k6⟩ Q2 hn2 _;clear hK k;have hnp:(0:Kh) < bs.length:=by omega
  have hnb:(bs.length:Kh) < 1073741824:=by omega
  have y1:0<=(i:Kh) % bs.length/\(i:Kh) % bs.length < bs.length:=⟨MM _ (by omega),MF _ hnp⟩
  have y2:0<=(i:Kh) / bs.length % bs.length/\(i:Kh) / bs.length % bs.length < bs.length:=⟨MM _ (by omega),MF _ hnp⟩
  have y3:0<=(i:Kh) / bs.length / bs.length/\(i:Kh) / bs.length / bs.length < bs.length:=by
   rcases hn with h|h <;> rw[h]at hj ⊢ <;> omega
  refine bm λK hK=>?_
  dsimp only[wS,wE,wA,wV,wG,Kj];refine ae (jd hnp) (ae (iF hnp hnb) (ae (jd hnp) ?_));dsimp only[w2];refine hK _ _ ?_;clear hK K;refine bm λK hK=>?_
  dsimp only[wS,wE,wA,wV,wG,Kj];refine ae (iF hnp hnb) (ae (iF hnp hnb) (hK _ _ ?_));clear hK K;dsimp only;generalize(i:Kh) % bs.length=z1 at y1 ⊢;generalize(i:Kh) / bs.length % bs.length=z2 at y2 ⊢;generalize(i:Kh) / bs.length / bs.length=z3 at y3 ⊢;refine bm λK hK=>?_
  dsimp only[wS,wT,wA,wE,wV,wG];refine Ap (d:=d+4) G hb y1 y2 y3 hq6 hm6 λb S7 k7=>?_
  dsimp only[gh,aT];refine aN (Q0:=Q2) (λ_ Q3 hn3 _=>?_) (λ_ Q3 hn3 _=>dq (hn3 _ _ (hK _ _ (dq (hn2 _ _ ⟨⟨_,_,_,_,_,_,rfl⟩,⟨kvd,fs,k7.get _ _ e6,hd⟩,k7.get _ _ hq6,hm6.ka k7,f6.ka k7,k6.trans (k7.kp r)⟩)))))
  refine bm λK3 hK3=>?_
  refine mw rfl rfl ?_;dsimp only[wE,wA,wV,wG];have h56:S5.length < S6.length:=dQ e6;have h67:=k7.len;refine Ah (d:=d+5) G (a:=a) (by omega) λt ts S8 e8 ht ht7 k8=>?_
  refine⟨t,ts.map ql,(λ_ ρ S'=>(∃x9 x13 x14,ρ=[ba (.ref r),ba (.int v),ba (.tup (ag bs)),ba (.ref q),ba (.int most),ba (.int a),ba (d6 ms ns bs []),ba (.ref S5.length),ba (.int bs.length),x9,ba (.int z1),ba (.int z2),ba (.int z3),x13,x14])/\(∃kvs fs,S'[S5.length]?=ba (.dic kvs)/\FigD (bn a bs) kvs fs)/\S'[q]?=ba (.dic kvs)/\MustE S' bs.length S1.length kvs/\S'[t]?=ba (.lst (ts.map ql))/\Fl S' r/\Kp r S S'),rfl,⟨⟨_,_,_,rfl⟩,⟨kvd,fs,k8.get _ _ (k7.get _ _ e6),hd⟩,k8.get _ _ (k7.get _ _ hq6),(hm6.ka k7).ka k8,e8,(f6.ka k7).ka k8,k6.trans ((k7.trans k8).kp r)⟩,λi ρ S' h=>h.2.2.2.2.1,?_,?_⟩
  ·rintro j w ρ S9 hw ⟨⟨x9,x13,x14,rfl⟩,⟨kvd,fs,e9,hd⟩,hq9,hm9,ht9,f9,k9⟩;clear hK3 hn3 hK hn2;rw[J6,J0]at hw;obtain⟨⟨tr1,tr2,tr3⟩,htr,rfl⟩:=hw;obtain⟨t1,t2,t3⟩:=ht _ (Kf htr);refine ae (show ic (.nm 13) (ql (tr1,tr2,tr3)) [ba (.ref r),ba (.int v),ba (.tup (ag bs)),ba (.ref q),ba (.int most),ba (.int a),ba (d6 ms ns bs []),ba (.ref S5.length),ba (.int bs.length),x9,ba (.int z1),ba (.int z2),ba (.int z3),x13,x14] S9=ba ([ba (.ref r),ba (.int v),ba (.tup (ag bs)),ba (.ref q),ba (.int most),ba (.int a),ba (d6 ms ns bs []),ba (.ref S5.length),ba (.int bs.length),x9,ba (.int z1),ba (.int z2),ba (.int z3),ba (ql (tr1,tr2,tr3)),x14],S9)from rfl) λQ4 hn4 _=>?_
   have hu:GoodW a bs.length [(tr1,[]),(tr2,[z1]),(tr3,[z2,z3])]:=Hv t1 t2 t3 y1 y2 y3;refine bm λK hK=>?_
   dsimp only[wS,wE,wA,wV,wG,Kj];refine ay (by decide) rfl (ay (by decide) rfl (hK _ _ ?_))
   clear hK K;refine st ?_;dsimp only[wS,wE,wA,wV,wG];refine ay (by decide) rfl (ae (jT (jh rfl)) ?_)
   refine jj (d:=d+3) (m0:=.tup (ms.map W.str)) (b0:=.tup []) (u:=[(tr1,[]),(tr2,[z1]),(tr3,[z2,z3])]) G hb hnl hu rfl λS10 k10=>?_
   have e10:=k10.get _ _ e9;exact Ac e10 hd hsz hu rfl λo ho=>dq (hn4 _ _ ⟨⟨_,_,_,rfl⟩,ho,by rw[b6 (KM ‹_›)]; exact k10.get _ _ hq9,(hm9.ka k10).set e10,by rw[b6 (by omega)]; exact k10.get _ _ ht9,(f9.ka k10).own hrt,(k9.trans (k10.kp r)).late kk.len⟩)
  ·rintro ρ S9 ⟨⟨x9,x13,x14,rfl⟩,hdd,hq9,hm9,ht9,f9,k9⟩;exact hK3 _ _ (dq (hn3 _ _ (hK _ _ (dq (hn2 _ _ ⟨⟨_,_,_,_,_,_,rfl⟩,hdd,hq9,hm9,f9,k9⟩)))))
 ·rintro ρ S6 ⟨⟨x9,x10,x11,x12,x13,x14,rfl⟩,⟨kvd,fs,e6,hd⟩,hq6,hm6,f6,k6⟩;refine hK _ _ (st ?_);dsimp only[wS,wE,wA,wV,wG];exact Ab (Q:=λp=>Q' (.rt p.1,p.2)) e6 hd hsz hml hnl hnm λw S8 hw k8=>k w S8 hw (f6.ka k8) (k6.trans (k8.kp r))
end
noncomputable def Tr:J3->W->Prop
 | _,.int _=>QI
 | _,.str _=>QI
 | n+1,.tup xs=>xs.length<=1000/\∀x∈xs,Tr n x
 | _,_=>Lw
theorem oV:∀n:J3,iB (KY n (.bl true))=ba (KY n true)
 | 0=>rfl
 | n+1=>by rw[LO,iB,oV n]; rfl
theorem CN (n:J3):(KY n true).all id=true:=by
 rw[Kr];intro x hx;rw[(List.mem_replicate.mp hx).2]; rfl
section
variable{defs:JT (Kn×Df)}{fuel:J3}
theorem vJ (hg:Is defs ("_law_alike" : Kn) 2 2 cv):∀(n d:J3) (w:W) (S:aa) (Q:QW),Tr n w->(∀S',Ka S S'->Q (.bl true,S'))->wO (bM (aq defs fuel (d+n+1)) "_law_alike" 2 [w,w] S) Q:=by
 intro n
 induction n with
 | zero=>
  intro d w S Q hw k;refine aL hg rfl rfl λQ' hR=>?_
  replace k:=hR _ _ (k S .refl);clear hR;show wZ _ _ cv [ba w,ba w] S Q';dsimp only[cv];cases w with
  | int x=>
   refine bm λK hK=>dA (λQ q=>q) (hK _ _ ?_)
   refine bm λK hK=>dA (λQ q=>⟨λz=>(by cases z),λ_=>q⟩) (hK _ _ ?_)
   refine bm λK hK=>r6 (λQ q=>q) λQ2 _ hr=>st ?_
   dsimp only[wS,wE,wV,wG];refine ae (show y6 S (.int x) "int" = ba true from rfl) ⟨λ_=>?_,λz=>by cases z⟩
   dsimp only[je,aT];rw[Lc];exact hr _ _ k
  | str x=>
   refine bm λK hK=>dA (λQ q=>q) (hK _ _ ?_)
   refine bm λK hK=>dA (λQ q=>⟨λz=>(by cases z),λ_=>q⟩) (hK _ _ ?_)
   refine bm λK hK=>dA (λQ q=>q) (hK _ _ ?_)
   refine bm λK hK=>r6 (λQ q=>q) λQ2 _ hr=>st ?_
   dsimp only[wS,wE,wV,wG];refine ae (show y6 S (.str x) "str" = ba true from rfl) ⟨λ_=>?_,λz=>by cases z⟩
   dsimp only[Do,aT];rw[Lc];exact hr _ _ k
  | _=>exact hw.elim
 | succ n ih=>
  intro d w S Q hw k;refine aL hg rfl rfl λQ' hR=>?_
  replace k:∀S',Ka S S'->Q' (.rt (.bl true),S'):=λS' a=>hR _ _ (k S' a)
  clear hR;show wZ _ _ cv [ba w,ba w] S Q';dsimp only[cv];cases w with
  | int x=>
   refine bm λK hK=>dA (λQ q=>q) (hK _ _ ?_)
   refine bm λK hK=>dA (λQ q=>⟨λz=>(by cases z),λ_=>q⟩) (hK _ _ ?_)
   refine bm λK hK=>r6 (λQ q=>q) λQ2 _ hr=>st ?_
   dsimp only[wS,wE,wV,wG];refine ae (show y6 S (.int x) "int" = ba true from rfl) ⟨λ_=>?_,λz=>by cases z⟩
   dsimp only[je,aT];rw[Lc];exact hr _ _ (k _ .refl)
  | str x=>
   refine bm λK hK=>dA (λQ q=>q) (hK _ _ ?_)
   refine bm λK hK=>dA (λQ q=>⟨λz=>(by cases z),λ_=>q⟩) (hK _ _ ?_)
   refine bm λK hK=>dA (λQ q=>q) (hK _ _ ?_)
   refine bm λK hK=>r6 (λQ q=>q) λQ2 _ hr=>st ?_
   dsimp only[wS,wE,wV,wG];refine ae (show y6 S (.str x) "str" = ba true from rfl) ⟨λ_=>?_,λz=>by cases z⟩
   dsimp only[Do,aT];rw[Lc];exact hr _ _ (k _ .refl)
  | tup xs=>
   obtain⟨hl,hx⟩:=hw;refine bm λK hK=>dA (λQ q=>q) (hK _ _ ?_)
   refine bm λK hK=>dA (λQ q=>⟨λz=>(by cases z),λ_=>q⟩) (hK _ _ ?_)
   refine bm λK hK=>dA (λQ q=>q) (hK _ _ ?_)
   refine bm λK hK=>dA (λQ q=>q) (hK _ _ ?_)
   refine bm λK hK=>dA (λQ q=>⟨λz=>(by cases z),λ_=>q⟩) (hK _ _ ?_)
   refine st ?_;dsimp only[wS,wE,wA,wV,wG];refine cH (cH ?_);dsimp only[je,aT,wB];rw[Lc];refine⟨λ_=>?_,λz=>by cases z⟩
   refine dF (xs.length:Kh) (λi ys ρ2 S2=>(∃a1,ρ2=[gV,a1,ba (.tup xs),ba (.tup xs)])/\ys=KY i (.bl true)/\Ka S S2) rfl rfl rfl (by omega) ?_ ?_ ?_
   ·dsimp only[wE,wA,wV,wG];exact cH ⟨rfl,⟨gV,rfl⟩,rfl,.refl⟩
   ·rintro i ys ρ2 S2 hi ⟨⟨a1,rfl⟩,rfl,k2⟩;have hi':i < xs.length:=by exact Ma.mp ‹_›
    dsimp only[iS,wC,wE,wA,wV,wG,Kj];refine⟨λ_=>ay (KG i) (by rw[Km]; exact J5 hi') (ay (KG i) (by rw[Km]; exact J5 hi') (ih d _ _ _ (hx _ (K1 hi')) λS3 k3=>⟨⟨_,rfl⟩,?_,k2.trans k3⟩)),λz=>by cases z⟩
    rw[List.replicate_succ']
   ·rintro ys ρ2 S2 ⟨_,rfl,k2⟩;rw[Km];refine⟨lr (by rw[PL]; exact hl),ae (a:=(.bl true,S2++[.lst (KY xs.length (.bl true))])) ?_ (k _ (k2.trans .push))⟩
    simp only[Bi.fn,El,az af,oV,K4,CN]
  | _=>exact hw.elim
end
noncomputable def vK:Ss:=
 (.cons (.ite (.cmp .gt (.v 2) (.v 3)) (.cons (.ret (.ix (.ix (.ix (.v 1) (.v 2)) (.c (.int 1))) (.v 3)))
 .nil) .nil)
 (.cons (.ret (.ix (.ix (.ix (.v 0) (.c (.int 1))) (.ix (.ix (.ix (.v 1) (.v 3)) (.c (.int 1))) (.v 2))) (.c (.int 1))))
 .nil))
noncomputable def en:Ss:=
 (.cons (.ret (.tup (.cons (.ix (.ix (.v 1) (.v 3)) (.c (.int 0))) (.cons (.bi .tuple (.cons (.comp (.own "way" 4 (.cons (.v 3) (.cons (.v 4) (.cons (.v 2) (.cons (.v 1) .nil))))) (.nm 1) (.seq (.v 2)) .nil [gV,gV,ba 3,ba 0,ba 1]) .nil)) .nil))))
 .nil)
noncomputable def bL:Ss:=
 (.cons (.set 3 (.bi .list (.cons (.bi .range (.cons (.v 1) .nil)) .nil)))
 (.cons (.set 4 (.lst .nil))
 (.cons (.whl (.cmp .lt (.bi .len (.cons (.v 4) .nil)) (.v 2)) (.cons (.ex (.me .append (.v 4) (.cons (.me .pop (.v 3) (.cons (.own "_law_pick" 2 (.cons (.v 0) (.cons (.bi .len (.cons (.v 3) .nil)) .nil))) .nil)) .nil)))
 .nil))
 (.cons (.ret (.bi .tuple (.cons (.v 4) .nil)))
 .nil))))
noncomputable def cD:Ss:=
 (.cons (.set 2 (.lst (.cons (.tup .nil) .nil)))
 (.cons (.loop (.nm 3) (.rng (.cons (.v 1) .nil)) (.cons (.set 2 (.comp (.op .add (.ix (.v 3) (.op .fdiv (.v 1) (.v 2))) (.tup (.cons (.op .mod (.v 1) (.v 2)) .nil))) (.nm 1) (.rng (.cons (.op .mul (.bi .len (.cons (.v 2) .nil)) (.v 0)) .nil)) .nil [gV,gV,ba 0,ba 2]))
 .nil))
 (.cons (.ret (.v 2))
 .nil)))
noncomputable def dj:Ss:=
 (.cons (.set 2 (.lst (.cons (.tup .nil) .nil)))
 (.cons (.loop (.nm 3) (.rng (.cons (.v 1) .nil)) (.cons (.set 4 (.lst .nil))
 (.cons (.loop (.nm 5) (.rng (.cons (.bi .len (.cons (.ix (.v 0) (.c (.int 0))) .nil)) .nil)) (.cons (.ex (.me .extend (.v 4) (.cons (.comp (.tup (.cons (.v 2) (.cons (.v 1) .nil))) (.nm 1) (.seq (.own "_law_digits" 2 (.cons (.bi .len (.cons (.ix (.v 0) (.c (.int 1))) .nil)) (.cons (.v 3) .nil)))) .nil [gV,gV,ba 5]) .nil)))
 .nil))
 (.cons (.set 2 (.comp (.op .add (.ix (.v 3) (.op .fdiv (.v 1) (.bi .len (.cons (.v 2) .nil)))) (.tup (.cons (.ix (.v 2) (.op .mod (.v 1) (.bi .len (.cons (.v 2) .nil)))) .nil))) (.nm 1) (.rng (.cons (.op .mul (.bi .len (.cons (.v 2) .nil)) (.bi .len (.cons (.v 4) .nil))) .nil)) .nil [gV,gV,ba 4,ba 2]))
 .nil))))
 (.cons (.ret (.v 2))
 .nil)))
section
variable{defs:JT (Kn×Df)}{fuel d:J3}{S:aa}{r:J3}{Q:QW}
theorem As {Φ:Kn->FF}{m0 b0:W}{ns:JT Kn}{bs:JT Kh}{a:J3}{u:Wd}{i j:J3}{Q:QO}(hb:GoodB bs)(hl:ns.length=bs.length)(hu:GoodW a bs.length u)(hi:i < u.length)(hj:j < u.length)(hij:i≠j)(k:Q (.rt (.int (dy bs u i j)),S)) :
  wZ Φ fuel vK [ba (.tup [m0,.tup (Kv bJ ns bs),b0]),ba (bB u),ba (.int i),ba (.int j)] S Q:=by
 have hpi:=aD (d:=(0,[])) hi;have hpj:=aD (d:=(0,[])) hj;unfold dy at k;dsimp only[vK];refine bm λK hK=>?_
 dsimp only[wS,wT,wE,wV,wG,E5,wO,wB,bB];refine aN (Q0:=Q) (λh Q2 _ hr=>?_) (λh Q2 hn _=>?_)
 ·have hji:j < i:=by have:=KQ h; omega
  rw[Ks hji]at k;have hw:j < (u.getD i (0,[])).2.length:=by rw[hu.len i _ hpi]; exact hji
  refine st ?_;dsimp only[wS,wE,wV,wG];refine ay (KG i) (oP hi) (ay (by decide) rfl (ay (KG j) ?_ (hr _ _ k)))
  rw[Km,J6,aD (d:=0) hw]; rfl
 ·have hji:¬ j < i:=by have:=L1 h; omega
  rw[KF hji]at k;refine dq (hn _ _ (hK _ _ ?_));clear hn hK;have hw:i < (u.getD j (0,[])).2.length:=by rw[hu.len j _ hpj]; omega
  have hg:=aD (d:=0) hw;obtain⟨g1,g2⟩:=hu.way j _ hpj _ (Kf hg);obtain⟨b,hb1,hb2,hb3⟩:=hb.rng ((u.getD j (0,[])).2.getD i 0).toNat (by omega)
  have hn:((u.getD j (0,[])).2.getD i 0).toNat < ns.length:=by omega
  rw[getD_some hb1]at k;refine st ?_;dsimp only[wS,wE,wV,wG];refine ay (by decide) rfl (ay (KG j) (oP hj) (ay (by decide) rfl (ay (KG i) ?_ (ay g1 (iJ (J5 hn) hb1) (ay (by decide) rfl k)))))
  rw[Km,J6,hg]; rfl
structure Parts (defs:JT (Kn×Df)):Prop where
 way:Is defs ("way" : Kn) 4 4 vK
 over:Is defs ("point_over" : Kn) 4 4 en
theorem Hw (P:Parts defs){m0 b0:W}{ns:JT Kn}{bs:JT Kh}{a:J3}{u:Wd}{i j:J3}(hb:GoodB bs)(hl:ns.length=bs.length)(hu:GoodW a bs.length u)(hi:i < u.length)(hj:j < u.length)(hij:i≠j)(k:Q (.int (dy bs u i j),S)) :
  wO (bM (aq defs fuel (d+1)) "way" 4 [.tup [m0,.tup (Kv bJ ns bs),b0],bB u,.int i,.int j] S) Q:=
 aL P.way rfl rfl λQ' hR=>As hb hl hu hi hj hij (hR _ _ k)
theorem Fe (P:Parts defs){m0 b0:W}{ns:JT Kn}{bs:JT Kh}{a:J3}{u:Wd}{ps:JT J3}{i:J3}(hb:GoodB bs)(hl:ns.length=bs.length)(hu:GoodW a bs.length u)(hps:∀p∈ps,p < u.length/\i≠p)(hi:i < u.length)(hsz:ps.length<=1000)(k:∀S',Ka S S'->Q (dR ((u.getD i (0,[])).1,ps.map λq=>dy bs u i q),S')) :
  wO (bM (aq defs fuel (d+2)) "point_over" 4 [.tup [m0,.tup (Kv bJ ns bs),b0],bB u,.tup (al ps),.int i] S) Q:=by
 refine aL P.over rfl rfl λQ' hR=>?_
 replace k:∀S',Ka S S'->Q' (.rt (dR ((u.getD i (0,[])).1,ps.map λq=>dy bs u i q)),S'):=λS' a=>hR _ _ (k S' a)
 clear hR;show wZ _ _ en [ba (.tup [m0,.tup (Kv bJ ns bs),b0]),ba (bB u),ba (.tup (al ps)),ba (.int i)] S Q';generalize hR0:W.tup [m0,.tup (Kv bJ ns bs),b0]=R;dsimp only[en];refine st ?_;dsimp only[wS,wE,wA,wV,wG];refine ay (KG i) (oP hi) (ay (by decide) rfl ?_)
 refine qb (al ps) (λj ys ρ2 S2=>(∃a1,ρ2=[gV,a1,ba (.int i),ba R,ba (bB u)])/\ys=(ps.take j).map (λq=>W.int (dy bs u i q))/\Ka S S2) rfl rfl rfl ⟨rfl,⟨gV,rfl⟩,rfl,.refl⟩ ?_ ?_
 ·rintro j w ys ρ2 S2 hw ⟨⟨a1,rfl⟩,rfl,k2⟩;unfold al at hw;rw[J6,J0]at hw;obtain⟨q,hq,rfl⟩:=hw;obtain⟨hqu,hqi⟩:=hps q (Kf hq);refine ae (show ic (.nm 1) (.int (q:Kh)) [gV,a1,ba (.int i),ba R,ba (bB u)] S2=ba ([gV,ba (.int (q:Kh)),ba (.int i),ba R,ba (bB u)],S2)from rfl) ?_
  dsimp only[iS,wC,wE,wA,wV,wG];subst hR0;refine⟨λ_=>Hw (d:=d) P hb hl hu hi hqu hqi ⟨⟨_,rfl⟩,?_,k2⟩,λz=>by cases z⟩
  rw[KZ,hq];simp
 ·rintro ys ρ2 S2 ⟨_,rfl,k2⟩;rw[show(al ps).length=ps.length from JV ..,Lm]
  refine⟨lr (by rw[JV]; exact hsz),d4 af ?_⟩
  have:=k _ (k2.trans (Ka.push (o:=O.lst (ps.map λq=>W.int (dy bs u i q)))))
  unfold dR at this;rw[LN]at this;exact this
end
section
variable{S:aa}{Q:QW}
theorem sy:∀(xs:JT J3) (i:J3),(al xs).eraseIdx i=al (xs.eraseIdx i)
 | [],i=>by cases i <;> rfl
 | x::xs,0=>rfl
 | x::xs,i+1=>by
  show W.int (x:J3)::(al xs).eraseIdx i=W.int (x:J3)::al (xs.eraseIdx i);rw[sy xs i]
theorem xi (n:J3):BI 0 ((n:Kh) - 0).toNat=al (KA n):=by
 unfold BI al;rw[show((n:Kh) - 0).toNat=n by omega]
 exact LG λk _=>by rw[Ow]
theorem vL {i n:J3}(h:S[i]?=ba (.rng 0 n))(hn:n<=1000)(q:Q (.ref S.length,S++[.lst (al (KA n))])):wO (Bi.list.fn [.ref i] S) Q:=by
 refine ae ?_ q;have h1:yk S i=ba (0,(n:Kh)):=by simp[yk,h]
 have h2:kA [.ref i] S=ba (.ref S.length,S++[.lst (al (KA n))]):=by
  simp only[kA,h1];rw[Ks ⟨by omega,by omega,by omega,by omega,by rw[K8]; omega⟩,xi]
 simp only[Bi.fn,Cn,h2]
theorem xj {Φ:Kn->FF}{fuel:J3}{ρ:Fm}{K:Fm->aa->Prop}{Q:QO}{i j n:J3}{m:Kh}(hm:m=n)(hv:∀Q:W->Prop,Q (.int m)->wV ρ i Q)(hn:n<=1000)(k:∀(t:J3) (S':aa),t=S.length+1->S'=S++[O.rng 0 n]++[.lst (al (KA n))]->K (ρ.set j (ba (.ref t))) S') :
  wS Φ fuel (.set j (.bi .list (.cons (.bi .range (.cons (.v i) .nil)) .nil))) ρ S K Q:=by
 have e:Bi.range.fn [.int m] S=ba (.ref S.length,S++[.rng 0 m]):=by
  simp only[Bi.fn,lJ];rw[Ks ⟨by omega,by omega⟩]
 have h:wO (Bi.list.fn [.ref S.length] (S++[O.rng 0 m])) λp=>K (ρ.set j (ba p.1)) p.2:=by
  subst hm;exact vL af hn (k _ _ (by simp) rfl)
 have g:wO (Bi.range.fn [.int m] S) λp=>wO (Bi.list.fn [p.1] p.2) λp=>K (ρ.set j (ba p.1)) p.2:=by
  rw[e];exact h
 dsimp only[wS,wE,wA];exact hv _ g
theorem Hx {t:J3}{xs:JT W}{v:Kh}{w:W}(h:S[t]?=ba (.lst xs))(h0:0<=v)(hw:xs[v.toNat]?=ba w)(hl:xs.length<=1000)(q:Q (w,S.set t (.lst (xs.eraseIdx v.toNat)))):wO (Me.pop.fn (.ref t) [.int v] S) Q:=by
 refine ae ?_ q;have hv:=(J9.mp hw).1;have hs:seqIndex? v xs.length=ba v.toNat:=by
  unfold seqIndex?;rw[KF (show ¬ v < 0 by omega)]
  exact Ks (by rw[J2]; exact⟨Ly h0,Ly (by omega)⟩)
 simp only[Me.fn,BH,cQ h];rw[Ks ⟨by omega,by omega⟩]
 simp only[hs,hw]
end
section
variable{defs:JT (Kn×Df)}{fuel d:J3}{S:aa}{r:J3}{Q:QW}
theorem CO (G:Gen defs)(hg:Is defs ("_law_drawn_points" : Kn) 3 5 bL){many size:J3}(hf:Fl S r)(hm:many<=900)(hs:size<=many)(hfu:size < fuel)(k:∀(ps:JT J3) S',ps.length=size->ps.Nodup->(∀p∈ps,p < many)->Fl S' r->Kp r S S'->Q (.tup (al ps),S')) :
  wO (bM (aq defs fuel (d+2)) "_law_drawn_points" 3 [.ref r,.int many,.int size] S) Q:=by
 refine aL hg rfl rfl λQ' hR=>?_
 replace k:∀(ps:JT J3) S',ps.length=size->ps.Nodup->(∀p∈ps,p < many)->Fl S' r->Kp r S S'->Q' (.rt (.tup (al ps)),S'):=λa b c e f g h=>hR _ _ (k a b c e f g h)
 clear hR;show wZ _ _ bL [ba (.ref r),ba (.int many),ba (.int size),gV,gV] S Q';have hrt:=hf.lt;dsimp only[bL];refine bm λK hK=>?_
 generalize hM:(many:Kh)=M at hK ⊢;refine xj hM.symm (λQ q=>q) (by exact Kc ‹_› (Kd rfl)) λt S1 ht hS1=>hK _ _ ?_
 clear hK K;subst hM;dsimp only[Kj];have e1:S1[t]?=ba (.lst (al (KA many))):=by
  rw[hS1,show t=(S++[O.rng 0 many]).length by rw[ht]; simp]; exact af
 have l1:S.length < t:=by omega
 have f1:Fl S1 r:=by rw[hS1]; exact(hf.ka .push).ka .push
 have k1:Kp r S S1:=by rw[hS1]; exact Kp.push.trans .push
 have l2:=dQ e1;clear hS1 ht;refine st ?_;dsimp only[wS,wE,wA,Kj];refine bm λK hK=>?_
 have nl:∀xs:JT J3,(al xs).length=xs.length:=λxs=>JV ..
 refine zI (λm ρ S'=>ρ=[ba (.ref r),ba (.int many),ba (.int size),ba (.ref t),ba (.ref S1.length)]/\∃ls ps:JT J3,S'[t]?=ba (.lst (al ls))/\S'[S1.length]?=ba (.lst (al ps))/\(ls++ps).Nodup/\(∀p∈ls++ps,p < many)/\ls.length+ps.length=many/\ps.length+m=size/\Fl S' r/\Kp r S S') size rfl rfl hfu ⟨rfl,KA many,[],ap e1,af,by rw[LW]; exact N8,λp hp=>by rw[LW]at hp; exact KU.mp hp,by simp,by simp,f1.ka .push,k1.trans .push⟩ ?_
 rintro m ρ S2 ⟨rfl,ls,ps,e2,e3,nd,lt,hl,hsz,f2,k2⟩;dsimp only[wT,wE,wA,wV,wG];refine fH e3 ?_;rw[nl];dsimp only[zD,aT,wB];refine⟨λh=>?_,λh=>?_⟩
 ·have h:(ps.length:Kh) < size:=KQ h;refine⟨m - 1,by omega,λQ2 hn _=>?_⟩
  clear hK k;refine st ?_;dsimp only[wS,wE,wA,wV,wG];refine⟨dD e3,dD e2,fH e2 ?_⟩;rw[nl];refine bj (d:=d) G.pick f2 (by omega) (by omega) λv S3 v0 v1 f3 k3=>?_
  have e2':=k3.get _ _ (by omega) e2
  have e3':=k3.get _ _ (by omega) e3
  have hv:v.toNat < ls.length:=by omega
  refine Hx e2' v0 (lu (J5 hv)) (by rw[nl]; omega) ?_
  have e3s:(S3.set t (.lst ((al ls).eraseIdx v.toNat)))[S1.length]?=ba (.lst (al ps)):=by rw[b6 (Kt ‹_›)]; exact e3'
  refine oN e3s (by rw[nl]; omega) (dq (hn _ _ ⟨rfl,ls.eraseIdx v.toNat,ps++[ls[v.toNat]],?_,?_,?_,?_,?_,?_,(f3.own (Pq ‹_› ‹_›)).own (by omega),((k2.trans k3).late (L8 ‹_›)).late (by have:=k1.len; assumption)⟩))
  ·rw[b6 (KM ‹_›),bV e2'];rw[sy]
  ·rw[bV e3s];unfold al;rw[KS]; rfl
  ·have hp:(ls.eraseIdx v.toNat++(ps++[ls[v.toNat]])).Perm (ls++ps):=by
    have h1:(ls[v.toNat]::ls.eraseIdx v.toNat).Perm ls:=iZ hv;have h2:(ls.eraseIdx v.toNat++(ps++[ls[v.toNat]])).Perm (ls[v.toNat]::(ls.eraseIdx v.toNat++ps)):=by
     rw[<- Mq]; exact List.perm_append_singleton _ _
    exact h2.trans ((h1.append_right ps))
   exact hp.nodup_iff.mpr nd
  ·intro p hp;refine lt p ?_;rcases K2.mp hp with h|h
   ·exact LK _ (List.mem_of_mem_eraseIdx h)
   ·rcases K2.mp h with h|h
    ·exact KH _ h
    ·rw[Kk.mp h]; exact LK _ (K1 hv)
  ·rw[No hv,J8,LS]; omega
  ·rw[J8,LS]; omega
 ·have h:¬ (ps.length:Kh) < size:=L1 h;refine hK _ _ (st ?_);dsimp only[wS,wE,wA,wV,wG];exact d4 e3 (k ps _ (by omega) (Nj.mp nd).2.1 (λp hp=>lt p (KH _ hp)) f2 k2)
end
noncomputable def cr (n:J3):J3->JT (JT Kh)
 | 0=>[[]]
 | k+1=>(KA ((cr n k).length*n)).map λi=>(cr n k).getD (i / n) []++[((i % n:J3):Kh)]
noncomputable def cw (a n k:J3):JT Pt:=(KA a).flatMap λ(m:J3)=>(cr n k).map λds=>(((m:J3):Kh),ds)
noncomputable def c7 (a n:J3):J3->JT Wd
 | 0=>[[]]
 | k+1=>(KA ((c7 a n k).length*(cw a n k).length)).map λi=>(c7 a n k).getD (i / (cw a n k).length) []++[(cw a n k).getD (i % (cw a n k).length) (0,[])]
theorem CP {n k:J3}{ds:JT Kh}:ds∈cr n k->ds.length<=k:=by
 induction k generalizing ds with
 | zero=>intro h; cases Kk.mp h; exact J7 _
 | succ k ih=>
  intro h;obtain⟨i,hi,rfl⟩:=Ko.mp h;have hi:=KU.mp hi;have hn:0 < n:=by
   rcases ON n with h|h
   ·rw[h,Pw]at hi; omega
   ·exact h
  have hlt:i / n < (cr n k).length:=Mo (by rw[Nu]; exact hi)
  have:=ih (Kf (aD (d:=[]) hlt));rw[J8,LS]; omega
theorem Du {Φ:Kn->FF}{ρ:Fm}{S:aa}{a b:E}{x y:Kh}{Q:QW}(ha:∀Q:QW,Q (.int x,S)->wE Φ a ρ S Q)(hb:∀Q:QW,Q (.int y,S)->wE Φ b ρ S Q)(h1 : -(2 ^ 64) < y)(h2:y < 2 ^ 64)(q:Q (.int (x*y),S)):wE Φ (.op .mul a b) ρ S Q:=by
 have em:gg .mul (.int x) (.int y) S=ba (.int (x*y),S):=r4 h1 h2;dsimp only[wE];refine ha _ ?_;refine hb _ ?_;dsimp only;rw[em];exact q
theorem iK {n:J3}:∀k:J3,(cr n k).length=n ^ k
 | 0=>rfl
 | k+1=>by rw[cr,JV,KI,iK k,SN]
theorem At {n k:J3}(hn:n<=3)(hk:k<=5):(cr n k).length<=243/\(k<=4->(cr n k).length<=81):=by
 rw[iK];exact⟨Kc (Os hn k) (Of (n:=3) (by decide) hk),λh=>Kc (Os hn k) (Of (n:=3) (by decide) h)⟩
section
variable{defs:JT (Kn×Df)}{fuel d:J3}{S:aa}{r:J3}{Q:QW}
theorem Au (hg:Is defs ("_law_digits" : Kn) 2 4 cD){n k:J3}(hn1:1<=n)(hn3:n<=3)(hk5:k<=5)(kk:∀(q:J3) (S':aa),S'[q]?=ba (.lst ((cr n k).map λds=>.tup (ag ds)))->S.length<=q->Ka S S'->Q (.ref q,S')) :
  wO (bM (aq defs fuel (d+1)) "_law_digits" 2 [.int n,.int k] S) Q:=by
 refine aL hg rfl rfl λQ' hR=>?_
 replace kk:∀(q:J3) (S':aa),S'[q]?=ba (.lst ((cr n k).map λds=>.tup (ag ds)))->S.length<=q->Ka S S'->Q' (.rt (.ref q),S'):=λa b c e f=>hR _ _ (kk a b c e f)
 clear hR;show wZ _ _ cD [ba (.int n),ba (.int k),gV,gV] S Q';dsimp only[cD];refine st ?_;dsimp only[wS,wE,wA,Kj];refine bm λK hK=>?_
 refine ee (k:Kh) (λi ρ S'=>∃(q:J3) (a3:J1 W),ρ=[ba (.int n),ba (.int k),ba (.ref q),a3]/\S'[q]?=ba (.lst ((cr n i).map λds=>.tup (ag ds)))/\S.length<=q/\Ka S S') rfl rfl (by omega) ⟨rfl,_,_,rfl,af,J7 _,.push⟩ ?_ ?_
 ·rintro i ρ S1 hi ⟨q,a3,rfl,e1,hq,k1⟩ Q2 hn _;clear hK kk;obtain⟨b9,b3⟩:=At (n:=n) (k:=i) hn3 (by omega)
  have b3:=b3 (by omega)
  have hP:(cr n i).length*n<=243:=P9 b3 hn3;have hPz:(((cr n i).length:Kh)*(n:Kh))=(((cr n i).length*n:J3):Kh):=(PB ..).symm;refine st ?_;dsimp only[wS,wE,Kj];refine dF ((((cr n i).length*n:J3)):Kh) (λj ys ρ2 S2=>(∃a1,ρ2=[gV,a1,ba (.int n),ba (.ref q)])/\ys=((cr n (i+1)).take j).map (λds=>.tup (ag ds))/\S2=S1) rfl rfl rfl (by omega) ?_ ?_ ?_
  ·refine Du (x:=(cr n i).length) (y:=n) (λQ q=>?_) (λQ q=>q) (by omega) (by omega) ⟨by rw[hPz],⟨gV,rfl⟩,rfl,rfl⟩
   dsimp only[wE,wA,wV,wG];refine fH e1 ?_;rw[JV];exact q
  ·rintro j ys ρ2 S2 hj ⟨⟨a1,rfl⟩,rfl,rfl⟩;have hj':j < (cr n i).length*n:=by exact Ma.mp ‹_›
   have hlt:j / n < (cr n i).length:=Mo (by rw[Nu]; exact hj')
   have hg:=aD (d:=[]) hlt;have hdl:=CP (Kf hg);dsimp only[iS,wC,wE,wA,wV,wG,Kj];refine⟨λ_=>ae (iF (by omega) (by omega)) ?_,λz=>by cases z⟩
   refine ik e1 (w:=.tup (ag ((cr n i).getD (j / n) []))) (Ol (by omega) (by omega)) (by rw[show((j:Kh) / (n:Kh)).toNat=j / n from rfl,J6,hg]; rfl) ?_
   refine ae (jd (by omega)) (ae (jT (lr (by rw[J8,show(ag ((cr n i).getD (j / n) [])).length=((cr n i).getD (j / n) []).length from JV ..]; show _+1<=1000; omega))) ⟨⟨_,rfl⟩,?_,rfl⟩)
   have ed:(cr n (i+1))[j]?=ba ((cr n i).getD (j / n) []++[((j % n:J3):Kh)]):=by
    rw[cr,J6,Mu hj']; rfl
   rw[KZ,ed];simp[ag]
  ·rintro ys ρ2 S2 ⟨_,rfl,rfl⟩;have hl:(cr n (i+1)).length=(cr n i).length*n:=by rw[cr,JV,KI]
   rw[Km,<- hl,Lm];refine⟨lr (by rw[JV,hl]; exact Kc ‹_› (Kd rfl)),dq (hn _ _ ⟨_,_,rfl,af,k1.len,k1.trans .push⟩)⟩
 ·rintro ρ S1 ⟨q,a3,rfl,e1,hq,k1⟩;exact hK _ _ (st (kk q S1 (by rw[Km]at e1; exact e1) hq k1))
end
theorem CQ {a n k:J3}{u:Wd}:u∈c7 a n k->u.length<=k:=by
 induction k generalizing u with
 | zero=>intro h; cases Kk.mp h; exact J7 _
 | succ k ih=>
  intro h;obtain⟨i,hi,rfl⟩:=Ko.mp h;have hi:=KU.mp hi;have hlt:i / (cw a n k).length < (c7 a n k).length:=Mo (by rw[Nu]; exact hi)
  have:=ih (Kf (aD (d:=[]) hlt));rw[J8,LS]; omega
theorem mx {a n k:J3}:(cw a n k).length=a*n ^ k:=by
 unfold cw
 induction a with
 | zero=>simp
 | succ a ih=>rw[Om,Ot,J8,ih]; simp[iK,Pp]
theorem eP {a n:J3}(k:J3):(c7 a n (k+1)).length=(c7 a n k).length*(cw a n k).length:=by rw[c7,JV,KI]
theorem sA {a n k:J3}(ha1:1<=a)(ha:a<=3)(hn1:1<=n)(hn:n<=3)(han:a*n<=6)(hk:k<=2):1<=(cw a n k).length/\(cw a n k).length<=27/\(c7 a n k).length*(cw a n k).length<=216:=by
 have w0:(c7 a n 0).length=1:=rfl;have w1:=eP (a:=a) (n:=n) 0;have w2:=eP (a:=a) (n:=n) 1;simp only[mx]at w1 w2 ⊢;rcases(show k=0\/k=1\/k=2 by omega)with rfl|rfl|rfl <;> rcases(show a=1\/a=2\/a=3 by omega)with rfl|rfl|rfl <;> rcases(show n=1\/n=2\/n=3 by omega)with rfl|rfl|rfl <;> simp_all
theorem my {Φ:Kn->FF}{ρ:Fm}{S:aa}{elt e:E}{tg:Tg}{cs:Es}{cap:JT (J1 J3)}{Q:QW}(oi:ey e=true)(oe:ey elt=true)(oc:qI cs=true)(he:wE Φ e ρ S λp=>∃(t:J3) (xs:JT W) (I:J3->JT W->Fm->aa->Prop),p.1=.ref t/\I 0 [] (fP cap ρ) p.2/\(∀i ys ρ S,I i ys ρ S->S[t]?=ba (.lst xs))/\
  (∀(i:J3) (w:W) (ys:JT W) (ρ:Fm) (S:aa),xs[i]?=ba w->I i ys ρ S->wO (ic tg w ρ S) λq=>iS Φ elt cs q.1 q.2 (λy=>I (i+1) (ys++[y])) (I (i+1) ys))/\
  ∀ys ρ S,I xs.length ys ρ S->ys.length<=sizeLine/\Q (.ref S.length,S++[.lst ys])):Wp (aH Φ (.comp elt tg (.seq e) cs cap) ρ S) Q:=by
 obtain⟨w,S1,e1,t,xs,I,rfl,h0,hat,hstep,hend⟩:=cu oi he;exact ma (mi:=.live t) (S1:=S1) I oe oc (by simp only[lp,fY,e1,az (hat _ _ _ _ h0)]) (λi ys ρ S h=>by simp only[MI.at,az (hat _ _ _ _ h)]) (by simp only[MI.len,az (hat _ _ _ _ h0),K4]) h0 hstep hend
section
variable{defs:JT (Kn×Df)}{fuel d:J3}{S:aa}{r:J3}{Q:QW}
theorem Hy {t l:J3}{xs ys:JT W}(h:S[t]?=ba (.lst xs))(h2:S[l]?=ba (.lst ys))(hl:xs.length+ys.length<=1000)(q:Q (.non,S.set t (.lst (xs++ys)))):wO (Me.extend.fn (.ref t) [.ref l] S) Q:=by
 refine ae ?_ q;simp only[Me.fn,iY,cQ h,cQ h2];rw[Ks (lr hl)]
theorem Av (hd:Is defs ("_law_digits" : Kn) 2 4 cD)(hg:Is defs ("_law_worlds" : Kn) 2 6 dj){a n:J3}{M N:JT W}{b0:W}(hM:M.length=a)(hN:N.length=n)(ha1:1<=a)(ha3:a<=3)(hn1:1<=n)(hn3:n<=3)(han:a*n<=6)
  (kk:∀(q:J3) (S':aa),S'[q]?=ba (.lst ((c7 a n 3).map bB))->S.length<=q->Ka S S'->Q (.ref q,S')) :
  wO (bM (aq defs fuel (d+2)) "_law_worlds" 2 [.tup [.tup M,.tup N,b0],.int 3] S) Q:=by
 refine aL hg rfl rfl λQ' hR=>?_
 replace kk:∀(q:J3) (S':aa),S'[q]?=ba (.lst ((c7 a n 3).map bB))->S.length<=q->Ka S S'->Q' (.rt (.ref q),S'):=λa b c e f=>hR _ _ (kk a b c e f)
 clear hR;show wZ _ _ dj [ba (.tup [.tup M,.tup N,b0]),ba (.int 3),gV,gV,gV,gV] S Q';generalize hR0:W.tup [.tup M,.tup N,b0]=R;dsimp only[dj];refine st ?_;dsimp only[wS,wE,wA,Kj];refine bm λK hK=>?_
 refine ee 3 (λi ρ S'=>∃(q:J3) (a3 a4 a5:J1 W),ρ=[ba R,ba (.int 3),ba (.ref q),a3,a4,a5]/\S'[q]?=ba (.lst ((c7 a n i).map bB))/\S.length<=q/\Ka S S') rfl rfl (by decide) ⟨rfl,_,_,_,_,rfl,af,J7 _,.push⟩ ?_ ?_
 ·rintro i ρ S1 hi ⟨q,a3,a4,a5,rfl,e1,hq,k1⟩ Q2 hn _;clear hK kk;have hi2:i<=2:=by omega
  obtain⟨p1,p27,hP⟩:=sA (k:=i) ha1 ha3 hn1 hn3 han hi2;have hq1:=dQ e1;refine st ?_;dsimp only[wS,wE,wA,Kj];refine bm λK hK=>?_
  refine jl rfl rfl ?_;dsimp only[wE,wA,wV,wG];subst hR0;refine ay (by decide) rfl (cH ?_)
  rw[hM];refine⟨(a:Kh),λm ρ S'=>∃a5,ρ=[ba (.tup [.tup M,.tup N,b0]),ba (.int 3),ba (.ref q),ba (.int i),ba (.ref S1.length),a5]/\S'[S1.length]?=ba (.lst ((cw m n i).map dR))/\S'[q]?=ba (.lst ((c7 a n i).map bB))/\Ka S S',rfl,by omega,⟨a5,rfl,af,ap e1,k1.trans .push⟩,?_,?_⟩
  ·rintro m ρ S2 hm ⟨a5,rfl,e2,e2q,k2⟩ Q3 hn3' _;clear hK hn;have hS12:=dQ e2;refine st ?_;dsimp only[wS,wE,wA,wV,wG,Kj];refine⟨dD e2,?_⟩;refine my rfl rfl rfl ?_;dsimp only[wE,wA,wV,wG];refine ay (by decide) rfl (cH ?_)
   rw[hN];refine Au (d:=d) hd hn1 hn3 (by exact Kc ‹_› (Kd rfl)) λl S3 e3 hl k3=>?_
   refine⟨l,(cr n i).map λds=>.tup (ag ds),λj ys ρ2 S4=>(∃a1,ρ2=[gV,a1,ba (.int m)])/\ys=((cr n i).take j).map (λds=>dR ((m:Kh),ds))/\S4=S3,rfl,⟨⟨gV,rfl⟩,rfl,rfl⟩,λj ys ρ2 S4 h=>by rw[h.2.2]; exact e3,?_,?_⟩
   ·rintro j w ys ρ2 S4 hw ⟨⟨a1,rfl⟩,rfl,rfl⟩;rw[J6,J0]at hw;obtain⟨ds,hds,rfl⟩:=hw;refine ae (show ic (.nm 1) (.tup (ag ds)) [gV,a1,ba (.int m)] S4=ba ([gV,ba (.tup (ag ds)),ba (.int m)],S4)from rfl) ?_
    refine⟨λ_=>⟨⟨_,rfl⟩,?_,rfl⟩,λz=>by cases z⟩
    rw[KZ,hds];simp[dR,ag]
   ·rintro ys ρ2 S4 ⟨_,rfl,rfl⟩;rw[show((cr n i).map λds=>W.tup (ag ds)).length=(cr n i).length from JV ..,Lm]
    have hdl:=(At (n:=n) (k:=i) hn3 (by exact Kc ‹_› (Kd rfl))).1
    have e2':=ap (u:=O.lst ((cr n i).map λds=>dR ((m:Kh),ds))) (k3.get _ _ e2)
    have hpm:(cw m n i).length<=27:=by
     rw[mx]at p27 ⊢;exact Kc (Og _ (by omega)) p27
    refine⟨lr (by rw[JV]; exact Kc ‹_› (Kd rfl)),Hy e2' af (by rw[JV,JV]; omega) (dq (hn3' _ _ ⟨_,rfl,?_,?_,((k2.trans k3).trans .push).late k1.len⟩))⟩
    ·rw[bV e2'];unfold cw;rw[Om,Ot,KS];simp
    ·rw[b6 (KM ‹_›)]; exact ap (k3.get _ _ e2q)
  ·rintro ρ S2 ⟨a5,rfl,e2,e2q,k2⟩;rw[Km]at e2;refine hK _ _ ?_;clear hK K;have hPz:(((c7 a n i).length:Kh)*((cw a n i).length:Kh))=(((c7 a n i).length*(cw a n i).length:J3):Kh):=(PB ..).symm;refine st ?_;dsimp only[wS,wE,Kj];refine dF (((c7 a n i).length*(cw a n i).length:J3):Kh) (λj ys ρ2 S3=>(∃a1,ρ2=[gV,a1,ba (.ref S1.length),ba (.ref q)])/\ys=((c7 a n (i+1)).take j).map bB/\S3=S2) rfl rfl rfl (by omega) ?_ ?_ ?_
   ·refine Du (x:=(c7 a n i).length) (y:=(cw a n i).length) (λQ q'=>?_) (λQ q'=>?_) (by omega) (by omega) ⟨by rw[hPz],⟨gV,rfl⟩,rfl,rfl⟩
    ·dsimp only[wE,wA,wV,wG];refine fH e2q ?_;rw[JV];exact q'
    ·dsimp only[wE,wA,wV,wG];refine fH e2 ?_;rw[JV];exact q'
   ·rintro j ys ρ2 S3 hj ⟨⟨a1,rfl⟩,rfl,rfl⟩;have hj':j < (c7 a n i).length*(cw a n i).length:=by exact Ma.mp ‹_›
    have hlt:j / (cw a n i).length < (c7 a n i).length:=Mo (by rw[Nu]; exact hj')
    have hg:=aD (d:=[]) hlt;have hwl:=CQ (Kf hg);have hmod:j % (cw a n i).length < (cw a n i).length:=Ps _ p1;have hp:=aD (d:=(0,[])) hmod;dsimp only[iS,wC,wE,wA,wV,wG,Kj];refine⟨λ_=>fH e2 ?_,λz=>by cases z⟩
    rw[JV];refine ae (iF (by omega) (by omega)) ?_
    refine ik e2q (w:=bB ((c7 a n i).getD (j / (cw a n i).length) [])) (Ol (by omega) (by omega)) (by rw[show((j:Kh) / ((cw a n i).length:Kh)).toNat=j / (cw a n i).length from rfl,J6,hg]; rfl) (fH e2 ?_)
    rw[JV];refine ae (jd (by omega)) (ik e2 (w:=dR ((cw a n i).getD (j % (cw a n i).length) (0,[]))) (MM _ (by omega)) (by rw[show((j:Kh) % ((cw a n i).length:Kh)).toNat=j % (cw a n i).length from rfl,J6,hp]; rfl) ?_)
    refine ae (jT (lr (by rw[J8,JV]; show _+1<=1000; omega))) ⟨⟨_,rfl⟩,?_,rfl⟩
    have ed:(c7 a n (i+1))[j]?=ba ((c7 a n i).getD (j / (cw a n i).length) []++[(cw a n i).getD (j % (cw a n i).length) (0,[])]):=by
     rw[c7,J6,Mu hj']; rfl
    rw[KZ,ed];simp[bB]
   ·rintro ys ρ2 S3 ⟨_,rfl,rfl⟩;rw[Km,<- eP,Lm];exact⟨lr (by rw[JV,eP]; exact Kc ‹_› (Kd rfl)),dq (hn _ _ ⟨_,_,_,_,rfl,af,k2.len,k2.trans .push⟩)⟩
 ·rintro ρ S1 ⟨q,a3,a4,a5,rfl,e1,hq,k1⟩;exact hK _ _ (st (kk q S1 e1 hq k1))
end
noncomputable def dZ (a:J3)(bs:JT Kh):JT Wd:=(c7 a bs.length 3).map (kO bs)
noncomputable def cx (a:J3)(bs:JT Kh):KD:=match kD ((dZ a bs).map cC)with
 | some ks=>decide ks.Nodup && !ks.isEmpty
 | none=>false
theorem Jr:cx 1 [0]=true/\cx 2 [0]=true/\cx 3 [0]=true:=by decide +kernel
theorem HS:cx 1 [0,1]=true/\cx 2 [0,1]=true/\cx 1 [1,0]=true/\cx 2 [1,0]=true:=by decide +kernel
theorem Js:cx 1 [0,1,2]=true/\cx 1 [1,0,2]=true/\cx 1 [0,2,1]=true:=by decide +kernel
theorem Jt:cx 3 [0,1]=true:=by decide +kernel
theorem Ju:cx 3 [1,0]=true:=by decide +kernel
theorem Jv:cx 2 [0,1,2]=true:=by decide +kernel
theorem Jw:cx 2 [1,0,2]=true:=by decide +kernel
theorem Jx:cx 2 [0,2,1]=true:=by decide +kernel
noncomputable def oW (bs:JT Kh)(v:Wd)(ps:JT J3)(i:J3):Pt:=((v.getD i (0,[])).1,ps.map λq=>dy bs v i q)
noncomputable def aO (n:J3)(os:JT (JT J3)):JT (JT J3):=os.flatMap λo=>((KA n).filter λp=>decide (p∉o)).map λp=>o++[p]
theorem j3 (bs:JT Kh)(v:Wd)(o:JT J3)(p:J3):aA bs v (o++[p])=aA bs v o++[oW bs v o p]:=by
 unfold aA oW;rw[J8,LS,Om,KS];congr 1
 ·refine LG λk hk=>?_
  have hk:=KU.mp hk;rw[show(o++[p]).getD k 0=o.getD k 0 by simp[K9 hk],List.take_append_of_le_length (L8 ‹_›)]
 ·simp
theorem jn {n:J3}:∀os:JT (JT J3),(aO n os).length<=os.length*n
 | []=>by simp[aO]
 | o::os=>by
  have ih:=jn (n:=n) os;unfold aO at ih ⊢;rw[Rb,J8,JV,La,Pp];have:=MH (λp=>decide (p∉o)) (KA n)
  rw[KI]at this;omega
theorem xk {n:J3}{os:JT (JT J3)}{i:J3}:(aO n (os.take i)).length<=os.length*n:=by
 refine Kc (jn _) (Og _ ?_);rw[Lj]; omega
theorem j4 {S:aa}{d:J3}:∀xs ys:JT Kh,kM (kq S d) (xs.map W.int) (ys.map W.int)=ba (decide (xs=ys))
 | [],[]=>rfl
 | [],_::_=>rfl
 | _::_,[]=>rfl
 | x::xs,y::ys=>by
  have e:kq S d (.int x) (.int y)=ba (x==y):=by cases d <;> rfl
  simp only[Lu,kM,e,j4 xs ys]
  by_cases h:x=y
  ·subst h; by_cases h2:xs=ys <;> simp[h2]
  ·have h':(x==y)=false:=by simpa using h
   simp[h,h']
theorem Ff {S:aa}{d:J3}(p q:Pt):kq S (d+2) (dR p) (dR q)=ba (decide (p=q)):=by
 obtain⟨m,ws⟩:=p;obtain⟨m',ws'⟩:=q;show kM (kq S (d+1)) [.int m,.tup (ws.map W.int)] [.int m',.tup (ws'.map W.int)]=_;have e:kq S (d+1) (.int m) (.int m')=ba (m==m'):=rfl;have e2:kq S (d+1) (.tup (ws.map W.int)) (.tup (ws'.map W.int))=ba (decide (ws=ws')):=j4 ws ws';simp only[kM,e,e2]
 by_cases h:m=m'
 ·subst h; by_cases h2:ws=ws' <;> simp[h2]
 ·have h':(m==m')=false:=by simpa using h
  simp[h,h']
theorem Hz {S:aa}{p q:Pt}:eQ .eq (dR p) (dR q) S=ba (.bl (decide (p=q)),S):=by
 show(kq S (18+2) (dR p) (dR q)).map _=_;rw[Ff]; rfl
theorem xl (ps:JT J3):al ps=(ps.map λ(p:J3)=>(p:Kh)).map W.int:=by unfold al; rw[LN]; rfl
theorem sB {p:J3}:∀ps:JT J3,((al ps).any λz=>AN z (.int p))=decide (p∈ps)
 | []=>rfl
 | q::ps=>by
  show((q:Kh)==(p:Kh)||(al ps).any _)=_
  rw[sB ps]
  by_cases h:q=p
  ·subst h; simp
  ·have h1:((q:Kh)==(p:Kh))=false:=by simp; omega
   have h2:¬ p=q:=λe=>h e.symm
   rw[h1]; simp[h2]
theorem xm (ps:JT J3):(al ps).all cG=true:=by
 rw[Kr];intro x hx;obtain⟨p,_,rfl⟩:=Ko.mp hx;rfl
theorem Aw {S:aa}{p:J3}{ps:JT J3}:eQ .notin (.int p) (.tup (al ps)) S=ba (.bl (decide (p∉ps)),S):=by
 show jG .notin (.int p) (.tup (al ps)) S=_;have hf:(cG (.int p)&&(al ps).all cG)=true:=by rw[xm]; rfl
 simp only[jG,FJ,C8,fD,hf,LQ,K4,sB];congr 3
 by_cases h:p∈ps <;> simp[h]
theorem Ax {xs:JT W}:jH xs gV (ba (-1))=xs.dropLast:=by
 unfold jH;rw[HT.lA,P3,SM,List.dropLast_eq_take];congr 1;show(if (-1:Kh) < 0 then((-1:Kh)+(xs.length:Kh)).toNat else min (-1:Kh).toNat xs.length)=_
 rw[Ks (by decide)]; omega
theorem xn (ps:JT J3):(al ps).dropLast=al ps.dropLast:=by unfold al; rw[List.map_dropLast]
theorem CS {S:aa}{ps:JT J3}(h:ps≠[]):qH (.tup (al ps)) (.int (-1)) S=ba (.int (ps.getLastD 0:J3),S):=by
 have hl:(al ps).length=ps.length:=JV ..;have hp:0 < ps.length:=Ql.mpr h;have hs:uy (al ps).length (-1)=ba (ps.length - 1):=by
  rw[hl];unfold uy;rw[KF (by decide)]
  exact(Ks (by omega)).trans (by congr 1; omega)
 have hg:(al ps)[ps.length - 1]?=ba (.int (ps.getLastD 0:J3)):=by
  refine lu ?_;rw[List.getLastD_eq_getLast?,List.getLast?_eq_getElem?];have:ps.length - 1 < ps.length:=by omega
  simp[this]
 simp only[qH,wb,qO,hs,hg,Option.bind_some,K4]
noncomputable def bQ:Ss:=
 (.cons (.set 2 (.lst .nil))
 (.cons (.loop (.nm 3) (.seq (.v 0)) (.cons (.ex (.me .extend (.v 2) (.cons (.comp (.op .add (.v 2) (.tup (.cons (.v 1) .nil))) (.nm 1) (.rng (.cons (.v 1) .nil)) (.cons (.cmp .notin (.v 1) (.v 2)) .nil) [gV,gV,ba 3]) .nil)))
 .nil))
 (.cons (.ret (.v 2))
 .nil)))
noncomputable def bX (os:JT (JT J3)):JT W:=os.map λo=>.tup (al o)
section
variable{defs:JT (Kn×Df)}{fuel d:J3}{S:aa}{Q:QW}
theorem Ay {t l:J3}{xs ys:JT W}(h:S[t]?=ba (.lst xs))(h2:S[l]?=ba (.lst ys))(hl:xs.length+ys.length<=1000000)(q:Q (.non,S.set t (.lst (xs++ys)))):wO (Me.extend.fn (.ref t) [.ref l] S) Q:=by
 refine ae ?_ q;simp only[Me.fn,iY,cQ h,cQ h2];rw[Ks (by rw[K8]; exact Kc ‹_› (Kd rfl))]
theorem mz {n:J3}(h:n<=1000000):n<=sizeLine:=by rw[K8]; exact Kc ‹_› (Kd rfl)
theorem Az (hg:Is defs ("longer_orders" : Kn) 2 4 bQ){n l:J3}{os:JT (JT J3)}(e:S[l]?=ba (.lst (bX os)))(hn:n<=100)(hol:∀o∈os,o.length<=100)(hos:os.length*n<=100000)
  (k:∀(q:J3) (S':aa),S'[q]?=ba (.lst (bX (aO n os)))->S.length<=q->Ka S S'->Q (.ref q,S')) :
  wO (bM (aq defs fuel (d+1)) "longer_orders" 2 [.ref l,.int n] S) Q:=by
 refine aL hg rfl rfl λQ' hR=>?_
 replace k:∀(q:J3) (S':aa),S'[q]?=ba (.lst (bX (aO n os)))->S.length<=q->Ka S S'->Q' (.rt (.ref q),S'):=λa b c e f=>hR _ _ (k a b c e f)
 clear hR;show wZ _ _ bQ [ba (.ref l),ba (.int n),gV,gV] S Q';have hlS:=dQ e;dsimp only[bQ];refine st ?_;dsimp only[wS,wE,wA,Kj];refine bm λK hK=>?_
 refine vx l (bX os) (λi ρ S'=>(∃a3,ρ=[ba (.ref l),ba (.int n),ba (.ref S.length),a3])/\S'[l]?=ba (.lst (bX os))/\S'[S.length]?=ba (.lst (bX (aO n (os.take i))))/\Ka S S') rfl rfl ⟨rfl,⟨gV,rfl⟩,ap e,af,.push⟩ (λi ρ S' h=>h.2.1) ?_ ?_
 ·rintro i w ρ S1 hw ⟨⟨a3,rfl⟩,e0,e1,k1⟩;clear hK k;unfold bX at hw;rw[J6,J0]at hw;obtain⟨o,ho,rfl⟩:=hw;have hol:=hol o (Kf ho);refine ae (show ic (.nm 3) (.tup (al o)) [ba (.ref l),ba (.int n),ba (.ref S.length),a3] S1=ba ([ba (.ref l),ba (.int n),ba (.ref S.length),ba (.tup (al o))],S1)from rfl) ?_
  intro Q2 hn _;refine st ?_;dsimp only[wS,wE,wA,wV,wG];refine⟨dD e1,?_⟩;refine dF (n:Kh) (λj ys ρ2 S2=>(∃a1,ρ2=[gV,a1,ba (.tup (al o))])/\ys=bX (((KA j).filter λp=>decide (p∉o)).map λp=>o++[p])/\S2=S1) rfl rfl rfl (by omega) ⟨rfl,⟨gV,rfl⟩,rfl,rfl⟩ ?_ ?_
  ·rintro j ys ρ2 S2 hj ⟨⟨a1,rfl⟩,rfl,rfl⟩;dsimp only[iS,wC,wE,wA,wV,wG,Kj];refine ae Aw ?_;dsimp only[wB];have er:(KA (j+1)).filter (λp=>decide (p∉o))=(KA j).filter (λp=>decide (p∉o))++(if j∉o then[j]else[]):=by
    rw[Om,Na];congr 1
    by_cases h:j∈o <;> simp[h]
   refine⟨λh=>?_,λh=>⟨⟨_,rfl⟩,?_,rfl⟩⟩
   ·have h:j∉o:=KQ h;refine ae (jT (mz (by rw[J8,show(al o).length=o.length from JV ..]; show _+1<=_; omega))) ⟨⟨_,rfl⟩,?_,rfl⟩
    rw[er,Ks h,KS];unfold bX;rw[KS];simp[al]
   ·have h:¬ j∉o:=L1 h;rw[er,KF h,LW]
  ·rintro ys ρ2 S2 ⟨_,rfl,rfl⟩;rw[Km];have hlen:(bX (((KA n).filter λp=>decide (p∉o)).map λp=>o++[p])).length<=n:=by
    unfold bX;rw[JV,JV];exact Kc (MH _ _) (by rw[KI]; exact J7 _)
   have e1':=ap (u:=O.lst (bX (((KA n).filter λp=>decide (p∉o)).map λp=>o++[p]))) e1
   have hlt:=xk (n:=n) (os:=os) (i:=i);have hlw:(bX (aO n (os.take i))).length=(aO n (os.take i)).length:=JV ..;refine⟨mz (by omega),Ay e1' af (by omega) (dq (hn _ _ ⟨⟨_,rfl⟩,?_,?_,(k1.trans .push).late (J7 _)⟩))⟩
   ·rw[b6 (KM ‹_›)]; exact ap e0
   ·rw[bV e1'];unfold aO bX;rw[KZ,ho];simp
 ·rintro ρ S1 ⟨⟨a3,rfl⟩,e0,e1,k1⟩;rw[show(bX os).length=os.length from JV ..,Lm]at e1
  exact hK _ _ (st (k _ _ e1 (J7 _) k1))
end
section
variable{defs:JT (Kn×Df)}{fuel d:J3}{S:aa}{Q:QW}
theorem Fg {t:J3}{xs:JT W}{y:W}(h:S[t]?=ba (.lst xs))(hl:xs.length < 1000000)(q:Q (.non,S.set t (.lst (xs++[y])))):wO (Me.append.fn (.ref t) [y] S) Q:=ae (vt h (by rw[K8]; omega)) q
end
noncomputable def bY:Ss:=
 (.cons (.set 1 (.bi .list (.cons (.bi .range (.cons (.bi .len (.cons (.ix (.v 0) (.c (.int 1))) .nil)) .nil)) .nil)))
 (.cons (.ite (.and (.cmp .eq (.comp (.v 2) (.tp [1,2]) (.seq (.ix (.v 0) (.c (.int 1)))) .nil [gV,gV,gV]) (.v 1)) (.cmp .gt (.bi .len (.cons (.v 1) .nil)) (.c (.int 1)))) (.cons (.set 1 (.op .add (.lst (.cons (.c (.int 1)) (.cons (.c (.int 0)) .nil))) (.sl (.v 1) (.yes (.c (.int 2))) .no)))
 .nil) .nil)
 (.cons (.ret (.tup (.cons (.ix (.v 0) (.c (.int 0))) (.cons (.bi .tuple (.cons (.comp (.tup (.cons (.ix (.ix (.ix (.v 3) (.c (.int 1))) (.v 1)) (.c (.int 0))) (.cons (.ix (.v 2) (.v 1)) .nil))) (.nm 1) (.rng (.cons (.bi .len (.cons (.v 1) .nil)) .nil)) .nil [gV,gV,ba 1,ba 0]) .nil)) (.cons (.tup .nil) .nil)))))
 .nil)))
noncomputable def gx (bs:JT Kh):JT Kh:=if bs=fu bs.length/\1 < bs.length then[1,0]++(fu bs.length).drop 2 else fu bs.length
theorem oX {bs:JT Kh}(h:GoodB bs):GoodB (gx bs)/\(gx bs).length=bs.length:=by
 rcases h with rfl|rfl|rfl|rfl|rfl|rfl
 ·exact⟨.inl (by decide),by decide⟩
 ·exact⟨.inr (.inr (.inl (by decide))),by decide⟩
 ·exact⟨.inr (.inl (by decide)),by decide⟩
 ·exact⟨.inr (.inr (.inr (.inr (.inl (by decide))))),by decide⟩
 ·exact⟨.inr (.inr (.inr (.inl (by decide)))),by decide⟩
 ·exact⟨.inr (.inr (.inr (.inl (by decide)))),by decide⟩
theorem xo (n:J3):al (KA n)=(fu n).map W.int:=by rw[xl]; rfl
theorem Fh {S:aa}{i j:J3}{xs ys:JT Kh}(h1:S[i]?=ba (.lst (xs.map W.int)))(h2:S[j]?=ba (.lst (ys.map W.int))):eQ .eq (.ref i) (.ref j) S=ba (.bl (decide (xs=ys)),S):=by
 show(kq S (19+1) (.ref i) (.ref j)).map _=_;simp only[kq,cQ h1,cQ h2,j4];split
 ·rfl
 ·rename_i h;have:xs≠ys:=λe=>h (by rw[e])
  simp[this]
section
variable{defs:JT (Kn×Df)}{fuel d:J3}{S:aa}{Q:QW}
theorem AA {Φ:Kn->FF}{ρ:Fm}{K:Fm->aa->Prop}{Q:QO}{e:E}{j n:J3}{m:Kh}(hm:m=n)(he:∀Q:QW,Q (.int m,S)->wE Φ e ρ S Q)(hn:n<=1000)(k:∀(t:J3) (S':aa),t=S.length+1->S'=S++[O.rng 0 n]++[.lst (al (KA n))]->K (ρ.set j (ba (.ref t))) S') :
  wS Φ fuel (.set j (.bi .list (.cons (.bi .range (.cons e .nil)) .nil))) ρ S K Q:=by
 have e1:Bi.range.fn [.int m] S=ba (.ref S.length,S++[.rng 0 m]):=by
  simp only[Bi.fn,lJ];rw[Ks ⟨by omega,by omega⟩]
 have h:wO (Bi.list.fn [.ref S.length] (S++[O.rng 0 m])) λp=>K (ρ.set j (ba p.1)) p.2:=by
  subst hm;exact vL af hn (k _ _ (by simp) rfl)
 have g:wO (Bi.range.fn [.int m] S) λp=>wO (Bi.list.fn [p.1] p.2) λp=>K (ρ.set j (ba p.1)) p.2:=by
  rw[e1];exact h
 dsimp only[wS,wE,wA];exact he _ g
theorem CT (hg:Is defs ("_law_other_rule" : Kn) 1 2 bY){m0 b0:W}{ns:JT Kn}{bs:JT Kh}(hb:GoodB bs)(hnl:ns.length=bs.length)
  (k:∀S',Ka S S'->Q (.tup [m0,.tup (Kv bJ ns (gx bs)),.tup []],S')) :
  wO (bM (aq defs fuel (d+1)) "_law_other_rule" 1 [.tup [m0,.tup (Kv bJ ns bs),b0]] S) Q:=by
 refine aL hg rfl rfl λQ' hR=>?_
 replace k:∀S',Ka S S'->Q' (.rt (.tup [m0,.tup (Kv bJ ns (gx bs)),.tup []]),S'):=λS' a=>hR _ _ (k S' a)
 clear hR;obtain⟨gb,gl⟩:=oX hb;have hb3:bs.length<=3:=by rcases hb with rfl|rfl|rfl|rfl|rfl|rfl <;> decide
 have zl:(Kv bJ ns bs).length=bs.length:=by rw[LP,hnl]; omega
 show wZ _ _ bY [ba (.tup [m0,.tup (Kv bJ ns bs),b0]),gV] S Q';generalize hB:W.tup [m0,.tup (Kv bJ ns bs),b0]=R;dsimp only[bY];refine bm λK hK=>?_
 have he:∀Q:QW,Q (.int ((Kv bJ ns bs).length:J3),S)->wE (aq defs fuel d) (.bi .len (.cons (.ix (.v 0) (.c (.int 1))) .nil)) [ba R,gV] S Q:=λQ q=>by
  dsimp only[wE,wA,wV,wG];subst hB;exact ay (by decide) rfl (cH q)
 generalize hρ:[ba R,gV]=ρ0 at he hK ⊢;rw[zl]at he;refine AA rfl he (by exact Kc ‹_› (Kd rfl)) λt S1 ht hS1=>hK _ _ ?_
 clear he hK K;subst hρ;dsimp only[Kj];have e1:S1[t]?=ba (.lst ((fu bs.length).map W.int)):=by
  rw[hS1,show t=(S++[O.rng 0 bs.length]).length by rw[ht]; simp,<- xo]; exact af
 have k1:Ka S S1:=by rw[hS1]; exact Ka.push.trans .push
 have l1:S.length<=t:=by omega
 clear hS1 ht;have tl:∀(t2:J3) (S2:aa),S2[t2]?=ba (.lst ((gx bs).map W.int))->Ka S S2->wZ (aq defs fuel d) fuel (.cons (.ret (.tup (.cons (.ix (.v 0) (.c (.int 0))) (.cons (.bi .tuple (.cons (.comp (.tup (.cons (.ix (.ix (.ix (.v 3) (.c (.int 1))) (.v 1)) (.c (.int 0))) (.cons (.ix (.v 2) (.v 1)) .nil))) (.nm 1) (.rng (.cons (.bi .len (.cons (.v 1) .nil)) .nil)) .nil [gV,gV,ba 1,ba 0]) .nil)) (.cons (.tup .nil) .nil))))) .nil) [ba R,ba (.ref t2)] S2 Q':=λt2 S2 e2 k2=>by
  refine st ?_;dsimp only[wS,wE,wA,wV,wG];subst hB;refine ay (by decide) rfl ?_
  refine dF (bs.length:Kh) (λi ys ρ2 S3=>(∃a1,ρ2=[gV,a1,ba (.ref t2),ba (.tup [m0,.tup (Kv bJ ns bs),b0])])/\ys=(Kv bJ ns (gx bs)).take i/\S3=S2) rfl rfl rfl (by omega) ?_ ?_ ?_
  ·dsimp only[wE,wA,wV,wG];refine fH e2 ?_;rw[JV,gl];exact⟨rfl,⟨gV,rfl⟩,rfl,rfl⟩
  ·rintro i ys ρ2 S3 hi ⟨⟨a1,rfl⟩,rfl,rfl⟩;have hi':i < bs.length:=by exact Ma.mp ‹_›
   have hn:ns[i]?=ba (ns[i]'(by omega)):=J5 (by omega)
   have hbk:(gx bs)[i]?=ba ((gx bs)[i]'(by omega)):=J5 (by omega)
   have hbb:bs[i]?=ba bs[i]:=J5 hi';dsimp only[iS,wC,wE,wA,wV,wG,Kj];refine⟨λ_=>ay (by decide) rfl (ay (KG i) (by rw[Km]; exact iJ hn hbb) (ay (by decide) rfl (ik e2 (KG i) (by rw[Km,J6,hbk]; rfl) ⟨⟨_,rfl⟩,?_,rfl⟩))),λz=>by cases z⟩
   rw[KZ,iJ hn hbk]; rfl
  ·rintro ys ρ2 S3 ⟨_,rfl,rfl⟩;rw[Km,Mw (by rw[LP]; omega)]
   exact⟨mz (by rw[LP]; omega),d4 af (k _ (k2.trans .push))⟩
 refine bm λK hK=>?_
 dsimp only[wS,wT,wE,wA,wV,wG];refine qb (Kv bJ ns bs) (λi ys ρ2 S2=>(∃a1 a2,ρ2=[gV,a1,a2])/\ys=(bs.map W.int).take i/\S2=S1) rfl rfl rfl ?_ ?_ ?_
 ·dsimp only[wE,wV,wG];subst hB;exact ay (by decide) rfl ⟨rfl,⟨gV,gV,rfl⟩,rfl,rfl⟩
 ·rintro i w ys ρ2 S2 hw ⟨⟨a1,a2,rfl⟩,rfl,rfl⟩;have hi:i < bs.length:=by
   have:=(J9.mp hw).1;omega
  have hn:ns[i]?=ba (ns[i]'(by omega)):=J5 (by omega)
  have hbb:bs[i]?=ba bs[i]:=J5 hi;cases(iJ hn hbb).symm.trans hw;refine ae (show ic (.tp [1,2]) (bJ (ns[i]'(by omega)) bs[i]) [gV,a1,a2] S2=ba ([gV,ba (.str (ns[i]'(by omega))),ba (.int bs[i])],S2)from rfl) ?_
  dsimp only[iS,wC,wE,wV,wG];refine⟨λ_=>⟨⟨_,_,rfl⟩,?_,rfl⟩,λz=>by cases z⟩
  rw[KZ,J6,hbb]; rfl
 ·rintro ys ρ2 S2 ⟨_,rfl,rfl⟩;rw[zl,Mw (by rw[JV]; exact J7 _)]
  refine⟨mz (by rw[JV]; exact Kc ‹_› (Kd rfl)),?_⟩
  have e1':=ap (u:=O.lst (bs.map W.int)) e1;refine ae (Fh af e1') ?_;dsimp only[wB];have no:¬ (bs=fu bs.length/\1 < bs.length)->gx bs=fu bs.length:=λh=>KF h
  refine⟨λh=>?_,λh=>?_⟩
  ·have h:bs=fu bs.length:=KQ h;refine fH e1' ?_;rw[JV,show(fu bs.length).length=bs.length by rw[<- h]]
   refine ae E5 ?_;dsimp only[wB];refine aN (Q0:=Q') (λh2 Q2 hn2 _=>?_) (λh2 Q2 hn2 _=>?_)
   ·have h2:(1:Kh) < bs.length:=KQ h2;refine st ?_;dsimp only[wS,wE,wA,wP,wV,wG,wN];refine ae (a:=(.ref (S2++[O.lst (bs.map W.int)]++[O.lst [.int 1,.int 0]]).length,S2++[O.lst (bs.map W.int)]++[O.lst [.int 1,.int 0]]++[O.lst (((fu bs.length).drop 2).map W.int)])) ?_ ?_
    ·simp only[pE,az (ap (u:=O.lst [W.int 1,W.int 0]) e1')];rw[show(ba (2:Kh))=ba (((2:J3)):Kh)from rfl,mj,List.map_drop]
    ·dsimp only;refine ae (t9 (ap af) af (mz ?_)) (dq (hn2 _ _ (hK _ _ (tl _ _ (by rw[show gx bs=[1,0]++(fu bs.length).drop 2 from Ks ⟨h,by omega⟩,KS]; exact af) ((((k1.trans .push).trans .push).trans .push).trans .push)))))
     rw[J8,JV,MA,<- h]; simp; omega
   ·have h2:¬ (1:Kh) < bs.length:=L1 h2;exact dq (hn2 _ _ (hK _ _ (tl _ _ (by rw[no λz=>h2 (by omega)]; exact e1') (k1.trans .push))))
  ·exact aN (Q0:=Q') (λz=>by cases z) (λ_ Q2 hn2 _=>dq (hn2 _ _ (hK _ _ (tl _ _ (by rw[no λz=>L1 h z.1]; exact e1') (k1.trans .push)))))
end
theorem CU {a:J3}{bs:JT Kh}(h:SizeOk a bs):cx a bs=true:=by
 obtain⟨h0,hb,hm,h3⟩:=h;have ha:a=1\/a=2\/a=3:=by omega
 rcases hb with rfl|rfl|rfl|rfl|rfl|rfl <;> rcases ha with rfl|rfl|rfl
 ·exact Jr.1
 ·exact Jr.2.1
 ·exact Jr.2.2
 ·exact HS.1
 ·exact HS.2.1
 ·exact Jt
 ·exact HS.2.2.1
 ·exact HS.2.2.2
 ·exact Ju
 ·exact Js.1
 ·exact Jv
 ·exact absurd hm (by decide)
 ·exact Js.2.1
 ·exact Jw
 ·exact absurd hm (by decide)
 ·exact Js.2.2
 ·exact Jx
 ·exact absurd hm (by decide)
theorem sC:∀ {us vs:JT Wd},us.map cC=vs.map cC->us=vs
 | [],[],_=>rfl
 | [],_::_,h=>by cases h
 | _::_,[],h=>by cases h
 | x::xs,y::ys,h=>by
  simp only[Lu,TM]at h;rw[gN h.1,sC h.2]
theorem sD:∀xs:JT Kh,db (xs.map T.int)=true
 | []=>rfl
 | _::xs=>sD xs
theorem lv:∀u:Wd,db (u.map gU)=true
 | []=>rfl
 | p::u=>by
  simp only[Lu,db,J2];refine⟨?_,lv u⟩;simp[gU,eD,db,sD]
theorem j5 (u:Wd):eD (cC u)=true:=lv u
theorem Dv:∀ {ks:JT T} {L:JT Wd},(∀k∈ks,k∈L.map cC)->∃us:JT Wd,ks=us.map cC/\∀u∈us,u∈L
 | [],_,_=>⟨[],rfl,λ_ h=>nomatch h⟩
 | k::ks,L,h=>by
  obtain⟨u,hu,rfl⟩:=Ko.mp (h k (.head _));obtain⟨us,rfl,h2⟩:=Dv λk hk=>h k (.tail _ hk)
  exact⟨u::us,rfl,λv hv=>(Kz.mp hv).elim (λe=>e ▸ hu) (h2 v)⟩
theorem kH:∀ {us:JT Wd},(us.map cC).Nodup->us.Nodup
 | [],_=>.nil
 | u::us,h=>by
  rw[Lu,Mf]at h;exact Mf.mpr ⟨λz=>h.1 (Ko.mpr ⟨u,z,rfl⟩),kH h.2⟩
theorem Fi {n k:J3}{ds:JT Kh}:ds∈cr n k->ds.length=k/\∀w∈ds,0<=w/\w < (n:Kh):=by
 induction k generalizing ds with
 | zero=>intro h; cases Kk.mp h; exact⟨rfl,λw hw=>nomatch hw⟩
 | succ k ih=>
  intro h;obtain⟨i,hi,rfl⟩:=Ko.mp h;have hi:=KU.mp hi;have hn:0 < n:=by
   rcases ON n with h|h
   ·rw[h,Pw]at hi; omega
   ·exact h
  have hlt:i / n < (cr n k).length:=Mo (by rw[Nu]; exact hi)
  obtain⟨h1,h2⟩:=ih (Kf (aD (d:=[]) hlt));refine⟨by rw[J8,h1]; rfl,λw hw=>?_⟩
  rcases K2.mp hw with h|h
  ·exact h2 w h
  ·rw[Kk.mp h];have:=Ps i hn;omega
theorem sE {a n k:J3}{u:Wd}:u∈c7 a n k->GoodW a n u/\u.length=k:=by
 induction k generalizing u with
 | zero=>intro h; cases Kk.mp h; exact⟨.nil,rfl⟩
 | succ k ih=>
  intro h;obtain⟨i,hi,rfl⟩:=Ko.mp h;have hi:=KU.mp hi;have hpos:0 < (cw a n k).length:=by
   rcases ON (cw a n k).length with h|h
   ·rw[h,Pw]at hi; omega
   ·exact h
  have hlt:i / (cw a n k).length < (c7 a n k).length:=Mo (by rw[Nu]; exact hi)
  obtain⟨h1,h2⟩:=ih (Kf (aD (d:=[]) hlt));have hp:=Kf (aD (d:=(0,[])) (Ps i hpos));obtain⟨m,hm,hp⟩:=Oa.mp hp;obtain⟨ds,hds,e⟩:=Ko.mp hp;obtain⟨g1,g2⟩:=Fi hds;have hm:=KU.mp hm;rw[<- e];exact⟨h1.snoc ⟨by omega,by exact Ma.mpr ‹_›⟩ (by rw[g1,h2]) g2,by rw[J8,h2]; rfl⟩
theorem CV {a:J3}{bs:JT Kh}(h:SizeOk a bs):∃us:JT Wd,kD ((dZ a bs).map cC)=ba (us.map cC)/\us.Nodup/\us.length < 64/\(∀u∈us,u∈bn a bs)/\dZ a bs≠[]:=by
 have p:=CU h;unfold cx at p;split at p
 ·rename_i ks hk;simp only[J2,Kq]at p;have hm0:=yF hk;obtain⟨us,rfl,hm⟩:=Dv (L:=bn a bs) λk hk=>by
   obtain⟨f,hf,rfl⟩:=Ko.mp (hm0 k hk);obtain⟨u,hu,rfl⟩:=Ko.mp hf;obtain⟨g1,g2⟩:=sE hu;exact Ko.mpr ⟨_,vG g1 g2,rfl⟩
  have nd:=kH p.1;refine⟨us,hk,nd,MG (iH us _ nd hm) (qk h),hm,λz=>?_⟩
  rw[z]at hk;have e:ba (us.map cC)=ba []:=hk.symm;rw[Lh e]at p;exact absurd p.2 (by decide)
 ·cases p
theorem sF {us:JT Wd}(h:us.Nodup):Nice (us.map cC):=by
 refine⟨λx hx=>?_,eA us,?_⟩
 ·obtain⟨u,_,rfl⟩:=Ko.mp hx;exact j5 u
 ·rw[Nt,Ni];exact h.imp λhne e=>hne (gN e)
theorem j6 {us:JT Wd}:(dh us).map cC=eX (us.map cC):=by
 unfold dh eX;rw[sd (d:=[])]
theorem xp {us vs:JT Wd}(h:us.Nodup)(hs:vs.Sublist (dh us)):dh vs=vs:=by
 apply sC;rw[j6];refine yE (sF h) ?_;rw[<- j6];exact hs.map _
noncomputable def dJ:Ss:=
 (.cons (.ret (.bi .sorted (.cons (.bi .set (.cons (.comp (.own "_law_figure" 2 (.cons (.v 2) (.cons (.v 1) .nil))) (.nm 1) (.seq (.own "_law_worlds" 2 (.cons (.v 0) (.cons (.c (.int 3)) .nil)))) .nil [gV,gV,ba 0]) .nil)) .nil)))
 .nil)
noncomputable def cU:Ss:=
 (.cons (.set 1 (.own "_law_pick" 2 (.cons (.v 0) (.cons (.c (.int 4)) .nil))))
 (.cons (.ite (.cmp .eq (.v 1) (.c (.int 0))) (.cons (.ret (.own "_law_laying_rule" 1 (.cons (.v 0) .nil)))
 .nil) .nil)
 (.cons (.ite (.cmp .lt (.v 1) (.c (.int 3))) (.cons (.ret (.own "_law_any_rule" 1 (.cons (.v 0) .nil)))
 .nil) .nil)
 (.cons (.asg [2,3] (.own "_law_sizes" 1 (.cons (.v 0) .nil)))
 (.cons (.set 4 (.own "_law_rule_of" 4 (.cons (.v 0) (.cons (.v 2) (.cons (.own "_law_backs" 2 (.cons (.v 0) (.cons (.v 3) .nil))) (.cons (.tup .nil) .nil))))))
 (.cons (.ret (.tup (.cons (.ix (.v 4) (.c (.int 0))) (.cons (.ix (.v 4) (.c (.int 1))) (.cons (.bi .tuple (.cons (.comp (.v 1) (.nm 1) (.seq (.own "_law_figures" 1 (.cons (.v 4) .nil))) (.cons (.cmp .eq (.own "_law_pick" 2 (.cons (.v 2) (.cons (.c (.int 3)) .nil))) (.c (.int 0))) .nil) [gV,gV,ba 0]) .nil)) .nil)))))
 .nil))))))
section
variable{defs:JT (Kn×Df)}{fuel d:J3}{S:aa}{r:J3}{Q:QW}
theorem Fj {l:J3}{us ks:JT Wd}(h:S[l]?=ba (.lst (us.map bB)))(hne:us≠[])(hk:kD (us.map cC)=ba (ks.map cC))(q:Q (.ref S.length,S++[.stt (ks.map cC)])):wO (Bi.set.fn [.ref l] S) Q:=by
 refine ae ?_ q;have e2:lS [.ref l] S=ba (.ref S.length,S++[.stt (ks.map cC)]):=by
  simp only[lS,az h,vD];rw[Ks,hk]
  ·rfl
  ·rw[Kr];intro x hx;obtain⟨u,_,rfl⟩:=Ko.mp hx;have:=mq u;have kl:aG=6:=rfl;simp only[yG,j5,Od,J2,Kq];exact⟨rfl,by exact Kc ‹_› (Kd rfl)⟩
 exact e2
theorem CW {l:J3}{us:JT Wd}(h:S[l]?=ba (.stt (us.map cC)))(h64:us.length < 64)(hnd:us.Nodup)(hne:∀u∈us,u≠[])(q:Q (.ref S.length,S++[.lst ((dh us).map bB)])):wO (Bi.sorted.fn [.ref l] S) Q:=by
 refine ae ?_ q;have hr:FK S l=ba (us.map cC):=by simp[FK,h]
 have N:=sF hnd;have ok:lT (us.map cC)=true:=by
  simp only[lT,iy,J2,Kq,LX,JV];refine⟨⟨⟨Kr.mpr N.num,N.lt⟩,N.nd⟩,⟨⟨h64,by have:=fI us; unfold ci; exact Kc ‹_› (Kd rfl)⟩,.inr ⟨zR us hne,N.lt⟩⟩⟩
 have e1:dc [.ref l] S=ba (.ref S.length,S++[.lst ((dh us).map bB)]):=by
  simp only[dc,hr];rw[Ks ok,<- j6,ue]
 show Cn dc fO [.ref l] S=_;unfold Cn;simp only[e1]
structure Full (defs:JT (Kn×Df)):Prop where
 digits:Is defs ("_law_digits" : Kn) 2 4 cD
 worlds:Is defs ("_law_worlds" : Kn) 2 6 dj
 figures:Is defs ("_law_figures" : Kn) 1 1 dJ
 full:Is defs ("_law_full_rule" : Kn) 1 5 cU
theorem xq (G:Gen defs)(F:Full defs){ms ns:JT Kn}{a:J3}{bs:JT Kh}{b0:W}(hs:SizeOk a bs)(hml:ms.length=a)(hnl:ns.length=bs.length)
  (k:∀(us:JT Wd) (q:J3) (S':aa),us.Nodup->us.length < 64->(∀u∈us,u∈bn a bs)->S'[q]?=ba (.lst ((dh us).map bB))->S.length<=q->Ka S S'->Q (.ref q,S')) :
  wO (bM (aq defs fuel (d+4)) "_law_figures" 1 [.tup [.tup (ms.map W.str),.tup (Kv bJ ns bs),b0]] S) Q:=by
 refine aL F.figures rfl rfl λQ' hR=>?_
 replace k:∀(us:JT Wd) (q:J3) (S':aa),us.Nodup->us.length < 64->(∀u∈us,u∈bn a bs)->S'[q]?=ba (.lst ((dh us).map bB))->S.length<=q->Ka S S'->Q' (.rt (.ref q),S'):=λa b c e f g h i j=>hR _ _ (k a b c e f g h i j)
 clear hR;obtain⟨us,hk,hnd,h64,hmem,hne⟩:=CV hs;have hb3:=hs.n3;have hpos:=hs.pos;have h3:=hs.a3;have hmost:=hs.most;show wZ _ _ dJ [ba (.tup [.tup (ms.map W.str),.tup (Kv bJ ns bs),b0])] S Q';generalize hB:W.tup [.tup (ms.map W.str),.tup (Kv bJ ns bs),b0]=R;dsimp only[dJ];refine st ?_;dsimp only[wS,wE,wA,wV,wG];refine my rfl rfl rfl ?_;dsimp only[wE,wA,wV,wG];subst hB;refine Av (d:=d+1) F.digits F.worlds (a:=a) (n:=bs.length) (by rw[JV,hml]) (by rw[LP,hnl]; omega) hpos h3 hb3.1 hb3.2 hmost λl S1 e1 hl k1=>?_
 generalize hB:W.tup [.tup (ms.map W.str),.tup (Kv bJ ns bs),b0]=R;refine⟨l,(c7 a bs.length 3).map bB,λj ys ρ2 S2=>(∃a1,ρ2=[gV,a1,ba R])/\ys=((dZ a bs).take j).map bB/\S2[l]?=ba (.lst ((c7 a bs.length 3).map bB))/\Ka S S2,rfl,⟨⟨gV,rfl⟩,rfl,e1,k1⟩,λj ys ρ2 S2 h=>h.2.2.1,?_,?_⟩
 ·rintro j w ys ρ2 S2 hw ⟨⟨a1,rfl⟩,rfl,e2,k2⟩;rw[J6,J0]at hw;obtain⟨u,hu,rfl⟩:=hw;obtain⟨gu,hu3⟩:=sE (Kf hu);refine ae (show ic (.nm 1) (bB u) [gV,a1,ba R] S2=ba ([gV,ba (bB u),ba R],S2)from rfl) ?_
  dsimp only[iS,wC,wE,wA,wV,wG];subst hB;refine⟨λ_=>jj (d:=d) G hs.good hnl gu hu3 λS3 k3=>⟨⟨_,rfl⟩,?_,k3.get _ _ e2,k2.trans k3⟩,λz=>by cases z⟩
  have:(dZ a bs)[j]?=ba (kO bs u):=by unfold dZ; rw[J6,hu]; rfl
  rw[KZ,this];simp
 ·rintro ys ρ2 S2 ⟨_,rfl,e2,k2⟩;have hfl:(dZ a bs).length=((c7 a bs.length 3).map bB).length:=by unfold dZ; rw[JV,JV]
  rw[<- hfl,Lm];have hl216:(dZ a bs).length<=216:=by
   unfold dZ;rw[JV,eP];exact(sA (k:=2) hpos h3 hb3.1 hb3.2 hmost (by decide)).2.2
  refine⟨mz (by rw[JV]; exact Kc ‹_› (Kd rfl)),Fj af hne hk (CW af h64 hnd (λu hu=>sh (hmem u hu)) ?_)⟩
  have kk:=((k2.trans (Ka.push (o:=O.lst ((dZ a bs).map bB)))).trans (Ka.push (o:=O.stt (us.map cC)))).trans (Ka.push (o:=O.lst ((dh us).map bB)));exact k us _ _ hnd h64 hmem af (((k2.trans (Ka.push (o:=O.lst ((dZ a bs).map bB)))).trans (Ka.push (o:=O.stt (us.map cC)))).len) kk
theorem Fk (hfu:20 < fuel)(G:Gen defs)(F:Full defs)(hf:Fl S r)(k:∀w S',eO w->Fl S' r->Kp r S S'->Q (w,S')):wO (bM (aq defs fuel (d+8)) "_law_full_rule" 1 [.ref r] S) Q:=by
 refine aL F.full rfl rfl λQ' hR=>?_
 replace k:∀w S',eO w->Fl S' r->Kp r S S'->Q' (.rt w,S'):=λz S' a b c=>hR _ _ (k z S' a b c)
 clear hR;show wZ _ _ cU [ba (.ref r),gV,gV,gV,gV] S Q';dsimp only[cU];refine bm λK hK=>?_
 dsimp only[wS,wE,wA,wV,wG,Kj];refine bj (d:=d+6) G.pick hf (by decide) (by decide) λv S1 v0 v7 f1 k1=>hK _ _ ?_
 clear hK K;refine bm λK hK=>?_
 dsimp only[wS,wT,wE,wV,wG,je,aT,wB];refine aN (Q0:=Q') (λ_ Q2 _ hr=>?_) (λ_ Q2 hn _=>dq (hn _ _ (hK _ _ ?_)))
 ·refine st ?_;dsimp only[wS,wE,wA,wV,wG];exact Ar (d:=d) hfu G f1 λw S2 hw f2 k2=>hr _ _ (k w S2 hw f2 (k1.trans k2))
 clear hK K hn;refine bm λK hK=>?_
 dsimp only[wS,wT,wE,wV,wG,zD,aT,wB];refine aN (Q0:=Q') (λ_ Q2 _ hr=>?_) (λ_ Q2 hn _=>dq (hn _ _ (hK _ _ ?_)))
 ·refine st ?_;dsimp only[wS,wE,wA,wV,wG];exact uj (d:=d+1) hfu G f1 λw S2 hw f2 k2=>hr _ _ (k w S2 hw f2 (k1.trans k2))
 clear hK K hn;refine bm λK hK=>?_
 dsimp only[wS,wE,wA,wV,wG];refine qf (d:=d+5) G f1 λa n S2 a1 a3 n1 n3 an f2 k2=>?_
 dsimp only[wU];refine ae (show dB [2,3] [.int a,.int n] [ba (.ref r),ba (.int v),gV,gV,gV]=ba [ba (.ref r),ba (.int v),ba (.int a),ba (.int n),gV]from rfl) (hK _ _ ?_)
 clear hK K;refine bm λK hK=>?_
 dsimp only[wS,wE,wA,wV,wG,Kj];refine qh (d:=d+5) G f2 n1 n3 λbs S3 hb hbl f3 k3=>?_
 have hsz:SizeOk a bs:=⟨by omega,hb,by rw[hbl]; exact an,a3⟩
 refine fU (d:=d+2) hfu G f3 a3 (by omega) λms ns S4 hml hnl hnm f4 k4=>hK _ _ ?_
 clear hK K;have k14:Kp r S S4:=k1.trans (k2.trans (k3.trans k4));clear k1 k2 k3 k4;refine st ?_;dsimp only[wS,wE,wA,wV,wG];refine ay (by decide) rfl (ay (by decide) rfl ?_)
 refine my rfl rfl rfl ?_;dsimp only[wE,wA,wV,wG];refine xq (d:=d+3) G F hsz hml hnl λus q S5 hnd h64 hmem e5 hq k5=>?_
 have f5:=f4.ka k5;have hrq:r < q:=Kx f4.lt hq;refine⟨q,(dh us).map bB,λj ys ρ2 S6=>(∃a1,ρ2=[gV,a1,ba (.ref r)])/\(∃vs:JT Wd,ys=vs.map bB/\vs.Sublist ((dh us).take j))/\S6[q]?=ba (.lst ((dh us).map bB))/\Fl S6 r/\Kp r S S6,rfl,⟨⟨gV,rfl⟩,⟨[],rfl,by simp⟩,e5,f5,k14.trans (k5.kp r)⟩,λj ys ρ2 S6 h=>h.2.2.1,?_,?_⟩
 ·rintro j w ys ρ2 S6 hw ⟨⟨a1,rfl⟩,⟨vs,rfl,hsub⟩,e6,f6,k6⟩;rw[J6,J0]at hw;obtain⟨u,hu,rfl⟩:=hw;refine ae (show ic (.nm 1) (bB u) [gV,a1,ba (.ref r)] S6=ba ([gV,ba (bB u),ba (.ref r)],S6)from rfl) ?_
  dsimp only[iS,wC,wE,wA,wV,wG];refine bj (d:=d+6) G.pick f6 (by decide) (by decide) λv S7 _ _ f7 k7=>?_
  dsimp only[je,aT,wB];have e7:=k7.get _ _ (KM ‹_›) e6;refine⟨λ_=>⟨⟨_,rfl⟩,⟨vs++[u],by rw[KS]; rfl,?_⟩,e7,f7,k6.trans k7⟩,λ_=>⟨⟨_,rfl⟩,⟨vs,rfl,?_⟩,e7,f7,k6.trans k7⟩⟩
  ·rw[KZ,hu];exact hsub.append (Tz _)
  ·rw[KZ];exact hsub.trans (List.sublist_append_left _ _)
 ·rintro ys ρ2 S6 ⟨_,⟨vs,rfl,hsub⟩,e6,f6,k6⟩;rw[JV,Lm]at hsub;have pu:(dh us).Perm us:=fE;have hvl:vs.length<=us.length:=by rw[<- pu.length_eq]; exact hsub.length_le
  have hvs:=xp hnd hsub;refine⟨mz (by rw[JV]; omega),d4 af (k _ _ ⟨a,bs,ms,ns,vs,by rw[hvs]; rfl,hsz,hml,hnl,hnm,hsub.nodup (pu.nodup_iff.mpr hnd),λg hg=>hmem g (pu.mem_iff.mp (hsub.subset hg))⟩ (f6.ka .push) (k6.trans .push))⟩
end
section
variable{Φ:Kn->FF}{ρ:Fm}{S:aa}
theorem AB {α:Type}{elt:E}{it:Ie}{cs:Es}{cap:JT (J1 J3)}{mi:MI}{S1:aa}{Q:QW}(L:JT α)(f:α->W)(p:α->KD)(g:α->W)(R:Fm)(oe:ey elt=true)(oc:qI cs=true)(hc:fP cap ρ=gV::gV::R)(hl:L.length<=1000000)(hi:lp Φ it ρ S=ba (mi,S1))(k1:Ka S S1)(hat:∀i S',Ka S1 S'->mi.at S' i=ba (L.map f)[i]?)(hn:mi.len S1=ba (L.map f).length)
  (hstep:∀x∈L,∀S',Ka S S'->iS Φ elt cs (gV::ba (f x)::R) S' (λy _ S2=>p x=true/\y=g x/\Ka S' S2) (λ_ S2=>p x=false/\Ka S' S2))
  (k:∀S',Ka S S'->Q (.ref S'.length,S'++[.lst ((L.filter p).map g)])):Wp (aH Φ (.comp elt (.nm 1) it cs cap) ρ S) Q:=by
 rw[t8];refine⟨_,hi,_,hn,?_⟩;refine(de (xs:=L.map f) (Q:=λq=>q.1.length<=sizeLine/\Q (.ref q.2.length,q.2++[.lst q.1])) (λi ys ρ' S'=>(∃a1,ρ'=gV::a1::R)/\ys=((L.take i).filter p).map g/\Ka S1 S') (λi ys ρ' S' h=>hat i S' h.2.2) (λi w ys ρ' S' hw h=>?_) (λys ρ' S' h=>?_) (L.map f).length 0 [] _ S1 (by omega) ⟨⟨gV,hc⟩,rfl,.refl⟩).mono λq hq=>by simpa using hq
 ·obtain⟨⟨a1,rfl⟩,rfl,k2⟩:=h;rw[J6,J0]at hw;obtain⟨x,hx,rfl⟩:=hw;refine Jc.mpr ?_;refine(zJ oc (hstep x (Kf hx) S' (k1.trans k2))).mono λc hc=>⟨λz=>(bE elt oe (hc.1 z)).mono λy hy=>⟨⟨_,rfl⟩,?_,k2.trans hy.2.2⟩,λz=>⟨⟨_,rfl⟩,?_,k2.trans (hc.2 z).2⟩⟩
  ·rw[KZ,hx,Na,show(O9 (ba x)).filter p=[x]from Pf hy.1,KS,hy.2.1]; rfl
  ·rw[KZ,hx,Na,show(O9 (ba x)).filter p=[]from Pg (by rw[(hc.2 z).1]; exact Ku),LW]
 ·obtain⟨_,rfl,k2⟩:=h;dsimp only;rw[show(L.map f).length=L.length from JV ..,Lm]
  refine⟨mz ?_,k S' (k1.trans k2)⟩;rw[JV];exact Kc (MH _ _) hl
theorem AC {α:Type}{elt e:E}{cs:Es}{cap:JT (J1 J3)}{Q:QW}(L:JT α)(f:α->W)(p:α->KD)(g:α->W)(R:Fm)(oi:ey e=true)(oe:ey elt=true)(oc:qI cs=true)(hc:fP cap ρ=gV::gV::R)(hl:L.length<=1000000)
  (he:wE Φ e ρ S λq=>∃t,q.1=.ref t/\q.2[t]?=ba (.lst (L.map f))/\Ka S q.2)
  (hstep:∀x∈L,∀S',Ka S S'->iS Φ elt cs (gV::ba (f x)::R) S' (λy _ S2=>p x=true/\y=g x/\Ka S' S2) (λ_ S2=>p x=false/\Ka S' S2))
  (k:∀S',Ka S S'->Q (.ref S'.length,S'++[.lst ((L.filter p).map g)])):Wp (aH Φ (.comp elt (.nm 1) (.seq e) cs cap) ρ S) Q:=by
 obtain⟨w,S1,e1,t,rfl,ht,k1⟩:=cu oi he;exact AB (mi:=.live t) L f p g R oe oc hc hl (by simp only[lp,fY,e1,az ht]) k1 (λi S' h=>by simp only[MI.at,az (h.get _ _ ht)]) (by simp only[MI.len,az ht,K4]) hstep k
theorem sG (n:J3):du 0 n=(KA n).map λi=>W.int (i:J3):=by
 unfold du;refine LG λi _=>?_
 rw[Ow]
theorem Fn {elt e:E}{cs:Es}{cap:JT (J1 J3)}{Q:QW}(n:J3)(p:J3->KD)(g:J3->W)(R:Fm)(oi:ey e=true)(oe:ey elt=true)(oc:qI cs=true)(hc:fP cap ρ=gV::gV::R)(hl:n<=1000000)
  (he:wE Φ e ρ S λq=>q.1=.int n/\Ka S q.2)
  (hstep:∀x < n,∀S',Ka S S'->iS Φ elt cs (gV::ba (.int (x:J3))::R) S' (λy _ S2=>p x=true/\y=g x/\Ka S' S2) (λ_ S2=>p x=false/\Ka S' S2))
  (k:∀S',Ka S S'->Q (.ref S'.length,S'++[.lst (((KA n).filter p).map g)])):Wp (aH Φ (.comp elt (.nm 1) (.rng (.cons e .nil)) cs cap) ρ S) Q:=by
 obtain⟨w,S1,e1,rfl,k1⟩:=cu oi he;refine AB (mi:=.its (du 0 n)) (KA n) (λi=>W.int (i:J3)) p g R oe oc hc (by rw[KI]; exact hl) ?_ k1 (λi S' _=>by rw[<- sG]; rfl) (by rw[<- sG]; rfl) (λx hx=>hstep x (KU.mp hx)) k
 simp only[lp,dz,eF,jO,tR,e1];rw[Ks ⟨by omega,by omega⟩]; rfl
theorem mB {α:Type}(L:JT α):L.filter (λ_=>true)=L:=List.filter_eq_self.mpr λ_ _=>rfl
end
theorem Fo {bs:JT Kh}{a:J3}{v:Wd}{i j:J3}(hb:GoodB bs)(hv:GoodW a bs.length v)(hi:i < v.length)(hj:j < v.length)(hij:i≠j):0<=dy bs v i j/\dy bs v i j < (bs.length:Kh):=by
 unfold dy
 by_cases h:j < i
 ·rw[Ks h];have hp:=aD (d:=(0,[])) hi;have hw:j < (v.getD i (0,[])).2.length:=by rw[hv.len i _ hp]; exact h
  exact hv.way i _ hp _ (Kf (aD (d:=0) hw))
 ·rw[KF h];have hp:=aD (d:=(0,[])) hj;have hw:i < (v.getD j (0,[])).2.length:=by rw[hv.len j _ hp]; omega
  obtain⟨g1,g2⟩:=hv.way j _ hp _ (Kf (aD (d:=0) hw));exact(hb.at g1 g2).2
theorem oY {bs:JT Kh}{a:J3}{v:Wd}{ps:JT J3}(hb:GoodB bs)(hv:GoodW a bs.length v)(hps:∀p∈ps,p < v.length)(hnd:ps.Nodup):GoodW a bs.length (aA bs v ps):=by
 have at':∀(k:J3) (q:Pt),(aA bs v ps)[k]?=ba q->∃hk:k < ps.length,q=((v.getD ps[k] (0,[])).1,(ps.take k).map λj=>dy bs v ps[k] j):=λk q e=>by
  have hk:k < ps.length:=by
   have:=(J9.mp e).1;rw[bW]at this; exact this
  refine⟨hk,?_⟩;unfold aA at e;rw[J6,Mu hk,K4,show ps.getD k 0=ps[k] by simp[hk]]at e
  exact(Lh e).symm
 refine⟨λk q e=>?_,λk q e=>?_,λk q e=>?_⟩
 ·obtain⟨hk,rfl⟩:=at' k q e;have:=hv.mark _ _ (aD (d:=(0,[])) (hps _ (K1 hk)));exact this
 ·obtain⟨hk,rfl⟩:=at' k q e;dsimp only;rw[JV,Lj]; omega
 ·obtain⟨hk,rfl⟩:=at' k q e;intro w hw;obtain⟨j,hj,rfl⟩:=Ko.mp hw;have hjm:=MR hj;refine Fo hb hv (hps _ (K1 hk)) (hps _ hjm) λe=>?_
  obtain⟨m,hm,e2⟩:=Mm.mp hj;rw[Lj]at hm;rw[O0]at e2;have:=(MZ hnd).mp (e.trans e2.symm);omega
section
variable{defs:JT (Kn×Df)}{fuel d:J3}{S:aa}{Q:QW}
theorem Fp (hd:Is defs ("_law_flow" : Kn) 1 1 eM){ns:JT Kh}{u:J3}(hu:S[u]?=ba (.fro (ns.map W.int)))(k:∀r S',Ka S S'->Fl S' r->Q (.ref r,S')) :
  wO (bM (aq defs fuel (d+1)) "_law_flow" 1 [.ref u] S) Q:=by
 refine aL hd rfl rfl λQ' hR=>?_
 show wZ _ _ eM [ba (.ref u)] S Q';dsimp only[eM];refine st ?_;dsimp only[wS,wE,wA,wV,wG];have e:Bi.list.fn [.ref u] S=ba (.ref S.length,S++[.lst (ns.map W.int)]):=by
  have h1:yk S u=gV:=by simp[yk,hu]
  simp only[Bi.fn,Cn,kA,h1,iW,fD,Cu hu]
 refine ae e (hR _ _ (k _ _ (Ka.push.trans .push) ⟨S.length,ns,0,0,1,0,?_,?_,?_,by decide,by decide,by decide,by decide⟩))
 ·exact af
 ·exact ap af
 ·simp
end
theorem kI {bt:J3->J3->KD}{N:J3}(ir:∀i < N,bt i i=false)(tr:∀i j k,i < N->j < N->k < N->bt i j=true->bt j k=true->bt i k=true):∀n,n < N->∀j≤n,bt j (argBest bt n)=false
 | 0,hn,j,hj=>by
  obtain rfl:j=0:=by omega
  exact ir 0 hn
 | n+1,hn,j,hj=>by
  have ih:=kI ir tr n (by omega)
  have hb:=eN bt n;simp only[argBest];cases c:bt (n+1) (argBest bt n)with
  | true=>
   rw[Ks rfl]
   by_cases e:j=n+1
   ·subst e; exact ir _ hn
   ·cases c2:bt j (n+1)with
    | false=>rfl
    | true=>
     have:=tr j (n+1) (argBest bt n) (MG ‹_› ‹_›) hn (by omega) c2 c
     rw[ih j (by omega)]at this; cases this
  | false=>
   rw[KF (by exact Ku)]
   by_cases e:j=n+1
   ·subst e; exact c
   ·exact ih j (by omega)
theorem sH {ks:JT T}(hn:∀x∈ks,eD x=true)(hl:eW ks=true)(hne:ks≠[]):∃x,ks[iA ks]?=ba x/\x∈ks/\∀y∈ks,hZ y x=ba false:=by
 have hp:0 < ks.length:=Ql.mpr hne;have hm:iA ks < ks.length:=by
  unfold iA;have:=eN (mV ks) (ks.length - 1);omega
 have ltk:∀i j (hi:i < ks.length) (hj:j < ks.length),hZ ks[i] ks[j]=ba (mV ks i j):=λi j hi hj=>dW hl hi hj
 have ir:∀i < ks.length,mV ks i i=false:=λi hi=>by
  cases c:mV ks i i with
  | false=>rfl
  | true=>
   have e:=ltk i i hi hi;rw[c]at e;have:=lQ _ _ (hn _ (K1 hi)) e;rw[e]at this; cases this
 have mn:=kI (bt:=mV ks) (N:=ks.length) ir (λi j k hi hj hk h1 h2=>by
  have e1:=ltk i j hi hj;have e2:=ltk j k hj hk;rw[h1]at e1;rw[h2]at e2;have:=tH _ _ _ (hn _ (K1 hi)) (hn _ (K1 hj)) e1 e2;rw[ltk i k hi hk]at this;exact Lh this) (ks.length - 1) (by omega)
 refine⟨ks[iA ks],J5 hm,K1 hm,λy hy=>?_⟩
 obtain⟨j,hj,rfl⟩:=Mm.mp hy;rw[ltk j _ hj hm];congr 1;exact mn j (by omega)
theorem vM {x y:T}(hx:eD x=true)(h1:hZ x y=ba false)(h2:hZ y x=ba false):x=y:=by
 by_cases e:x=y
 ·exact e
 ·rw[pR x y hx e h2]at h1; cases h1
theorem sI:∀ {xs ys as bs:JT T},xs.length=ys.length->dt xs ys=ba true->dt (xs++as) (ys++bs)=ba true
 | [],[],_,_,_,h=>by cases h
 | x::xs,y::ys,as,bs,hl,h=>by
  simp only[Ru,dt]at h ⊢
  by_cases e:x=y
  ·rw[Ks e]at h ⊢;exact sI (by simpa using hl) h
  ·rw[KF e]at h ⊢;exact h
 | [],_::_,_,_,hl,_=>by simp at hl
 | _::_,[],_,_,hl,_=>by simp at hl
theorem sJ {as bs:JT T}:∀xs:JT T,dt (xs++as) (xs++bs)=dt as bs
 | []=>rfl
 | x::xs=>by
  simp only[Ru,dt,LQ];exact sJ xs
theorem Fq {x y:T}(hx:eD x=true)(h:dt [x] [y]=ba true):hZ x y=ba true:=by
 simp only[dt]at h;split at h
 ·cases h
 ·exact h
structure Ord (n:J3)(o:JT J3):Prop where
 nd:o.Nodup
 lt:∀p∈o,p < n
noncomputable def eS:J3->JT (JT J3)
 | 0=>[[]]
 | k+1=>(eS k).flatMap λo=>(KA (k+1)).map λi=>o.take i++[k]++o.drop i
theorem fW:∀ {n:J3} {o:JT J3},o∈eS n↔Ord n o/\o.length=n
 | 0,o=>by
  rw[eS,Kk];exact⟨λh=>by subst h; exact⟨⟨.nil,λp hp=>nomatch hp⟩,rfl⟩,λh=>M6 h.2⟩
 | n+1,o=>by
  rw[eS,Oa];constructor
  ·rintro⟨o',h1,h2⟩;obtain⟨i,hi,rfl⟩:=Ko.mp h2;obtain⟨⟨nd,lt⟩,hl⟩:=fW.mp h1;have hi:=KU.mp hi;have hp:(o'.take i++[n]++o'.drop i).Perm (n::o'):=by
    have e:o'.take i++[n]++o'.drop i=o'.take i++n::o'.drop i:=by simp
    rw[e];refine Rv.trans ?_;rw[N4]
   refine⟨⟨hp.nodup_iff.mpr (Mf.mpr ⟨λz=>absurd (lt _ z) (LA _),nd⟩),λp hpm=>?_⟩,by rw[hp.length_eq,La,hl]⟩
   rcases Kz.mp (hp.mem_iff.mp hpm)with z|z
   ·omega
   ·have:=lt p z; omega
  ·rintro⟨⟨nd,lt⟩,hl⟩;have hm:n∈o:=by
    by_cases z:n∈o
    ·exact z
    ·have h1:=iH o (KA n) nd λp hp=>KU.mpr (by
      have:=lt p hp;have:p≠n:=λe=>z (e ▸ hp)
      omega)
     rw[KI]at h1;omega
   obtain⟨a,b,rfl⟩:=List.append_of_mem hm;have hp:(a++n::b).Perm (n::(a++b)):=Rv;have nd2:=hp.nodup_iff.mp nd;obtain⟨nn,nd3⟩:=Mf.mp nd2;refine⟨a++b,fW.mpr ⟨⟨nd3,λp hpm=>?_⟩,?_⟩,Ko.mpr ⟨a.length,KU.mpr ?_,?_⟩⟩
   ·have h1:=lt p (hp.mem_iff.mpr (Lp _ hpm));have:p≠n:=λe=>nn (e ▸ hpm)
    omega
   ·have:=hp.length_eq;rw[hl,La]at this;omega
   ·rw[J8,La]at hl;omega
   ·rw[List.take_left',RK] <;> simp
noncomputable def bA (bs:JT Kh)(u:Wd)(o:JT J3):Pt:=oW bs u o.dropLast (o.getLastD 0)
noncomputable def cM (ps:JT Pt):Pt:=ps.getD (iA (ps.map gU)) (0,[])
noncomputable def ff (bs:JT Kh)(u:Wd):J3->JT (JT J3)
 | 0=>[[]]
 | k+1=>(aO u.length (ff bs u k)).filter λo=>decide (bA bs u o=cM ((aO u.length (ff bs u k)).map (bA bs u)))
noncomputable def qp (bs:JT Kh)(u:Wd):J3->Wd
 | 0=>[]
 | k+1=>qp bs u k++[cM ((aO u.length (ff bs u k)).map (bA bs u))]
theorem AD (p:Pt):eD (gU p)=true:=by
 have:=lv [p]
 simpa [db]using this
theorem oZ (ps:JT Pt):eW (ps.map gU)=true:=by
 unfold eW;rw[Kr];intro x hx;rw[Kr];intro y hy;obtain⟨p,_,rfl⟩:=Ko.mp hx;obtain⟨q,_,rfl⟩:=Ko.mp hy;exact uf _ _ (zQ p q)
theorem o4 {ps:JT Pt}(h:ps≠[]):ps[iA (ps.map gU)]?=ba (cM ps)/\cM ps∈ps/\∀y∈ps,hZ (gU y) (gU (cM ps))=ba false:=by
 obtain⟨x,h1,h2,h3⟩:=sH (ks:=ps.map gU) (λx hx=>by obtain⟨p,_,rfl⟩:=Ko.mp hx; exact AD p) (oZ ps) (by simpa using h)
 rw[J6,J0]at h1;obtain⟨p,hp,rfl⟩:=h1;have e:cM ps=p:=by unfold cM; rw[Mc,hp]; rfl
 rw[e];exact⟨hp,Kf hp,λy hy=>h3 _ (Ko.mpr ⟨y,hy,rfl⟩)⟩
theorem fK {n:J3}{os:JT (JT J3)}{o':JT J3}:o'∈aO n os↔∃o∈os,∃p,p < n/\p∉o/\o'=o++[p]:=by
 unfold aO;rw[Oa];constructor
 ·rintro⟨o,ho,h⟩;obtain⟨p,hp,rfl⟩:=Ko.mp h;obtain⟨h1,h2⟩:=Mt.mp hp;exact⟨o,ho,p,KU.mp h1,KQ h2,rfl⟩
 ·rintro⟨o,ho,p,h1,h2,rfl⟩;exact⟨o,ho,Ko.mpr ⟨p,Mt.mpr ⟨KU.mpr h1,Ly h2⟩,rfl⟩⟩
theorem gO {bs:JT Kh}{u:Wd}{o:JT J3}{p:J3}:bA bs u (o++[p])=oW bs u o p:=by
 unfold bA;rw[Qa,Qb]
theorem jo {n:J3}{o:JT J3}{p:J3}:Ord n (o++[p])↔Ord n o/\p < n/\p∉o:=by
 constructor
 ·rintro⟨nd,lt⟩;rw[Nj]at nd;exact⟨⟨nd.1,λq hq=>lt q (LK _ hq)⟩,lt p (by simp),λz=>nd.2.2 p z p (by simp) rfl⟩
 ·rintro⟨⟨nd,lt⟩,h1,h2⟩;refine⟨Nj.mpr ⟨nd,by simp,λa ha b hb e=>?_⟩,λq hq=>?_⟩
  ·rw[Kk.mp hb]at e;exact h2 (e ▸ ha)
  ·rcases K2.mp hq with z|z
   ·exact lt q z
   ·rw[Kk.mp z]; exact h1
theorem sK {n:J3}{o:JT J3}(h:Ord n o)(hl:o.length < n):∃p,p < n/\p∉o:=by
 by_cases z:∃p,p < n/\p∉o
 ·exact z
 ·have h1:=iH (KA n) o N8 λp hp=>by
   by_cases z2:p∈o
   ·exact z2
   ·exact absurd ⟨p,KU.mp hp,z2⟩ z
  rw[KI]at h1;omega
theorem HA (u v:Wd):(hZ (cC u) (cC v)).isSome=true:=by
 have:=eA [u,v];unfold eW at this;rw[Kr]at this;have:=this (cC u) (by simp)
 rw[Kr]at this;exact this (cC v) (by simp)
theorem Fs {u v:Wd}(h:hZ (cC u) (cC v)≠ba true):hZ (cC u) (cC v)=ba false:=by
 obtain⟨b,hb⟩:=Lb.mp (HA u v);cases b with
 | false=>exact hb
 | true=>exact absurd hb h
structure GrOk (bs:JT Kh)(u:Wd)(k:J3):Prop where
 mem:∀o,o∈ff bs u k↔Ord u.length o/\o.length=k/\aA bs u o=qp bs u k
 least:∀o,Ord u.length o->o.length=k->hZ (cC (aA bs u o)) (cC (qp bs u k))=ba false
 ne:ff bs u k≠[]
 len:(qp bs u k).length=k
theorem vN {k:J3}{o:JT J3}(h:o.length=k+1):∃o' p,o=o'++[p]/\o'.length=k:=by
 have hne:o≠[]:=λz=>by rw[z]at h; cases h
 exact⟨o.dropLast,o.getLast hne,(List.dropLast_concat_getLast hne).symm,by rw[List.length_dropLast]; omega⟩
theorem o5 {bs:JT Kh}{u:Wd}:∀k,k<=u.length->GrOk bs u k
 | 0,_=>by
  refine⟨λo=>?_,λo _ hl=>?_,Rt _ _,rfl⟩
  ·rw[ff,Kk];exact⟨λh=>by subst h; exact⟨⟨.nil,λp hp=>nomatch hp⟩,rfl,rfl⟩,λh=>M6 h.2.1⟩
  ·rw[M6 hl]; rfl
 | k+1,hk=>by
  have ih:=o5 (bs:=bs) (u:=u) k (by omega)
  have lne:aO u.length (ff bs u k)≠[]:=by
   obtain⟨o,ho⟩:=NC _ ih.ne;obtain⟨h1,h2,_⟩:=(ih.mem o).mp ho;obtain⟨p,hp,hpo⟩:=sK h1 (by omega)
   exact NP (fK.mpr ⟨o,ho,p,hp,hpo,rfl⟩)
  obtain⟨_,b2,b3⟩:=o4 (ps:=(aO u.length (ff bs u k)).map (bA bs u)) (by simpa using lne)
  have ef:qp bs u (k+1)=qp bs u k++[cM ((aO u.length (ff bs u k)).map (bA bs u))]:=rfl;have eo:ff bs u (k+1)=(aO u.length (ff bs u k)).filter λo=>decide (bA bs u o=cM ((aO u.length (ff bs u k)).map (bA bs u))):=rfl
  generalize cM ((aO u.length (ff bs u k)).map (bA bs u))=best at b2 b3 ef eo;refine⟨λo=>?_,λo hO hl=>?_,?_,by rw[ef,J8,ih.len]; rfl⟩
  ·rw[eo,Mt,ef];constructor
   ·rintro⟨h1,h2⟩;obtain⟨o,ho,p,hp,hpo,rfl⟩:=fK.mp h1;obtain⟨g1,g2,g3⟩:=(ih.mem o).mp ho;have h2:=KQ h2;rw[gO]at h2;exact⟨jo.mpr ⟨g1,hp,hpo⟩,by rw[J8,g2]; rfl,by rw[j3,g3,h2]⟩
   ·rintro⟨h1,h2,h3⟩;obtain⟨o,p,rfl,hl⟩:=vN h2;obtain⟨g1,g2,g3⟩:=jo.mp h1;rw[j3]at h3;obtain⟨e1,e2⟩:=List.append_inj h3 (by rw[bW,ih.len,hl])
    refine⟨fK.mpr ⟨o,(ih.mem o).mpr ⟨g1,hl,e1⟩,p,g2,g3,rfl⟩,Ly ?_⟩;rw[gO];exact List.singleton_inj.mp e2
  ·obtain⟨o,p,rfl,hl'⟩:=vN hl;clear hl;have hl:=hl';obtain⟨g1,g2,g3⟩:=jo.mp hO;refine Fs λz=>?_
   rw[j3,ef]at z;have z:dt ((aA bs u o++[oW bs u o p]).map gU) ((qp bs u k++[best]).map gU)=ba true:=z;rw[KS,KS]at z
   by_cases e:aA bs u o=qp bs u k
   ·rw[e,sJ]at z;have:=Fq (AD _) z;rw[b3 _ (Ko.mpr ⟨o++[p],fK.mpr ⟨o,(ih.mem o).mpr ⟨g1,hl,e⟩,p,g2,g3,rfl⟩,gO⟩)]at this;cases this
   ·have h1:=pR (cC (qp bs u k)) (cC (aA bs u o)) (j5 _) (λh=>e (gN h).symm) (ih.least o g1 hl)
    have h1:dt ((qp bs u k).map gU) ((aA bs u o).map gU)=ba true:=h1;have h2:=sI (as:=[best].map gU) (bs:=[oW bs u o p].map gU) (by rw[JV,JV,bW,ih.len,hl]) h1
    have h3:=pQ _ _ (by rw[<- KS]; exact lv _) h2
    rw[z]at h3; cases h3
  ·obtain⟨o,ho,e⟩:=Ko.mp b2;rw[eo];exact NP (Mt.mpr ⟨ho,Ly e⟩)
noncomputable def cy (bs:JT Kh)(u:Wd):Wd:=qp bs u u.length
theorem jp {bs:JT Kh}{u:Wd}:∃o,Ord u.length o/\o.length=u.length/\aA bs u o=cy bs u:=by
 have h:=o5 (bs:=bs) (u:=u) u.length (J7 _);obtain⟨o,ho⟩:=NC _ h.ne;exact⟨o,(h.mem o).mp ho⟩
theorem CY (n:J3):eS n≠[]:=by
 have:KA n∈eS n:=fW.mpr ⟨⟨N8,λp hp=>KU.mp hp⟩,KI⟩
 exact NP this
theorem xr {bs:JT Kh}{u:Wd}:((eS u.length).map (aA bs u))[iA (((eS u.length).map (aA bs u)).map cC)]?=ba (cy bs u):=by
 obtain⟨x,h1,h2,h3⟩:=sH (ks:=((eS u.length).map (aA bs u)).map cC) (λx hx=>by obtain⟨p,_,rfl⟩:=Ko.mp hx; exact j5 p) (eA _) (by simpa using CY u.length)
 rw[J6,J0]at h1;obtain⟨v,hv,rfl⟩:=h1;rw[hv];congr 1;obtain⟨o,ho,rfl⟩:=Ko.mp (Kf hv);obtain⟨g1,g2⟩:=fW.mp ho;obtain⟨o',k1,k2,k3⟩:=jp (bs:=bs) (u:=u);refine gN (vM (j5 _) ((o5 _ (J7 _)).least o g1 g2) ?_);exact h3 _ (Ko.mpr ⟨_,Ko.mpr ⟨o',fW.mpr ⟨k1,k2⟩,rfl⟩,by rw[k3]⟩)
theorem gP {bs:JT Kh}{u:Wd}{o:JT J3}{i:J3}(hi:i < o.length):(aA bs u o).getD i (0,[])=((u.getD (o.getD i 0) (0,[])).1,(o.take i).map λj=>dy bs u (o.getD i 0) j):=by
 unfold aA;rw[Mc,J6,Mu hi]; rfl
theorem sL {bs:JT Kh}{u:Wd}{o:JT J3}{i j:J3}(hi:i < o.length)(hj:j < i):((aA bs u o).getD i (0,[])).2.getD j 0=dy bs u (o.getD i 0) (o.getD j 0):=by
 rw[gP hi];dsimp only;rw[Mc,J6,O2 hj,aD (d:=0) (show j < o.length by exact Pq ‹_› ‹_›)]; rfl
theorem AE {bs:JT Kh}{a:J3}{u:Wd}{o:JT J3}{i j:J3}(hb:GoodB bs)(hu:GoodW a bs.length u)(hO:Ord u.length o)(hi:i < o.length)(hj:j < o.length)(hij:i≠j):dy bs (aA bs u o) i j=dy bs u (o.getD i 0) (o.getD j 0):=by
 have gi:=aD (d:=0) hi;have gj:=aD (d:=0) hj;have li:=hO.lt _ (Kf gi);have lj:=hO.lt _ (Kf gj);have ne:o.getD i 0≠o.getD j 0:=λe=>by
  have h1:o[i]=o.getD i 0:=by simp[hi]
  have h2:o[j]=o.getD j 0:=by simp[hj]
  exact hij ((MZ hO.nd).mp (by rw[h1,h2,e]))
 by_cases h:j < i
 ·have:dy bs (aA bs u o) i j=((aA bs u o).getD i (0,[])).2.getD j 0:=by unfold dy; rw[Ks h]
  rw[this,sL hi h]
 ·have:dy bs (aA bs u o) i j=bs.getD (((aA bs u o).getD j (0,[])).2.getD i 0).toNat 0:=by unfold dy; rw[KF h]
  rw[this,sL hj (by omega)]
  generalize o.getD i 0=x at *
  generalize o.getD j 0=y at *
  unfold dy
  by_cases h2:x < y
  ·rw[Ks h2,KF (by omega)]
  ·rw[KF h2,Ks (by omega)]
   have hp:=aD (d:=(0,[])) li;have hw:y < (u.getD x (0,[])).2.length:=by rw[hu.len x _ hp]; omega
   obtain⟨w0,w1⟩:=hu.way x _ hp _ (Kf (aD (d:=0) hw));have:=hb.inv ((u.getD x (0,[])).2.getD y 0).toNat (by omega)
   rw[this]; omega
theorem o7 {bs:JT Kh}{a:J3}{u:Wd}{o p:JT J3}(hb:GoodB bs)(hu:GoodW a bs.length u)(hO:Ord u.length o)(hP:Ord o.length p):aA bs (aA bs u o) p=aA bs u (p.map λi=>o.getD i 0):=by
 refine Nx (by rw[bW,bW,JV]) λk h1 h2=>?_
 rw[bW]at h1;have e1:=gP (bs:=bs) (u:=aA bs u o) (o:=p) h1;have e2:=gP (bs:=bs) (u:=u) (o:=p.map λi=>o.getD i 0) (i:=k) (by rw[JV]; exact h1)
 have hk:p.getD k 0 < o.length:=hP.lt _ (Kf (aD (d:=0) h1));have ek:(p.map λi=>o.getD i 0).getD k 0=o.getD (p.getD k 0) 0:=by
  rw[Mc,J6,aD (d:=0) h1]; rfl
 rw[ek]at e2;rw[gP hk]at e1;have f:∀(v:Wd) (hv:k < v.length),v[k]=v.getD k (0,[]):=λv hv=>by simp[hv]
 rw[f _ (by rw[bW]; exact h1),f _ h2,e1,e2]
 congr 1;rw[<- O8,LN];refine LG λj hj=>?_
 obtain⟨m,hm,rfl⟩:=Mm.mp hj;rw[Lj]at hm;rw[O0];have hpm:p[m]=p.getD m 0:=by simp[show m < p.length by omega]
 rw[hpm];refine AE hb hu hO hk (hP.lt _ (Kf (aD (d:=0) (show m < p.length by omega)))) λe=>?_
 have h3:p[k]=p.getD k 0:=by simp[h1]
 have:=(MZ hP.nd).mp (h3.trans (e.trans hpm.symm));omega
theorem lw {n:J3}{o:JT J3}(h:Ord n o)(hl:o.length=n){p:J3}(hp:p < n):p∈o:=by
 by_cases z:p∈o
 ·exact z
 ·have:=(jo (n:=n) (o:=o) (p:=p)).mpr ⟨h,hp,z⟩;have h1:=iH (o++[p]) (KA n) this.nd λq hq=>KU.mpr (this.lt q hq)
  rw[J8,KI,LS]at h1;omega
theorem AF {n:J3}{o p:JT J3}(h:Ord n o)(hp:Ord o.length p):Ord n (p.map λi=>o.getD i 0):=by
 have g:∀i,i < o.length->o[i]?=ba (o.getD i 0):=λi hi=>aD hi
 refine⟨?_,λq hq=>?_⟩
 ·rw[Nt,Ni];refine hp.nd.imp_of_mem λ{a b} ha hb hab e=>hab ?_
  have h1:=hp.lt a ha;have h2:=hp.lt b hb;have e1:o[a]=o.getD a 0:=by simp[h1]
  have e2:o[b]=o.getD b 0:=by simp[h2]
  exact(MZ h.nd).mp (by rw[e1,e2,e])
 ·obtain⟨i,hi,rfl⟩:=Ko.mp hq;exact h.lt _ (Kf (g i (hp.lt i hi)))
theorem mC {bs:JT Kh}{a:J3}{u:Wd}{o:JT J3}(hb:GoodB bs)(hu:GoodW a bs.length u)(hO:Ord u.length o)(hl:o.length=u.length):cy bs (aA bs u o)=cy bs u:=by
 have pl:(aA bs u o).length=u.length:=by rw[bW,hl]
 obtain⟨p,p1,p2,p3⟩:=jp (bs:=bs) (u:=aA bs u o);obtain⟨q,q1,q2,q3⟩:=jp (bs:=bs) (u:=u);rw[pl]at p1 p2;have m1:=λo h1 h2=>(o5 (bs:=bs) (u:=u) _ (J7 _)).least o h1 h2
 have m2:=λo2 h1 h2=>(o5 (bs:=bs) (u:=aA bs u o) _ (J7 _)).least o2 h1 h2
 refine gN (vM (j5 _) ?_ ?_)
 ·rw[<- p3,o7 hb hu hO (by rw[hl]; exact p1)]
  exact m1 _ (AF hO (by rw[hl]; exact p1)) (by rw[JV,p2])
 ·have e:q=(q.map λx=>o.idxOf x).map λi=>o.getD i 0:=by
   rw[LN]
   conv=>lhs; rw[<- List.map_id q]
   refine LG λx hx=>?_
   have hm:=lw hO hl (q1.lt x hx);have hlt:=Mx hm;show x=o.getD (o.idxOf x) 0;rw[Mc,J5 hlt,OO]; rfl
  have hQ:Ord o.length (q.map λx=>o.idxOf x):=by
   refine⟨?_,λi hi=>?_⟩
   ·rw[Nt,Ni];refine q1.nd.imp_of_mem λ{x y} hx hy hxy e=>hxy ?_
    have h1:=Mx (lw hO hl (q1.lt x hx));have h2:=Mx (lw hO hl (q1.lt y hy));have e1:=OO h1;have e2:=OO h2;rw[<- e1,<- e2];congr 1
   ·obtain⟨x,hx,rfl⟩:=Ko.mp hi;exact Mx (lw hO hl (q1.lt x hx))
  rw[<- q3,e,<- o7 hb hu hO hQ];exact m2 _ (by rw[pl,<- hl]; exact hQ) (by rw[JV,pl,q2])
section
variable{Φ:Kn->FF}{ρ:Fm}{S:aa}
theorem Ft {α:Type}{elt a b:E}{cs:Es}{cap:JT (J1 J3)}{Q:QW}(L:JT α)(f g:α->W)(p:α->KD)(h:α->W)(R:Fm)(oa:ey a=true)(ob:ey b=true)(oe:ey elt=true)(oc:qI cs=true)(hc:fP cap ρ=gV::gV::gV::R)(hl:L.length<=1000000)
  (he:wE Φ a ρ S λq=>wE Φ b ρ q.2 λq2=>∃r t,q.1=.ref r/\q2.1=.ref t/\q2.2[r]?=ba (.lst (L.map f))/\q2.2[t]?=ba (.lst (L.map g))/\Ka S q2.2)
  (hstep:∀x∈L,∀S',Ka S S'->iS Φ elt cs (gV::ba (f x)::ba (g x)::R) S' (λy _ S2=>p x=true/\y=h x/\Ka S' S2) (λ_ S2=>p x=false/\Ka S' S2))
  (k:∀S',Ka S S'->Q (.ref S'.length,S'++[.lst ((L.filter p).map h)])):Wp (aH Φ (.comp elt (.tp [1,2]) (.zip (.cons a (.cons b .nil))) cs cap) ρ S) Q:=by
 obtain⟨w,S0,e1,h1⟩:=cu oa he;obtain⟨w2,S1,e2,r,t,rfl,rfl,hr,ht,k1⟩:=cu ob h1;have hr:=hr;have hz:nh (L.map f) (L.map g)=L.map λx=>W.tup [f x,g x]:=by
  unfold nh;rw[List.zipWith_map,List.zipWith_self]
 have hi:lp Φ (.zip (.cons a (.cons b .nil))) ρ S=ba (.zl r t,S1):=by
  dsimp only at hr ht;simp only[lp,dz,eF,jO,Ck,e1,e2,HP,az hr,az ht]
 dsimp only at hr ht k1;rw[t8];refine⟨_,hi,(L.map λx=>W.tup [f x,g x]).length,by simp only[MI.len,az hr,az ht,hz],?_⟩
 refine(de (xs:=L.map λx=>W.tup [f x,g x]) (Q:=λq=>q.1.length<=sizeLine/\Q (.ref q.2.length,q.2++[.lst q.1])) (λi ys ρ' S'=>(∃a1 a2,ρ'=gV::a1::a2::R)/\ys=((L.take i).filter p).map h/\Ka S1 S') (λi ys ρ' S' h=>by simp only[MI.at,az (h.2.2.get _ _ hr),az (h.2.2.get _ _ ht),hz]) (λi w ys ρ' S' hw h=>?_) (λys ρ' S' h=>?_) _ 0 [] _ S1 (by omega) ⟨⟨gV,gV,hc⟩,rfl,.refl⟩).mono λq hq=>by simpa using hq
 ·obtain⟨⟨a1,a2,rfl⟩,rfl,k2⟩:=h;rw[J6,J0]at hw;obtain⟨x,hx,rfl⟩:=hw;refine Jd.mpr ⟨_,rfl,?_⟩;refine(zJ oc (hstep x (Kf hx) S' (k1.trans k2))).mono λc hc=>⟨λz=>(bE elt oe (hc.1 z)).mono λy hy=>⟨⟨_,_,rfl⟩,?_,k2.trans hy.2.2⟩,λz=>⟨⟨_,_,rfl⟩,?_,k2.trans (hc.2 z).2⟩⟩
  ·rw[KZ,hx,Na,show(O9 (ba x)).filter p=[x]from Pf hy.1,KS,hy.2.1]; rfl
  ·rw[KZ,hx,Na,show(O9 (ba x)).filter p=[]from Pg (by rw[(hc.2 z).1]; exact Ku),LW]
 ·obtain⟨_,rfl,k2⟩:=h;dsimp only;rw[show(L.map λx=>W.tup [f x,g x]).length=L.length from JV ..,Lm]
  refine⟨mz ?_,k S' (k1.trans k2)⟩;rw[JV];exact Kc (MH _ _) hl
end
theorem Fu (L:JT Pt):W.ts (L.map dR)=ba (L.map gU):=by rw[<- ud]; exact T.ws_ts _
noncomputable def dk:Ss:=
 (.cons (.set 2 (.lst .nil))
 (.cons (.set 3 (.lst (.cons (.tup .nil) .nil)))
 (.cons (.whl (.cmp .lt (.bi .len (.cons (.v 2) .nil)) (.bi .len (.cons (.v 1) .nil))) (.cons (.set 4 (.own "longer_orders" 2 (.cons (.v 3) (.cons (.bi .len (.cons (.v 1) .nil)) .nil))))
 (.cons (.set 5 (.comp (.own "point_over" 4 (.cons (.v 2) (.cons (.v 3) (.cons (.sl (.v 1) .no (.yes (.neg (.c (.int 1))))) (.cons (.ix (.v 1) (.neg (.c (.int 1)))) .nil))))) (.nm 1) (.seq (.v 4)) .nil [gV,gV,ba 0,ba 1]))
 (.cons (.set 6 (.bi .min (.cons (.v 5) .nil)))
 (.cons (.ex (.me .append (.v 2) (.cons (.v 6) .nil)))
 (.cons (.set 3 (.comp (.v 1) (.tp [1,2]) (.zip (.cons (.v 4) (.cons (.v 5) .nil))) (.cons (.cmp .eq (.v 2) (.v 3)) .nil) [gV,gV,gV,ba 6]))
 .nil))))))
 (.cons (.ret (.bi .tuple (.cons (.v 2) .nil)))
 .nil))))
noncomputable def cF:Ss:=
 (.cons (.set 1 (.lst (.cons (.tup .nil) .nil)))
 (.cons (.loop (.nm 2) (.rng (.cons (.v 0) .nil)) (.cons (.set 3 (.lst .nil))
 (.cons (.loop (.nm 4) (.seq (.v 1)) (.cons (.ex (.me .extend (.v 3) (.cons (.comp (.op .add (.op .add (.sl (.v 3) .no (.yes (.v 1))) (.tup (.cons (.v 2) .nil))) (.sl (.v 3) (.yes (.v 1)) .no)) (.nm 1) (.rng (.cons (.op .add (.v 2) (.c (.int 1))) .nil)) .nil [gV,gV,ba 2,ba 4]) .nil)))
 .nil))
 (.cons (.set 1 (.v 3))
 .nil))))
 (.cons (.ret (.v 1))
 .nil)))
noncomputable def dU:Ss:=
 (.cons (.ret (.bi .min (.cons (.comp (.own "_law_part" 3 (.cons (.v 2) (.cons (.v 3) (.cons (.v 1) .nil)))) (.nm 1) (.seq (.own "_law_orders" 1 (.cons (.bi .len (.cons (.v 1) .nil)) .nil))) .nil [gV,gV,ba 0,ba 1]) .nil)))
 .nil)
section
variable{defs:JT (Kn×Df)}{fuel d:J3}{S:aa}{Q:QW}
theorem Fv {l:J3}{ps:JT Pt}(h:S[l]?=ba (.lst (ps.map dR)))(hne:ps≠[])(q:Q (dR (cM ps),S)):wO (Bi.min.fn [.ref l] S) Q:=by
 refine ae ?_ q;simp only[Bi.fn,ww,az h,Fu];rw[Ks ⟨by have:=jX ps; unfold ci; exact Kc ‹_› (Kd rfl),oZ _⟩,J6,(o4 hne).1]; rfl
theorem Fw {l:J3}{us:JT Wd}{v:Wd}(h:S[l]?=ba (.lst (us.map bB)))(hv:us[iA (us.map cC)]?=ba v)(q:Q (bB v,S)):wO (Bi.min.fn [.ref l] S) Q:=by
 refine ae ?_ q;simp only[Bi.fn,ww,az h,vD];rw[Ks ⟨by have:=fI us; unfold ci; exact Kc ‹_› (Kd rfl),eA _⟩,J6,hv]; rfl
theorem vO {bs:JT Kh}{u:Wd}:∀k,(ff bs u k).length<=u.length ^ k
 | 0=>J7 _
 | k+1=>by
  have h1:=MH (λo=>decide (bA bs u o=cM ((aO u.length (ff bs u k)).map (bA bs u)))) (aO u.length (ff bs u k))
  have h2:=jn (n:=u.length) (ff bs u k);have h3:=Og u.length (vO (bs:=bs) (u:=u) k);rw[SN];exact Kc h1 (Kc h2 h3)
theorem jq (hfu:20 < fuel)(P:Parts defs)(hlo:Is defs ("longer_orders" : Kn) 2 4 bQ)(hg:Is defs ("least_form" : Kn) 2 7 dk){m0 b0:W}{ns:JT Kn}{bs:JT Kh}{a:J3}{u:Wd}(hb:GoodB bs)(hnl:ns.length=bs.length)(hu:GoodW a bs.length u)(hu6:u.length<=6)
  (kk:∀S',Ka S S'->Q (bB (cy bs u),S')) :
  wO (bM (aq defs fuel (d+3)) "least_form" 2 [.tup [m0,.tup (Kv bJ ns bs),b0],bB u] S) Q:=by
 refine aL hg rfl rfl λQ' hR=>?_
 replace kk:∀S',Ka S S'->Q' (.rt (bB (cy bs u)),S'):=λS' a=>hR _ _ (kk S' a)
 clear hR;show wZ _ _ dk [ba (.tup [m0,.tup (Kv bJ ns bs),b0]),ba (bB u),gV,gV,gV,gV,gV] S Q';generalize hR0:W.tup [m0,.tup (Kv bJ ns bs),b0]=R;have ul:(u.map dR).length=u.length:=JV ..;dsimp only[dk];refine st ?_;dsimp only[wS,wE,wA,Kj];refine st ?_;dsimp only[wS,wE,wA,Kj];refine bm λK hK=>?_
 refine zI (λm ρ S'=>∃(k q:J3) (a4 a5 a6:J1 W),k+m=u.length/\ρ=[ba R,ba (bB u),ba (.ref S.length),ba (.ref q),a4,a5,a6]/\S'[S.length]?=ba (.lst ((qp bs u k).map dR))/\S'[q]?=ba (.lst (bX (ff bs u k)))/\Ka S S') u.length rfl rfl (by omega) ⟨0,(S++[O.lst []]).length,gV,gV,gV,by omega,rfl,ap af,af,Ka.push.trans .push⟩ ?_
 rintro m ρ S1 ⟨k,q,a4,a5,a6,hkm,rfl,e1,e2,k1⟩;have ok:=o5 (bs:=bs) (u:=u) k (by omega)
 have hl1:=dQ e1;dsimp only[wT,wE,wA,wV,wG];refine fH e1 (cH ?_);rw[ul,JV,ok.len];dsimp only[zD,aT,wB];refine⟨λh=>?_,λh=>?_⟩
 ·have h:(k:Kh) < u.length:=KQ h;have hkn:k < u.length:=by exact Ma.mp ‹_›
  refine⟨m - 1,by omega,λQ2 hn _=>?_⟩
  clear hK kk;have hgl:(ff bs u k).length<=7776:=Kc (vO k) (Kc (Os hu6 k) (Of (n:=6) (by decide) (show k<=5 by omega)))
  have hmul:(ff bs u k).length*u.length<=46656:=P9 hgl hu6;have hll:(aO u.length (ff bs u k)).length<=46656:=Kc (jn _) hmul;refine st ?_;dsimp only[wS,wE,wA,wV,wG,Kj];refine cH ?_;rw[ul];refine Az (d:=d+1) hlo e2 (by exact Kc ‹_› (Kd rfl)) (λo ho=>by have:=((ok.mem o).mp ho).2.1; omega) (by exact Kc ‹_› (Kd rfl)) λl S2 e3 hl k2=>?_
  have hl:S1.length<=l:=hl;have lne:aO u.length (ff bs u k)≠[]:=by
   obtain⟨o,ho⟩:=NC _ ok.ne;obtain⟨h1,h2,_⟩:=(ok.mem o).mp ho;obtain⟨p,hp,hpo⟩:=sK h1 (by omega)
   exact NP (fK.mpr ⟨o,ho,p,hp,hpo,rfl⟩)
  refine st ?_;dsimp only[wS,wE,Kj];refine AC (aO u.length (ff bs u k)) (λo=>.tup (al o)) (λ_=>true) (λo=>dR (bA bs u o)) [ba R,ba (bB u)] rfl rfl rfl rfl (by exact Kc ‹_› (Kd rfl)) ⟨l,rfl,e3,.refl⟩ (λo ho S3 k3=>?_) λS3 k3=>?_
  ·obtain⟨o,ho',p,hp,hpo,rfl⟩:=fK.mp ho;obtain⟨⟨o1,o2⟩,o3,_⟩:=(ok.mem o).mp ho';dsimp only[iS,wC,wE,wA,wP,wV,wG,wN];refine⟨λ_=>?_,λz=>by cases z⟩
   refine ae (show pE (.tup (al (o++[p]))) gV (ba (-1)) S3=ba (.tup (al o),S3) by simp only[pE,Ax,xn,Qa]) ?_
   dsimp only;refine ae (CS (by simp)) ?_
   dsimp only;subst hR0;rw[Qb,gO];exact Fe (d:=d) P hb hnl hu (λx hx=>⟨o2 x hx,λe=>hpo (e ▸ hx)⟩) hp (by omega) λS4 k4=>⟨rfl,rfl,k4⟩
  rw[mB];have em:(aO u.length (ff bs u k)).map (λo=>dR (bA bs u o))=((aO u.length (ff bs u k)).map (bA bs u)).map dR:=by rw[LN]; rfl
  rw[em];have e4:(S3++[O.lst (((aO u.length (ff bs u k)).map (bA bs u)).map dR)])[S3.length]?=ba (.lst (((aO u.length (ff bs u k)).map (bA bs u)).map dR)):=af;have e3':=ap (u:=O.lst (((aO u.length (ff bs u k)).map (bA bs u)).map dR)) (k3.get _ _ e3);have e1':=ap (u:=O.lst (((aO u.length (ff bs u k)).map (bA bs u)).map dR)) (k3.get _ _ (k2.get _ _ e1));have ls3:S.length < S3.length:=Kx hl1 (Kc k2.len k3.len);have k4:Ka S (S3++[O.lst (((aO u.length (ff bs u k)).map (bA bs u)).map dR)]):=((k1.trans k2).trans k3).trans .push;generalize S3++[O.lst (((aO u.length (ff bs u k)).map (bA bs u)).map dR)]=S4 at e4 e3' e1' k4;generalize hl5:S3.length=l5 at e4 ls3;clear e2 e3 k3 k2 hl5;refine st ?_;dsimp only[wS,wE,wA,wV,wG,Kj];refine Fv e4 (by simpa using lne) ?_
  refine st ?_;dsimp only[wS,wE,wA,wV,wG];refine⟨dD e1',Fg e1' (by rw[JV,ok.len]; omega) ?_⟩
  have s1:=bV (o':=O.lst ((qp bs u k).map dR++[dR (cM ((aO u.length (ff bs u k)).map (bA bs u)))])) e1';have s3:(S4.set S.length (O.lst ((qp bs u k).map dR++[dR (cM ((aO u.length (ff bs u k)).map (bA bs u)))])))[l]?=ba (.lst (bX (aO u.length (ff bs u k)))):=by rw[b6 (by omega)]; exact e3'
  have s4:(S4.set S.length (O.lst ((qp bs u k).map dR++[dR (cM ((aO u.length (ff bs u k)).map (bA bs u)))])))[l5]?=ba (.lst (((aO u.length (ff bs u k)).map (bA bs u)).map dR)):=by rw[b6 (Kt ‹_›)]; exact e4
  have k5:=k4.late (o:=O.lst ((qp bs u k).map dR++[dR (cM ((aO u.length (ff bs u k)).map (bA bs u)))])) (J7 S.length);generalize S4.set S.length (O.lst ((qp bs u k).map dR++[dR (cM ((aO u.length (ff bs u k)).map (bA bs u)))]))=S5 at s1 s3 s4 k5;refine st ?_;dsimp only[wS,wE,Kj];refine Ft (aO u.length (ff bs u k)) (λo=>.tup (al o)) (λo=>dR (bA bs u o)) (λo=>decide (bA bs u o=cM ((aO u.length (ff bs u k)).map (bA bs u)))) (λo=>.tup (al o)) [ba (dR (cM ((aO u.length (ff bs u k)).map (bA bs u))))] rfl rfl rfl rfl rfl (by exact Kc ‹_› (Kd rfl)) ⟨l,l5,rfl,rfl,s3,by rw[em]; exact s4,.refl⟩ (λo ho S6 k6=>?_) λS6 k6=>?_
  ·dsimp only[iS,wC,wT,wE,wV,wG];refine ae Hz ?_;dsimp only[wB];exact⟨λz=>⟨z,rfl,.refl⟩,λz=>⟨z,.refl⟩⟩
  ·refine dq (hn _ _ ⟨k+1,S6.length,_,_,_,by omega,rfl,?_,af,(k5.trans k6).trans .push⟩)
   have:=ap (u:=O.lst (((aO u.length (ff bs u k)).filter λo=>decide (bA bs u o=cM ((aO u.length (ff bs u k)).map (bA bs u)))).map λo=>W.tup (al o))) (k6.get _ _ s1)
   rw[this,show qp bs u (k+1)=qp bs u k++[cM ((aO u.length (ff bs u k)).map (bA bs u))]from rfl,KS]; rfl
 ·have h:¬ (k:Kh) < u.length:=L1 h;obtain rfl:k=u.length:=by omega
  refine hK _ _ (st ?_);dsimp only[wS,wE,wA,wV,wG];exact d4 e1 (kk _ k1)
theorem sM:∀n,n<=6->(eS n).length<=720
 | 0,_=>by decide
 | 1,_=>by decide
 | 2,_=>by decide
 | 3,_=>by decide
 | 4,_=>by decide
 | 5,_=>by decide +kernel
 | 6,_=>by decide +kernel
 | n+7,h=>by omega
theorem AG (hg:Is defs ("_law_orders" : Kn) 1 5 cF){n:J3}(hn:n<=6)
  (kk:∀(q:J3) (S':aa),S'[q]?=ba (.lst (bX (eS n)))->S.length<=q->Ka S S'->Q (.ref q,S')) :
  wO (bM (aq defs fuel (d+1)) "_law_orders" 1 [.int n] S) Q:=by
 refine aL hg rfl rfl λQ' hR=>?_
 replace kk:∀(q:J3) (S':aa),S'[q]?=ba (.lst (bX (eS n)))->S.length<=q->Ka S S'->Q' (.rt (.ref q),S'):=λa b c e f=>hR _ _ (kk a b c e f)
 clear hR;show wZ _ _ cF [ba (.int n),gV,gV,gV,gV] S Q';dsimp only[cF];refine st ?_;dsimp only[wS,wE,wA,Kj];refine bm λK hK=>?_
 refine ee (n:Kh) (λi ρ S'=>∃(q:J3) (a2 a3 a4:J1 W),ρ=[ba (.int n),ba (.ref q),a2,a3,a4]/\S'[q]?=ba (.lst (bX (eS i)))/\S.length<=q/\Ka S S') rfl rfl (by omega) ⟨rfl,_,_,_,_,rfl,af,J7 _,.push⟩ ?_ ?_
 ·rintro i ρ S1 hi ⟨q,a2,a3,a4,rfl,e1,hq,k1⟩ Q2 hn2 _;clear hK kk;have hi6:i<=5:=by omega
  have hol:=sM i (MP ‹_›);have hq1:=dQ e1;dsimp only[Kj];refine st ?_;dsimp only[wS,wE,wA,Kj];refine bm λK hK=>?_
  refine vx q (bX (eS i)) (λj ρ S'=>(∃a4,ρ=[ba (.int n),ba (.ref q),ba (.int i),ba (.ref S1.length),a4])/\S'[q]?=ba (.lst (bX (eS i)))/\S'[S1.length]?=ba (.lst (bX (((eS i).take j).flatMap λo=>(KA (i+1)).map λm=>o.take m++[i]++o.drop m)))/\Ka S S') rfl rfl ⟨rfl,⟨_,rfl⟩,ap e1,af,k1.trans .push⟩ (λj ρ S' h=>h.2.1) ?_ ?_
  ·rintro j w ρ S2 hw ⟨⟨a4,rfl⟩,e0,e2,k2⟩;clear hK hn2;unfold bX at hw;rw[J6,J0]at hw;obtain⟨o,ho,rfl⟩:=hw;have hlo:o.length=i:=(fW.mp (Kf ho)).2;have hj:j < (eS i).length:=(J9.mp ho).1;refine ae (show ic (.nm 4) (.tup (al o)) [ba (.int n),ba (.ref q),ba (.int i),ba (.ref S1.length),a4] S2=ba ([ba (.int n),ba (.ref q),ba (.int i),ba (.ref S1.length),ba (.tup (al o))],S2)from rfl) ?_
   intro Q3 hn3 _;refine st ?_;dsimp only[wS,wE,wA,wV,wG];refine⟨dD e2,?_⟩;refine Fn (i+1) (λ_=>true) (λm=>.tup (al (o.take m++[i]++o.drop m))) [ba (.int i),ba (.tup (al o))] rfl rfl rfl rfl (by omega) ?_ (λm hm S3 k3=>?_) λS3 k3=>?_
   ·dsimp only[wE,wV,wG];refine ae dP ⟨?_,.refl⟩;rw[Int.natCast_succ]
   ·have nl:(al o).length=o.length:=JV ..;dsimp only[iS,wC,wE,wA,wP,wV,wG,wN];refine⟨λ_=>?_,λz=>by cases z⟩
    refine ae (show pE (.tup (al o)) gV (ba ((m:J3):Kh)) S3=ba (.tup ((al o).take m),S3) by simp only[pE,ji]) ?_
    dsimp only;refine ae (jT (mz (by rw[J8,Lj]; show _+1<=_; omega))) ?_
    dsimp only;refine ae (show pE (.tup (al o)) (ba ((m:J3):Kh)) gV S3=ba (.tup ((al o).drop m),S3) by simp only[pE,mj]) ?_
    dsimp only;refine ae (jT (mz (by rw[J8,J8,Lj,MA]; show _+1+_<=_; omega))) ⟨rfl,?_,.refl⟩
    simp[al]
   ·rw[mB];have e2':=ap (u:=O.lst ((KA (i+1)).map λm=>W.tup (al (o.take m++[i]++o.drop m)))) (k3.get _ _ e2)
    have hfl:(((eS i).take j).flatMap λo=>(KA (i+1)).map λm=>o.take m++[i]++o.drop m).length<=720*6:=by
     have:∀L:JT (JT J3),(L.flatMap λo=>(KA (i+1)).map λm=>o.take m++[i]++o.drop m).length=L.length*(i+1):=λL=>by
      induction L with
      | nil=>simp
      | cons x L ih=>rw[Rb,J8,ih,JV,KI,La,Pp]; omega
     rw[this,Lj];exact P9 (by omega) (by omega)
    refine Ay e2' af (by unfold bX; rw[JV,JV,KI]; omega) (dq (hn3 _ _ ⟨⟨_,rfl⟩,?_,?_,((k2.trans k3).trans .push).late k1.len⟩))
    ·rw[b6 (KM ‹_›)]; exact ap (k3.get _ _ e0)
    ·rw[bV e2',KZ,ho,Ot];unfold bX;rw[KS];simp
  ·rintro ρ S2 ⟨⟨a4,rfl⟩,e0,e2,k2⟩;rw[show(bX (eS i)).length=(eS i).length from JV ..,Lm]at e2
   refine hK _ _ (st ?_);dsimp only[wS,wE,wV,wG,Kj];exact dq (hn2 _ _ ⟨_,_,_,_,rfl,e2,k1.len,k2⟩)
 ·rintro ρ S1 ⟨q,a2,a3,a4,rfl,e1,hq,k1⟩;rw[Km]at e1;exact hK _ _ (st (kk q S1 e1 hq k1))
theorem kJ (G:Gen defs)(ho:Is defs ("_law_orders" : Kn) 1 5 cF)(hg:Is defs ("_law_least" : Kn) 2 2 dU){m0 b0:W}{ns:JT Kn}{bs:JT Kh}{a:J3}{u:Wd}(hb:GoodB bs)(hnl:ns.length=bs.length)(hu:GoodW a bs.length u)(hu6:u.length<=6)
  (kk:∀S',Ka S S'->Q (bB (cy bs u),S')) :
  wO (bM (aq defs fuel (d+3)) "_law_least" 2 [.tup [m0,.tup (Kv bJ ns bs),b0],bB u] S) Q:=by
 refine aL hg rfl rfl λQ' hR=>?_
 replace kk:∀S',Ka S S'->Q' (.rt (bB (cy bs u)),S'):=λS' a=>hR _ _ (kk S' a)
 clear hR;show wZ _ _ dU [ba (.tup [m0,.tup (Kv bJ ns bs),b0]),ba (bB u)] S Q';generalize hR0:W.tup [m0,.tup (Kv bJ ns bs),b0]=R;dsimp only[dU];refine st ?_;dsimp only[wS,wE,wA];refine AC (eS u.length) (λo=>.tup (al o)) (λ_=>true) (λo=>bB (aA bs u o)) [ba R,ba (bB u)] rfl rfl rfl rfl (by have:=sM u.length hu6; exact Kc ‹_› (Kd rfl)) ?_ (λo ho2 S2 k2=>?_) λS2 k2=>?_
 ·dsimp only[wE,wA,wV,wG];refine cH ?_;rw[show(u.map dR).length=u.length from JV ..]
  exact AG (d:=d+1) ho hu6 λq S1 e1 _ k1=>⟨q,rfl,e1,k1⟩
 ·obtain⟨⟨o1,o2⟩,o3⟩:=fW.mp ho2;dsimp only[iS,wC,wE,wA,wV,wG];refine⟨λ_=>?_,λz=>by cases z⟩
  subst hR0;exact ug (d:=d) G hb hnl hu o2 o1 (by omega) λS3 k3=>⟨rfl,rfl,k3⟩
 ·rw[mB];dsimp only;refine Fw (us:=(eS u.length).map (aA bs u)) (by rw[LN]; exact af) xr (kk _ (k2.trans .push))
end
noncomputable def lx:Ss:=
 (.cons (.set 1 (.own "_law_flow" 1 (.cons (.v 0) .nil)))
 (.cons (.set 2 (.own "_law_full_rule" 1 (.cons (.v 1) .nil)))
 (.cons (.set 3 (.own "_law_pick" 2 (.cons (.v 1) (.cons (.c (.int 5)) .nil))))
 (.cons (.ite (.cmp .eq (.own "_law_pick" 2 (.cons (.v 1) (.cons (.c (.int 8)) .nil))) (.c (.int 0))) (.cons (.set 3 (.own "_law_pick" 2 (.cons (.v 1) (.cons (.c (.int 7)) .nil))))
 .nil) .nil)
 (.cons (.set 4 (.own "_law_any_world" 3 (.cons (.v 1) (.cons (.v 2) (.cons (.v 3) .nil)))))
 (.cons (.set 5 (.own "_law_part" 3 (.cons (.v 2) (.cons (.v 4) (.cons (.own "_law_drawn_points" 3 (.cons (.v 1) (.cons (.v 3) (.cons (.v 3) .nil)))) .nil)))))
 (.cons (.set 6 (.own "_law_least" 2 (.cons (.v 2) (.cons (.v 4) .nil))))
 (.cons (.ite (.or (.not (.own "_law_alike" 2 (.cons (.own "least_form" 2 (.cons (.v 2) (.cons (.v 4) .nil))) (.cons (.v 6) .nil)))) (.not (.own "_law_alike" 2 (.cons (.own "least_form" 2 (.cons (.v 2) (.cons (.v 5) .nil))) (.cons (.v 6) .nil))))) (.cons (.ret (.c (.bl false)))
 .nil) .nil)
 (.cons (.set 7 (.own "_law_other_rule" 1 (.cons (.v 2) .nil)))
 (.cons (.ite (.not (.own "_law_alike" 2 (.cons (.own "least_form" 2 (.cons (.v 7) (.cons (.sl (.v 4) .no (.yes (.c (.int 4)))) .nil))) (.cons (.own "_law_least" 2 (.cons (.v 7) (.cons (.sl (.v 4) .no (.yes (.c (.int 4)))) .nil))) .nil)))) (.cons (.ret (.c (.bl false)))
 .nil) .nil)
 (.cons (.ret (.and (.own "_law_alike" 2 (.cons (.own "least_form" 2 (.cons (.v 2) (.cons (.v 6) .nil))) (.cons (.v 6) .nil))) (.own "_law_alike" 2 (.cons (.own "least_form" 2 (.cons (.v 2) (.cons (.v 4) .nil))) (.cons (.v 6) .nil)))))
 .nil)))))))))))
structure Lw12 (defs:JT (Kn×Df)):Prop where
 gen:Gen defs
 full:Full defs
 parts:Parts defs
 longer:Is defs ("longer_orders" : Kn) 2 4 bQ
 least:Is defs ("least_form" : Kn) 2 7 dk
 flow:Is defs ("_law_flow" : Kn) 1 1 eM
 world:Is defs ("_law_any_world" : Kn) 3 6 cg
 alike:Is defs ("_law_alike" : Kn) 2 2 cv
 drawn:Is defs ("_law_drawn_points" : Kn) 3 5 bL
 orders:Is defs ("_law_orders" : Kn) 1 5 cF
 lleast:Is defs ("_law_least" : Kn) 2 2 dU
 other:Is defs ("_law_other_rule" : Kn) 1 2 bY
 law:Is defs ("law" : Kn) 1 8 lx
theorem Dw {a n:J3}{u:Wd}(hu:GoodW a n u)(hl:u.length<=1000):Tr 3 (bB u):=by
 refine⟨by rw[JV]; exact hl,λx hx=>?_⟩
 obtain⟨p,hp,rfl⟩:=Ko.mp hx;obtain⟨k,hk,e⟩:=Mm.mp hp;have hpl:=hu.len k p (by rw[J5 hk,e])
 refine⟨Kd rfl,λy hy=>?_⟩
 simp only[Kz,Lg,ME]at hy;rcases hy with rfl|rfl
 ·trivial
 ·refine⟨by rw[JV]; omega,λz hz=>?_⟩
  obtain⟨w,_,rfl⟩:=Ko.mp hz;trivial
theorem iL {bs:JT Kh}{a:J3}{u:Wd}(hb:GoodB bs)(hu:GoodW a bs.length u):GoodW a bs.length (cy bs u)/\(cy bs u).length=u.length/\cy bs (cy bs u)=cy bs u:=by
 obtain⟨o,h1,h2,h3⟩:=jp (bs:=bs) (u:=u);rw[<- h3];exact⟨oY hb hu h1.lt h1.nd,by rw[bW,h2],by rw[mC hb hu h1 h2,h3]⟩
section
variable{defs:JT (Kn×Df)}{fuel d:J3}
theorem AH (hfu:50 < fuel)(L:Lw12 defs){zs:JT Kh}:∃S',aq defs fuel (d+9) "law" [.ref 0] [.fro (zs.map W.int)]=ba (.bl true,S'):=by
 suffices h:wO (bM (aq defs fuel (d+9)) "law" 1 [.ref 0] [.fro (zs.map W.int)]) (λp=>p.1=.bl true) by
  obtain⟨⟨v,S'⟩,e,q⟩:=cL h;cases(show v=.bl true from q)
  exact⟨S',e⟩
 have G:=L.gen;refine aL L.law rfl rfl λQ' hR=>?_
 show wZ _ _ lx [ba (.ref 0),gV,gV,gV,gV,gV,gV,gV] [.fro (zs.map W.int)] Q';unfold lx;refine bm λK hK=>?_
 dsimp only[wS,wE,wA,wV,wG,Kj];refine Fp (d:=d+7) L.flow (ns:=zs) rfl λr S1 _ f1=>hK _ _ ?_
 clear hK K;refine bm λK hK=>?_
 dsimp only[wS,wE,wA,wV,wG,Kj];refine Fk (d:=d) (by omega) G L.full f1 λw S2 hw f2 _=>hK _ _ ?_
 clear hK K f1;obtain⟨a,bs,ms,ns,gs,rfl,hr⟩:=hw;have hb:=hr.size.good;have hnl:=hr.nl;have hml:=hr.ml;have hpos:=hr.size.pos;have ha3:=hr.size.a3;clear hr;unfold d6;generalize W.tup ((dh gs).map bB)=b0;clear gs;refine bm λK hK=>?_
 dsimp only[wS,wE,wA,wV,wG,Kj];refine bj (d:=d+7) G.pick f2 (by decide) (by decide) λv S3 v0 v1 f3 _=>hK _ _ ?_
 clear hK K f2;refine bm λK hK=>?_
 have tl:∀(n:J3) (S4:aa),n<=6->Fl S4 r->K [ba (.ref 0),ba (.ref r),ba (.tup [.tup (ms.map W.str),.tup (Kv bJ ns bs),b0]),ba (.int (n:Kh)),gV,gV,gV,gV] S4:=by
  intro n S4 hn f4;refine hK _ _ ?_;clear hK K f3 v0 v1;refine bm λK hK=>?_
  dsimp only[wS,wE,wA,wV,wG,Kj];refine sf (d:=d+6) G L.world f4 hpos ha3 hb hml hnl (by exact Kc ‹_› (Kd rfl)) λu S5 hul hu f5 _=>hK _ _ ?_
  clear hK K f4;have hu6:u.length<=6:=by omega
  have lf:∀(v:Wd) (S:aa) (Q:QW),GoodW a bs.length v->v.length<=6->cy bs v=cy bs u->(∀S',Ka S S'->Q (.bl true,S'))->wO (bM (aq defs fuel (d+8)) "least_form" 2 [.tup [.tup (ms.map W.str),.tup (Kv bJ ns bs),b0],bB v] S) λp=>wO (bM (aq defs fuel (d+8)) "_law_alike" 2 [p.1,bB (cy bs u)] p.2) Q:=λv S Q h1 h2 h3 h4=>by
   refine jq (d:=d+5) (by omega) L.parts L.longer L.least hb hnl h1 h2 λS' k'=>?_
   rw[h3];obtain⟨g1,g2,_⟩:=iL hb hu;exact vJ L.alike 3 (d+4) _ _ _ (Dw g1 (by omega)) λS2 k2=>h4 S2 (k'.trans k2)
  refine bm λK hK=>?_
  dsimp only[wS,wE,wA,wV,wG,Kj];refine CO (d:=d+6) G L.drawn (many:=n) (size:=n) f5 (by exact Kc ‹_› (Kd rfl)) (J7 _) (by omega) λps S6 hpl hnd hps f6 _=>?_
  have hO:Ord u.length ps:=⟨hnd,λp hp=>by have:=hps p hp; omega⟩
  refine ug (d:=d+6) G hb hnl hu hO.lt hnd (by omega) λS7 k7=>hK _ _ ?_
  clear hK K f5 f6;refine bm λK hK=>?_
  dsimp only[wS,wE,wA,wV,wG,Kj];refine kJ (d:=d+5) G L.orders L.lleast hb hnl hu hu6 λS8 _=>hK _ _ ?_
  clear hK K;refine bm λK hK=>?_
  dsimp only[wS,wT,wE,wA,wV,wG];refine lf u _ _ hu hu6 rfl λS9 _=>?_
  refine ae (show gh S9 (.bl true)=ba true from rfl) ⟨λz=>(by cases z),λ_=>?_⟩
  dsimp only;refine lf (aA bs u ps) _ _ (oY hb hu hO.lt hnd) (by rw[bW]; omega) (mC hb hu hO (by omega)) λS10 _=>?_
  refine ae (show gh S10 (.bl true)=ba true from rfl) ?_
  refine aN (Q0:=Q') (λz=>by cases z) (λ_ Q2 hn2 _=>dq (hn2 _ _ (hK _ _ ?_)))
  clear hn2 hK K;obtain⟨gb,gl⟩:=oX hb;refine bm λK hK=>?_
  dsimp only[wS,wE,wA,wV,wG,Kj];refine CT (d:=d+7) L.other hb hnl λS11 _=>hK _ _ ?_
  clear hK K;have sl4:∀S:aa,pE (bB u) gV (ba 4) S=ba (bB (u.take 4),S):=λS=>by
   simp only[bB,pE];rw[show(ba (4:Kh))=ba (((4:J3)):Kh)from rfl,ji,O8]
  have ht:GoodW a (gx bs).length (u.take 4):=by
   rw[gl];have key:∀(k:J3) (x:Pt),(u.take 4)[k]?=ba x->u[k]?=ba x:=λk x e=>by
    rw[List.getElem?_take]at e;split at e
    ·exact e
    ·cases e
   exact⟨λk x e=>hu.mark k x (key k x e),λk x e=>hu.len k x (key k x e),λk x e=>hu.way k x (key k x e)⟩
  have ht4:(u.take 4).length<=6:=by rw[Lj]; omega
  refine bm λK hK=>?_
  dsimp only[wS,wT,wE,wA,wP,wV,wG,wN];refine ae (sl4 _) ?_;dsimp only;refine jq (d:=d+5) (by omega) L.parts L.longer L.least gb (by omega) ht ht4 λS12 _=>?_
  refine ae (sl4 _) ?_;dsimp only;refine kJ (d:=d+5) G L.orders L.lleast gb (by omega) ht ht4 λS13 _=>?_
  obtain⟨g1,g2,_⟩:=iL gb ht;refine vJ L.alike 3 (d+4) _ _ _ (Dw g1 (by omega)) λS14 _=>?_
  refine ae (show gh S14 (.bl true)=ba true from rfl) ?_
  refine aN (Q0:=Q') (λz=>by cases z) (λ_ Q2 hn2 _=>dq (hn2 _ _ (hK _ _ ?_)))
  clear hn2 hK K g1 g2;obtain⟨g1,g2,g3⟩:=iL hb hu;refine st ?_;dsimp only[wS,wE,wA,wV,wG];refine lf (cy bs u) _ _ g1 (by omega) g3 λS15 _=>?_
  dsimp only[wB];refine⟨λ_=>?_,λz=>by cases z⟩
  exact lf u _ _ hu hu6 rfl λS16 _=>hR _ _ rfl
 dsimp only[wS,wT,wE,wA,wV,wG];refine bj (d:=d+7) G.pick f3 (by decide) (by decide) λv2 S5 _ _ f5 _=>?_
 obtain⟨n,rfl⟩ : ∃n:J3,v=n:=⟨v.toNat,by omega⟩
 dsimp only[je,aT,wB];refine aN (Q0:=Q') (λ_ Q2 hn2 _=>?_) (λ_ Q2 hn2 _=>dq (hn2 _ _ (tl n S5 (by omega) f5)))
 refine st ?_;dsimp only[wS,wE,wA,wV,wG,Kj];refine bj (d:=d+7) G.pick f5 (by decide) (by decide) λv3 S6 u0 u1 f6 _=>?_
 obtain⟨n3,rfl⟩ : ∃n:J3,v3=n:=⟨v3.toNat,by omega⟩
 exact dq (hn2 _ _ (tl n3 S6 (by omega) f6))
end
noncomputable def aj (i:J3):MT:=PySem.Challenge.pw_layworld_k12_least_forms.main.body.getD i (.Pass ⟨0,0,0,0⟩)
noncomputable def io:Df:=⟨["rule","world","i","j"],["rule","world","i","j"],vK⟩
noncomputable def bo:Df:=⟨["rule","world","ahead","point"],["rule","world","ahead","point"],en⟩
noncomputable def bp:Df:=⟨["rule","world"],["rule","world","form","orders","longer","lasts","least"],dk⟩
noncomputable def aQ:Df:=⟨["orders","size"],["orders","size","longer","order"],bQ⟩
noncomputable def bF:Df:=⟨["_law_script"],["_law_script"],eM⟩
noncomputable def bG:Df:=⟨["_law_flow_here","_law_many"],["_law_flow_here","_law_many","_law_cell","_law_digit"],cX⟩
noncomputable def aU:Df:=⟨["_law_flow_here","_law_many"],["_law_flow_here","_law_many"],dG⟩
noncomputable def bH:Df:=⟨["_law_flow_here","_law_stem"],["_law_flow_here","_law_stem","_law_near"],fR⟩
noncomputable def bq:Df:=⟨["_law_flow_here","_law_many"],["_law_flow_here","_law_many","_law_stem","_law_names_here","_law_k","_law_name_here","_law_spare"],cZ⟩
noncomputable def aV:Df:=⟨["_law_rule","_law_world","_law_i","_law_j"],["_law_rule","_law_world","_law_i","_law_j"],dH⟩
noncomputable def bI:Df:=⟨["_law_rule","_law_world","_law_points"],["_law_rule","_law_world","_law_points","_law_told","_law_k","_law_i"],fS⟩
noncomputable def br:Df:=⟨[],[],gv⟩
noncomputable def aZ:Df:=⟨["_law_rule","_law_three"],["_law_rule","_law_three"],eg⟩
noncomputable def bu:Df:=⟨["_law_flow_here","_law_many"],["_law_flow_here","_law_many","_law_menu"],eY⟩
noncomputable def aW:Df:=⟨["_law_flow_here","_law_marks","_law_backs_here","_law_barred"],["_law_flow_here","_law_marks","_law_backs_here","_law_barred","_law_names_here","_law_ways"],dI⟩
noncomputable def aE:Df:=⟨["_law_flow_here","_law_marks","_law_ways"],["_law_flow_here","_law_marks","_law_ways","_law_told","_law_k"],cz⟩
noncomputable def bv:Df:=⟨["_law_flow_here"],["_law_flow_here","_law_menu"],eZ⟩
noncomputable def aR:Df:=⟨["_law_flow_here"],["_law_flow_here","_law_marks","_law_ways","_law_rule","_law_barred","_law_k"],dg⟩
noncomputable def aB:Df:=⟨["_law_flow_here"],["_law_flow_here","_law_menu"],cp⟩
noncomputable def a7:Df:=⟨["_law_backs_here","_law_must","_law_to_one","_law_to_two","_law_between_here"],["_law_backs_here","_law_must","_law_to_one","_law_to_two","_law_between_here","_law_to","_law_pair","_law_x","_law_y","_law_z"],eh⟩
noncomputable def aS:Df:=⟨["_law_flow_here","_law_backs_here","_law_must"],["_law_flow_here","_law_backs_here","_law_must","_law_many","_law_menu","_law_some","_law_numbers","_law_told","_law_k","_law_other","_law_u","_law_v"],bK⟩
noncomputable def aC:Df:=⟨["_law_flow_here"],["_law_flow_here","_law_form","_law_backs_here","_law_must","_law_most","_law_marks","_law_rule","_law_barred","_law_many","_law_at","_law_one","_law_two","_law_between_here","_law_some","_law_first"],cq⟩
noncomputable def a9:Df:=⟨["_law_marks"],["_law_marks","_law_told","_law_i","_law_j"],ej⟩
noncomputable def aI:Df:=⟨["_law_flow_here"],["_law_flow_here","_law_marks","_law_ways","_law_rule","_law_k","_law_own","_law_free","_law_barred","_law_three"],cR⟩
noncomputable def au:Df:=⟨["_law_flow_here"],["_law_flow_here","_law_marks","_law_barred"],ce⟩
noncomputable def aJ:Df:=⟨["_law_flow_here","_law_rule","_law_many"],["_law_flow_here","_law_rule","_law_many","_law_told","_law_k","_law_mark"],cg⟩
noncomputable def bw:Df:=⟨["_law_found","_law_due"],["_law_found","_law_due"],cv⟩
noncomputable def bc:Df:=⟨["_law_many"],["_law_many","_law_told","_law_k","_law_longer","_law_order"],cF⟩
noncomputable def bx:Df:=⟨["_law_rule","_law_world"],["_law_rule","_law_world"],dU⟩
noncomputable def be:Df:=⟨["_law_many","_law_size"],["_law_many","_law_size","_law_told","_law_k"],cD⟩
noncomputable def bf:Df:=⟨["_law_rule","_law_size"],["_law_rule","_law_size","_law_told","_law_k","_law_points","_law_mark"],dj⟩
noncomputable def aX:Df:=⟨["_law_rule"],["_law_rule"],dJ⟩
noncomputable def aK:Df:=⟨["_law_flow_here"],["_law_flow_here","_law_form","_law_marks","_law_many","_law_rule"],cU⟩
noncomputable def aw:Df:=⟨["_law_flow_here","_law_many","_law_size"],["_law_flow_here","_law_many","_law_size","_law_left","_law_told"],bL⟩
noncomputable def aF:Df:=⟨["_law_rule"],["_law_rule","_law_backs_here"],bY⟩
noncomputable def ip:Df:=⟨["_law_script"],["_law_script","_law_flow_here","_law_rule","_law_size","_law_world","_law_other","_law_due","_law_twin"],lx⟩
noncomputable def kK:JT (Kn×Df):=[(("way" : Kn),io),(("point_over" : Kn),bo),(("least_form" : Kn),bp),(("longer_orders" : Kn),aQ),(("_law_flow" : Kn),bF),(("_law_pick" : Kn),bG),(("_law_letters" : Kn),aU),(("_law_name" : Kn),bH),(("_law_names" : Kn),bq),(("_law_between" : Kn),aV),(("_law_part" : Kn),bI),(("_law_turns" : Kn),br),(("_law_figure" : Kn),aZ),(("_law_backs" : Kn),bu),(("_law_rule_of" : Kn),aW),(("_law_free_three" : Kn),aE),(("_law_sizes" : Kn),bv),(("_law_any_rule" : Kn),aR),(("_law_laying_kind" : Kn),aB),(("_law_breaks" : Kn),a7),(("_law_numbered" : Kn),aS),(("_law_laying_rule" : Kn),aC),(("_law_rising" : Kn),a9),(("_law_free_rule" : Kn),aI),(("_law_one_way_rule" : Kn),au),(("_law_any_world" : Kn),aJ),(("_law_alike" : Kn),bw),(("_law_orders" : Kn),bc),(("_law_least" : Kn),bx),(("_law_digits" : Kn),be),(("_law_worlds" : Kn),bf),(("_law_figures" : Kn),aX),(("_law_full_rule" : Kn),aK),(("_law_drawn_points" : Kn),aw),(("_law_other_rule" : Kn),aF),(("law" : Kn),ip)]
noncomputable def CZ:JT (Kn×J3):=[(("way" : Kn),4),(("point_over" : Kn),4),(("least_form" : Kn),2),(("longer_orders" : Kn),2),(("_law_flow" : Kn),1),(("_law_pick" : Kn),2),(("_law_letters" : Kn),2),(("_law_name" : Kn),2),(("_law_names" : Kn),2),(("_law_between" : Kn),4),(("_law_part" : Kn),3),(("_law_turns" : Kn),0),(("_law_figure" : Kn),2),(("_law_backs" : Kn),2),(("_law_rule_of" : Kn),4),(("_law_free_three" : Kn),3),(("_law_sizes" : Kn),1),(("_law_any_rule" : Kn),1),(("_law_laying_kind" : Kn),1),(("_law_breaks" : Kn),5),(("_law_numbered" : Kn),3),(("_law_laying_rule" : Kn),1),(("_law_rising" : Kn),1),(("_law_free_rule" : Kn),1),(("_law_one_way_rule" : Kn),1),(("_law_any_world" : Kn),3),(("_law_alike" : Kn),2),(("_law_orders" : Kn),1),(("_law_least" : Kn),2),(("_law_digits" : Kn),2),(("_law_worlds" : Kn),2),(("_law_figures" : Kn),1),(("_law_full_rule" : Kn),1),(("_law_drawn_points" : Kn),3),(("_law_other_rule" : Kn),1),(("law" : Kn),1)]
noncomputable def Fx:JT Kn:=["range","len","list","tuple","int","set","sorted","isinstance","bool","str","all","min","zip"]
noncomputable def fw:Md:=⟨CZ,Fx⟩
theorem Fy:b8 fw (aj 1) io:=by rfl
theorem Fz:FnScope io.N io.ps (ah (aj 1)):=⟨rfl,rfl,rfl,by decide +kernel,rfl,by decide +kernel,by decide +kernel⟩
theorem nr:b8 fw (aj 3) bo:=by rfl
theorem nu:FnScope bo.N bo.ps (ah (aj 3)):=⟨rfl,rfl,rfl,by decide +kernel,rfl,by decide +kernel,by decide +kernel⟩
theorem nv:b8 fw (aj 4) bp:=by rfl
theorem nw:FnScope bp.N bp.ps (ah (aj 4)):=⟨rfl,rfl,rfl,by decide +kernel,rfl,by decide +kernel,by decide +kernel⟩
theorem j7:b8 fw (aj 5) aQ:=by rfl
theorem j8:FnScope aQ.N aQ.ps (ah (aj 5)):=⟨rfl,rfl,rfl,by decide +kernel,rfl,by decide +kernel,by decide +kernel⟩
theorem qr:b8 fw (aj 7) bF:=by rfl
theorem qt:FnScope bF.N bF.ps (ah (aj 7)):=⟨rfl,rfl,rfl,by decide +kernel,rfl,by decide +kernel,by decide +kernel⟩
theorem qu:b8 fw (aj 8) bG:=by rfl
theorem qv:FnScope bG.N bG.ps (ah (aj 8)):=⟨rfl,rfl,rfl,by decide +kernel,rfl,by decide +kernel,by decide +kernel⟩
theorem kP:b8 fw (aj 9) aU:=by rfl
theorem kQ:FnScope aU.N aU.ps (ah (aj 9)):=⟨rfl,rfl,rfl,by decide +kernel,rfl,by decide +kernel,by decide +kernel⟩
theorem qw:b8 fw (aj 10) bH:=by rfl
theorem qx:FnScope bH.N bH.ps (ah (aj 10)):=⟨rfl,rfl,rfl,by decide +kernel,rfl,by decide +kernel,by decide +kernel⟩
theorem ny:b8 fw (aj 11) bq:=by rfl
theorem nz:FnScope bq.N bq.ps (ah (aj 11)):=⟨rfl,rfl,rfl,by decide +kernel,rfl,by decide +kernel,by decide +kernel⟩
theorem kR:b8 fw (aj 12) aV:=by rfl
theorem kS:FnScope aV.N aV.ps (ah (aj 12)):=⟨rfl,rfl,rfl,by decide +kernel,rfl,by decide +kernel,by decide +kernel⟩
theorem qA:b8 fw (aj 13) bI:=by rfl
theorem qB:FnScope bI.N bI.ps (ah (aj 13)):=⟨rfl,rfl,rfl,by decide +kernel,rfl,by decide +kernel,by decide +kernel⟩
theorem nA:b8 fw (aj 14) br:=by rfl
theorem nB:FnScope br.N br.ps (ah (aj 14)):=⟨rfl,rfl,rfl,by decide +kernel,rfl,by decide +kernel,by decide +kernel⟩
theorem mD:b8 fw (aj 15) aZ:=by rfl
theorem mE:FnScope aZ.N aZ.ps (ah (aj 15)):=⟨rfl,rfl,rfl,by decide +kernel,rfl,by decide +kernel,by decide +kernel⟩
theorem nC:b8 fw (aj 16) bu:=by rfl
theorem nD:FnScope bu.N bu.ps (ah (aj 16)):=⟨rfl,rfl,rfl,by decide +kernel,rfl,by decide +kernel,by decide +kernel⟩
theorem kT:b8 fw (aj 17) aW:=by rfl
theorem kU:FnScope aW.N aW.ps (ah (aj 17)):=⟨rfl,rfl,rfl,by decide +kernel,rfl,by decide +kernel,by decide +kernel⟩
theorem iM:b8 fw (aj 18) aE:=by rfl
theorem iN:FnScope aE.N aE.ps (ah (aj 18)):=⟨rfl,rfl,rfl,by decide +kernel,rfl,by decide +kernel,by decide +kernel⟩
theorem nE:b8 fw (aj 19) bv:=by rfl
theorem nF:FnScope bv.N bv.ps (ah (aj 19)):=⟨rfl,rfl,rfl,by decide +kernel,rfl,by decide +kernel,by decide +kernel⟩
theorem j9:b8 fw (aj 20) aR:=by rfl
theorem ke:FnScope aR.N aR.ps (ah (aj 20)):=⟨rfl,rfl,rfl,by decide +kernel,rfl,by decide +kernel,by decide +kernel⟩
theorem gW:b8 fw (aj 21) aB:=by rfl
theorem gX:FnScope aB.N aB.ps (ah (aj 21)):=⟨rfl,rfl,rfl,by decide +kernel,rfl,by decide +kernel,by decide +kernel⟩
theorem mF:b8 fw (aj 22) a7:=by rfl
theorem mG:FnScope a7.N a7.ps (ah (aj 22)):=⟨rfl,rfl,rfl,by decide +kernel,rfl,by decide +kernel,by decide +kernel⟩
theorem kh:b8 fw (aj 23) aS:=by rfl
theorem ki:FnScope aS.N aS.ps (ah (aj 23)):=⟨rfl,rfl,rfl,by decide +kernel,rfl,by decide +kernel,by decide +kernel⟩
theorem gY:b8 fw (aj 24) aC:=by rfl
theorem gZ:FnScope aC.N aC.ps (ah (aj 24)):=⟨rfl,rfl,rfl,by decide +kernel,rfl,by decide +kernel,by decide +kernel⟩
theorem mH:b8 fw (aj 25) a9:=by rfl
theorem mI:FnScope a9.N a9.ps (ah (aj 25)):=⟨rfl,rfl,rfl,by decide +kernel,rfl,by decide +kernel,by decide +kernel⟩
theorem jr:b8 fw (aj 26) aI:=by rfl
theorem jt:FnScope aI.N aI.ps (ah (aj 26)):=⟨rfl,rfl,rfl,by decide +kernel,rfl,by decide +kernel,by decide +kernel⟩
theorem gy:b8 fw (aj 27) au:=by rfl
theorem gA:FnScope au.N au.ps (ah (aj 27)):=⟨rfl,rfl,rfl,by decide +kernel,rfl,by decide +kernel,by decide +kernel⟩
theorem ju:b8 fw (aj 28) aJ:=by rfl
theorem jv:FnScope aJ.N aJ.ps (ah (aj 28)):=⟨rfl,rfl,rfl,by decide +kernel,rfl,by decide +kernel,by decide +kernel⟩
theorem nG:b8 fw (aj 29) bw:=by rfl
theorem nH:FnScope bw.N bw.ps (ah (aj 29)):=⟨rfl,rfl,rfl,by decide +kernel,rfl,by decide +kernel,by decide +kernel⟩
theorem mJ:b8 fw (aj 30) bc:=by rfl
theorem mK:FnScope bc.N bc.ps (ah (aj 30)):=⟨rfl,rfl,rfl,by decide +kernel,rfl,by decide +kernel,by decide +kernel⟩
theorem nI:b8 fw (aj 31) bx:=by rfl
theorem nJ:FnScope bx.N bx.ps (ah (aj 31)):=⟨rfl,rfl,rfl,by decide +kernel,rfl,by decide +kernel,by decide +kernel⟩
theorem mL:b8 fw (aj 32) be:=by rfl
theorem mM:FnScope be.N be.ps (ah (aj 32)):=⟨rfl,rfl,rfl,by decide +kernel,rfl,by decide +kernel,by decide +kernel⟩
theorem mN:b8 fw (aj 33) bf:=by rfl
theorem mO:FnScope bf.N bf.ps (ah (aj 33)):=⟨rfl,rfl,rfl,by decide +kernel,rfl,by decide +kernel,by decide +kernel⟩
theorem kW:b8 fw (aj 34) aX:=by rfl
theorem kX:FnScope aX.N aX.ps (ah (aj 34)):=⟨rfl,rfl,rfl,by decide +kernel,rfl,by decide +kernel,by decide +kernel⟩
theorem jw:b8 fw (aj 35) aK:=by rfl
theorem jx:FnScope aK.N aK.ps (ah (aj 35)):=⟨rfl,rfl,rfl,by decide +kernel,rfl,by decide +kernel,by decide +kernel⟩
theorem gB:b8 fw (aj 36) aw:=by rfl
theorem gC:FnScope aw.N aw.ps (ah (aj 36)):=⟨rfl,rfl,rfl,by decide +kernel,rfl,by decide +kernel,by decide +kernel⟩
theorem iO:b8 fw (aj 37) aF:=by rfl
theorem iP:FnScope aF.N aF.ps (ah (aj 37)):=⟨rfl,rfl,rfl,by decide +kernel,rfl,by decide +kernel,by decide +kernel⟩
theorem AI:b8 fw (aj 38) ip:=by rfl
theorem AJ:FnScope ip.N ip.ps (ah (aj 38)):=⟨rfl,rfl,rfl,by decide +kernel,rfl,by decide +kernel,by decide +kernel⟩
theorem ak {α:Type}{x y:Kn}{n m:α}{L:JT (Kn×α)}(h:((y,m)::L).lookup x=ba n):(x=y/\n=m)\/L.lookup x=ba n:=by
 rw[L6]at h;split at h
 ·rename_i e;cases h;exact .inl ⟨eq_of_beq e,rfl⟩
 ·exact .inr h
theorem HB:Lw12 kK:=⟨⟨⟨bG,rfl,rfl,rfl,rfl⟩,⟨aU,rfl,rfl,rfl,rfl⟩,⟨bH,rfl,rfl,rfl,rfl⟩,⟨bq,rfl,rfl,rfl,rfl⟩,⟨aV,rfl,rfl,rfl,rfl⟩,⟨bI,rfl,rfl,rfl,rfl⟩,⟨br,rfl,rfl,rfl,rfl⟩,⟨aZ,rfl,rfl,rfl,rfl⟩,⟨bu,rfl,rfl,rfl,rfl⟩,⟨aW,rfl,rfl,rfl,rfl⟩,⟨aE,rfl,rfl,rfl,rfl⟩,⟨bv,rfl,rfl,rfl,rfl⟩,⟨aR,rfl,rfl,rfl,rfl⟩,⟨aB,rfl,rfl,rfl,rfl⟩,⟨a7,rfl,rfl,rfl,rfl⟩,⟨aS,rfl,rfl,rfl,rfl⟩,⟨aC,rfl,rfl,rfl,rfl⟩,⟨a9,rfl,rfl,rfl,rfl⟩,⟨aI,rfl,rfl,rfl,rfl⟩,⟨au,rfl,rfl,rfl,rfl⟩⟩,⟨⟨be,rfl,rfl,rfl,rfl⟩,⟨bf,rfl,rfl,rfl,rfl⟩,⟨aX,rfl,rfl,rfl,rfl⟩,⟨aK,rfl,rfl,rfl,rfl⟩⟩,⟨⟨io,rfl,rfl,rfl,rfl⟩,⟨bo,rfl,rfl,rfl,rfl⟩⟩,⟨aQ,rfl,rfl,rfl,rfl⟩,⟨bp,rfl,rfl,rfl,rfl⟩,⟨bF,rfl,rfl,rfl,rfl⟩,⟨aJ,rfl,rfl,rfl,rfl⟩,⟨bw,rfl,rfl,rfl,rfl⟩,⟨aw,rfl,rfl,rfl,rfl⟩,⟨bc,rfl,rfl,rfl,rfl⟩,⟨bx,rfl,rfl,rfl,rfl⟩,⟨aF,rfl,rfl,rfl,rfl⟩,⟨ip,rfl,rfl,rfl,rfl⟩⟩
noncomputable def BD (x:Kn)(st:MT)(df:Df):Prop:=∀(kV doc pm:JW) (an:J1 J4) (cdv ct:JW) (us:JT JW),us.length=df.ps.length->bindArgs (Mk x x (d7 st) (c8 st) (ah st) .none kV doc pm an cdv ct) ⟨us,[]⟩=pure (df.ps.zip us)
theorem JQ {us:JT JW}(h:us.length=0):us=[]:=match us,h with|[],_=>rfl
theorem xt {us:JT JW}(h:us.length=1):∃a,us=[a]:=match us,h with|[a],_=>⟨a,rfl⟩
theorem xv {us:JT JW}(h:us.length=2):∃a b,us=[a,b]:=match us,h with|[a,b],_=>⟨a,b,rfl⟩
theorem HC {us:JT JW}(h:us.length=3):∃a b c,us=[a,b,c]:=match us,h with|[a,b,c],_=>⟨a,b,c,rfl⟩
theorem HU {us:JT JW}(h:us.length=4):∃a b c d,us=[a,b,c,d]:=match us,h with|[a,b,c,d],_=>⟨a,b,c,d,rfl⟩
theorem JR {us:JT JW}(h:us.length=5):∃a b c d e,us=[a,b,c,d,e]:=match us,h with|[a,b,c,d,e],_=>⟨a,b,c,d,e,rfl⟩
theorem FB:BD "way" (aj 1) io:=λ_ _ _ _ _ _ us h=>by
 obtain⟨x0,x1,x2,x3,rfl⟩:=HU h;rfl
theorem nK:BD "point_over" (aj 3) bo:=λ_ _ _ _ _ _ us h=>by
 obtain⟨x0,x1,x2,x3,rfl⟩:=HU h;rfl
theorem nL:BD "least_form" (aj 4) bp:=λ_ _ _ _ _ _ us h=>by
 obtain⟨x0,x1,rfl⟩:=xv h;rfl
theorem kj:BD "longer_orders" (aj 5) aQ:=λ_ _ _ _ _ _ us h=>by
 obtain⟨x0,x1,rfl⟩:=xv h;rfl
theorem qC:BD "_law_flow" (aj 7) bF:=λ_ _ _ _ _ _ us h=>by
 obtain⟨x0,rfl⟩:=xt h;rfl
theorem qD:BD "_law_pick" (aj 8) bG:=λ_ _ _ _ _ _ us h=>by
 obtain⟨x0,x1,rfl⟩:=xv h;rfl
theorem kY:BD "_law_letters" (aj 9) aU:=λ_ _ _ _ _ _ us h=>by
 obtain⟨x0,x1,rfl⟩:=xv h;rfl
theorem qE:BD "_law_name" (aj 10) bH:=λ_ _ _ _ _ _ us h=>by
 obtain⟨x0,x1,rfl⟩:=xv h;rfl
theorem nM:BD "_law_names" (aj 11) bq:=λ_ _ _ _ _ _ us h=>by
 obtain⟨x0,x1,rfl⟩:=xv h;rfl
theorem kZ:BD "_law_between" (aj 12) aV:=λ_ _ _ _ _ _ us h=>by
 obtain⟨x0,x1,x2,x3,rfl⟩:=HU h;rfl
theorem qF:BD "_law_part" (aj 13) bI:=λ_ _ _ _ _ _ us h=>by
 obtain⟨x0,x1,x2,rfl⟩:=HC h;rfl
theorem nN:BD "_law_turns" (aj 14) br:=λ_ _ _ _ _ _ us h=>by
 obtain rfl:=JQ h;rfl
theorem mP:BD "_law_figure" (aj 15) aZ:=λ_ _ _ _ _ _ us h=>by
 obtain⟨x0,x1,rfl⟩:=xv h;rfl
theorem nO:BD "_law_backs" (aj 16) bu:=λ_ _ _ _ _ _ us h=>by
 obtain⟨x0,x1,rfl⟩:=xv h;rfl
theorem la:BD "_law_rule_of" (aj 17) aW:=λ_ _ _ _ _ _ us h=>by
 obtain⟨x0,x1,x2,x3,rfl⟩:=HU h;rfl
theorem iQ:BD "_law_free_three" (aj 18) aE:=λ_ _ _ _ _ _ us h=>by
 obtain⟨x0,x1,x2,rfl⟩:=HC h;rfl
theorem nP:BD "_law_sizes" (aj 19) bv:=λ_ _ _ _ _ _ us h=>by
 obtain⟨x0,rfl⟩:=xt h;rfl
theorem km:BD "_law_any_rule" (aj 20) aR:=λ_ _ _ _ _ _ us h=>by
 obtain⟨x0,rfl⟩:=xt h;rfl
theorem g9:BD "_law_laying_kind" (aj 21) aB:=λ_ _ _ _ _ _ us h=>by
 obtain⟨x0,rfl⟩:=xt h;rfl
theorem mQ:BD "_law_breaks" (aj 22) a7:=λ_ _ _ _ _ _ us h=>by
 obtain⟨x0,x1,x2,x3,x4,rfl⟩:=JR h;rfl
theorem kn:BD "_law_numbered" (aj 23) aS:=λ_ _ _ _ _ _ us h=>by
 obtain⟨x0,x1,x2,rfl⟩:=HC h;rfl
theorem hG:BD "_law_laying_rule" (aj 24) aC:=λ_ _ _ _ _ _ us h=>by
 obtain⟨x0,rfl⟩:=xt h;rfl
theorem mR:BD "_law_rising" (aj 25) a9:=λ_ _ _ _ _ _ us h=>by
 obtain⟨x0,rfl⟩:=xt h;rfl
theorem jy:BD "_law_free_rule" (aj 26) aI:=λ_ _ _ _ _ _ us h=>by
 obtain⟨x0,rfl⟩:=xt h;rfl
theorem gD:BD "_law_one_way_rule" (aj 27) au:=λ_ _ _ _ _ _ us h=>by
 obtain⟨x0,rfl⟩:=xt h;rfl
theorem jA:BD "_law_any_world" (aj 28) aJ:=λ_ _ _ _ _ _ us h=>by
 obtain⟨x0,x1,x2,rfl⟩:=HC h;rfl
theorem nQ:BD "_law_alike" (aj 29) bw:=λ_ _ _ _ _ _ us h=>by
 obtain⟨x0,x1,rfl⟩:=xv h;rfl
theorem mS:BD "_law_orders" (aj 30) bc:=λ_ _ _ _ _ _ us h=>by
 obtain⟨x0,rfl⟩:=xt h;rfl
theorem nR:BD "_law_least" (aj 31) bx:=λ_ _ _ _ _ _ us h=>by
 obtain⟨x0,x1,rfl⟩:=xv h;rfl
theorem mT:BD "_law_digits" (aj 32) be:=λ_ _ _ _ _ _ us h=>by
 obtain⟨x0,x1,rfl⟩:=xv h;rfl
theorem mU:BD "_law_worlds" (aj 33) bf:=λ_ _ _ _ _ _ us h=>by
 obtain⟨x0,x1,rfl⟩:=xv h;rfl
theorem lb:BD "_law_figures" (aj 34) aX:=λ_ _ _ _ _ _ us h=>by
 obtain⟨x0,rfl⟩:=xt h;rfl
theorem jB:BD "_law_full_rule" (aj 35) aK:=λ_ _ _ _ _ _ us h=>by
 obtain⟨x0,rfl⟩:=xt h;rfl
theorem gE:BD "_law_drawn_points" (aj 36) aw:=λ_ _ _ _ _ _ us h=>by
 obtain⟨x0,x1,x2,rfl⟩:=HC h;rfl
theorem iR:BD "_law_other_rule" (aj 37) aF:=λ_ _ _ _ _ _ us h=>by
 obtain⟨x0,rfl⟩:=xt h;rfl
theorem FC:BD "law" (aj 38) ip:=λ_ _ _ _ _ _ us h=>by
 obtain⟨x0,rfl⟩:=xt h;rfl
section
variable{P:KJ}{w:KT}{K:Kb}{mg:Kn->J1 JW}{base:K6}
noncomputable def am (K:Kb)(mg:Kn->J1 JW)(x:Kn)(st:MT)(df:Df):Prop:=∃(f:J4) (fd:MC),Fun K x x st f fd/\mg x=ba (.ref f)/\LL K (.ref f)=true/\Binds K fd df.ps []
theorem AK {h:K6}{x:Kn}{st:MT}{df:Df}{f:J4}{oc:JW}{od an:J1 J4}{osl:KC (J1 JW)}{kV doc pm cdv ct:JW}(X:K.In h)(G:h.Ns mainGlobals mg)
  (b:BD x st df)
  (a:LD K mainGlobals x=ba (ba (.ref f))) (l:K.lookup f=ba ⟨oc,od,.func (Mk x x (d7 st) (c8 st) (ah st) .none kV doc pm an cdv ct),osl⟩) (c:Nm K cdv x=true) (k:LL K (.ref f)=true):am K mg x st df:=
 have F:=xV (st:=st) l c k
 ⟨f,_,F,Sv X G a,k,F.binds b⟩
theorem AL {fuel:J3}(hb:MdOk w K mg fw)(D:∀x n,CZ.lookup x=ba n->∃st df,kK.lookup x=ba df/\df.ps.length=n/\FnScope df.N df.ps (ah st)/\b8 fw st df/\am K mg x st df):∀d,Dh P w K mg base fw kK fuel d
 | 0=>λf n h=>by
  obtain⟨st,df,h1,h2,h3,h4,fa,fd,F,m,kp,b⟩:=D f n h;refine⟨fa,fd,df.ps,⟨λvs H Q E z=>?_,λA outer s H args us vs Q E hr he hbd hv z=>?_⟩,m,kp,b⟩
  all_goals
   obtain⟨_,_,_,_,_,_,_,_,z,_⟩:=z;cases z
 | d+1=>λf n h=>by
  obtain⟨st,df,h1,h2,h3,h4,fa,fd,F,m,kp,b⟩:=D f n h;refine⟨fa,fd,df.ps,?_,m,kp,b⟩;rw[<- h2];exact Di F h3 h1 h4 hb (AL hb D d)
theorem HD (D1:am K mg "way" (aj 1) io)(D3:am K mg "point_over" (aj 3) bo)(D4:am K mg "least_form" (aj 4) bp)(D5:am K mg "longer_orders" (aj 5) aQ)(D7:am K mg "_law_flow" (aj 7) bF)(D8:am K mg "_law_pick" (aj 8) bG)(D9:am K mg "_law_letters" (aj 9) aU)(D10:am K mg "_law_name" (aj 10) bH)(D11:am K mg "_law_names" (aj 11) bq)(D12:am K mg "_law_between" (aj 12) aV)(D13:am K mg "_law_part" (aj 13) bI)(D14:am K mg "_law_turns" (aj 14) br)(D15:am K mg "_law_figure" (aj 15) aZ)(D16:am K mg "_law_backs" (aj 16) bu)(D17:am K mg "_law_rule_of" (aj 17) aW)(D18:am K mg "_law_free_three" (aj 18) aE)(D19:am K mg "_law_sizes" (aj 19) bv)(D20:am K mg "_law_any_rule" (aj 20) aR)(D21:am K mg "_law_laying_kind" (aj 21) aB)(D22:am K mg "_law_breaks" (aj 22) a7)(D23:am K mg "_law_numbered" (aj 23) aS)(D24:am K mg "_law_laying_rule" (aj 24) aC)(D25:am K mg "_law_rising" (aj 25) a9)(D26:am K mg "_law_free_rule" (aj 26) aI)(D27:am K mg "_law_one_way_rule" (aj 27) au)(D28:am K mg "_law_any_world" (aj 28) aJ)(D29:am K mg "_law_alike" (aj 29) bw)(D30:am K mg "_law_orders" (aj 30) bc)(D31:am K mg "_law_least" (aj 31) bx)(D32:am K mg "_law_digits" (aj 32) be)(D33:am K mg "_law_worlds" (aj 33) bf)(D34:am K mg "_law_figures" (aj 34) aX)(D35:am K mg "_law_full_rule" (aj 35) aK)(D36:am K mg "_law_drawn_points" (aj 36) aw)(D37:am K mg "_law_other_rule" (aj 37) aF)(D38:am K mg "law" (aj 38) ip):∀x n,CZ.lookup x=ba n->∃st df,kK.lookup x=ba df/\df.ps.length=n/\FnScope df.N df.ps (ah st)/\b8 fw st df/\am K mg x st df:=by
 intro x n h;unfold CZ at h;rcases ak h with⟨rfl,rfl⟩|h
 ·exact⟨aj 1,io,by rfl,rfl,Fz,Fy,D1⟩
 rcases ak h with⟨rfl,rfl⟩|h
 ·exact⟨aj 3,bo,by rfl,rfl,nu,nr,D3⟩
 rcases ak h with⟨rfl,rfl⟩|h
 ·exact⟨aj 4,bp,by rfl,rfl,nw,nv,D4⟩
 rcases ak h with⟨rfl,rfl⟩|h
 ·exact⟨aj 5,aQ,by rfl,rfl,j8,j7,D5⟩
 rcases ak h with⟨rfl,rfl⟩|h
 ·exact⟨aj 7,bF,by rfl,rfl,qt,qr,D7⟩
 rcases ak h with⟨rfl,rfl⟩|h
 ·exact⟨aj 8,bG,by rfl,rfl,qv,qu,D8⟩
 rcases ak h with⟨rfl,rfl⟩|h
 ·exact⟨aj 9,aU,by rfl,rfl,kQ,kP,D9⟩
 rcases ak h with⟨rfl,rfl⟩|h
 ·exact⟨aj 10,bH,by rfl,rfl,qx,qw,D10⟩
 rcases ak h with⟨rfl,rfl⟩|h
 ·exact⟨aj 11,bq,by rfl,rfl,nz,ny,D11⟩
 rcases ak h with⟨rfl,rfl⟩|h
 ·exact⟨aj 12,aV,by rfl,rfl,kS,kR,D12⟩
 rcases ak h with⟨rfl,rfl⟩|h
 ·exact⟨aj 13,bI,by rfl,rfl,qB,qA,D13⟩
 rcases ak h with⟨rfl,rfl⟩|h
 ·exact⟨aj 14,br,by rfl,rfl,nB,nA,D14⟩
 rcases ak h with⟨rfl,rfl⟩|h
 ·exact⟨aj 15,aZ,by rfl,rfl,mE,mD,D15⟩
 rcases ak h with⟨rfl,rfl⟩|h
 ·exact⟨aj 16,bu,by rfl,rfl,nD,nC,D16⟩
 rcases ak h with⟨rfl,rfl⟩|h
 ·exact⟨aj 17,aW,by rfl,rfl,kU,kT,D17⟩
 rcases ak h with⟨rfl,rfl⟩|h
 ·exact⟨aj 18,aE,by rfl,rfl,iN,iM,D18⟩
 rcases ak h with⟨rfl,rfl⟩|h
 ·exact⟨aj 19,bv,by rfl,rfl,nF,nE,D19⟩
 rcases ak h with⟨rfl,rfl⟩|h
 ·exact⟨aj 20,aR,by rfl,rfl,ke,j9,D20⟩
 rcases ak h with⟨rfl,rfl⟩|h
 ·exact⟨aj 21,aB,by rfl,rfl,gX,gW,D21⟩
 rcases ak h with⟨rfl,rfl⟩|h
 ·exact⟨aj 22,a7,by rfl,rfl,mG,mF,D22⟩
 rcases ak h with⟨rfl,rfl⟩|h
 ·exact⟨aj 23,aS,by rfl,rfl,ki,kh,D23⟩
 rcases ak h with⟨rfl,rfl⟩|h
 ·exact⟨aj 24,aC,by rfl,rfl,gZ,gY,D24⟩
 rcases ak h with⟨rfl,rfl⟩|h
 ·exact⟨aj 25,a9,by rfl,rfl,mI,mH,D25⟩
 rcases ak h with⟨rfl,rfl⟩|h
 ·exact⟨aj 26,aI,by rfl,rfl,jt,jr,D26⟩
 rcases ak h with⟨rfl,rfl⟩|h
 ·exact⟨aj 27,au,by rfl,rfl,gA,gy,D27⟩
 rcases ak h with⟨rfl,rfl⟩|h
 ·exact⟨aj 28,aJ,by rfl,rfl,jv,ju,D28⟩
 rcases ak h with⟨rfl,rfl⟩|h
 ·exact⟨aj 29,bw,by rfl,rfl,nH,nG,D29⟩
 rcases ak h with⟨rfl,rfl⟩|h
 ·exact⟨aj 30,bc,by rfl,rfl,mK,mJ,D30⟩
 rcases ak h with⟨rfl,rfl⟩|h
 ·exact⟨aj 31,bx,by rfl,rfl,nJ,nI,D31⟩
 rcases ak h with⟨rfl,rfl⟩|h
 ·exact⟨aj 32,be,by rfl,rfl,mM,mL,D32⟩
 rcases ak h with⟨rfl,rfl⟩|h
 ·exact⟨aj 33,bf,by rfl,rfl,mO,mN,D33⟩
 rcases ak h with⟨rfl,rfl⟩|h
 ·exact⟨aj 34,aX,by rfl,rfl,kX,kW,D34⟩
 rcases ak h with⟨rfl,rfl⟩|h
 ·exact⟨aj 35,aK,by rfl,rfl,jx,jw,D35⟩
 rcases ak h with⟨rfl,rfl⟩|h
 ·exact⟨aj 36,aw,by rfl,rfl,gC,gB,D36⟩
 rcases ak h with⟨rfl,rfl⟩|h
 ·exact⟨aj 37,aF,by rfl,rfl,iP,iO,D37⟩
 rcases ak h with⟨rfl,rfl⟩|h
 ·exact⟨aj 38,ip,by rfl,rfl,AJ,AI,D38⟩
 cases h
theorem HE {h:K6}(X:K.In h)(G:h.Ns mainGlobals mg)(z0:LD K mainGlobals "range" = ba gV)(z1:LD K mainGlobals "len" = ba gV)(z2:LD K mainGlobals "list" = ba gV)(z3:LD K mainGlobals "tuple" = ba gV)(z4:LD K mainGlobals "int" = ba gV)(z5:LD K mainGlobals "set" = ba gV)(z6:LD K mainGlobals "sorted" = ba gV)(z7:LD K mainGlobals "isinstance" = ba gV)(z8:LD K mainGlobals "bool" = ba gV)(z9:LD K mainGlobals "str" = ba gV)(z10:LD K mainGlobals "all" = ba gV)(z11:LD K mainGlobals "min" = ba gV)(z12:LD K mainGlobals "zip" = ba gV):MdOk w K mg fw:=by
 refine⟨?_⟩;show ∀y∈Fx,mg y=gV;intro y hy;unfold Fx at hy;simp only[Kz,Lg,ME]at hy;rcases hy with rfl|rfl|rfl|rfl|rfl|rfl|rfl|rfl|rfl|rfl|rfl|rfl|rfl
 ·exact Lo X G z0
 ·exact Lo X G z1
 ·exact Lo X G z2
 ·exact Lo X G z3
 ·exact Lo X G z4
 ·exact Lo X G z5
 ·exact Lo X G z6
 ·exact Lo X G z7
 ·exact Lo X G z8
 ·exact Lo X G z9
 ·exact Lo X G z10
 ·exact Lo X G z11
 ·exact Lo X G z12
end
theorem FD {l:Pz}{w:KT}{K:Kb}{h:K6}{mg:Kn->J1 JW}{fa f:J4}(X:K.In h)(G:h.Ns mainGlobals mg)(hfa:mg "law" = ba (.ref fa))(hb:MdOk w K mg fw)
  (D1:am K mg "way" (aj 1) io) (D3:am K mg "point_over" (aj 3) bo) (D4:am K mg "least_form" (aj 4) bp) (D5:am K mg "longer_orders" (aj 5) aQ) (D7:am K mg "_law_flow" (aj 7) bF) (D8:am K mg "_law_pick" (aj 8) bG) (D9:am K mg "_law_letters" (aj 9) aU) (D10:am K mg "_law_name" (aj 10) bH) (D11:am K mg "_law_names" (aj 11) bq) (D12:am K mg "_law_between" (aj 12) aV) (D13:am K mg "_law_part" (aj 13) bI) (D14:am K mg "_law_turns" (aj 14) br) (D15:am K mg "_law_figure" (aj 15) aZ) (D16:am K mg "_law_backs" (aj 16) bu) (D17:am K mg "_law_rule_of" (aj 17) aW) (D18:am K mg "_law_free_three" (aj 18) aE) (D19:am K mg "_law_sizes" (aj 19) bv) (D20:am K mg "_law_any_rule" (aj 20) aR) (D21:am K mg "_law_laying_kind" (aj 21) aB) (D22:am K mg "_law_breaks" (aj 22) a7) (D23:am K mg "_law_numbered" (aj 23) aS) (D24:am K mg "_law_laying_rule" (aj 24) aC) (D25:am K mg "_law_rising" (aj 25) a9) (D26:am K mg "_law_free_rule" (aj 26) aI) (D27:am K mg "_law_one_way_rule" (aj 27) au) (D28:am K mg "_law_any_world" (aj 28) aJ) (D29:am K mg "_law_alike" (aj 29) bw) (D30:am K mg "_law_orders" (aj 30) bc) (D31:am K mg "_law_least" (aj 31) bx) (D32:am K mg "_law_digits" (aj 32) be) (D33:am K mg "_law_worlds" (aj 33) bf) (D34:am K mg "_law_figures" (aj 34) aX) (D35:am K mg "_law_full_rule" (aj 35) aK) (D36:am K mg "_law_drawn_points" (aj 36) aw) (D37:am K mg "_law_other_rule" (aj 37) aF)
  {oc:JW} {od an:J1 J4} {osl:KC (J1 JW)} {kV doc pm cdv ct:JW} (a:LD K mainGlobals "law" = ba (ba (.ref f))) (l':K.lookup f=ba ⟨oc,od,.func (Mk "law" "law" (d7 (aj 38)) (c8 (aj 38)) (ah (aj 38)) .none kV doc pm an cdv ct),osl⟩) (c:Nm K cdv "law" = true) (k:LL K (.ref f)=true) :
  ∃fd:MC,(∀(s:JY) (v:JW),QP s fd ⟨[v],[]⟩ [("_law_script",v)])/\∀base:K6,K.In base->base.Ns mainGlobals mg->FnOk l.prog w K mg base xu 9 fa fd ["_law_script"] (yV w K 1 (aq kK 100 9 "law")):=by
 have e:=hfa.symm.trans (Sv X G a);cases e;have D38:am K mg "law" (aj 38) ip:=AK X G FC a l' c k;have F:=xV (st:=aj 38) l' c k;exact⟨Mk "law" "law" (d7 (aj 38)) (c8 (aj 38)) (ah (aj 38)) .none kV doc pm an cdv ct,λs v=>.of_eq rfl,λbase _ _=>Di (df:=ip) F AJ (by rfl) AI hb (AL hb (HD D1 D3 D4 D5 D7 D8 D9 D10 D11 D12 D13 D14 D15 D16 D17 D18 D19 D20 D21 D22 D23 D24 D25 D26 D27 D28 D29 D30 D31 D32 D33 D34 D35 D36 D37 D38) 8)⟩
theorem Jy {l:Pz}{q:KJ}{loose:JT Kn}{XP:(Kn->J1 JW)->K6->Prop}{YP:KT->K6->Prop}{d:DefRec}{K:RW->Kb}(hn:l.most=ba 63)(hdf:d.params.defaults=[])
  (hY:∀(w:KT) (h:K6),YP w h->(K w.params).In h)
  (F:∀(w:KT) (mg:Kn->J1 JW) (fa:J4) (h:K6),(K w.params).In h->h.Ns mainGlobals mg->mg d.name=ba (.ref fa)->
   ∃fd:MC,(∀(s:JY) (u:JW),QP s fd ⟨[u],[]⟩ [("_law_script",u)])/\∀base:K6,(K w.params).In base->base.Ns mainGlobals mg->FnOk l.prog w (K w.params) mg base xu 9 fa fd ["_law_script"] (yV w (K w.params) 1 (aq kK 100 9 "law"))) :
  Sh q loose XP YP l.row.toRowW d [] (λf vs=>RX f vs):=
 L2.Bp (n:=63) (k:=9) (x:="_law_script") (CX:=λ_=>xu) (sp:=λw=>yV w (K w.params) 1 (aq kK 100 9 "law")) hn (by decide) hdf ⟨rfl,by decide,by decide⟩ hY F
  (λw H a ns hl hO hS=>ES (AH (defs:=kK) (fuel:=100) (d:=0) (by decide) HB) hO hS) λ_ _ _ _ _ z=>z
end Mi
open PySem PySem.W PyProof.Rows L2
set_option maxHeartbeats 0
namespace Mi
section
noncomputable def pw:KJ:=Ph
noncomputable def ge (P:RW)(n:Kn)(t:J3)(v:JW):Mr:=⟨PyData.keyHash P n,.str n t,v⟩
noncomputable def kd (a:J3)(es:JT Mr)(n:J3):J4×LJ:=(a,⟨.type "dict",gV,.dict es.toArray n,#[]⟩)
noncomputable def kt (a:J3)(c:JW)(vs:JT JW)(n:J3):J4×LJ:=(a,⟨c,gV,.seq vs.toArray n,#[]⟩)
noncomputable def kc (a:J3)(vs:JT JW):J4×LJ:=(a,⟨.type "code",gV,.fields vs.toArray,#[]⟩)
noncomputable def kf (a:J3)(st:MT)(n:Kn)(pm cd:JW):J4×LJ:=(a,⟨.type "function",gV,.func (Mk n n (d7 st) (c8 st) (ah st) .none .none .none pm gV cd .none),#[]⟩)
noncomputable def K0 (P:RW):Kb:=[kd 3 [ge P "__name__" 165 (.str "law_layworld_k12_least_forms" 219),ge P "__doc__" 166 .none,ge P "__package__" 167 .none,ge P "__loader__" 168 (.builtin "__main__.__loader__#opaque"),ge P "__spec__" 169 .none,ge P "__annotations__" 170 (.ref 6),ge P "__builtins__" 171 (.ref 4),ge P "__file__" 173 (.str "/claim/cut.py" 172),ge P "__cached__" 174 .none,ge P "way" 198 (.ref 21),ge P "point_over" 206 (.ref 26),ge P "least_form" 212 (.ref 31),ge P "longer_orders" 218 (.ref 36),ge P "_law_flow" 227 (.ref 43),ge P "_law_pick" 237 (.ref 50),ge P "_law_letters" 243 (.ref 55),ge P "_law_name" 252 (.ref 62),ge P "_law_names" 265 (.ref 69),ge P "_law_between" 275 (.ref 76),ge P "_law_part" 281 (.ref 81),ge P "_law_turns" 287 (.ref 88),ge P "_law_figure" 293 (.ref 93),ge P "_law_backs" 302 (.ref 100),ge P "_law_rule_of" 308 (.ref 105),ge P "_law_free_three" 314 (.ref 110),ge P "_law_sizes" 322 (.ref 117),ge P "_law_any_rule" 334 (.ref 124),ge P "_law_laying_kind" 342 (.ref 131),ge P "_law_breaks" 358 (.ref 138),ge P "_law_numbered" 364 (.ref 143),ge P "_law_laying_rule" 385 (.ref 150),ge P "_law_rising" 391 (.ref 155),ge P "_law_free_rule" 397 (.ref 160),ge P "_law_one_way_rule" 403 (.ref 165),ge P "_law_any_world" 409 (.ref 170),ge P "_law_alike" 415 (.ref 175),ge P "_law_orders" 421 (.ref 180),ge P "_law_least" 427 (.ref 185),ge P "_law_digits" 433 (.ref 190),ge P "_law_worlds" 439 (.ref 195),ge P "_law_figures" 445 (.ref 200),ge P "_law_full_rule" 451 (.ref 205),ge P "_law_drawn_points" 462 (.ref 212),ge P "_law_other_rule" 468 (.ref 217),ge P "law" 482 (.ref 224)] 45,
 kc 20 [(.str "way" 189),(.str "way" 190),(.str "/claim/cut.py" 191),(.int 2 0),(.int 4 0),(.int 0 0),(.int 0 0),(.int 3 0),(.ref 15),(.bool true),(.int 181 0),(.ref 16),.none,(.ref 17),(.ref 18),(.ref 19),(.int 196 0),(.int 2 0),(.str "/claim/cut.py" 197)],
 kf 21 (aj 1) "way" (.str "layworld.worlds" 187) (.ref 20),
 kc 25 [(.str "point_over" 201),(.str "point_over" 202),(.str "/claim/cut.py" 203),(.int 7 0),(.int 4 0),(.int 0 0),(.int 0 0),(.int 3 0),(.ref 22),(.bool true),(.int 181 0),(.ref 23),.none,.none,.none,(.ref 24),(.int 204 0),(.int 7 0),(.str "/claim/cut.py" 205)],
 kf 26 (aj 3) "point_over" (.str "layworld.parts" 199) (.ref 25),
 kc 30 [(.str "least_form" 207),(.str "least_form" 208),(.str "/claim/cut.py" 209),(.int 9 0),(.int 2 0),(.int 0 0),(.int 0 0),(.int 3 0),(.ref 27),(.bool true),(.int 181 0),(.ref 28),.none,.none,.none,(.ref 29),(.int 210 0),(.int 9 0),(.str "/claim/cut.py" 211)],
 kf 31 (aj 4) "least_form" (.str "layworld.parts" 199) (.ref 30),
 kc 35 [(.str "longer_orders" 213),(.str "longer_orders" 214),(.str "/claim/cut.py" 215),(.int 19 0),(.int 2 0),(.int 0 0),(.int 0 0),(.int 3 0),(.ref 32),(.bool true),(.int 181 0),(.ref 33),.none,.none,.none,(.ref 34),(.int 216 0),(.int 19 0),(.str "/claim/cut.py" 217)],
 kf 36 (aj 5) "longer_orders" (.str "layworld.parts" 199) (.ref 35),
 kc 42 [(.str "_law_flow" 221),(.str "_law_flow" 222),(.str "/claim/cut.py" 223),(.int 25 0),(.int 1 0),(.int 0 0),(.int 0 0),(.int 3 0),(.ref 37),(.bool true),(.int 181 0),(.ref 38),.none,(.ref 39),(.ref 40),(.ref 41),(.int 225 0),(.int 25 0),(.str "/claim/cut.py" 226)],
 kf 43 (aj 7) "_law_flow" (.str "law_layworld_k12_least_forms" 219) (.ref 42),
 kc 49 [(.str "_law_pick" 228),(.str "_law_pick" 229),(.str "/claim/cut.py" 230),(.int 27 0),(.int 2 0),(.int 0 0),(.int 0 0),(.int 3 0),(.ref 44),(.bool true),(.int 181 0),(.ref 45),.none,(.ref 46),(.ref 47),(.ref 48),(.int 235 0),(.int 27 0),(.str "/claim/cut.py" 236)],
 kf 50 (aj 8) "_law_pick" (.str "law_layworld_k12_least_forms" 219) (.ref 49),
 kc 54 [(.str "_law_letters" 238),(.str "_law_letters" 239),(.str "/claim/cut.py" 240),(.int 42 0),(.int 2 0),(.int 0 0),(.int 0 0),(.int 3 0),(.ref 51),(.bool true),(.int 181 0),(.ref 52),.none,.none,.none,(.ref 53),(.int 241 0),(.int 42 0),(.str "/claim/cut.py" 242)],
 kf 55 (aj 9) "_law_letters" (.str "law_layworld_k12_least_forms" 219) (.ref 54),
 kc 61 [(.str "_law_name" 244),(.str "_law_name" 245),(.str "/claim/cut.py" 246),(.int 44 0),(.int 2 0),(.int 0 0),(.int 0 0),(.int 3 0),(.ref 56),(.bool true),(.int 181 0),(.ref 57),.none,(.ref 58),(.ref 59),(.ref 60),(.int 250 0),(.int 44 0),(.str "/claim/cut.py" 251)],
 kf 62 (aj 10) "_law_name" (.str "law_layworld_k12_least_forms" 219) (.ref 61),
 kc 68 [(.str "_law_names" 253),(.str "_law_names" 254),(.str "/claim/cut.py" 255),(.int 52 0),(.int 2 0),(.int 0 0),(.int 0 0),(.int 3 0),(.ref 63),(.bool true),(.int 181 0),(.ref 64),.none,(.ref 65),(.ref 66),(.ref 67),(.int 263 0),(.int 52 0),(.str "/claim/cut.py" 264)],
 kf 69 (aj 11) "_law_names" (.str "law_layworld_k12_least_forms" 219) (.ref 68),
 kc 75 [(.str "_law_between" 266),(.str "_law_between" 267),(.str "/claim/cut.py" 268),(.int 65 0),(.int 4 0),(.int 0 0),(.int 0 0),(.int 3 0),(.ref 70),(.bool true),(.int 181 0),(.ref 71),.none,(.ref 72),(.ref 73),(.ref 74),(.int 273 0),(.int 65 0),(.str "/claim/cut.py" 274)],
 kf 76 (aj 12) "_law_between" (.str "law_layworld_k12_least_forms" 219) (.ref 75),
 kc 80 [(.str "_law_part" 276),(.str "_law_part" 277),(.str "/claim/cut.py" 278),(.int 69 0),(.int 3 0),(.int 0 0),(.int 0 0),(.int 3 0),(.ref 77),(.bool true),(.int 181 0),(.ref 78),.none,.none,.none,(.ref 79),(.int 279 0),(.int 69 0),(.str "/claim/cut.py" 280)],
 kf 81 (aj 13) "_law_part" (.str "law_layworld_k12_least_forms" 219) (.ref 80),
 kc 87 [(.str "_law_turns" 282),(.str "_law_turns" 283),(.str "/claim/cut.py" 284),(.int 75 0),(.int 0 0),(.int 0 0),(.int 0 0),(.int 3 0),(.ref 82),(.bool true),(.int 181 0),(.ref 83),.none,(.ref 84),(.ref 85),(.ref 86),(.int 285 0),(.int 75 0),(.str "/claim/cut.py" 286)],
 kf 88 (aj 14) "_law_turns" (.str "law_layworld_k12_least_forms" 219) (.ref 87),
 kc 92 [(.str "_law_figure" 288),(.str "_law_figure" 289),(.str "/claim/cut.py" 290),(.int 77 0),(.int 2 0),(.int 0 0),(.int 0 0),(.int 3 0),(.ref 89),(.bool true),(.int 181 0),(.ref 90),.none,.none,.none,(.ref 91),(.int 291 0),(.int 77 0),(.str "/claim/cut.py" 292)],
 kf 93 (aj 15) "_law_figure" (.str "law_layworld_k12_least_forms" 219) (.ref 92),
 kc 99 [(.str "_law_backs" 294),(.str "_law_backs" 295),(.str "/claim/cut.py" 296),(.int 79 0),(.int 2 0),(.int 0 0),(.int 0 0),(.int 3 0),(.ref 94),(.bool true),(.int 181 0),(.ref 95),.none,(.ref 96),(.ref 97),(.ref 98),(.int 300 0),(.int 79 0),(.str "/claim/cut.py" 301)],
 kf 100 (aj 16) "_law_backs" (.str "law_layworld_k12_least_forms" 219) (.ref 99),
 kc 104 [(.str "_law_rule_of" 303),(.str "_law_rule_of" 304),(.str "/claim/cut.py" 305),(.int 82 0),(.int 4 0),(.int 0 0),(.int 0 0),(.int 3 0),(.ref 101),(.bool true),(.int 181 0),(.ref 102),.none,.none,.none,(.ref 103),(.int 306 0),(.int 82 0),(.str "/claim/cut.py" 307)],
 kf 105 (aj 17) "_law_rule_of" (.str "law_layworld_k12_least_forms" 219) (.ref 104),
 kc 109 [(.str "_law_free_three" 309),(.str "_law_free_three" 310),(.str "/claim/cut.py" 311),(.int 86 0),(.int 3 0),(.int 0 0),(.int 0 0),(.int 3 0),(.ref 106),(.bool true),(.int 181 0),(.ref 107),.none,.none,.none,(.ref 108),(.int 312 0),(.int 86 0),(.str "/claim/cut.py" 313)],
 kf 110 (aj 18) "_law_free_three" (.str "law_layworld_k12_least_forms" 219) (.ref 109),
 kc 116 [(.str "_law_sizes" 315),(.str "_law_sizes" 316),(.str "/claim/cut.py" 317),(.int 91 0),(.int 1 0),(.int 0 0),(.int 0 0),(.int 3 0),(.ref 111),(.bool true),(.int 181 0),(.ref 112),.none,(.ref 113),(.ref 114),(.ref 115),(.int 320 0),(.int 91 0),(.str "/claim/cut.py" 321)],
 kf 117 (aj 19) "_law_sizes" (.str "law_layworld_k12_least_forms" 219) (.ref 116),
 kc 123 [(.str "_law_any_rule" 323),(.str "_law_any_rule" 324),(.str "/claim/cut.py" 325),(.int 94 0),(.int 1 0),(.int 0 0),(.int 0 0),(.int 3 0),(.ref 118),(.bool true),(.int 181 0),(.ref 119),.none,(.ref 120),(.ref 121),(.ref 122),(.int 332 0),(.int 94 0),(.str "/claim/cut.py" 333)],
 kf 124 (aj 20) "_law_any_rule" (.str "law_layworld_k12_least_forms" 219) (.ref 123),
 kc 130 [(.str "_law_laying_kind" 335),(.str "_law_laying_kind" 336),(.str "/claim/cut.py" 337),(.int 101 0),(.int 1 0),(.int 0 0),(.int 0 0),(.int 3 0),(.ref 125),(.bool true),(.int 181 0),(.ref 126),.none,(.ref 127),(.ref 128),(.ref 129),(.int 340 0),(.int 101 0),(.str "/claim/cut.py" 341)],
 kf 131 (aj 21) "_law_laying_kind" (.str "law_layworld_k12_least_forms" 219) (.ref 130),
 kc 137 [(.str "_law_breaks" 343),(.str "_law_breaks" 344),(.str "/claim/cut.py" 345),(.int 110 0),(.int 5 0),(.int 0 0),(.int 0 0),(.int 3 0),(.ref 132),(.bool true),(.int 181 0),(.ref 133),.none,(.ref 134),(.ref 135),(.ref 136),(.int 356 0),(.int 110 0),(.str "/claim/cut.py" 357)],
 kf 138 (aj 22) "_law_breaks" (.str "law_layworld_k12_least_forms" 219) (.ref 137),
 kc 142 [(.str "_law_numbered" 359),(.str "_law_numbered" 360),(.str "/claim/cut.py" 361),(.int 118 0),(.int 3 0),(.int 0 0),(.int 0 0),(.int 3 0),(.ref 139),(.bool true),(.int 181 0),(.ref 140),.none,.none,.none,(.ref 141),(.int 362 0),(.int 118 0),(.str "/claim/cut.py" 363)],
 kf 143 (aj 23) "_law_numbered" (.str "law_layworld_k12_least_forms" 219) (.ref 142),
 kc 149 [(.str "_law_laying_rule" 365),(.str "_law_laying_rule" 366),(.str "/claim/cut.py" 367),(.int 133 0),(.int 1 0),(.int 0 0),(.int 0 0),(.int 3 0),(.ref 144),(.bool true),(.int 181 0),(.ref 145),.none,(.ref 146),(.ref 147),(.ref 148),(.int 383 0),(.int 133 0),(.str "/claim/cut.py" 384)],
 kf 150 (aj 24) "_law_laying_rule" (.str "law_layworld_k12_least_forms" 219) (.ref 149),
 kc 154 [(.str "_law_rising" 386),(.str "_law_rising" 387),(.str "/claim/cut.py" 388),(.int 153 0),(.int 1 0),(.int 0 0),(.int 0 0),(.int 3 0),(.ref 151),(.bool true),(.int 181 0),(.ref 152),.none,.none,.none,(.ref 153),(.int 389 0),(.int 153 0),(.str "/claim/cut.py" 390)],
 kf 155 (aj 25) "_law_rising" (.str "law_layworld_k12_least_forms" 219) (.ref 154),
 kc 159 [(.str "_law_free_rule" 392),(.str "_law_free_rule" 393),(.str "/claim/cut.py" 394),(.int 159 0),(.int 1 0),(.int 0 0),(.int 0 0),(.int 3 0),(.ref 156),(.bool true),(.int 181 0),(.ref 157),.none,.none,.none,(.ref 158),(.int 395 0),(.int 159 0),(.str "/claim/cut.py" 396)],
 kf 160 (aj 26) "_law_free_rule" (.str "law_layworld_k12_least_forms" 219) (.ref 159),
 kc 164 [(.str "_law_one_way_rule" 398),(.str "_law_one_way_rule" 399),(.str "/claim/cut.py" 400),(.int 172 0),(.int 1 0),(.int 0 0),(.int 0 0),(.int 3 0),(.ref 161),(.bool true),(.int 181 0),(.ref 162),.none,.none,.none,(.ref 163),(.int 401 0),(.int 172 0),(.str "/claim/cut.py" 402)],
 kf 165 (aj 27) "_law_one_way_rule" (.str "law_layworld_k12_least_forms" 219) (.ref 164),
 kc 169 [(.str "_law_any_world" 404),(.str "_law_any_world" 405),(.str "/claim/cut.py" 406),(.int 176 0),(.int 3 0),(.int 0 0),(.int 0 0),(.int 3 0),(.ref 166),(.bool true),(.int 181 0),(.ref 167),.none,.none,.none,(.ref 168),(.int 407 0),(.int 176 0),(.str "/claim/cut.py" 408)],
 kf 170 (aj 28) "_law_any_world" (.str "law_layworld_k12_least_forms" 219) (.ref 169),
 kc 174 [(.str "_law_alike" 410),(.str "_law_alike" 411),(.str "/claim/cut.py" 412),(.int 182 0),(.int 2 0),(.int 0 0),(.int 0 0),(.int 3 0),(.ref 171),(.bool true),(.int 181 0),(.ref 172),.none,.none,.none,(.ref 173),(.int 413 0),(.int 182 0),(.str "/claim/cut.py" 414)],
 kf 175 (aj 29) "_law_alike" (.str "law_layworld_k12_least_forms" 219) (.ref 174),
 kc 179 [(.str "_law_orders" 416),(.str "_law_orders" 417),(.str "/claim/cut.py" 418),(.int 194 0),(.int 1 0),(.int 0 0),(.int 0 0),(.int 3 0),(.ref 176),(.bool true),(.int 181 0),(.ref 177),.none,.none,.none,(.ref 178),(.int 419 0),(.int 194 0),(.str "/claim/cut.py" 420)],
 kf 180 (aj 30) "_law_orders" (.str "law_layworld_k12_least_forms" 219) (.ref 179),
 kc 184 [(.str "_law_least" 422),(.str "_law_least" 423),(.str "/claim/cut.py" 424),(.int 202 0),(.int 2 0),(.int 0 0),(.int 0 0),(.int 3 0),(.ref 181),(.bool true),(.int 181 0),(.ref 182),.none,.none,.none,(.ref 183),(.int 425 0),(.int 202 0),(.str "/claim/cut.py" 426)],
 kf 185 (aj 31) "_law_least" (.str "law_layworld_k12_least_forms" 219) (.ref 184),
 kc 189 [(.str "_law_digits" 428),(.str "_law_digits" 429),(.str "/claim/cut.py" 430),(.int 204 0),(.int 2 0),(.int 0 0),(.int 0 0),(.int 3 0),(.ref 186),(.bool true),(.int 181 0),(.ref 187),.none,.none,.none,(.ref 188),(.int 431 0),(.int 204 0),(.str "/claim/cut.py" 432)],
 kf 190 (aj 32) "_law_digits" (.str "law_layworld_k12_least_forms" 219) (.ref 189),
 kc 194 [(.str "_law_worlds" 434),(.str "_law_worlds" 435),(.str "/claim/cut.py" 436),(.int 209 0),(.int 2 0),(.int 0 0),(.int 0 0),(.int 3 0),(.ref 191),(.bool true),(.int 181 0),(.ref 192),.none,.none,.none,(.ref 193),(.int 437 0),(.int 209 0),(.str "/claim/cut.py" 438)],
 kf 195 (aj 33) "_law_worlds" (.str "law_layworld_k12_least_forms" 219) (.ref 194),
 kc 199 [(.str "_law_figures" 440),(.str "_law_figures" 441),(.str "/claim/cut.py" 442),(.int 217 0),(.int 1 0),(.int 0 0),(.int 0 0),(.int 3 0),(.ref 196),(.bool true),(.int 181 0),(.ref 197),.none,.none,.none,(.ref 198),(.int 443 0),(.int 217 0),(.str "/claim/cut.py" 444)],
 kf 200 (aj 34) "_law_figures" (.str "law_layworld_k12_least_forms" 219) (.ref 199),
 kc 204 [(.str "_law_full_rule" 446),(.str "_law_full_rule" 447),(.str "/claim/cut.py" 448),(.int 219 0),(.int 1 0),(.int 0 0),(.int 0 0),(.int 3 0),(.ref 201),(.bool true),(.int 181 0),(.ref 202),.none,.none,.none,(.ref 203),(.int 449 0),(.int 219 0),(.str "/claim/cut.py" 450)],
 kf 205 (aj 35) "_law_full_rule" (.str "law_layworld_k12_least_forms" 219) (.ref 204),
 kc 211 [(.str "_law_drawn_points" 452),(.str "_law_drawn_points" 453),(.str "/claim/cut.py" 454),(.int 228 0),(.int 3 0),(.int 0 0),(.int 0 0),(.int 3 0),(.ref 206),(.bool true),(.int 181 0),(.ref 207),.none,(.ref 208),(.ref 209),(.ref 210),(.int 460 0),(.int 228 0),(.str "/claim/cut.py" 461)],
 kf 212 (aj 36) "_law_drawn_points" (.str "law_layworld_k12_least_forms" 219) (.ref 211),
 kc 216 [(.str "_law_other_rule" 463),(.str "_law_other_rule" 464),(.str "/claim/cut.py" 465),(.int 234 0),(.int 1 0),(.int 0 0),(.int 0 0),(.int 3 0),(.ref 213),(.bool true),(.int 181 0),(.ref 214),.none,.none,.none,(.ref 215),(.int 466 0),(.int 234 0),(.str "/claim/cut.py" 467)],
 kf 217 (aj 37) "_law_other_rule" (.str "law_layworld_k12_least_forms" 219) (.ref 216),
 kc 223 [(.str "law" 469),(.str "law" 470),(.str "/claim/cut.py" 471),(.int 239 0),(.int 1 0),(.int 0 0),(.int 0 0),(.int 3 0),(.ref 218),(.bool true),(.int 181 0),(.ref 219),.none,(.ref 220),(.ref 221),(.ref 222),(.int 480 0),(.int 239 0),(.str "/claim/cut.py" 481)],
 kf 224 (aj 38) "law" (.str "law_layworld_k12_least_forms" 219) (.ref 223)]
noncomputable def JG:JT J3:=[3,20,21,25,26,30,31,35,36,42,43,49,50,54,55,61,62,68,69,75,76,80,81,87,88,92,93,99,100,104,105,109,110,116,117,123,124,130,131,137,138,142,143,149,150,154,155,159,160,164,165,169,170,174,175,179,180,184,185,189,190,194,195,199,200,204,205,211,212,216,217,223,224]
noncomputable def vq:KJ:={ pw with main:={ pw.main with body:=[aj 38] } }
noncomputable def lo:JT Kn:=[("way" : Kn),("point_over" : Kn),("least_form" : Kn),("longer_orders" : Kn),("_law_flow" : Kn),("_law_pick" : Kn),("_law_letters" : Kn),("_law_name" : Kn),("_law_names" : Kn),("_law_between" : Kn),("_law_part" : Kn),("_law_turns" : Kn),("_law_figure" : Kn),("_law_backs" : Kn),("_law_rule_of" : Kn),("_law_free_three" : Kn),("_law_sizes" : Kn),("_law_any_rule" : Kn),("_law_laying_kind" : Kn),("_law_breaks" : Kn),("_law_numbered" : Kn),("_law_laying_rule" : Kn),("_law_rising" : Kn),("_law_free_rule" : Kn),("_law_one_way_rule" : Kn),("_law_any_world" : Kn),("_law_alike" : Kn),("_law_orders" : Kn),("_law_least" : Kn),("_law_digits" : Kn),("_law_worlds" : Kn),("_law_figures" : Kn),("_law_full_rule" : Kn),("_law_drawn_points" : Kn),("_law_other_rule" : Kn)]
theorem aP {K:Kb}{h:K6}{mg:Kn->J1 JW}{x:Kn}{st:MT}{df:Df}(a:J3)(pm cd:JW)(X:K.In h)(G:h.Ns mainGlobals mg)
  (b:BD x st df)
  (e:LD K mainGlobals x=ba (ba (.ref a))) (l:K.lookup a=ba (kf a st x pm cd).2) (c:Nm K cd x=true) (k:LL K (.ref a)=true):am K mg x st df:=AK X G b e l c k
theorem eK:∀P,JG=(K0 P).map (·.1):=λ_=>by kernel_rfl
noncomputable def hk:PySem.W.Hook:=PySem.W.kHook K0 JG eK
theorem hl:PySem.W.LeftO pw vq lo (λs=>SO vq [] s&&Sw [] s) hk.obs hk.val 2260:=λw=>by kernel_rfl
end
end Mi
end ZZ.Lean
open ZZ.Lean
theorem PySem.Challenge.cw_layworld_k12_least_forms_holds : PySem.Challenge.rw_layworld_k12_least_forms.Holds := by
 w_on
 refine PySem.W.holds_law (by kernel_rfl) (λsaid=>?_)
 refine PySem.W.holds_open (q:=Mi.vq) (loose:=Mi.lo) (Xt:=λs=>SO Mi.vq [] s&&Sw [] s) (XP:=PySem.W.XL Mi.vq []) (Yf:=Mi.hk.obs) (Ya:=Mi.hk.val) (YP:=Mi.hk.says) (N:=2260) Mi.hl Mi.hk.of Mi.hk.keeps (λs e=>PySem.W.xl_of s (Qc.mp e).1) TH (by rfl) (by rfl) (by rfl) (λs e=>PySem.W.recFacts_of (Qc.mp e).2) (by rfl) said (by decide +kernel) ⟨rfl,rfl,rfl,rfl,rfl,by decide +kernel⟩ ?hw ?hc
 case hw=>w_witness2
 case hc=>
 refine Mi.Jy (l:=Pi) (K:=Mi.K0) rfl rfl (λw h Y=>PySem.W.kIn_of Y) ?F
 case F=>
  intro w mg fa h KX G hmg;exact Mi.FD KX G hmg (Mi.HE KX G (by kernel_rfl) (by kernel_rfl) (by kernel_rfl) (by kernel_rfl) (by kernel_rfl) (by kernel_rfl) (by kernel_rfl) (by kernel_rfl) (by kernel_rfl) (by kernel_rfl) (by kernel_rfl) (by kernel_rfl) (by kernel_rfl))
   (Mi.aP 21 (.str "layworld.worlds" 187) (.ref 20) (x:="way") (st:=Mi.aj 1) (df:=Mi.io) KX G Mi.FB (by kernel_rfl) (by kernel_rfl) (by kernel_rfl) (by kernel_rfl))
   (Mi.aP 26 (.str "layworld.parts" 199) (.ref 25) (x:="point_over") (st:=Mi.aj 3) (df:=Mi.bo) KX G Mi.nK (by kernel_rfl) (by kernel_rfl) (by kernel_rfl) (by kernel_rfl))
   (Mi.aP 31 (.str "layworld.parts" 199) (.ref 30) (x:="least_form") (st:=Mi.aj 4) (df:=Mi.bp) KX G Mi.nL (by kernel_rfl) (by kernel_rfl) (by kernel_rfl) (by kernel_rfl))
   (Mi.aP 36 (.str "layworld.parts" 199) (.ref 35) (x:="longer_orders") (st:=Mi.aj 5) (df:=Mi.aQ) KX G Mi.kj (by kernel_rfl) (by kernel_rfl) (by kernel_rfl) (by kernel_rfl))
   (Mi.aP 43 (.str "law_layworld_k12_least_forms" 219) (.ref 42) (x:="_law_flow") (st:=Mi.aj 7) (df:=Mi.bF) KX G Mi.qC (by kernel_rfl) (by kernel_rfl) (by kernel_rfl) (by kernel_rfl))
   (Mi.aP 50 (.str "law_layworld_k12_least_forms" 219) (.ref 49) (x:="_law_pick") (st:=Mi.aj 8) (df:=Mi.bG) KX G Mi.qD (by kernel_rfl) (by kernel_rfl) (by kernel_rfl) (by kernel_rfl))
   (Mi.aP 55 (.str "law_layworld_k12_least_forms" 219) (.ref 54) (x:="_law_letters") (st:=Mi.aj 9) (df:=Mi.aU) KX G Mi.kY (by kernel_rfl) (by kernel_rfl) (by kernel_rfl) (by kernel_rfl))
   (Mi.aP 62 (.str "law_layworld_k12_least_forms" 219) (.ref 61) (x:="_law_name") (st:=Mi.aj 10) (df:=Mi.bH) KX G Mi.qE (by kernel_rfl) (by kernel_rfl) (by kernel_rfl) (by kernel_rfl))
   (Mi.aP 69 (.str "law_layworld_k12_least_forms" 219) (.ref 68) (x:="_law_names") (st:=Mi.aj 11) (df:=Mi.bq) KX G Mi.nM (by kernel_rfl) (by kernel_rfl) (by kernel_rfl) (by kernel_rfl))
   (Mi.aP 76 (.str "law_layworld_k12_least_forms" 219) (.ref 75) (x:="_law_between") (st:=Mi.aj 12) (df:=Mi.aV) KX G Mi.kZ (by kernel_rfl) (by kernel_rfl) (by kernel_rfl) (by kernel_rfl))
   (Mi.aP 81 (.str "law_layworld_k12_least_forms" 219) (.ref 80) (x:="_law_part") (st:=Mi.aj 13) (df:=Mi.bI) KX G Mi.qF (by kernel_rfl) (by kernel_rfl) (by kernel_rfl) (by kernel_rfl))
   (Mi.aP 88 (.str "law_layworld_k12_least_forms" 219) (.ref 87) (x:="_law_turns") (st:=Mi.aj 14) (df:=Mi.br) KX G Mi.nN (by kernel_rfl) (by kernel_rfl) (by kernel_rfl) (by kernel_rfl))
   (Mi.aP 93 (.str "law_layworld_k12_least_forms" 219) (.ref 92) (x:="_law_figure") (st:=Mi.aj 15) (df:=Mi.aZ) KX G Mi.mP (by kernel_rfl) (by kernel_rfl) (by kernel_rfl) (by kernel_rfl))
   (Mi.aP 100 (.str "law_layworld_k12_least_forms" 219) (.ref 99) (x:="_law_backs") (st:=Mi.aj 16) (df:=Mi.bu) KX G Mi.nO (by kernel_rfl) (by kernel_rfl) (by kernel_rfl) (by kernel_rfl))
   (Mi.aP 105 (.str "law_layworld_k12_least_forms" 219) (.ref 104) (x:="_law_rule_of") (st:=Mi.aj 17) (df:=Mi.aW) KX G Mi.la (by kernel_rfl) (by kernel_rfl) (by kernel_rfl) (by kernel_rfl))
   (Mi.aP 110 (.str "law_layworld_k12_least_forms" 219) (.ref 109) (x:="_law_free_three") (st:=Mi.aj 18) (df:=Mi.aE) KX G Mi.iQ (by kernel_rfl) (by kernel_rfl) (by kernel_rfl) (by kernel_rfl))
   (Mi.aP 117 (.str "law_layworld_k12_least_forms" 219) (.ref 116) (x:="_law_sizes") (st:=Mi.aj 19) (df:=Mi.bv) KX G Mi.nP (by kernel_rfl) (by kernel_rfl) (by kernel_rfl) (by kernel_rfl))
   (Mi.aP 124 (.str "law_layworld_k12_least_forms" 219) (.ref 123) (x:="_law_any_rule") (st:=Mi.aj 20) (df:=Mi.aR) KX G Mi.km (by kernel_rfl) (by kernel_rfl) (by kernel_rfl) (by kernel_rfl))
   (Mi.aP 131 (.str "law_layworld_k12_least_forms" 219) (.ref 130) (x:="_law_laying_kind") (st:=Mi.aj 21) (df:=Mi.aB) KX G Mi.g9 (by kernel_rfl) (by kernel_rfl) (by kernel_rfl) (by kernel_rfl))
   (Mi.aP 138 (.str "law_layworld_k12_least_forms" 219) (.ref 137) (x:="_law_breaks") (st:=Mi.aj 22) (df:=Mi.a7) KX G Mi.mQ (by kernel_rfl) (by kernel_rfl) (by kernel_rfl) (by kernel_rfl))
   (Mi.aP 143 (.str "law_layworld_k12_least_forms" 219) (.ref 142) (x:="_law_numbered") (st:=Mi.aj 23) (df:=Mi.aS) KX G Mi.kn (by kernel_rfl) (by kernel_rfl) (by kernel_rfl) (by kernel_rfl))
   (Mi.aP 150 (.str "law_layworld_k12_least_forms" 219) (.ref 149) (x:="_law_laying_rule") (st:=Mi.aj 24) (df:=Mi.aC) KX G Mi.hG (by kernel_rfl) (by kernel_rfl) (by kernel_rfl) (by kernel_rfl))
   (Mi.aP 155 (.str "law_layworld_k12_least_forms" 219) (.ref 154) (x:="_law_rising") (st:=Mi.aj 25) (df:=Mi.a9) KX G Mi.mR (by kernel_rfl) (by kernel_rfl) (by kernel_rfl) (by kernel_rfl))
   (Mi.aP 160 (.str "law_layworld_k12_least_forms" 219) (.ref 159) (x:="_law_free_rule") (st:=Mi.aj 26) (df:=Mi.aI) KX G Mi.jy (by kernel_rfl) (by kernel_rfl) (by kernel_rfl) (by kernel_rfl))
   (Mi.aP 165 (.str "law_layworld_k12_least_forms" 219) (.ref 164) (x:="_law_one_way_rule") (st:=Mi.aj 27) (df:=Mi.au) KX G Mi.gD (by kernel_rfl) (by kernel_rfl) (by kernel_rfl) (by kernel_rfl))
   (Mi.aP 170 (.str "law_layworld_k12_least_forms" 219) (.ref 169) (x:="_law_any_world") (st:=Mi.aj 28) (df:=Mi.aJ) KX G Mi.jA (by kernel_rfl) (by kernel_rfl) (by kernel_rfl) (by kernel_rfl))
   (Mi.aP 175 (.str "law_layworld_k12_least_forms" 219) (.ref 174) (x:="_law_alike") (st:=Mi.aj 29) (df:=Mi.bw) KX G Mi.nQ (by kernel_rfl) (by kernel_rfl) (by kernel_rfl) (by kernel_rfl))
   (Mi.aP 180 (.str "law_layworld_k12_least_forms" 219) (.ref 179) (x:="_law_orders") (st:=Mi.aj 30) (df:=Mi.bc) KX G Mi.mS (by kernel_rfl) (by kernel_rfl) (by kernel_rfl) (by kernel_rfl))
   (Mi.aP 185 (.str "law_layworld_k12_least_forms" 219) (.ref 184) (x:="_law_least") (st:=Mi.aj 31) (df:=Mi.bx) KX G Mi.nR (by kernel_rfl) (by kernel_rfl) (by kernel_rfl) (by kernel_rfl))
   (Mi.aP 190 (.str "law_layworld_k12_least_forms" 219) (.ref 189) (x:="_law_digits") (st:=Mi.aj 32) (df:=Mi.be) KX G Mi.mT (by kernel_rfl) (by kernel_rfl) (by kernel_rfl) (by kernel_rfl))
   (Mi.aP 195 (.str "law_layworld_k12_least_forms" 219) (.ref 194) (x:="_law_worlds") (st:=Mi.aj 33) (df:=Mi.bf) KX G Mi.mU (by kernel_rfl) (by kernel_rfl) (by kernel_rfl) (by kernel_rfl))
   (Mi.aP 200 (.str "law_layworld_k12_least_forms" 219) (.ref 199) (x:="_law_figures") (st:=Mi.aj 34) (df:=Mi.aX) KX G Mi.lb (by kernel_rfl) (by kernel_rfl) (by kernel_rfl) (by kernel_rfl))
   (Mi.aP 205 (.str "law_layworld_k12_least_forms" 219) (.ref 204) (x:="_law_full_rule") (st:=Mi.aj 35) (df:=Mi.aK) KX G Mi.jB (by kernel_rfl) (by kernel_rfl) (by kernel_rfl) (by kernel_rfl))
   (Mi.aP 212 (.str "law_layworld_k12_least_forms" 219) (.ref 211) (x:="_law_drawn_points") (st:=Mi.aj 36) (df:=Mi.aw) KX G Mi.gE (by kernel_rfl) (by kernel_rfl) (by kernel_rfl) (by kernel_rfl))
   (Mi.aP 217 (.str "law_layworld_k12_least_forms" 219) (.ref 216) (x:="_law_other_rule") (st:=Mi.aj 37) (df:=Mi.aF) KX G Mi.iR (by kernel_rfl) (by kernel_rfl) (by kernel_rfl) (by kernel_rfl))
   (f:=224) (oc:=.type "function") (od:=gV) (an:=gV) (osl:=#[]) (kV:=.none) (doc:=.none) (pm:=(.str "law_layworld_k12_least_forms" 219)) (cdv:=(.ref 223)) (ct:=.none) (by kernel_rfl) (by kernel_rfl) (by kernel_rfl) (by kernel_rfl)
