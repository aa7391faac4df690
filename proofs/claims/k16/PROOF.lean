import PyProof.Rows.All
import Wide.All
import OpenK.AllK
import Wide.FinOn
import Lean
import PyProof.EqAt
import PyProof.EqKinds
import PyProof.TupleCall
import KE.KDictList
import PyProof.SetKind
import PyProof.IsRules
import KE.KSortTup
import PyProof.ZipIter
import PyProof.Draws
import PyProof.EnumMake
import PyProof.WalksEnum
import PySem.Challenge.RW_layworld_k16_whole_point_by_point
noncomputable section
open Option renaming some→ba,none→gV
open _root_ renaming List→JM,Option→JU,Nat→JW,Int→J5,decide_eq_true_eq→Ki,if_pos→Ko,Bool→Kt,Array→Ku,if_neg→Kw,decide_eq_false→Kz,of_decide_eq_true→K4,if_false→Li,beq_self_eq_true→Lk,False→Lq,String→Lv,if_true→LH,decide_eq_true→LX,or_false→MA,of_decide_eq_false→MU,DecidableEq→M2,beq_eq_false_iff_ne→N5,decide_eq_false_iff_not→O0,forall_congr'→P3,bne_self_eq_false→QE,decide_true→Ra,True→Rn,decide_false→Sd,not_or→SQ,dif_pos→SW,Unit→Tn
open PySem renaming wpAny_bind→JN,Value→JP,Shared→JS,wpAny_pure→JT,Addr→JX,Str→Kd,Expr→Kn,Program→Kx,Around→KH,World→KO,wpAny_newObj_type→KQ,Heap→KW,sizeLine_eq→KZ,wpAny_holding→K8,wpAny_callSpecial?_slot→La,wpAny_call_entry→Lb,codeAny_builtin→Le,SetTable→Lh,wpAny_setState_of→Ln,Obj→LF,wpAny_mono→LO,NameKind→LQ,plainId_quiet→LS,wpAny_field→L7,wpAny_seqItems→L8,wpAny_typeNameOfWhole_keyiter→Ma,wpAny_truthy_bool→Mc,DictEntry→Mg,Spec→Mn,Pos→Mo,FuncData→Mp,wpAny_passesOwn→Mt,Stmt→MC,wpAny_typeNameOf_keyiter→MF,mem_of_lookup→MG,wpAny_askSetting→MM,wpAny_typeOf→MS,wpAny_ite_split→MV,Scope→MZ,Builtin→M0,wpAny_forIn_list→Nc,wpAny_isInstance→Nd,wpAny_updateSeq→Nr,wpAny_Call_Name_kw→Nu,wpAny_of_eq→Nz,codeAny_mono→NB,wpAny_runValue→NG,wpAny_pyIter_list→NK,wpAny_dictEntries→NL,wpAny_standAt→NT,wpAny_attempt→NU,wpAny_letGo→NX,wpAny_loadPart'→N1,wpAny_setEntries_of→N6,IsPart→Oj,call_meets→On,wpAny_fieldsOf→Oq,wpAny_setField→Ov,wpAny_tryCatch→Ow,wpAny_pyIter_slot→OI,wpAny_newList→OT,wpAny_comprehension_free→OU,noFill_tuple_add→OW,Paired→O1,wpAny_rule→O3,wpAny_load→O4,ItemsOf→O8,wpAny_execs_nil→Pb,codeAny_of_tree→Pf,wpAny_specialOf→Pg,wpAny_dictEpoch→Pi,builtinLookup_eq_fast→Pn,wpAny_isSame_ref_self→Pp,wpAny_isOneOf_keyiter→Ps,GenState→Px,isSubtype_stop→Pz,wpAny_newTuple→PB,wpAny_pyIter_keyiter→PF,PassesOwn→PP,rangeSize_one→PZ,seq_tuple_add→P0,wpAny_handled→P2,sub_set_self→Qa,wpAny_setField_rec→Qb,wpAny_pyIter_tuple→Qh,Env→Ql,wpAny_assign_Name→Qm,Operator→Qo,BindsTo→Qp,concat_meets→Qq,wpAny_sequenceKey→Qr,seqIndex_neg→Qs,list_append→Qt,wpAny_setEpoch_of→Qz,wpAny_pyIter_enum→QI,wpAny_pyHash_int→QL,wpAny_pyHash_str→QM,Result→QP,seqIndex_of→Q6,wpAny_throw→Q7,Walks→Q8,wpAny_mkInt→Q9,typeLookup_type→Rf,Keyword→Rl,wpAny_Name→Ro,wpAny_bindName→Rp,typeIs_int→Rr,fitsIndex_both→Rt,Params→Rv,call→Rw,isSubtype_type→Rz,entryFor_alias→RA,intBits_le_64→RM,evalPart_none→RO,call_list_seq→RP,small_one→R5,CmpOp→R6,call_range_1→R9,Sem→Sn,IsRangeIter→So,wpAny_alloc→Sy,BoolOp→SR,IsEnum→SS,IsRange→SX,Fin→Tb,Drawn→Tk,Model→Tl,Tok→Tv
open List renaming length_map→JO,getElem?_map→JY,length_append→J0,getElem?_eq_some_iff→J1,set→J4,getElem?_eq_getElem→J6,size_toArray→J7,mem_singleton→J8,mem_of_getElem?→Ke,all_eq_true→Kj,mem_map→Kl,zipWith→Km,mem_cons→Kv,range→Ky,length_take→KA,take_add_one→KD,mem_append→KF,mem_append_right→KG,length_range→KJ,map_append→KN,mem_range→KP,getElem?_append_left→KT,take_length→KY,replicate→K2,length_cons→K5,getElem_mem→K7,all_cons→K9,not_mem_nil→Lc,getElem?_eq_none_iff→Lg,mem_cons_of_mem→Lm,mem_cons_self→Lo,map_cons→Lp,length_singleton→Lr,getD_eq_getElem?_getD→Lu,append_nil→LK,lookup_cons→LR,getElem?_append_right→LV,append_assoc→LW,getElem?_set→LY,replicate_succ→LZ,length_nil→L0,mem_append_left→L6,mem_of_mem_take→L9,length_eq_zero_iff→Mh,getElem?_range→Mj,flatMap_append→Mk,any_cons→Mm,nodup_cons→Mu,flatten_cons→Mx,map_map→MB,map_congr_left→MJ,length_zipWith→MK,foldlM_cons→MP,mem_flatMap→MR,zip_cons_cons→MT,find?_cons→MW,getElem?_eq_none→MX,length_filter_le→MY,flatMap_cons→M1,mem_iff_getElem→M6,mem_of_mem_drop→M9,length_drop→Na,pairwise_iff_getElem→Ni,filterMap_cons→Nj,mem_filter→Nq,range_succ→Nt,drop_of_length_le→NJ,take_of_length_le→NM,getElem_inj→NP,ext_getElem→NR,map_take→NV,mem_filterMap→Oi,length_eraseIdx_of_lt→Op,mem_eraseDups→Oy,filter_append→OA,extract_eq_take_drop→OC,rel_of_pairwise_cons→OD,ext_getElem?→OJ,pairwise_map→OM,getElem_take→ON,getElem?_take_of_lt→OP,getElem?_set_self→O2,range_succ_eq_map→O6,of_mem_zip→Pc,forIn_cons→Ph,find?_some→Pl,take_append_drop→Pw,getElem?_set_ne→Py,nodup_nil→PJ,eraseDups_cons→PY,pairwise_cons→Qg,map_nil→Qw,zip_nil_left→Qx,nodup_append→QJ,getElem_map→QX,isEmpty_iff→QZ,foldr_cons→Rj,foldl→Rs,drop_zero→RD,forIn_nil→RG,take_zero→RH,all_map→Sb,extract→Si,length→Sq,Nodup→SU
open PySem.Heap renaming get?_push_of_some→JQ,get?_push_size→J9,lt_size→Kf,get?_update_other→KS,get?_update_self→Lz,SameBut→LJ,size_push→MN,get?_update_ne→Nk,ExtBut→PD,size_update→QV
open Option renaming map_eq_some_iff→JR,map_some→KR,isSome_iff_exists→K1,map_eq_none_iff→NF,getD_none→QR,getD_some→QY,map_map→RB,toList→R1
open Bool renaming and_eq_true→JV,false_ne_true→Kr,false_eq_true→Ks,or_eq_true→LM,not_true→ME,and_true→Nm,true_and→No,not_eq_true'→NI,eq_iff_iff→N3,and_false→Oo,false_or→OR,and_eq_false_iff→Po,not_false→PC,and_eq_true_iff→PL,or_false→P1
open Nat renaming le_refl→JZ,le_trans→J3,le_of_ble_eq_true→Kc,ne_of_lt→Kk,lt_of_lt_of_le→Kq,ne_of_gt→KC,lt_succ_self→Ll,lt_irrefl→Ly,zero_le→LB,le_of_lt→LU,div_lt_of_lt_mul→Mb,le_succ_of_le→Mf,lt_of_le_of_lt→Mr,le_succ→My,lt_succ_of_lt→Mz,mul_comm→Nb,lt_trans→NE,succ_le_succ→NQ,pow_le_pow_right→NY,mul_le_mul_right→NZ,pow_le_pow_left→N9,succ_mul→Oa,eq_zero_or_pos→Oz,le_add_right→OX,mod_lt→O7,mul_zero→Pa,mul_le_mul→PK,not_lt→Qd,lt_or_gt_of_ne→Qf,succ_le_of_lt→Qu,zero_lt_of_lt→QF,le_of_not_lt→QT,succ_ne_zero→QU,min_eq_right→Q1,min_eq_left→Rk,add_assoc→RX,min_self→Sc,lt_or_ge→Sj,pow_succ→Sk,ble→Tx
open PySem.W renaming Frag→J2,mg_none_of→Lf,nsIn→Lx,keepIn→LC,fnOf→L4,kia_one→Mv,kas_sort→MQ,codeIn→M4,methodObj→OF,cellsFrom_some→O5,OpenLaw→Pd,kat_nil→Pk,KdlSrc→PH,WalkO→RQ,Looks→R0,mg_of→R3,recOk→R4,xlAt→Sl
open Array renaming length_toList→Kb,getElem?_toList→Lj,size_map→Ls,getElem?_eq_some_iff→LD,getElem?_eq_getElem→L3,map→MO,mem_toList_iff→M7,toList_extract→M8,getD→Nv,forIn_toList→Nw,mem_of_getElem?→NN,getElem_toList→NW,toList_append→N7,getElem?_map→Ot,perm_iff_toList_perm→Ox,toList_push→OH,toList_map→OZ,append_assoc→P6,filterMap→Rg,map_map→RY,toList→R8
open Int renaming natCast_nonneg→Kg,toNat_natCast→Kh,ofNat_lt→LL,emod_lt_of_pos→Mq,emod_nonneg→Mw,ediv_nonneg→N4,zero_add→Od,natCast_mul→Pe,toNat_of_nonneg→PU
open PySem.Value renaming ref→KI,none→KU,type→LG,bool→M3,str→NO,int→OV
open PySem.SetTable renaming insertAt→KL,below→ML,grown→NH,Probe→Os,sizeAbove→Ou,layClean→QG,fits→RT,sameMemory→SK,relaid→Th,laid→Tt
open Option.some renaming injEq→KM,inj→Ld
open PySem.Around renaming under_plainId→K6
open PySem.Obj renaming mapSeq→Lw,data_mapFields→Nx,isFreed_of_fields→Pu,cls_mapFields→QC,mapFields→RZ
open PySem.Builtin.List renaming listExtendWith→LA,listTooLong→MD,listLengthHint→Ob,listSameRef→OQ,listFitsIndex→Ru
open PySem.Builtin.Tuple renaming tupleExact→LI,tupleItemsOf→M5,tupleHashOf→Ng,tupleCompareSizes→QK,tupleIsExact→Rx
open ForInStep renaming yield→LN
open PySem.Builtin.Range renaming rangeSize→LP,small→N8
open PyProof.Rows renaming slot_tuple_getitem→L1,callWith_type1→Ml,subscriptTail_builtinR→ND,assignInOrder_cons→Oh,AllBare→OG,listUpdate_at→OS,SortKind→OY,get?_update_seq→Pj,entry_tuple_getitem→PR,lt_int→PV,args_tuple_getitem→P8,IsTup→Qk,assignInOrder_nil→Qn,listItems_at→QD,callWith_builtin1→QQ,seqEpoch_at→Rb,entry_list_sort→Ri,IntsAre→Rm,slicePart_none→Rq,slot_list_sort→RE,args_list_sort→RF,tupleItemsOf_→RN,plain_sorted→Se,entry_sorted→Sg,args_sorted1→Sh,kind_sorted→Sz
open PySem.Str renaming ofString→L5,length→SM,join→Tr
open PySem.Builtin.Slice renaming slicePlaces→Ms,sliceAdjust→Nf,sliceApplied→Ol,slicePartIndex→Rc,sliceFields→RI
open PySem.Heap.SameBut renaming update→MH,refl→QA
open PySem.Calls renaming call_function_entry→Nh,Name_function_global→Og,Constant_str→P7
open PySem.F renaming args_tuple_add_2→Nl,entry_tuple_add→Ny,plainAttrs_list→NA,slot_tuple_add→NC,slot_dict_get→Pq
open PySem.Builtin.SmallTypes renaming ownedTupleIsFree→Nn,nextOf→OE,ownedTupleHandOut→PX
open PySem.NameKind renaming free→Np,cell→Tu
open True renaming intro→NS
open PySem.Builtin.Dict_items renaming ownsTuple→N2
open PySem.Builtin.Builtins renaming bindParams→Oc
open PySem.Challenge renaming pw_layworld_k16_whole_point_by_point→Oe,rw_layworld_k16_whole_point_by_point→Of
open PySem.SeqAt renaming EqAt→Om,notIn_listAt→P9,in_listAt→Re
open Classical renaming byContradiction→OB,propDecidable→R7
open PySem.SetTable.probe renaming go→OL
open PySem.Paired renaming length→OO
open PySem.Env renaming kindOf→O9
open PySem.Builtin.Dict renaming showsAll→Pr,dictSlotNone→RK,pendingCount→RL
open Sum renaming inl→PM,inr→PN
open PySem.Expr renaming Name→PQ
open PySem.SeqAt.EqAt renaming int_str→P4,str_int→P5,none_bool→Sr,bool_none→Su,bool_bool→Sv,none_int→SA,none_str→SC,bool_int→SD,bool_str→SF,int_none→SG,int_bool→SH,str_none→SI,str_bool→SJ,int_int→SN,str_str→SO,same→Tf
open PUnit renaming unit→Qc
open PySem.Code renaming quiet_builtin→Qe
open PySem.ScopeKind renaming function→Qi
open PySem.AutoListH renaming list___mul___list_int_3→Qj
open PySem.AutoSeq1 renaming list_extend_list_list_0→Qv,sub_tuple_tuple→RS
open PySem.SetTable.below renaming go→Qy
open Function renaming comp_def→QH
open PyProof.Rows.IsTup renaming new→QN
open PySem.IsL renaming update→QS
open PySem.Builtin.Frozenset renaming updateFrom→Rh,newClass→Ry,sizeOf→RV
open PySem.Walks renaming list→RC
open PySem.Builtin.Str renaming tooLong→RJ,glued→SY
open PySem.Moved renaming eq_with→RW
open PySem.MeetsSeq renaming list_pop_at→Sw
open PySem.Txt renaming join→Sx,mul→Tw
open PySem.Heap.IsSliceOf renaming new→SL
open List.Pairwise renaming nil→SV
open List.Sublist renaming refl→SZ
open PySem.Flow renaming next→Ta
open PySem.W.Looks renaming ld→Tc
open List.Perm renaming nil_eq→Td,swap→Tq,map→Ts
open PySem.W.XL renaming keeps→Te
open PySem.PassesOwn renaming never→Ti
open List.cons renaming injEq→Tj
open Prod renaming ext→To
open Or renaming inr→Tp
set_option genSizeOf false
namespace ZZ.Lean
set_option Elab.async false
set_option linter.all false
set_option maxRecDepth 100000
namespace L2
open PySem PySem.Spec PyProof.Rows
noncomputable abbrev oP:=Sum J5 Kd
noncomputable def C3:oP->JP->Kt
 | .inl k,v=>Value.isInt k v
 | .inr x,v=>Value.isStrOf x v
noncomputable def HK (w:KO):oP->J5
 | .inl k=>hashInt k
 | .inr x=>hashStr w x
theorem bX:∀ {k:oP} {v:JP},C3 k v=true->(∃i t,k=PM i/\v=OV i t)\/(∃x t,k=PN x/\v=NO x t)
 | .inl i,v,h=>by
  obtain⟨t,e⟩:=Value.isInt_shape (k:=i) (v:=v) h;exact .inl ⟨i,t,rfl,e⟩
 | .inr x,v,h=>by
  obtain⟨t,e⟩:=Value.isStrOf_shape (x:=x) (v:=v) h;exact .inr ⟨x,t,rfl,e⟩
theorem Dy (a b:J5):decide ((PM a:oP)=PM b)=(a==b):=by
 by_cases e:a=b
 ·subst e; simp
 ·have h:¬ (PM a:oP)=PM b:=λq=>e (Sum.inl.inj q)
  rw[Kz h];exact(N5.mpr e).symm
theorem Dz (a b:Kd):decide ((PN a:oP)=PN b)=decide (a=b):=by
 by_cases e:a=b
 ·subst e; simp
 ·have h:¬ (PN a:oP)=PN b:=λq=>e (Sum.inr.inj q)
  rw[Kz h,Kz e]
theorem DA (a:J5)(b:Kd):decide ((PM a:oP)=PN b)=false:=Kz (λq=>nomatch q)
theorem DB (a:Kd)(b:J5):decide ((PN a:oP)=PM b)=false:=Kz (λq=>nomatch q)
noncomputable def oQ (prog:Kx)(w:KO):PySem.KeyKind prog w oP where
 is:=C3
 hash:=HK w
 inj:=λv a b ha hb=>by
  rcases bX ha with⟨i,t,rfl,rfl⟩|⟨x,t,rfl,rfl⟩
  ·rcases bX hb with⟨j,u,rfl,e⟩|⟨y,u,rfl,e⟩
   ·injection e with e1 _; rw[e1]
   ·exact nomatch e
  ·rcases bX hb with⟨j,u,rfl,e⟩|⟨y,u,rfl,e⟩
   ·exact nomatch e
   ·injection e with e1 _; rw[e1]
 byValue:=λk v h=>by
  rcases bX h with⟨i,t,rfl,rfl⟩|⟨x,t,rfl,rfl⟩ <;> rfl
 pyHash:=λhv h=>by
  rcases bX hv with⟨i,t,rfl,rfl⟩|⟨x,t,rfl,rfl⟩
  ·exact QL h
  ·exact QM h
 eqBool:=λhu hv h=>by
  rcases bX hu with⟨i,t,rfl,rfl⟩|⟨x,t,rfl,rfl⟩
  ·rcases bX hv with⟨j,u,rfl,rfl⟩|⟨y,u,rfl,rfl⟩
   ·rw[Dy]at h; exact wpAny_eqBool_int h
   ·rw[DA]at h; exact P4 i t y u _ _ _ _ h
  ·rcases bX hv with⟨j,u,rfl,rfl⟩|⟨y,u,rfl,rfl⟩
   ·rw[DB]at h; exact P5 x t j u _ _ _ _ h
   ·rw[Dz]at h; exact wpAny_eqBool_str h
 «strs»:=λk x t v h=>by
  rcases bX h with⟨i,u,rfl,e⟩|⟨y,u,rfl,e⟩
  ·exact nomatch e
  ·injection e with e1 _
   subst e1;cases v <;> rfl
set_option genInjectivity false in
inductive V where
 | non|bl (b:Kt)|int (i:J5)|str (x:Kd)|byt (b:Ku UInt8)|flt (b:UInt64)|ref (a:JX)|ty (n:Lv)
 deriving M2
noncomputable def RelV:V->JP->Prop
 | .non,u=>u=KU
 | .bl b,u=>u=M3 b
 | .int i,u=>∃t,u=OV i t
 | .str x,u=>∃t,u=NO x t
 | .byt b,u=>∃t,u=Value.bytes b t
 | .flt b,u=>∃t,u=Value.float b t
 | .ref a,u=>u=KI a
 | .ty n,u=>u=LG n
noncomputable abbrev Vals:JM V->JM JP->Prop:=O1 RelV
theorem Vals.length {xs:JM V}{us:JM JP}(r:Vals xs us):xs.length=us.length:=OO r
theorem Vals.get:∀ {xs:JM V} {us:JM JP} {i:JW} {x:V},Vals xs us->xs[i]?=ba x->∃u,us[i]?=ba u/\RelV x u
 | _,_,_,_,.nil,e=>by simp at e
 | _,_,0,_,.cons r _,e=>by simp at e; subst e; exact⟨_,rfl,r⟩
 | _,_,i+1,x,.cons _ t,e=>by
  obtain⟨u,h1,h2⟩:=Vals.get (i:=i) (x:=x) t (by simpa using e)
  exact⟨u,by simpa using h1,h2⟩
theorem Vals.set {x:V}{u:JP}(r:RelV x u):∀ {xs:JM V} {us:JM JP} (i:JW),Vals xs us->Vals (xs.set i x) (us.set i u)
 | _,_,_,.nil=>.nil
 | _,_,0,.cons _ t=>.cons r t
 | _,_,i+1,.cons q t=>.cons q (Vals.set r i t)
theorem Vals.append:∀ {xs ys:JM V} {us ws:JM JP},Vals xs us->Vals ys ws->Vals (xs++ys) (us++ws)
 | _,_,_,_,.nil,s=>s
 | _,_,_,_,.cons r t,s=>.cons r (Vals.append t s)
theorem Vals.take:∀ {xs:JM V} {us:JM JP} (n:JW),Vals xs us->Vals (xs.take n) (us.take n)
 | _,_,0,_=>.nil
 | _,_,_+1,.nil=>.nil
 | _,_,n+1,.cons r t=>.cons r (Vals.take n t)
theorem Vals.drop:∀ {xs:JM V} {us:JM JP} (n:JW),Vals xs us->Vals (xs.drop n) (us.drop n)
 | _,_,0,r=>r
 | _,_,_+1,.nil=>.nil
 | _,_,n+1,.cons _ t=>Vals.drop n t
noncomputable def FN:JU V->JU JP->Prop
 | some v,ba u=>RelV v u
 | none,gV=>Rn
 | _,_=>Lq
noncomputable def KV {κ:Type}:JM (κ×V)->JM (κ×JP)->Prop:=O1 λ(p:κ×V) (q:κ×JP)=>p.1=q.1/\RelV p.2 q.2
noncomputable def kV:oP->V
 | .inl i=>.int i
 | .inr x=>.str x
set_option genInjectivity false in
inductive HO where
 | lst (xs:JM V)
 | tup (xs:JM V)
 | dK (kvs:JM (oP×V))|dT (kvs:JM (JM oP×V))
 | set (S:J5->Kt) (n:JW)
 | ins (C dx:JX) (fs:JM (Kd×V))
 | own (x:JX)
 | xd (fs:JM (Kd×V))
 | met (f x:JX)
 | rng (lo hi:J5)
 | frz (o:LF) (u:HO)
 | tbl (ps:Ku JP)
 | ext (φ:KW->Prop)
noncomputable abbrev Hp:=JX->JU HO
noncomputable def cj (H:Hp)(a:JX)(o:HO):Hp:=λb=>if b=a then ba o else H b
theorem bv {H:Hp}{a:JX}{o:HO}:cj H a o a=ba o:=by unfold cj; rw[Ko rfl]
theorem aN {H:Hp}{a b:JX}{o:HO}(h:b≠a):cj H a o b=H b:=by unfold cj; rw[Kw h]
theorem eJ {H:Hp}{a b:JX}{o:HO}(h:H a=ba o)(h':H b=gV):a≠b:=by
 intro e; subst e; rw[h]at h'; cases h'
section
variable (P:Kx) (w:KO)
noncomputable def ObjOk (H:Hp)(h:KW)(a:JX):HO->Prop
 | .lst xs=>xs.length<=sizeLine/\∃(its:JM JP) (n:JW),Vals xs its/\h.get? a=ba { cls:=.type "list",data:=.seq its.toArray n }
 | .tup xs=>xs.length<=sizeLine/\∃its:JM JP,Vals xs its/\Qk h a its.toArray
 | .dK kvs=>kvs.length<=sizeLine/\(a==sysModules)=false/\∃vs,KV kvs vs/\h.DictOf (oQ P w) a vs
 | .dT kvs=>kvs.length<=sizeLine/\(a==sysModules)=false/\∃xs:JM (JM oP×JX×JP),
   O1 (λ(p:JM oP×V) (q:JM oP×JX×JP)=>p.1=q.1/\H q.2.1=ba (.tup (p.1.map kV))/\RelV p.2 q.2.2) kvs xs/\
   ∃o es ep,h.get? a=ba o/\o.ExactDict/\o.data=.dict es ep/\es.toList=xs.map (entryOfKey (tupleKind (oQ P w)))/\(xs.map (·.1)).Nodup
 | .set S n=>h.SetOf (intKind P w) a S n
 | .ins C dx fs=>H dx=ba (.own a)/\fs.length<=1000/\dx≠a/\h.get? a=ba (PySem.W.instObj C dx)/\
   ∃mA,h.Ns1 dx mA/\(∀f,FN (fs.lookup f) (mA f))/\PySem.Within mA (fs.map (·.1))
 | .own _=>∃o,h.get? a=ba o
 | .xd fs=>∃mA,h.Ns1 a mA/\∀f,FN (fs.lookup f) (mA f)
 | .rng lo hi=>∃t u v,h.get? a=ba { cls:=.type "range",data:=.fields [.int lo t,.int hi u,.int 1 v].toArray }
 | .frz o u=>h.get? a=ba o/\ObjOk H h a u
 | .tbl ps=>h.get? a=ba { cls:=.none,data:=.fields ps }
 | .met f x=>h.get? a=ba (OF (.ref f) (.ref x))
 | .ext φ=>φ h/\(∃o,h.get? a=ba o)/\∀h1 h2:KW,φ h1->(∀o,h1.get? a=ba o->h2.get? a=ba o)->φ h2
noncomputable def HOk (H:Hp)(h:KW):Prop:=∀a o,H a=ba o->ObjOk P w H h a o
end
section
variable{P:Kx}{w:KO}{H H':Hp}{h h':KW}{a:JX}{o:HO}
theorem ObjOk.lt (x:ObjOk P w H h a o):a < h.objs.size:=by
 cases o with
 | lst xs=>obtain⟨_,_,_,_,e⟩:=x; exact Kf e
 | tup xs=>obtain⟨_,_,_,p⟩:=x; exact p.lt
 | dK kvs=>obtain⟨_,_,_,_,o,_,_,e,_⟩:=x; exact Kf e
 | dT kvs=>obtain⟨_,_,_,_,o,_,_,e,_⟩:=x; exact Kf e
 | set S n=>obtain⟨o,_,_,_,e,_⟩:=x; exact Kf e
 | ins C dx fs=>obtain⟨_,_,_,e,_⟩:=x; exact Kf e
 | own y=>obtain⟨_,e⟩:=x; exact Kf e
 | xd fs=>obtain⟨_,⟨_,_,_,e,_⟩,_⟩:=x; exact Kf e
 | rng lo hi=>obtain⟨_,_,_,e⟩:=x; exact Kf e
 | frz ob u=>obtain⟨e,_⟩:=x; exact Kf e
 | tbl ps=>exact Kf (show h.get? a=ba _ from x)
 | met f y=>exact Kf (show h.get? a=ba _ from x)
 | ext φ=>obtain⟨_,⟨_,e⟩,_⟩:=x; exact Kf e
theorem Paired.mapP {α β:Type}{F G:α->β->Prop}:∀ {l₁:JM α} {l₂:JM β},O1 F l₁ l₂->(∀a b,F a b->G a b)->O1 G l₁ l₂
 | _,_,.nil,_=>.nil
 | _,_,.cons r t,f=>.cons (f _ _ r) (Paired.mapP t f)
theorem ObjOk.stay (x:ObjOk P w H h a o)(k:∀b u,(b=a\/H b=ba (.own a))->h.get? b=ba u->h'.get? b=ba u)
  (ho:∀b,H b=ba (.own a)->H' b=ba (.own a)) (ht:∀b xs,H b=ba (.tup xs)->H' b=ba (.tup xs)):ObjOk P w H' h' a o:=by
 induction o with
 | lst xs=>obtain⟨z,its,n,r,e⟩:=x; exact⟨z,its,n,r,k _ _ (.inl rfl) e⟩
 | tup xs=>obtain⟨z,its,r,ob,e,c⟩:=x; exact⟨z,its,r,ob,k _ _ (.inl rfl) e,c⟩
 | dK kvs=>obtain⟨z,y,vs,r,ob,es,ep,e,c⟩:=x; exact⟨z,y,vs,r,ob,es,ep,k _ _ (.inl rfl) e,c⟩
 | dT kvs=>
  obtain⟨z,y,xs,r,ob,es,ep,e,c⟩:=x;exact⟨z,y,xs,Paired.mapP r λp q z=>⟨z.1,ht _ _ z.2.1,z.2.2⟩,ob,es,ep,k _ _ (.inl rfl) e,c⟩
 | set S n=>obtain⟨ob,es,ep,t,e,c⟩:=x; exact⟨ob,es,ep,t,k _ _ (.inl rfl) e,c⟩
 | ins C dx fs=>
  obtain⟨d,z,ne,e,mA,⟨od,es,ep,e2,c⟩,r⟩:=x;exact⟨ho _ d,z,ne,k _ _ (.inl rfl) e,mA,⟨od,es,ep,k _ _ (.inr d) e2,c⟩,r⟩
 | own y=>obtain⟨ob,e⟩:=x; exact⟨ob,k _ _ (.inl rfl) e⟩
 | xd fs=>obtain⟨mA,⟨od,es,ep,e,c⟩,r⟩:=x; exact⟨mA,⟨od,es,ep,k _ _ (.inl rfl) e,c⟩,r⟩
 | rng lo hi=>obtain⟨t,u,v,e⟩:=x; exact⟨t,u,v,k _ _ (.inl rfl) e⟩
 | frz ob u ih=>obtain⟨e,q⟩:=x; exact⟨k _ _ (.inl rfl) e,ih q⟩
 | tbl ps=>
  have e:h.get? a=ba { cls:=.none,data:=.fields ps }:=x;show h'.get? a=ba { cls:=.none,data:=.fields ps };exact k a _ (.inl rfl) e
 | met f y=>
  have e:h.get? a=ba (OF (.ref f) (.ref y)):=x;show h'.get? a=ba (OF (.ref f) (.ref y));exact k a _ (.inl rfl) e
 | ext φ=>obtain⟨p,⟨o,e⟩,st⟩:=x; exact⟨st _ _ p λo q=>k _ _ (.inl rfl) q,⟨o,k _ _ (.inl rfl) e⟩,st⟩
theorem HOk.lt (x:HOk P w H h)(e:H a=ba o):a < h.objs.size:=(x a o e).lt
theorem HOk.fresh (x:HOk P w H h)(e:h.objs.size<=a):H a=gV:=by
 cases q:H a with
 | none=>rfl
 | some u=>exact absurd (Kq (x.lt q) e) (Ly _)
theorem HOk.kept (x:HOk P w H h)(k:∀b u,h.get? b=ba u->h'.get? b=ba u):HOk P w H h':=λa o e=>
 (x a o e).stay (λb u _ q=>k b u q) (λ_ q=>q) λ_ _ q=>q
theorem HOk.laid (x:HOk P w H h)(k:∀b u,h.get? b=ba u->h'.get? b=ba u)(hp:h.objs.size<=a)(new:ObjOk P w (cj H a o) h' a o):HOk P w (cj H a o) h':=λb u e=>by
 have hn:=x.fresh hp
 by_cases hb:b=a
 ·subst hb; rw[bv]at e; cases e; exact new
 ·rw[aN hb]at e;exact(x b u e).stay (λc v _ q=>k c v q) (λc q=>by rw[aN (eJ q hn)]; exact q) λc xs q=>by rw[aN (eJ q hn)]; exact q
end
noncomputable def Rd (H:Hp)(a:JX)(u:HO):Prop:=H a=ba u\/∃o,H a=ba (.frz o u)
theorem Rd.ok {P:Kx}{w:KO}{H:Hp}{h:KW}{a:JX}{u:HO}(r:Rd H a u)(x:HOk P w H h):ObjOk P w H h a u:=by
 rcases r with r|⟨o,r⟩
 ·exact x a u r
 ·obtain⟨_,q⟩:=x a _ r;exact q
noncomputable def FP:JU HO->Prop
 | some (.lst _)=>Rn
 | some (.dK _)=>Rn
 | some (.dT _)=>Rn
 | some (.set _ _)=>Rn
 | some (.ins _ _ _)=>Rn
 | some (.ext _)=>Rn
 | _=>Lq
section
variable{P:Kx}{w:KO}{H:Hp}{h h':KW}{x e:JX}{o':HO}
theorem HOk.write (ok:HOk P w H h)(mu:FP (H x))(he:e=x\/H e=ba (.own x))(k:∀b u,b≠e->h.get? b=ba u->h'.get? b=ba u)(heo:∃u,h'.get? e=ba u)
  (new:ObjOk P w (cj H x o') h' x o'):HOk P w (cj H x o') h':=λb u q=>by
 have nown:∀c y,H c=ba (.own y)->c≠x:=λc y r z=>by subst z; rw[r]at mu; exact mu
 have ntup:∀c xs,H c=ba (.tup xs)->c≠x:=λc xs r z=>by subst z; rw[r]at mu; exact mu
 by_cases hb:b=x
 ·subst hb; rw[bv]at q; cases q; exact new
 ·rw[aN hb]at q
  by_cases hbe:b=e
  ·have q':H b=ba (.own x):=by
    rcases he with z|z
    ·exact absurd (hbe.trans z) hb
    ·rw[hbe]; exact z
   rw[q]at q'; cases q'
   obtain⟨v,hv⟩:=heo;exact⟨v,by rw[hbe]; exact hv⟩
  ·refine(ok b u q).stay (λc v hc r=>k c v ?_ r) (λc r=>by rw[aN (nown c b r)]; exact r) λc xs r=>by rw[aN (ntup c xs r)]; exact r
   rcases hc with rfl|hc
   ·exact hbe
   ·rintro rfl;rcases he with z|z
    ·exact nown c b hc z
    ·rw[hc]at z; cases z; exact hb rfl
end
structure Un (fs ex:JM JX)(H H':Hp)(h h':KW):Prop where
 keep:∀b o,h.get? b=ba o->H b=gV->b∉fs->b∉ex->h'.get? b=ba o
 slot:∀b o,h.get? b=ba o->H b=gV->b∈fs->b∉ex->∃sl,h'.get? b=ba { o with slots:=sl }
 free:∀b o,h.get? b=ba o->H b=gV->b∉ex->H' b=gV
 there:∀b o,h.get? b=ba o->b∉ex->∃o',h'.get? b=ba o'
 tups:∀b xs,H b=ba (.tup xs)->H' b=ba (.tup xs)
 frzs:∀b o u,H b=ba (.frz o u)->H' b=ba (.frz o u)
 tbls:∀b ps,H b=ba (.tbl ps)->∃more,H' b=ba (.tbl (ps++more))
section
variable{fs fs' ex ex':JM JX}{H H1 H2:Hp}{h h1 h2 h':KW}{a x e:JX}{o:HO}
theorem Un.any (u:Un fs ex H H1 h h1){b:JX}{ob:LF}(q:h.get? b=ba ob)(n:H b=gV)(hx:b∉ex):∃sl,h1.get? b=ba { ob with slots:=sl }:=by
 by_cases hb:b∈fs
 ·exact u.slot b ob q n hb hx
 ·exact⟨ob.slots,u.keep b ob q n hb hx⟩
theorem Un.trans (a:Un fs ex H H1 h h1)(b:Un fs ex H1 H2 h1 h2):Un fs ex H H2 h h2 where
 keep:=λc ob q n hc hx=>b.keep c ob (a.keep c ob q n hc hx) (a.free c ob q n hx) hc hx
 slot:=λc ob q n hc hx=>by
  obtain⟨sl,e1⟩:=a.slot c ob q n hc hx;obtain⟨sl',e2⟩:=b.slot c _ e1 (a.free c ob q n hx) hc hx;exact⟨sl',e2⟩
 free:=λc ob q n hx=>by
  obtain⟨o',e1⟩:=a.there c ob q hx;exact b.free c o' e1 (a.free c ob q n hx) hx
 there:=λc ob q hx=>by
  obtain⟨o',e1⟩:=a.there c ob q hx;exact b.there c o' e1 hx
 tups:=λc xs q=>b.tups c xs (a.tups c xs q)
 frzs:=λc ob xs q=>b.frzs c ob xs (a.frzs c ob xs q)
 tbls:=λc ps q=>by
  obtain⟨m1,e1⟩:=a.tbls c ps q;obtain⟨m2,e2⟩:=b.tbls c _ e1;exact⟨m1++m2,by rw[e2,P6]⟩
theorem Un.kept (k:∀b u,h.get? b=ba u->h'.get? b=ba u):Un fs ex H H h h':=
 ⟨λb ob q _ _ _=>k b ob q,λb ob q _ _ _=>⟨ob.slots,k b ob q⟩,λ_ _ _ n _=>n,λb ob q _=>⟨ob,k b ob q⟩,λ_ _ q=>q,λ_ _ _ q=>q,λ_ ps q=>⟨#[],by rw[q]; simp⟩⟩
theorem Un.refl:Un fs ex H H h h:=Un.kept λ_ _ q=>q
theorem Un.laid (k:∀b u,h.get? b=ba u->h'.get? b=ba u)(hp:h.objs.size<=a)(hn:H a=gV):Un fs ex H (cj H a o) h h' where
 keep:=λb u q _ _ _=>k b u q
 slot:=λb u q _ _ _=>⟨u.slots,k b u q⟩
 free:=λb u q n _=>by rw[aN (Kk (Kq (Kf q) hp))]; exact n
 there:=λb u q _=>⟨u,k b u q⟩
 tups:=λb xs q=>by rw[aN (eJ q hn)]; exact q
 frzs:=λb u xs q=>by rw[aN (eJ q hn)]; exact q
 tbls:=λb ps q=>⟨#[],by rw[aN (eJ q hn),q]; simp⟩
theorem Un.write (mu:FP (H x))(he:e=x\/H e=ba (.own x))(k:∀b u,b≠e->h.get? b=ba u->h'.get? b=ba u)(heo:∃u,h'.get? e=ba u):Un fs ex H (cj H x o) h h':=by
 have hx:∀b,H b=gV->b≠x:=λb n z=>by subst z; rw[n]at mu; exact mu
 have hb:∀b,H b=gV->b≠e:=λb n z=>by
  subst z;rcases he with r|r
  ·exact hx b n r
  ·rw[n]at r; cases r
 have hm:∀b u,H b=ba u->¬ FP (ba u)->b≠x:=λb u q nm z=>by subst z; rw[q]at mu; exact nm mu
 refine⟨λb u q n _ _=>k b u (hb b n) q,λb u q n _ _=>⟨u.slots,k b u (hb b n) q⟩,λb u q n _=>by rw[aN (hx b n)]; exact n,λb u q _=>?_,
  λb xs q=>by rw[aN (hm b _ q λz=>z)]; exact q,λb u xs q=>by rw[aN (hm b _ q λz=>z)]; exact q,λb ps q=>⟨#[],by rw[aN (hm b _ q λz=>z),q]; simp⟩⟩
 by_cases hbe:b=e
 ·subst hbe; exact heo
 ·exact⟨u,k b u hbe q⟩
end
noncomputable def Hz (h:KW)(H:Hp):JM JX:=(Ky h.objs.size).filter λa=>(H a).isSome
noncomputable def oR (h:KW)(H:Hp):KW:=PySem.W.hideAll h (Hz h H)
theorem vI (h:KW)(H:Hp):(oR h H).objs.size=h.objs.size:=PySem.W.hideAll_size _ _
theorem xB {h:KW}{H:Hp}{b:JX}{o:LF}(e:h.get? b=ba o)(n:H b=gV):(oR h H).get? b=ba o:=
 PySem.W.hideAll_get _ e λhm=>by
  have q:(H b).isSome=true:=(Nq.mp hm).2;rw[n]at q; simp at q
theorem AS {h:KW}{H:Hp}{b:JX}{o:LF}(e:(oR h H).get? b=ba o):h.get? b=ba o/\H b=gV:=by
 have e':h.get? b=ba o:=PySem.W.of_hideAll (Hz h H) e;refine⟨e',?_⟩;cases q:H b with
 | none=>rfl
 | some x=>
  have hm:b∈Hz h H:=Nq.mpr ⟨KP.mpr (Kf e'),by simp[q]⟩
  have z:(oR h H).get? b=gV:=PySem.W.hideAll_none (Hz h H) hm;rw[z]at e; cases e
noncomputable def AT (g h:KW)(L:JX):JM (JX×LF):=(Ky h.objs.size).filterMap λa=>if a=L\/(g.get? a).isSome=true then gV else(h.get? a).map λo=>(a,o)
noncomputable def b8 (g h:KW)(L d:JX):JM (JX×LF):=(AT g h L).filter λp=>decide (p.1≠d)
structure Mod (K:J2)(mg:Kd->JU JP)(base:KW):Prop where
 kin:K.In base
 glob:base.Ns mainGlobals mg
 blt:∃mb,base.Ns builtinsNs mb/\∀x:Kd,x≠"__name__"->mb x=bootBuiltins x
 nolimit:base.NoLimit
structure Cx where
 prog:Kx
 w:KO
 K:J2
 mg:Kd->JU JP
 base:KW
 A:KH
 N:JM Kd
 s₀:JS
 H₀:Hp
 env:Ql
 outer:JM Ql
 stack:JM Ql
 ex:JM JX
 fn:Kd->Kt
 calm:Kt
 pn:JM (JX×LF)
 xe:JP->JS->Prop
noncomputable def sI (l:JM Ql):JM JX:=l.filterMap (·.frame)
noncomputable abbrev Cx.fs (X:Cx):JM JX:=sI X.outer
noncomputable def HA (sc:MZ)(x:Kd):Prop:=sc.names.lookup x=ba .local\/sc.names.lookup x=ba .cell\/sc.names.lookup x=ba .free
noncomputable def AU (sc:MZ)(x:Kd):Prop:=sc.names.lookup x=ba .local\/sc.names.lookup x=ba .cell
noncomputable def HL (env:Ql)(h:KW)(m:Kd->JU JP)(x:Kd)(u:JP):Prop:=
 (env.kindOf x=ba .local/\m x=ba u)\/((env.kindOf x=ba .cell\/env.kindOf x=ba .free)/\∃c,env.cells.lookup x=ba c/\h.IsCell c (ba u))
structure Cx.Ok (X:Cx):Prop where
 mod:Mod X.K X.mg X.base
 kind:X.env.scope.kind=.function
 glob:X.env.globals=mainGlobals
 blt:X.env.builtins=builtinsNs
 above:X.s₀.heap.objs.size<=X.env.locals
 inj:∀x y c,X.env.cells.lookup x=ba c->X.env.cells.lookup y=ba c->x=y
 has:∀x,(X.env.kindOf x=ba .cell\/X.env.kindOf x=ba .free)->∃c,X.env.cells.lookup x=ba c
 cab:∀x c,X.fn x=true->X.env.cells.lookup x=ba c->X.s₀.heap.objs.size<=c
 hd:X.calm=true->X.A.handled=gV
 frames:X.A.frames=ba X.stack
 stk:X.stack=X.outer\/(X.stack=X.env::X.outer/\X.env.frame=ba X.env.locals)
 exf:∀b∈X.ex,b≠X.env.locals/\∀x c,X.env.cells.lookup x=ba c->c≠b
 bs:∀b o,X.base.get? b=ba o->X.s₀.heap.get? b=ba o/\X.H₀ b=gV
 bsz:X.base.objs.size<=X.s₀.heap.objs.size
 noex:∀b o,X.base.get? b=ba o->b∉X.ex
 exfs:∀b∈X.ex,b∉X.fs
 funs:X.s₀.heap.FunFrames X.base X.outer
 frf:∀b∈X.fs,X.H₀ b=gV
structure Inv (X:Cx)(pins:JM (JX×LF))(σ:JM (JU V))(H:Hp)(s:JS):Prop where
 ok:X.Ok
 os:s.os=X.s₀.os
 bare:OG s.gens
 base:Un X.fs X.ex X.H₀ H X.s₀.heap s.heap
 loc:∃m,s.heap.Ns X.env.locals m/\∀(i:JW) (x:Kd) (v:V),X.N[i]?=ba x->σ[i]?=ba (ba v)->HA X.env.scope x->∃u,RelV v u/\HL X.env s.heap m x u
 cell:∀x c,X.env.cells.lookup x=ba c->∃v,s.heap.IsCell c v
 free:H X.env.locals=gV
 freeC:∀x c,X.env.cells.lookup x=ba c->H c=gV
 pin:∀p∈X.pn++pins,s.heap.get? p.1=ba p.2/\H p.1=gV/\p.1≠X.env.locals/\p.1∉X.fs/\∀v,p.2.data≠.cell v
 hok:HOk X.prog X.w H s.heap
 len:σ.length=X.N.length
section
variable{X:Cx}{pins:JM (JX×LF)}{σ:JM (JU V)}{H H':Hp}{s:JS}{h':KW}
theorem Cx.Ok.nofr (ok:X.Ok){b:JX}{o:LF}(e:X.base.get? b=ba o):b∉X.fs:=λhb=>by
 have:=(ok.funs.mem hb).1;rw[e]at this; cases this
theorem Inv.bs (I:Inv X pins σ H s):∀b o,X.base.get? b=ba o->s.heap.get? b=ba o/\H b=gV:=λb o e=>
 ⟨I.base.keep b o (I.ok.bs b o e).1 (I.ok.bs b o e).2 (I.ok.nofr e) (I.ok.noex b o e),I.base.free b o (I.ok.bs b o e).1 (I.ok.bs b o e).2 (I.ok.noex b o e)⟩
theorem Inv.bk (I:Inv X pins σ H s):∀b o,X.base.get? b=ba o->s.heap.get? b=ba o:=λb o e=>(I.bs b o e).1
theorem Inv.mod (I:Inv X pins σ H s):Mod X.K X.mg X.base:=I.ok.mod
theorem Inv.kIn (I:Inv X pins σ H s):X.K.In s.heap:=I.ok.mod.kin.keeps I.bk
theorem Inv.lt (I:Inv X pins σ H s):X.env.locals < s.heap.objs.size:=let ⟨_,hn,_⟩:=I.loc; hn.lt
theorem Inv.sz (I:Inv X pins σ H s):X.s₀.heap.objs.size<=s.heap.objs.size:=J3 I.ok.above (LU I.lt)
theorem Inv.nofs (I:Inv X pins σ H s){a:JX}(h:s.heap.objs.size<=a):a∉X.fs:=λhb=>by
 obtain⟨_,o,ho,_⟩:=I.ok.funs.mem hb;exact absurd (Kq (Kf ho) (J3 I.sz h)) (Ly _)
theorem Inv.cne (I:Inv X pins σ H s):∀x c,X.env.cells.lookup x=ba c->c≠X.env.locals:=λx c e z=>by
 obtain⟨v,o,ho,hd⟩:=I.cell x c e;obtain⟨m,⟨o',es,ep,ho',hd',_⟩,_⟩:=I.loc;rw[z,ho']at ho; cases ho; rw[hd']at hd; cases hd
theorem Inv.funs (I:Inv X pins σ H s):s.heap.FunFrames X.base X.outer:=by
 have all:∀(l:JM Ql),(∀b∈sI l,b∈X.fs)->X.s₀.heap.FunFrames X.base l->s.heap.FunFrames X.base l:=by
  intro l
  induction l with
  | nil=>intro _ _; trivial
  | cons env r ih=>
   intro hs hl;obtain⟨hk,⟨L,o,hf,hn,ho,hd⟩,hr⟩:=hl;have hL:L∈X.fs:=hs L (by unfold sI; rw[Nj,hf]; exact Lo)
   obtain⟨sl,e⟩:=I.base.slot L o ho (I.ok.frf L hL) hL λz=>I.ok.exfs L z hL
   exact⟨hk,⟨L,_,hf,hn,e,hd⟩,ih (λb hb=>hs b (by unfold sI; rw[Nj,hf]; exact Lm _ hb)) hr⟩
 exact all X.outer (λ_ hb=>hb) I.ok.funs
theorem Inv.stack (I:Inv X pins σ H s):s.heap.FunFrames X.base X.stack:=by
 rcases I.ok.stk with e|⟨e,hf⟩
 ·rw[e]; exact I.funs
 ·rw[e];obtain⟨m,hn,_⟩:=I.loc;refine .cons (by rw[I.ok.kind]; decide) hf hn ?_ I.funs
  exact Heap.get?_none_of_le (J3 I.ok.bsz I.ok.above)
theorem Inv.stkSub (I:Inv X pins σ H s):∀b∈sI X.stack,b∈X.env.locals::X.fs:=λb hb=>by
 rcases I.ok.stk with e|⟨e,hf⟩
 ·rw[e]at hb; exact Lm _ hb
 ·rw[e]at hb;unfold sI at hb;rw[Nj,hf]at hb;exact hb
theorem Inv.stkFree (I:Inv X pins σ H s):∀b∈sI X.stack,H b=gV:=λb hb=>by
 rcases Kv.mp (I.stkSub b hb)with e|hb
 ·rw[e]; exact I.free
 ·obtain⟨_,o,ho,_⟩:=I.ok.funs.mem hb;exact I.base.free b o ho (I.ok.frf b hb) λz=>I.ok.exfs b z hb
theorem Inv.step {g':Ku Px}{t':JW}{d':Tk}{ch:JM JX}(I:Inv X pins σ H s)
  (hch:∀b∈ch,(b∈X.ex\/X.s₀.heap.objs.size<=b)/\b≠X.env.locals/\(∀x c,X.env.cells.lookup x=ba c->c≠b)/\∀p∈X.pn++pins,p.1≠b)
  (keep:∀b o,b≠X.env.locals->b∉X.fs->b∉ch->s.heap.get? b=ba o->H b=gV->h'.get? b=ba o)
  (slot:∀b o,b≠X.env.locals->b∈X.fs->b∉ch->s.heap.get? b=ba o->H b=gV->∃sl,h'.get? b=ba { o with slots:=sl }) (free:∀b o,b∉ch->s.heap.get? b=ba o->H b=gV->H' b=gV)
  (there:∀b o,b∉ch->s.heap.get? b=ba o->∃o',h'.get? b=ba o')
  (tups:∀b xs,H b=ba (.tup xs)->H' b=ba (.tup xs)) (frzs:∀b o u,H b=ba (.frz o u)->H' b=ba (.frz o u)) (tbls:∀b ps,H b=ba (.tbl ps)->∃more,H' b=ba (.tbl (ps++more)))
  (ns:∀m,s.heap.Ns X.env.locals m->h'.Ns X.env.locals m) (hok:HOk X.prog X.w H' h') (hg:OG g') :
  Inv X pins σ H' { s with heap:=h',gens:=g',drawn:=d',toks:=t' }:=by
 have neL:∀b o,X.s₀.heap.get? b=ba o->b≠X.env.locals:=λb o e=>Kk (Kq (Kf e) I.ok.above)
 have neC:∀b o,X.s₀.heap.get? b=ba o->b∉X.ex->b∉ch:=λb o e hx hb=>by
  rcases(hch b hb).1 with z|z
  ·exact hx z
  ·exact absurd (Kq (Kf e) z) (Ly _)
 have cellK:∀x c,X.env.cells.lookup x=ba c->∀v,s.heap.IsCell c v->h'.IsCell c v:=λx c e v ⟨o,ho,hd⟩=>by
  have nch:c∉ch:=λz=>(hch c z).2.2.1 x c e rfl
  by_cases hc:c∈X.fs
  ·obtain⟨sl,q⟩:=slot c o (I.cne x c e) hc nch ho (I.freeC x c e);exact⟨_,q,hd⟩
  ·exact⟨o,keep c o (I.cne x c e) hc nch ho (I.freeC x c e),hd⟩
 refine⟨I.ok,I.os,hg,⟨λb o e n hb hx=>?_,λb o e n hb hx=>?_,λb o e n hx=>?_,λb o e hx=>?_,λb xs e=>tups b xs (I.base.tups b xs e),λb o xs e=>frzs b o xs (I.base.frzs b o xs e),λb ps e=>?_⟩,?_,λx c e=>?_,?_,λx c e=>?_,λp hp=>?_,hok,I.len⟩
 ·exact keep b o (neL b o e) hb (neC b o e hx) (I.base.keep b o e n hb hx) (I.base.free b o e n hx)
 ·obtain⟨sl,e1⟩:=I.base.slot b o e n hb hx;obtain⟨sl',e2⟩:=slot b _ (neL b o e) hb (neC b o e hx) e1 (I.base.free b o e n hx);exact⟨sl',e2⟩
 ·obtain⟨o',e1⟩:=I.base.there b o e hx;exact free b o' (neC b o e hx) e1 (I.base.free b o e n hx)
 ·obtain⟨o',e1⟩:=I.base.there b o e hx;exact there b o' (neC b o e hx) e1
 ·obtain⟨m1,e1⟩:=I.base.tbls b ps e;obtain⟨m2,e2⟩:=tbls b _ e1;exact⟨m1++m2,by rw[e2,P6]⟩
 ·obtain⟨m,hn,hl⟩:=I.loc;refine⟨m,ns m hn,λi x v e1 e2 e3=>?_⟩
  obtain⟨u,r,l⟩:=hl i x v e1 e2 e3;refine⟨u,r,?_⟩;rcases l with l|⟨k,c,e,z⟩
  ·exact .inl l
  ·exact .inr ⟨k,c,e,cellK x c e _ z⟩
 ·obtain⟨v,z⟩:=I.cell x c e;exact⟨v,cellK x c e v z⟩
 ·obtain⟨m,⟨o,_,_,ho,_⟩,_⟩:=I.loc;exact free _ o (λz=>(hch _ z).2.1 rfl) ho I.free
 ·obtain⟨v,o,ho,hd⟩:=I.cell x c e;exact free c o (λz=>(hch c z).2.2.1 x c e rfl) ho (I.freeC x c e)
 ·obtain⟨e,n,ne,nf,d⟩:=I.pin p hp;have nch:p.1∉ch:=λz=>(hch p.1 z).2.2.2 p hp rfl
  exact⟨keep p.1 p.2 ne nf nch e n,free p.1 p.2 nch e n,ne,nf,d⟩
theorem Inv.un {t':JW}(I:Inv X pins σ H s)(u:Un X.fs [] H H' s.heap h')(hok:HOk X.prog X.w H' h'):Inv X pins σ H' { s with heap:=h',toks:=t' }:=by
 obtain⟨m,⟨o,es,ep,ho,r⟩,_⟩:=id I.loc;obtain⟨sl,hL⟩:=u.any ho I.free (by simp)
 exact I.step (g':=s.gens) (d':=s.drawn) (ch:=[]) (λ_ z=>nomatch z) (λb o _ hb _ e n=>u.keep b o e n hb (by simp)) (λb o _ hb _ e n=>u.slot b o e n hb (by simp)) (λb o _ e n=>u.free b o e n (by simp)) (λb o _ e=>u.there b o e (by simp)) u.tups u.frzs u.tbls (λm' hm=>by
  obtain⟨o',es',ep',ho',r'⟩:=hm;rw[ho]at ho'; cases ho'
  exact⟨_,es',ep',hL,r'⟩) hok I.bare
theorem Inv.call {g':Ku Px}{t':JW}{d':Tk}{ch:JM JX}(I:Inv X pins σ H s)(u:Un (sI X.stack) ch H H' s.heap h')(hok:HOk X.prog X.w H' h')(hg:OG g')
  (hch:∀b∈ch,(b∈X.ex\/X.s₀.heap.objs.size<=b)/\b≠X.env.locals/\(∀x c,X.env.cells.lookup x=ba c->c≠b)/\∀p∈X.pn++pins,p.1≠b) :
  Inv X pins σ H' { s with heap:=h',gens:=g',drawn:=d',toks:=t' }:=by
 obtain⟨m,⟨o,es,ep,ho,r⟩,_⟩:=id I.loc;obtain⟨sl,hL⟩:=u.any ho I.free λz=>(hch _ z).2.1 rfl
 exact I.step (ch:=ch) hch (λb o hL hb hc e n=>u.keep b o e n (λz=>(Kv.mp (I.stkSub b z)).elim hL hb) hc) (λb o _ _ hc e n=>u.any e n hc) (λb o hc e n=>u.free b o e n hc) (λb o hc e=>u.there b o e hc) u.tups u.frzs u.tbls (λm' hm=>by
  obtain⟨o',es',ep',ho',r'⟩:=hm;rw[ho]at ho'; cases ho'
  exact⟨_,es',ep',hL,r'⟩) hok hg
theorem Inv.turned {t':JW}{it:JX}(I:Inv X pins σ H s)(k:∀b o,b≠it->s.heap.get? b=ba o->h'.get? b=ba o)(hn:H it=gV)(hL:it≠X.env.locals)
  (h1:it∈X.ex\/X.s₀.heap.objs.size<=it) (h2:∀x c,X.env.cells.lookup x=ba c->c≠it) (h3:∀p∈X.pn++pins,p.1≠it):Inv X pins σ H { s with heap:=h',toks:=t' }:=by
 have nit:∀b u,H b=ba u->b≠it:=λb u e z=>by rw[z,hn]at e; cases e
 refine I.step (g':=s.gens) (d':=s.drawn) (ch:=[it]) (λb hb=>?_) (λb o _ _ hc e _=>k b o (λz=>hc (by simp[z])) e) (λb o _ _ hc e _=>⟨o.slots,k b o (λz=>hc (by simp[z])) e⟩) (λ_ _ _ _ n=>n)
  (λb o hc e=>⟨o,k b o (λz=>hc (by simp[z])) e⟩) (λ_ _ e=>e) (λ_ _ _ e=>e) (λb ps e=>⟨#[],by rw[e]; simp⟩) (λm hm=>?_) (λb u e=>?_) I.bare
 ·have e:b=it:=by simpa using hb
  subst e;exact⟨h1,hL,h2,h3⟩
 ·obtain⟨o,es,ep,ho,r⟩:=hm;exact⟨o,es,ep,k _ o (Ne.symm hL) ho,r⟩
 ·refine(I.hok b u e).stay (λc v hc q=>k c v ?_ q) (λ_ q=>q) λ_ _ q=>q
  rcases hc with z|z
  ·rw[z]; exact nit b u e
  ·exact nit c _ z
theorem Inv.tok (I:Inv X pins σ H s)(t:JW):Inv X pins σ H { s with toks:=t }:=I.un (h':=s.heap) (t':=t) Un.refl I.hok
theorem Inv.kept {t':JW}(I:Inv X pins σ H s)(k:∀b u,s.heap.get? b=ba u->h'.get? b=ba u):Inv X pins σ H { s with heap:=h',toks:=t' }:=I.un (Un.kept k) (I.hok.kept k)
theorem Inv.laid {a:JX}{o:HO}{t':JW}(I:Inv X pins σ H s)(k:∀b u,s.heap.get? b=ba u->h'.get? b=ba u)(hp:s.heap.objs.size<=a)(new:ObjOk X.prog X.w (cj H a o) h' a o) :
  Inv X pins σ (cj H a o) { s with heap:=h',toks:=t' }:=I.un (Un.laid k hp (I.hok.fresh hp)) (I.hok.laid k hp new)
theorem Inv.write {x e:JX}{o:HO}{t':JW}(I:Inv X pins σ H s)(mu:FP (H x))(he:e=x\/H e=ba (.own x))(k:∀b u,b≠e->s.heap.get? b=ba u->h'.get? b=ba u)(heo:∃u,h'.get? e=ba u)
  (new:ObjOk X.prog X.w (cj H x o) h' x o):Inv X pins σ (cj H x o) { s with heap:=h',toks:=t' }:=I.un (Un.write mu he k heo) (I.hok.write mu he k heo new)
theorem Inv.pins_of {pins':JM (JX×LF)}(I:Inv X pins σ H s)(h:∀p∈pins',s.heap.get? p.1=ba p.2/\H p.1=gV/\p.1≠X.env.locals/\p.1∉X.fs/\∀v,p.2.data≠.cell v):Inv X pins' σ H s:=
 ⟨I.ok,I.os,I.bare,I.base,I.loc,I.cell,I.free,I.freeC,λp hp=>(KF.mp hp).elim (λz=>I.pin p (L6 _ z)) (h p),I.hok,I.len⟩
theorem qp {N:JM Kd}(hN:N.Nodup){i j:JW}{x:Kd}(a:N[i]?=ba x)(b:N[j]?=ba x):i=j:=by
 obtain⟨h1,e1⟩:=J1.mp a;obtain⟨h2,e2⟩:=J1.mp b;exact(NP hN).mp (e1.trans e2.symm)
theorem vJ {M:Tl}{A:KH}{E:JP->JS->Prop}{i:JW}{x:Kd}{v:V}{u:JP}{Q:Tn->JS->Prop}(I:Inv X pins σ H s)(hN:X.N.Nodup)(hi:X.N[i]?=ba x)(hx:AU X.env.scope x)(r:RelV v u)
  (h:∀s',Inv X pins (σ.set i (ba v)) H s'->(∃a,LJ a s.heap s'.heap/\(a=X.env.locals\/X.env.cells.lookup x=ba a))->Q () s') (hf:X.fn x=true\/X.env.scope.names.lookup x=ba .local):wpAny M A (storeName X.env x u) Q E s:=by
 obtain⟨m,hn,hl⟩:=id I.loc;have hcls:(X.env.scope.kind==.class||(X.env.scope.kind==.module&&X.env.locals != X.env.globals))=false:=by rw[I.ok.kind]; rfl
 have hiσ:i < σ.length:=by rw[I.len]; exact(J1.mp hi).1
 have cne:=I.cne;have tracked:∀ {a:JX} {h':KW},(∃o,s.heap.get? a=ba o/\H a=gV)->LJ a s.heap h'->HOk X.prog X.w H h':=λ{a h'} ha hs b ob e=>by
  obtain⟨_,_,hfree⟩:=ha;refine(I.hok b ob e).stay (λc w' hc q=>(hs.2 c ?_).trans q) (λ_ q=>q) λ_ _ q=>q
  rintro rfl;rcases hc with rfl|hc
  ·rw[hfree]at e; cases e
  ·rw[hfree]at hc; cases hc
 rcases hx with hk|hk
 ·refine wpAny_storeName_local hk hn (λh' hn' hs=>?_) hcls
  obtain⟨oL,_,_,hoL,_⟩:=id hn;refine h _ ⟨I.ok,I.os,I.bare,⟨λb o e n hb hx=>?_,λb o e n hb hx=>?_,I.base.free,λb o e hx=>?_,I.base.tups,I.base.frzs,I.base.tbls⟩,⟨_,hn',λj y v' e1 e2 e3=>?_⟩,λy c e=>?_,I.free,I.freeC,λp hp=>?_,tracked ⟨oL,hoL,I.free⟩ hs,by simpa using I.len⟩ ⟨_,hs,.inl rfl⟩
  ·exact(hs.2 b (Kk (Kq (Kf e) I.ok.above))).trans (I.base.keep b o e n hb hx)
  ·obtain⟨sl,e1⟩:=I.base.slot b o e n hb hx;exact⟨sl,(hs.2 b (Kk (Kq (Kf e) I.ok.above))).trans e1⟩
  ·obtain⟨o',e1⟩:=I.base.there b o e hx;exact⟨o',(hs.2 b (Kk (Kq (Kf e) I.ok.above))).trans e1⟩
  ·by_cases hj:j=i
   ·subst hj;rw[hi]at e1; cases e1
    rw[O2 hiσ]at e2;cases e2;exact⟨u,r,.inl ⟨hk,by simp⟩⟩
   ·rw[Py (Ne.symm hj)]at e2;obtain⟨u',r',q⟩:=hl j y v' e1 e2 e3;refine⟨u',r',?_⟩;rcases q with⟨k,e⟩|⟨k,c,e,z⟩
    ·refine .inl ⟨k,?_⟩;have:y≠x:=λe=>hj (qp hN e1 (e ▸ hi))
     simp[this,e]
    ·exact .inr ⟨k,c,e,z.sameBut hs (cne y c e)⟩
  ·obtain⟨w',z⟩:=I.cell y c e;exact⟨w',z.sameBut hs (cne y c e)⟩
  ·obtain⟨e,n,ne,nf,d⟩:=I.pin p hp;exact⟨(hs.2 p.1 ne).trans e,n,ne,nf,d⟩
 ·have hfn:X.fn x=true:=by
   rcases hf with z|z
   ·exact z
   ·rw[z]at hk; cases hk
  obtain⟨c,hc⟩:=I.ok.has x (.inl hk);obtain⟨w',z⟩:=I.cell x c hc;refine wpAny_storeName_cell I.ok.kind hk hc z (λh' hc' hs=>?_)
  obtain⟨oc,hoc,hocd⟩:=id z;refine h { s with heap:=h' } ⟨I.ok,I.os,I.bare,⟨λb o e n hb hx=>?_,λb o e n hb hx=>?_,I.base.free,λb o e hx=>?_,I.base.tups,I.base.frzs,I.base.tbls⟩,⟨m,hn.sameBut hs (Ne.symm (cne x c hc)),λj y v' e1 e2 e3=>?_⟩,λy c' e=>?_,I.free,I.freeC,λp hp=>?_,tracked ⟨oc,hoc,I.freeC x c hc⟩ hs,by simpa using I.len⟩ ⟨c,hs,.inr hc⟩
  ·exact(hs.2 b (Kk (Kq (Kf e) (I.ok.cab x c hfn hc)))).trans (I.base.keep b o e n hb hx)
  ·obtain⟨sl,e1⟩:=I.base.slot b o e n hb hx;exact⟨sl,(hs.2 b (Kk (Kq (Kf e) (I.ok.cab x c hfn hc)))).trans e1⟩
  ·obtain⟨o',e1⟩:=I.base.there b o e hx;exact⟨o',(hs.2 b (Kk (Kq (Kf e) (I.ok.cab x c hfn hc)))).trans e1⟩
  ·by_cases hj:j=i
   ·subst hj;rw[hi]at e1; cases e1
    rw[O2 hiσ]at e2;cases e2;exact⟨u,r,.inr ⟨.inl hk,c,hc,hc'⟩⟩
   ·rw[Py (Ne.symm hj)]at e2;obtain⟨u',r',q⟩:=hl j y v' e1 e2 e3;refine⟨u',r',?_⟩;rcases q with q|⟨k,c',e,z'⟩
    ·exact .inl q
    ·refine .inr ⟨k,c',e,z'.sameBut hs ?_⟩;rintro rfl;exact hj (qp hN e1 (I.ok.inj _ _ _ e hc ▸ hi))
  ·by_cases hcc:c'=c
   ·subst hcc; exact⟨_,hc'⟩
   ·obtain⟨w2,z2⟩:=I.cell y c' e;exact⟨w2,z2.sameBut hs hcc⟩
  ·obtain⟨e,n,ne,nf,d⟩:=I.pin p hp;refine⟨(hs.2 p.1 ?_).trans e,n,ne,nf,d⟩;intro q;rw[q,hoc]at e;have q':oc=p.2:=Ld e;exact d w' (by rw[<- q']; exact hocd)
theorem iL {M:Tl}{A:KH}{E:JP->JS->Prop}{i:JW}{x:Kd}{v:V}{u:JP}{Q:Tn->JS->Prop}(I:Inv X pins σ H s)(hN:X.N.Nodup)(hi:X.N[i]?=ba x)(hx:AU X.env.scope x)(r:RelV v u)
  (h:∀s',Inv X pins (σ.set i (ba v)) H s'->Q () s') (hf:X.fn x=true\/X.env.scope.names.lookup x=ba .local):wpAny M A (storeName X.env x u) Q E s:=
 vJ I hN hi hx r (λs' I' _=>h s' I') hf
theorem Inv.call' {s':JS}{ch:JM JX}(I:Inv X pins σ H s)(ho:s'.os=s.os)(u:Un (sI X.stack) ch H H' s.heap s'.heap)(hok:HOk X.prog X.w H' s'.heap)(hg:OG s'.gens)
  (hch:∀b∈ch,(b∈X.ex\/X.s₀.heap.objs.size<=b)/\b≠X.env.locals/\(∀x c,X.env.cells.lookup x=ba c->c≠b)/\∀p∈X.pn++pins,p.1≠b):Inv X pins σ H' s':=by
 obtain⟨h',g',d',t',o'⟩:=s';have e:o'=s.os:=ho;subst e;exact I.call (g':=g') (t':=t') (d':=d') u hok hg hch
end
noncomputable abbrev XK:=JP->JU JX->Hp->Prop
noncomputable abbrev St:=JM (JU V)
noncomputable abbrev VK:=V->Hp->Prop
noncomputable abbrev TE:=St->Hp->VK->Prop
noncomputable abbrev TT:=St->Hp->(Kt->Hp->Prop)->Prop
noncomputable abbrev TA:=St->Hp->(JM V->Hp->Prop)->Prop
set_option genInjectivity false in
structure Ends where
 nx:St->Hp->Prop
 rt:VK
 bk:St->Hp->Prop:=λ_ _=>Lq
 ct:St->Hp->Prop:=λ_ _=>Lq
noncomputable abbrev TS:=Ends->St->Hp->Prop
noncomputable def EP (X:Cx)(pins:JM (JX×LF))(σ:St)(Q:VK)(u:JP)(s':JS):Prop:=∃v H',Inv X pins σ H' s'/\RelV v u/\Q v H'
noncomputable def TP (X:Cx)(pins:JM (JX×LF))(σ:St)(Q:Kt->Hp->Prop)(b:Kt)(s':JS):Prop:=∃H',Inv X pins σ H' s'/\Q b H'
noncomputable def AP (X:Cx)(pins:JM (JX×LF))(σ:St)(Q:JM V->Hp->Prop)(us:JM JP)(s':JS):Prop:=∃vs H',Inv X pins σ H' s'/\Vals vs us/\Q vs H'
noncomputable def SP (X:Cx)(pins:JM (JX×LF))(D:Ends)(f:Flow)(s':JS):Prop:=
 match f with
 | .next=>∃σ' H',Inv X pins σ' H' s'/\D.nx σ' H'
 | .brk=>∃σ' H',Inv X pins σ' H' s'/\D.bk σ' H'
 | .cont=>∃σ' H',Inv X pins σ' H' s'/\D.ct σ' H'
 | .ret u=>∃v σ' H',Inv X pins σ' H' s'/\RelV v u/\D.rt v H'
noncomputable def PE (X:Cx)(e:Kn)(t:TE):Prop:=
 ∀(pins:JM (JX×LF)) (s:JS) (σ:St) (H:Hp) (Q:VK),Inv X pins σ H s->t σ H Q->wpAny (model X.prog X.w) X.A (eval e X.env) (EP X pins σ Q) X.xe s
noncomputable def PT (X:Cx)(e:Kn)(t:TT):Prop:=
 ∀(pins:JM (JX×LF)) (s:JS) (σ:St) (H:Hp) (Q:Kt->Hp->Prop),Inv X pins σ H s->t σ H Q->wpAny (model X.prog X.w) X.A (isTrue e X.env (eval e X.env)) (TP X pins σ Q) X.xe s
noncomputable def PW (X:Cx)(e:Kn)(t:TT):Prop:=
 ∀(whole:Sn JP) (pins:JM (JX×LF)) (s:JS) (σ:St) (H:Hp) (Q:Kt->Hp->Prop),Inv X pins σ H s->t σ H Q->wpAny (model X.prog X.w) X.A (isTrue e X.env whole) (TP X pins σ Q) X.xe s
theorem PW.pt {X:Cx}{e:Kn}{t:TT}(h:PW X e t):PT X e t:=h _
noncomputable def PA (X:Cx)(es:JM Kn)(t:TA):Prop:=
 ∀(pos:Mo) (pins:JM (JX×LF)) (s:JS) (σ:St) (H:Hp) (Q:JM V->Hp->Prop),Inv X pins σ H s->t σ H Q->wpAny (model X.prog X.w) X.A (spliced (backTo pos (starEach es X.env))) (AP X pins σ Q) X.xe s
noncomputable def PS (X:Cx)(st:MC)(t:TS):Prop:=
 ∀(pins:JM (JX×LF)) (s:JS) (σ:St) (H:Hp) (D:Ends),Inv X pins σ H s->t D σ H->wpAny (model X.prog X.w) X.A (exec st X.env) (SP X pins D) X.xe s
noncomputable def PSs (X:Cx)(st:JM MC)(t:TS):Prop:=
 ∀(pins:JM (JX×LF)) (s:JS) (σ:St) (H:Hp) (D:Ends),Inv X pins σ H s->t D σ H->wpAny (model X.prog X.w) X.A (execs st X.env) (SP X pins D) X.xe s
theorem b7 {α:Type}{t:Sn α}{Q Q':α->JS->Prop}{M:Tl}{A:KH}{E:JP->JS->Prop}{s:JS}(h:wpAny M A t Q E s)(hQ:∀a s,Q a s->Q' a s):wpAny M A t Q' E s:=LO h hQ λ_ _ x=>x
section
variable{X:Cx}
noncomputable def DC (i:JW):TE:=λσ H Q=>∃v,σ[i]?=ba (ba v)/\Q v H
noncomputable def tC (v:V):TE:=λ_ H Q=>Q v H
theorem xC {i:JW}{x:Kd}{pos:Mo}(hN:X.N[i]?=ba x)(hv:HA X.env.scope x)(hd:(x==("__debug__" : Kd))=false:=by decide)(hcd:(x==("__classdict__" : Kd))=false:=by decide):PE X (.Name x pos) (DC i):=by
 intro pins s σ H Q I h;obtain⟨v,e,h⟩:=h;obtain⟨m,hn,hl⟩:=I.loc;obtain⟨u,r,l⟩:=hl i x v hN e hv;have fin:EP X pins σ Q u s:=⟨v,H,I,r,h⟩;rcases l with⟨hk,hm⟩|⟨hk,c,hc,hcell⟩
 ·exact Ro (wpAny_loadName_local I.ok.kind hk hn hm fin) hd
 ·rcases hk with hk|hk
  ·exact Ro (wpAny_loadName_cell I.ok.kind hk hc hcell fin) hd
  ·exact Ro (wpAny_loadName_free I.ok.kind hk hc hcell fin hcd) hd
theorem xD {i j pos}:PE X (.Constant (.int i) j pos) (tC (.int i)):=λ_ _ _ H _ I h=>wpAny_Constant_int ⟨.int i,H,I.tok _,⟨_,rfl⟩,h⟩
theorem C4 {b j pos}:PE X (.Constant (.bool b) j pos) (tC (.bl b)):=λ_ _ _ H _ I h=>Constant_bool ⟨.bl b,H,I,rfl,h⟩
theorem xE {j pos}:PE X (.Constant .none j pos) (tC .non):=λ_ _ _ H _ I h=>Constant_none ⟨.non,H,I,rfl,h⟩
theorem xF {x j pos}:PE X (.Constant (.str x) j pos) (tC (.str x)):=λ_ _ _ H _ I h=>P7 ⟨.str x,H,I.tok _,⟨_,rfl⟩,h⟩
noncomputable def Gl (X:Cx)(x:Kd):Prop:=X.env.kindOf x=ba .globalImplicit
theorem uh {E:JP->JS->Prop}{pins:JM (JX×LF)}{s:JS}{σ:St}{H:Hp}{x:Kd}{u:JP}{pos:Mo}{Q:JP->JS->Prop}(I:Inv X pins σ H s)(hg:Gl X x)(hm:X.mg x=ba u)(h:Q u s)
  (hd:(x==("__debug__" : Kd))=false:=by decide):wpAny (model X.prog X.w) X.A (eval (.Name x pos) X.env) Q E s:=
 Og I.ok.kind hg (Calls.loadGlobal_global (by rw[I.ok.glob]; exact I.mod.glob.keeps I.bk) hm h) hd
theorem jr {E:JP->JS->Prop}{pins:JM (JX×LF)}{s:JS}{σ:St}{H:Hp}{x:Kd}{u:JP}{pos:Mo}{Q:JP->JS->Prop}(I:Inv X pins σ H s)(hg:Gl X x)(hm:X.mg x=gV)(hv:bootBuiltins x=ba u)(h:Q u s)
  (hn:x≠"__name__":=by decide) (hd:(x==("__debug__" : Kd))=false:=by decide):wpAny (model X.prog X.w) X.A (eval (.Name x pos) X.env) Q E s:=by
 obtain⟨mb,h1,h2⟩:=I.mod.blt;exact Og I.ok.kind hg (Calls.loadGlobal_builtin (by rw[I.ok.glob]; exact I.mod.glob.keeps I.bk) hm (by rw[I.ok.blt]; exact h1.keeps I.bk) ((h2 x hn).trans hv) h) hd
theorem AV {x:Kd}{v:V}{u:JP}{pos:Mo}(hg:Gl X x)(hm:X.mg x=gV)(hv:bootBuiltins x=ba u)(r:RelV v u)(hn:x≠"__name__":=by decide)(hd:(x==("__debug__" : Kd))=false:=by decide):PE X (.Name x pos) (tC v):=
 λ_ _ _ H _ I h=>jr I hg hm hv ⟨v,H,I,r,h⟩ hn hd
variable{a b:Kn}{ta tb:TE}{pos:Mo}
variable{tA tB':TT}{b8:JM Kn}
noncomputable def FQ (t u:TT):TT:=λσ H Q=>t σ H λc H1=>if c=true then u σ H1 Q else Q false H1
noncomputable def Jq (t u:TT):TT:=λσ H Q=>t σ H λc H1=>if c=true then Q true H1 else u σ H1 Q
noncomputable def HM (t:TT):TT:=λσ H Q=>t σ H λc H1=>Q (!c) H1
theorem AW (ha:PT X a tA):PW X (.BoolOp .And [a] pos) tA:=by
 intro wh pins s σ H Q I h;refine isTrue_and (b7 (ha pins s σ H Q I h) λc s1 e=>?_)
 cases c with
 | true=>exact isTrue_and_nil e
 | false=>exact e
theorem DD (ha:PT X a tA):PW X (.BoolOp .Or [a] pos) tA:=by
 intro wh pins s σ H Q I h;refine isTrue_or (b7 (ha pins s σ H Q I h) λc s1 e=>?_)
 cases c with
 | false=>exact isTrue_or_nil e
 | true=>exact e
theorem DE (ha:PT X a tA)(hb:PW X (.BoolOp .And (b::b8) pos) tB'):PW X (.BoolOp .And (a::b::b8) pos) (FQ tA tB'):=by
 intro wh pins s σ H Q I h;refine isTrue_and (b7 (ha pins s σ H _ I h) λc s1 ⟨H1,I1,q1⟩=>?_)
 cases c with
 | true=>exact hb wh pins s1 σ H1 Q I1 q1
 | false=>exact⟨H1,I1,q1⟩
theorem FR (ha:PT X a tA)(hb:PW X (.BoolOp .Or (b::b8) pos) tB'):PW X (.BoolOp .Or (a::b::b8) pos) (Jq tA tB'):=by
 intro wh pins s σ H Q I h;refine isTrue_or (b7 (ha pins s σ H _ I h) λc s1 ⟨H1,I1,q1⟩=>?_)
 cases c with
 | true=>exact⟨H1,I1,q1⟩
 | false=>exact hb wh pins s1 σ H1 Q I1 q1
theorem DF (ha:PT X a tA):PT X (.UnaryOp .Not a pos) (HM tA):=by
 intro pins s σ H Q I h;exact isTrue_not (ha pins s σ H (λc H1=>Q (!c) H1) I h)
noncomputable def FU (ta tb:TE):TE:=λσ H Q=>ta σ H λx H1=>∃c,x=.bl c/\if c=true then tb σ H1 Q else Q (.bl false) H1
noncomputable def HN (ta tb:TE):TE:=λσ H Q=>ta σ H λx H1=>∃c,x=.bl c/\if c=true then Q (.bl true) H1 else tb σ H1 Q
noncomputable def FV (ta:TE):TE:=λσ H Q=>ta σ H λx H1=>∃c,x=.bl c/\Q (.bl (!c)) H1
theorem DG {op}{t:TE}(h:PE X a t):PE X (.BoolOp op [a] pos) t:=λpins s σ H Q I hw=>BoolOp_one (h pins s σ H Q I hw)
theorem DH (ha:PE X a ta)(hb:PE X (.BoolOp .And (b::b8) pos) tb):PE X (.BoolOp .And (a::b::b8) pos) (FU ta tb):=by
 intro pins s σ H Q I h;refine BoolOp_and (b7 (ha pins s σ H _ I h) λv s1 ⟨x,H1,I1,r1,q1⟩=>?_)
 obtain⟨c,rfl,q1⟩:=q1;cases r1;refine Mc ?_;cases c with
 | true=>exact hb pins s1 σ H1 Q I1 q1
 | false=>exact⟨.bl false,H1,I1,rfl,q1⟩
theorem FW (ha:PE X a ta)(hb:PE X (.BoolOp .Or (b::b8) pos) tb):PE X (.BoolOp .Or (a::b::b8) pos) (HN ta tb):=by
 intro pins s σ H Q I h;refine BoolOp_or (b7 (ha pins s σ H _ I h) λv s1 ⟨x,H1,I1,r1,q1⟩=>?_)
 obtain⟨c,rfl,q1⟩:=q1;cases r1;refine Mc ?_;cases c with
 | false=>exact hb pins s1 σ H1 Q I1 q1
 | true=>exact⟨.bl true,H1,I1,rfl,q1⟩
theorem DI (ha:PE X a ta):PE X (.UnaryOp .Not a pos) (FV ta):=by
 intro pins s σ H Q I h;refine UnaryOp_ (b7 (ha pins s σ H _ I h) λv s1 ⟨x,H1,I1,r1,q1⟩=>?_)
 obtain⟨c,rfl,q1⟩:=q1;cases r1;exact not_of (Mc ⟨.bl (!c),H1,I1,rfl,q1⟩)
noncomputable def Jz (t:TT)(ta tb:TE):TE:=λσ H Q=>t σ H λc H1=>if c=true then ta σ H1 Q else tb σ H1 Q
theorem xG {c:Kn}(hc:PT X c tA)(ha:PE X a ta)(hb:PE X b tb):PE X (.IfExp c a b pos) (Jz tA ta tb):=by
 intro pins s σ H Q I h;refine wpAny_IfExp (b7 (hc pins s σ H _ I h) λd s1 ⟨H1,I1,q1⟩=>?_)
 cases d with
 | true=>exact ha pins s1 σ H1 Q I1 q1
 | false=>exact hb pins s1 σ H1 Q I1 q1
end
noncomputable def SqL (K:J2)(H:Hp)(a:JX)(xs:JM V):Prop:=
 Rd H a (.lst xs)\/
  ∃(o:LF) (its:Ku JP) (n:JW),K.lookup a=ba o/\o.cls=.type "list"/\o.dict=gV/\o.data=.seq its n/\its.size<=sizeLine/\Vals xs its.toList
noncomputable def SqT (K:J2)(H:Hp)(a:JX)(xs:JM V):Prop:=
 Rd H a (.tup xs)\/
  ∃(o:LF) (its:Ku JP) (n:JW),K.lookup a=ba o/\o.cls=.type "tuple"/\o.data=.seq its n/\its.size<=sizeLine/\Vals xs its.toList
noncomputable def HP:JP->JU V
 | .none=>ba .non
 | .bool b=>ba (.bl b)
 | .int i _=>ba (.int i)
 | .str x _=>ba (.str x)
 | .bytes b _=>ba (.byt b)
 | .float b _=>ba (.flt b)
 | .ref a=>ba (.ref a)
 | .type n=>ba (.ty n)
 | _=>gV
theorem RelV.abs {x:V}{u:JP}(r:RelV x u):HP u=ba x:=by
 cases x with
 | non=>cases r; rfl
 | bl _=>cases r; rfl
 | int _=>obtain⟨t,rfl⟩:=r; rfl
 | str _=>obtain⟨t,rfl⟩:=r; rfl
 | byt _=>obtain⟨t,rfl⟩:=r; rfl
 | flt _=>obtain⟨t,rfl⟩:=r; rfl
 | ref _=>cases r; rfl
 | ty _=>cases r; rfl
theorem RelV.inj {x y:V}{u:JP}(r:RelV x u)(q:RelV y u):x=y:=Ld (r.abs.symm.trans q.abs)
theorem Vals.inj:∀ {xs ys:JM V} {us:JM JP},Vals xs us->Vals ys us->xs=ys
 | _,_,_,.nil,.nil=>rfl
 | _,_,_,.cons r t,.cons r' t'=>by rw[r.inj r',Vals.inj t t']
section
variable{X:Cx}{pins:JM (JX×LF)}{σ:St}{H:Hp}{s:JS}{a:JX}{xs ys:JM V}
theorem SqL.of {K:J2}(h:H a=ba (.lst xs)):SqL K H a xs:=.inl (.inl h)
theorem SqT.of {K:J2}(h:H a=ba (.tup xs)):SqT K H a xs:=.inl (.inl h)
theorem Inv.list (I:Inv X pins σ H s)(h:SqL X.K H a xs):∃its:JM JP,Vals xs its/\PlainL s.heap a its.toArray/\xs.length<=sizeLine:=by
 rcases h with h|⟨o,its,n,hk,hc,hd,hs,hz,r⟩
 ·obtain⟨z,its,n,r,e⟩:=h.ok I.hok;exact⟨its,r,⟨_,n,e,rfl,rfl,rfl⟩,z⟩
 ·refine⟨its.toList,r,⟨o,n,I.kIn a o hk,hc,hd,by simpa using hs⟩,?_⟩
  have e:=r.length;simp only[Kb]at e;omega
theorem Inv.tuple (I:Inv X pins σ H s)(h:SqT X.K H a xs):∃its:JM JP,Vals xs its/\Qk s.heap a its.toArray/\xs.length<=sizeLine:=by
 rcases h with h|⟨o,its,n,hk,hc,hs,hz,r⟩
 ·obtain⟨z,its,r,p⟩:=h.ok I.hok;exact⟨its,r,p,z⟩
 ·refine⟨its.toList,r,⟨o,I.kIn a o hk,hc,n,by simpa using hs⟩,?_⟩
  have e:=r.length;simp only[Kb]at e;omega
theorem Inv.list_inj (I:Inv X pins σ H s)(h:SqL X.K H a xs)(h':SqL X.K H a ys):xs=ys:=by
 obtain⟨its,r,⟨o,n,e,_,_,d⟩,_⟩:=I.list h;obtain⟨its',r',⟨o',n',e',_,_,d'⟩,_⟩:=I.list h';rw[e]at e'; cases e'
 rw[d]at d';injection d' with d1 _
 have:its=its':=by simpa using congrArg R8 d1
 subst this;exact r.inj r'
theorem Inv.tuple_inj (I:Inv X pins σ H s)(h:SqT X.K H a xs)(h':SqT X.K H a ys):xs=ys:=by
 obtain⟨its,r,⟨o,e,_,n,d⟩,_⟩:=I.tuple h;obtain⟨its',r',⟨o',e',_,n',d'⟩,_⟩:=I.tuple h';rw[e]at e'; cases e'
 rw[d]at d';injection d' with d1 _
 have:its=its':=by simpa using congrArg R8 d1
 subst this;exact r.inj r'
end
noncomputable abbrev Cx.wish (X:Cx)(E:JP->JS->Prop):Cx:={ X with xe:=E }
noncomputable abbrev Cx.nox (X:Cx):Cx:=X.wish λ_ _=>Lq
theorem Cx.Ok.wish {X:Cx}(ok:X.Ok)(E:JP->JS->Prop):(X.wish E).Ok:=
 ⟨ok.mod,ok.kind,ok.glob,ok.blt,ok.above,ok.inj,ok.has,ok.cab,ok.hd,ok.frames,ok.stk,ok.exf,ok.bs,ok.bsz,ok.noex,ok.exfs,ok.funs,ok.frf⟩
theorem Cx.Ok.unwish {X:Cx}{E:JP->JS->Prop}(ok:(X.wish E).Ok):X.Ok:=
 ⟨ok.mod,ok.kind,ok.glob,ok.blt,ok.above,ok.inj,ok.has,ok.cab,ok.hd,ok.frames,ok.stk,ok.exf,ok.bs,ok.bsz,ok.noex,ok.exfs,ok.funs,ok.frf⟩
section
variable{X:Cx}{pins:JM (JX×LF)}{σ:St}{H:Hp}{s:JS}{E:JP->JS->Prop}
theorem Inv.wish (I:Inv X pins σ H s)(E:JP->JS->Prop):Inv (X.wish E) pins σ H s:=⟨I.ok.wish E,I.os,I.bare,I.base,I.loc,I.cell,I.free,I.freeC,I.pin,I.hok,I.len⟩
theorem Inv.unwish (I:Inv (X.wish E) pins σ H s):Inv X pins σ H s:=⟨I.ok.unwish,I.os,I.bare,I.base,I.loc,I.cell,I.free,I.freeC,I.pin,I.hok,I.len⟩
theorem SP.unwish {D:Ends}{f:Flow}{s':JS}(h:SP (X.wish E) pins D f s'):SP X pins D f s':=by
 cases f with
 | next=>obtain⟨σ',H',I,q⟩:=h; exact⟨σ',H',I.unwish,q⟩
 | brk=>obtain⟨σ',H',I,q⟩:=h; exact⟨σ',H',I.unwish,q⟩
 | cont=>obtain⟨σ',H',I,q⟩:=h; exact⟨σ',H',I.unwish,q⟩
 | ret u=>obtain⟨v,σ',H',I,r,q⟩:=h; exact⟨v,σ',H',I.unwish,r,q⟩
theorem PSs.nox {st:JM MC}{t:TS}(h:PSs X.nox st t):PSs X st t:=λpins s σ H D I hw=>
 LO (h pins s σ H D (I.wish _) hw) (λ_ _ q=>q.unwish) λ_ _ z=>Lq.elim z
end
section
variable{X:Cx}{st:MC}{b8:JM MC}{t u:TS}{e:Kn}{te:TE}{pos:Mo}
noncomputable def xH:TS:=λD σ H=>D.nx σ H
noncomputable def HQ (t u:TS):TS:=λD σ H=>t { D with nx:=u D } σ H
theorem AX:PSs X [] xH:=λ_ _ σ H _ I h=>Pb ⟨σ,H,I,h⟩
theorem xI (h1:PS X st t)(h2:PSs X b8 u):PSs X (st::b8) (HQ t u):=by
 intro pins s σ H D I h;refine wpAny_execs_cons (b7 (h1 pins s σ H { D with nx:=u D } I h) λf s1 q=>?_)
 cases f with
 | next=>
  obtain⟨σ',H',I',q⟩:=q;exact h2 pins s1 σ' H' D I' q
 | ret v=>exact q
 | brk=>exact q
 | cont=>exact q
noncomputable def DJ:TS:=λD σ H=>D.bk σ H
noncomputable def FX:TS:=λD σ H=>D.ct σ H
theorem AY:PS X (.Pass pos) xH:=λ_ _ σ H _ I h=>wpAny_Pass ⟨σ,H,I,h⟩
theorem xJ:PS X (.Break pos) DJ:=λ_ _ σ H _ I h=>wpAny_Break ⟨σ,H,I,h⟩
theorem qr:PS X (.Continue pos) FX:=λ_ _ σ H _ I h=>wpAny_Continue ⟨σ,H,I,h⟩
theorem Inv.quiet {pins:JM (JX×LF)}{σ:St}{H:Hp}{s:JS}(I:Inv X pins σ H s):interactive X.env=false:=by simp[interactive,I.ok.kind]
theorem DK {x j pos pos'}:PS X (.Expr (.Constant (.str x) j pos) pos') xH:=λ_ s σ H _ I h=>wpAny_Expr (P7 (show SP X _ _ .next { s with toks:=s.toks+1 } from⟨σ,H,I.tok _,h⟩)) I.quiet
noncomputable def FY (te:TE):TS:=λD σ H=>te σ H λ_ H1=>D.nx σ H1
theorem AZ (he:PE X e te)(hs:swapsWith e gV pos.line X.env=pure false:=by rfl):PS X (.Expr e pos) (FY te):=by
 intro pins s σ H D I h;exact wpAny_Expr_any (b7 (he pins s σ H _ I h) λv s1 ⟨x,H1,I1,r1,q1⟩=>⟨σ,H1,I1,q1⟩) I.quiet hs
noncomputable def HR (te:TE):TS:=λD σ H=>te σ H D.rt
theorem DL (he:PE X e te):PS X (.Return (ba e) pos) (HR te):=by
 intro pins s σ H D I h;exact wpAny_Return_some (b7 (he pins s σ H _ I h) λv s1 ⟨x,H1,I1,r1,q1⟩=>⟨x,σ,H1,I1,r1,q1⟩)
noncomputable def FZ:TS:=λD _ H=>D.rt .non H
theorem A6:PS X (.Return gV pos) FZ:=λ_ _ σ H _ I h=>wpAny_Return_none ⟨.non,σ,H,I,rfl,h⟩
noncomputable def HS (c:TT)(t u:TS):TS:=λD σ H=>c σ H λb H1=>if b=true then t D σ H1 else u D σ H1
theorem F0 {c:Kn}{a b:JM MC}{tc:TT}(hc:PT X c tc)(ha:PSs X a t)(hb:PSs X b u):PS X (.If c a b pos) (HS tc t u):=by
 intro pins s σ H D I h;refine wpAny_If (b7 (hc pins s σ H _ I h) λd s1 ⟨H1,I1,q1⟩=>?_)
 cases d with
 | true=>exact ha pins s1 σ H1 D I1 q1
 | false=>exact hb pins s1 σ H1 D I1 q1
end
noncomputable abbrev TG:=V->St->Hp->(St->Hp->Prop)->Prop
noncomputable abbrev DM:=JM V->St->Hp->(St->Hp->Prop)->Prop
noncomputable def PG (X:Cx)(target:Kn)(t:TG):Prop:=
 ∀(pins:JM (JX×LF)) (s:JS) (σ:St) (H:Hp) (v:V) (u:JP) (Q:St->Hp->Prop),Inv X pins σ H s->RelV v u->t v σ H Q->
  wpAny (model X.prog X.w) X.A (assign target X.env u) (λ_ s'=>∃σ' H',Inv X pins σ' H' s'/\Q σ' H') X.xe s
noncomputable def F1 (X:Cx)(ts:JM Kn)(t:DM):Prop:=
 ∀(pins:JM (JX×LF)) (s:JS) (σ:St) (H:Hp) (vs:JM V) (us:JM JP) (Q:St->Hp->Prop),Inv X pins σ H s->Vals vs us->t vs σ H Q->
  wpAny (model X.prog X.w) X.A (assignInOrder ((assignEach ts X.env).map (·.2)) us) (λ_ s'=>∃σ' H',Inv X pins σ' H' s'/\Q σ' H') X.xe s
noncomputable abbrev DN:=V->V->V->Hp->(Hp->Prop)->Prop
noncomputable def DO (X:Cx)(t:DN):Prop:=
 ∀(pins:JM (JX×LF)) (s:JS) (σ:St) (H:Hp) (o i v:V) (ov iv u:JP) (Q:Hp->Prop),Inv X pins σ H s->RelV o ov->RelV i iv->RelV v u->t o i v H Q->
  wpAny (model X.prog X.w) X.A (setItem ov iv u) (λ_ s'=>∃H',Inv X pins σ H' s'/\Q H') X.xe s
section
variable{X:Cx}{pos:Mo}
noncomputable def F2 (i:JW):TG:=λv σ H Q=>Q (σ.set i (ba v)) H
theorem uj {i:JW}{x:Kd}(hN:X.N.Nodup)(hi:X.N[i]?=ba x)(hx:AU X.env.scope x)(hf:X.fn x=true\/X.env.scope.names.lookup x=ba .local):PG X (.Name x pos) (F2 i):=by
 intro pins s σ H v u Q I r h;exact Qm (iL I hN hi hx r (λs' I'=>⟨_,H,I',h⟩) hf)
noncomputable def HU:DM:=λvs σ H Q=>vs=[]/\Q σ H
noncomputable def F3 (t:TG)(u:DM):DM:=λvs σ H Q=>∃v r,vs=v::r/\t v σ H λσ' H'=>u r σ' H' Q
theorem A7:F1 X [] HU:=by
 intro pins s σ H vs us Q I r h;obtain⟨e,h⟩:=h;subst e;cases r;exact Qn ⟨σ,H,I,h⟩
theorem xK {e:Kn}{es:JM Kn}{t:TG}{u:DM}(h1:PG X e t)(h2:F1 X es u)
  (hs:(assignEach (e::es) X.env).map (·.2)=assign e X.env::(assignEach es X.env).map (·.2):=by rfl):F1 X (e::es) (F3 t u):=by
 intro pins s σ H vs us Q I r h;obtain⟨v,vr,e1,h⟩:=h;subst e1;cases r with
 | cons r rr=>
  rw[hs];refine Oh (b7 (h1 pins s σ H _ _ _ I r h) λ_ s1 ⟨σ1,H1,I1,q1⟩=>?_)
  exact h2 pins s1 σ1 H1 _ _ Q I1 rr q1
noncomputable def HV (K:J2)(n:JW)(t:DM):TG:=λv σ H Q=>∃a xs,v=.ref a/\SqT K H a xs/\xs.length=n/\t xs σ H Q
theorem DP {es:JM Kn}{k:JW}{t:DM}{n:JW}(hc:X.calm=true)(h:F1 X es t)
  (hn:(assignEach es X.env).length=n:=by rfl) (hst:(assignEach es X.env).findIdx? (·.1)=gV:=by rfl):PG X (.Tuple es k pos) (HV X.K n t):=by
 intro pins s σ H v u Q I r hw;obtain⟨a,xs,e1,hq,hl,hw⟩:=hw;subst e1;cases r;obtain⟨its,rv,ht,hz⟩:=I.tuple hq;refine assign_Tuple_tuple (I.ok.hd hc) ht (by simp[hn,<- hl,rv.length]) hst λh' hx=>?_
 have I1:Inv X pins σ H { s with heap:=h' }:=I.kept (t':=s.toks) λb o e=>hx b o (Kk (Kf e)) e
 exact h pins _ σ H xs _ Q I1 (by simpa using rv) hw
noncomputable def HW (to ti:TE)(t:DN):TG:=λv σ H Q=>to σ H λo H1=>ti σ H1 λi H2=>t o i v H2 λH3=>Q σ H3
theorem DQ {o i:Kn}{to ti:TE}{t:DN}(ho:PE X o to)(hi:PE X i ti)(hs:DO X t)
  (ha:∀v,assign (.Subscript o i pos) X.env v=(do
   let ov <- holding [v] (eval o X.env)
   let iv <- holding [v,ov] (eval i X.env)
   standAt pos
   holding [v,ov,iv] (setItem ov iv v)
   release [v,ov,iv] []):=by intro _; rfl):PG X (.Subscript o i pos) (HW to ti t):=by
 intro pins s σ H v u Q I r h;rw[ha];refine JN (K8 (b7 (ho pins s σ H _ I h) λov s1 ⟨x,H1,I1,r1,q1⟩=>?_))
 refine JN (K8 (b7 (hi pins s1 σ H1 _ I1 q1) λiv s2 ⟨y,H2,I2,r2,q2⟩=>?_))
 refine JN (NT (JN (K8 (b7 (hs pins s2 σ H2 x y v ov iv u _ I2 r1 r2 r q2) λ_ s3 ⟨H3,I3,q3⟩=>?_))))
 exact wpAny_release ⟨σ,H3,I3,q3⟩
noncomputable def HX (te:TE)(g:TG):TS:=λD σ H=>te σ H λx H1=>g x σ H1 D.nx
theorem DR {tg e:Kn}{te:TE}{g:TG}(he:PE X e te)(hg:PG X tg g)(hs:swapsWithSole [tg] e pos.line X.env=pure false:=by rfl)(hw:swappedStores [tg] e X.env=pure gV:=by rfl)
  (h1:(assignEach [tg] X.env).map (·.2)=[assign tg X.env]:=by rfl):PS X (.Assign [tg] e pos) (HX te g):=by
 intro pins s σ H D I h;refine wpAny_Assign_stores (b7 (he pins s σ H _ I h) λv s1 ⟨x,H1,I1,r1,q1⟩=>?_) hs hw
 rw[h1];exact b7 (hg pins s1 σ H1 x v _ I1 r1 q1) λ_ s2 q=>q
noncomputable def HY (i j:JW)(ta:TA):TS:=λD σ H=>ta σ H λvs H1=>∃v w,vs=[v,w]/\D.nx ((σ.set i (ba v)).set j (ba w)) H1
theorem DS {i j:JW}{x y:Kd}{a b:Kn}{ta:TA}{px py pt:Mo}{kt k2 pt2}(hc:X.calm=true)(hN:X.N.Nodup)(hi:X.N[i]?=ba x)(hj:X.N[j]?=ba y)(hij:i≠j)
  (hx:X.env.scope.names.lookup x=ba .local) (hy:X.env.scope.names.lookup y=ba .local) (ha:PA X [a,b] ta)
  (hw:swappedStores [.Tuple [.Name x px,.Name y py] kt pt] (.Tuple [a,b] k2 pt2) X.env=pure (ba [x,y]))
  (hs:swapsWithSole [.Tuple [.Name x px,.Name y py] kt pt] (.Tuple [a,b] k2 pt2) pos.line X.env=pure false:=by rfl) :
  PS X (.Assign [.Tuple [.Name x px,.Name y py] kt pt] (.Tuple [a,b] k2 pt2) pos) (HY i j ta):=by
 intro pins s σ H D I h;rw[exec_Assign_arm];refine JN (NT ?_);rw[hs];refine JN (JT ?_);rw[Kw (by decide)]
 refine JN (Tuple_ (b7 (ha _ pins s σ H _ I h) λus s1 ⟨vs,H1,I1,r1,q1⟩=>?_))
 obtain⟨v,w,e1,q1⟩:=q1;subst e1;obtain⟨u1,u2,rfl,rv,rw'⟩ : ∃u1 u2,us=[u1,u2]/\RelV v u1/\RelV w u2:=by
  cases r1 with
  | cons p q=>
   cases q with
   | cons p' q'=>
    cases q';exact⟨_,_,rfl,p,p'⟩
 refine KQ ?_ (by show 2<=sizeLine; decide)
 have I2:Inv X pins σ H1 { s1 with heap:=s1.heap.push { cls:=.type "tuple",data:=.seq [u1,u2].toArray } }:=I1.kept (t':=s1.toks) λb o e=>JQ _ e
 rw[hw];refine JN (JT ?_);show wpAny (model X.prog X.w) X.A (do rule "assign.swapped-stores"; let items <- unpackItems (.ref s1.heap.objs.size) 2 gV; assignInOrder [λv=>bindName X.env y v,λv=>bindName X.env x v] items.reverse; pure Ta) _ _ _
 refine JN (O3 (JN (unpackItems_tuple (items:=[u1,u2].toArray) (I.ok.hd hc) (QN s1.heap _) λh' hx'=>?_)))
 have I3:=I2.kept (h':=h') (t':=s1.toks) λb o e=>hx' b o (Kk (Kf e)) e
 show wpAny _ _ (assignInOrder [λv=>bindName X.env y v,λv=>bindName X.env x v] [u2,u1] >>= λ_=>pure Ta) _ _ _
 refine JN (Oh (Rp (iL I3 hN hj (.inl hy) rw' (λs2 I4=>?_) (.inr hy))))
 refine Oh (Rp (iL I4 hN hi (.inl hx) rv (λs3 I5=>Qn (JT ?_)) (.inr hx)))
 rw[List.set_comm _ _ (Ne.symm hij)]at I5;exact⟨_,H1,I5,q1⟩
end
section
variable{X:Cx}{pos:Mo}
noncomputable def DT (c:TT)(tb:TS):TS:=λD σ H=>∃W:JW->St->Hp->Prop,(∃m,W m σ H)/\∀m σ H,W m σ H->
 c σ H λb H1=>if b=true then ∃N:St->Hp->Prop,(∀σ' H',N σ' H'->∃m',m' < m/\W m' σ' H')/\tb { D with nx:=N,ct:=N,bk:=D.nx } σ H1 else D.nx σ H1
theorem xL {c:Kn}{body:JM MC}{tc:TT}{tb:TS}(hp:PP (model X.prog X.w) X.A X.env X.xe)(hc:PT X c tc)(hb:PSs X body tb):PS X (.While c body [] pos) (DT tc tb):=by
 intro pins s σ H D I h;obtain⟨W,⟨m0,w0⟩,turn⟩:=h;refine wpAny_While (codeAny_whileLoop (λn s'=>∃σ' H',Inv X pins σ' H' s'/\W n σ' H') ?_ m0 ⟨σ,H,I,w0⟩)
 rintro n s1 ⟨σ1,H1,I1,w1⟩;refine Mt hp (b7 (hc pins s1 σ1 H1 _ I1 (turn n σ1 H1 w1)) λb s2 ⟨H2,I2,q2⟩=>?_)
 cases b with
 | true=>
  obtain⟨N,hN,q2⟩:=q2;rw[Ko rfl];refine Mt hp (b7 (hb pins s2 σ1 H2 _ I2 q2) λf s3 q3=>?_)
  cases f with
  | next=>
   obtain⟨σ3,H3,I3,n3⟩:=q3;obtain⟨m',hm,w3⟩:=hN σ3 H3 n3;exact⟨m',hm,σ3,H3,I3,w3⟩
  | cont=>
   obtain⟨σ3,H3,I3,n3⟩:=q3;obtain⟨m',hm,w3⟩:=hN σ3 H3 n3;exact⟨m',hm,σ3,H3,I3,w3⟩
  | brk=>exact q3
  | ret v=>exact q3
 | false=>
  rw[Kw Kr];exact Pb ⟨σ1,H2,I2,q2⟩
end
set_option genInjectivity false in
structure It where
 go:JW->Hp->Prop
 yld:JW->Hp->V->Hp->Prop
 stop:JW->Hp->Prop
noncomputable def jt (X:Cx)(pins:JM (JX×LF))(H:Hp)(b:JX):Prop:=
 H b=gV/\b≠X.env.locals/\b∉X.fs/\(b∈X.ex\/X.s₀.heap.objs.size<=b)/\(∀x c,X.env.cells.lookup x=ba c->c≠b)/\∀p∈X.pn++pins,p.1≠b
theorem Inv.fpOk {X:Cx}{pins:JM (JX×LF)}{σ:St}{H H':Hp}{s:JS}{b:JX}(I:Inv X pins σ H s)(hb:s.heap.objs.size<=b)(hn:H' b=gV):jt X pins H' b:=by
 refine⟨hn,KC (Kq I.lt hb),I.nofs hb,.inr (J3 I.sz hb),λx c e z=>?_,λp hp z=>?_⟩
 ·obtain⟨v,q⟩:=I.cell x c e;exact absurd (Kq q.lt (by rw[z]; exact hb)) (Ly _)
 ·exact absurd (Kq (Kf (I.pin p hp).1) (by rw[z]; exact hb)) (Ly _)
structure Turn (P:Kx)(w:KO)(K:J2)(tg:Kn)(J:It)(fp:JM JX)(it:JX)(tn:JW->KW->Prop):Prop where
 mem:it∈fp
 obj:∀i h,tn i h->∀b∈fp,∃o,h.get? b=ba o/\∀v,o.data≠.cell v
 keep:∀i h h',tn i h->(∀b∈fp,∀o,h.get? b=ba o->h'.get? b=ba o)->tn i h'
 item:∀(X:Cx),X.prog=P->X.w=w->X.K=K->X.calm=true->∀(i:JW) (pins:JM (JX×LF)) (s:JS) (σ:St) (H:Hp) (E:JP->JS->Prop),Inv X pins σ H s->(∀b∈fp,jt X pins H b)->tn i s.heap->J.go i H->
  wpAny (model P w) X.A (pyNext (.ref it)) (λr s1=>∃u,r=ba u/\
   wpAny (model P w) X.A (letOwnedTupleGo tg (.ref it) u) (λ_ s2=>∃x H',Inv X pins σ H' s2/\RelV x u/\J.yld i H x H'/\tn (i+1) s2.heap/\∀b∈fp,H' b=gV) E s1) E s
 done:∀(X:Cx),X.prog=P->X.w=w->X.K=K->X.calm=true->∀(i:JW) (pins:JM (JX×LF)) (s:JS) (σ:St) (H:Hp) (E:JP->JS->Prop),Inv X pins σ H s->(∀b∈fp,jt X pins H b)->tn i s.heap->J.stop i H->
  wpAny (model P w) X.A (pyNext (.ref it)) (λr s1=>r=gV/\Inv X pins σ H s1) E s
 self:∀(A:KH) (i:JW) (s:JS) (Q:JP->JS->Prop) (E:JP->JS->Prop),tn i s.heap->Q (.ref it) s->wpAny (model P w) A (pyIter (.ref it)) Q E s
noncomputable abbrev TI:=St->Hp->(It->Hp->Prop)->Prop
noncomputable def HB (X:Cx)(pins:JM (JX×LF))(σ:St)(tg:Kn)(R:It->Hp->Prop)(itv:JP)(s2:JS):Prop:=
 ∃(it:JX) (fp:JM JX) (tn:JW->KW->Prop) (J:It) (H':Hp),itv=.ref it/\Inv X pins σ H' s2/\Turn X.prog X.w X.K tg J fp it tn/\tn 0 s2.heap/\(∀b∈fp,jt X pins H' b)/\R J H'
noncomputable def PI (X:Cx)(tg iter:Kn)(wi:TI):Prop:=
 ∀(pins:JM (JX×LF)) (s:JS) (σ:St) (H:Hp) (R:It->Hp->Prop),Inv X pins σ H s->wi σ H R->
  wpAny (model X.prog X.w) X.A (eval iter X.env) (λv s1=>wpAny (model X.prog X.w) X.A (pyIter v) (HB X pins σ tg R) X.xe s1) X.xe s
theorem uk {M:Tl}{A:KH}{E:JP->JS->Prop}{s:JS}{tg:Kn}{it:JX}{u:JP}{o:LF}{n:Lv}{vs:Ku JP}{Q:Tn->JS->Prop}(ho:s.heap.get? it=ba o)(hc:o.cls=.type n)(hd:o.data=.fields vs)
    (hn:["enumerate","zip","dict_itemiterator","dict_reverseitemiterator","odict_iterator","itertools.zip_longest","itertools.pairwise"].contains n=false) (hQ:Q () s):wpAny M A (letOwnedTupleGo tg (.ref it) u) Q E s:=by
  unfold letOwnedTupleGo;cases tg <;> first
    | exact JT hQ
    | (cases u <;> first
        | exact JT hQ
        | (refine JN (O4 ho ?_)
           rw[hc,hd];show wpAny M A (if (["enumerate","zip","dict_itemiterator","dict_reverseitemiterator","odict_iterator","itertools.zip_longest","itertools.pairwise"].contains n&&vs[0]?==ba (rawInt _))=true then _ else _) Q E s
           rw[Kw (by intro h; rw[hn,Bool.false_and]at h; cases h)]
           exact JT hQ))
noncomputable def HZ (K:J2)(a:JX):It:=
 ⟨λi H=>∃xs x,SqL K H a xs/\xs[i]?=ba x,λi H x H'=>H'=H/\∀xs,SqL K H a xs->xs[i]?=ba x,λi H=>∃xs,SqL K H a xs/\xs.length<=i⟩
noncomputable def Fz (K:J2)(a:JX):It:=
 ⟨λi H=>∃xs x,SqT K H a xs/\xs[i]?=ba x,λi H x H'=>H'=H/\∀xs,SqT K H a xs->xs[i]?=ba x,λi H=>∃xs,SqT K H a xs/\xs.length<=i⟩
noncomputable def F4 (lo:J5)(n:JW):It:=⟨λi _=>i < n,λi H x H'=>H'=H/\x=.int (lo+i),λi _=>n<=i⟩
theorem vK {P:Kx}{w:KO}{K:J2}{tg:Kn}(a it:JX):Turn P w K tg (HZ K a) [it] it (λi h=>h.IsListIter it a i) where
 mem:=by simp
 obj:=λi h st b hb=>by
  have e:b=it:=by simpa using hb
  subst e;obtain⟨o,e,c,d⟩:=st;exact⟨o,e,λv z=>by rw[d]at z; cases z⟩
 keep:=λi h h' st k=>st.at λo e=>k it (by simp) o e
 item:=by
  intro X hP hw hK hc i pins s σ H E I hf st hg;subst hP hw hK;obtain⟨xs,x,hq,hx⟩:=hg;obtain⟨its,rv,p,hz⟩:=I.list hq;obtain⟨u,hu,ru⟩:=rv.get hx;obtain⟨f0,f1,f2,f3,f4,f5⟩:=hf it (by simp)
  refine wpAny_pyNext_list_item st p.isList (x:=u) (by simpa using hu) λh' st' sb=>?_
  have I1:Inv X pins σ H { s with heap:=h' }:=I.turned (t':=s.toks) (λb o hb e=>(sb.2 b hb).trans e) f0 f1 f3 f4 f5
  obtain⟨o,e,c,d⟩:=id st';exact⟨u,rfl,uk (s:={ s with heap:=h' }) e c d (by decide) ⟨x,H,I1,ru,⟨rfl,λys hy=>by rw[I.list_inj hy hq]; exact hx⟩,st',λb hb=>(hf b hb).1⟩⟩
 done:=by
  intro X hP hw hK hc i pins s σ H E I hf st hg;subst hP hw hK;obtain⟨xs,hq,hx⟩:=hg;obtain⟨its,rv,p,hz⟩:=I.list hq;obtain⟨f0,f1,f2,f3,f4,f5⟩:=hf it (by simp)
  have hl:=rv.length;exact wpAny_pyNext_list_end (I.ok.hd hc) st p.isList (by simp; omega) λh' eb=>⟨rfl,I.turned (t':=s.toks) (λb o hb e=>eb b o hb e) f0 f1 f3 f4 f5⟩
 self:=λ_ _ _ _ _ st h=>wpAny_pyIter_listiter st h
theorem sJ {P:Kx}{w:KO}{K:J2}{tg:Kn}(a it:JX):Turn P w K tg (Fz K a) [it] it (λi h=>h.IsTupleIter it a i) where
 mem:=by simp
 obj:=λi h st b hb=>by
  have e:b=it:=by simpa using hb
  subst e;obtain⟨o,e,c,d⟩:=st;exact⟨o,e,λv z=>by rw[d]at z; cases z⟩
 keep:=λi h h' st k=>st.at λo e=>k it (by simp) o e
 item:=by
  intro X hP hw hK hc i pins s σ H E I hf st hg;subst hP hw hK;obtain⟨xs,x,hq,hx⟩:=hg;obtain⟨its,rv,p,hz⟩:=I.tuple hq;obtain⟨u,hu,ru⟩:=rv.get hx;obtain⟨f0,f1,f2,f3,f4,f5⟩:=hf it (by simp)
  refine wpAny_pyNext_tuple_item st (show s.heap.IsTuple a its.toArray from p) (x:=u) (by simpa using hu) λh' st' sb=>?_
  have I1:Inv X pins σ H { s with heap:=h' }:=I.turned (t':=s.toks) (λb o hb e=>(sb.2 b hb).trans e) f0 f1 f3 f4 f5
  obtain⟨o,e,c,d⟩:=id st';exact⟨u,rfl,uk (s:={ s with heap:=h' }) e c d (by decide) ⟨x,H,I1,ru,⟨rfl,λys hy=>by rw[I.tuple_inj hy hq]; exact hx⟩,st',λb hb=>(hf b hb).1⟩⟩
 done:=by
  intro X hP hw hK hc i pins s σ H E I hf st hg;subst hP hw hK;obtain⟨xs,hq,hx⟩:=hg;obtain⟨its,rv,p,hz⟩:=I.tuple hq;obtain⟨f0,f1,f2,f3,f4,f5⟩:=hf it (by simp)
  have hl:=rv.length;exact wpAny_pyNext_tuple_end (I.ok.hd hc) st (show s.heap.IsTuple a its.toArray from p) (by simp; omega) λh' eb=>⟨rfl,I.turned (t':=s.toks) (λb o hb e=>eb b o hb e) f0 f1 f3 f4 f5⟩
 self:=λ_ _ _ _ _ st h=>wpAny_pyIter_tupleiter st h
theorem sK {P:Kx}{w:KO}{K:J2}{tg:Kn}(it:JX)(lo:J5)(n:JW):Turn P w K tg (F4 lo n) [it] it (λi h=>So h it (lo+(i:JW)*1) ((n:J5) - (i:JW)) 1) where
 mem:=by simp
 obj:=λi h st b hb=>by
  have e:b=it:=by simpa using hb
  subst e;exact⟨_,st,λv z=>by
   have z':Data.fields _=Data.cell v:=z;cases z'⟩
 keep:=λi h h' st k=>k it (by simp) _ st
 item:=by
  intro X hP hw hK hc i pins s σ H E I hf st hg;subst hP hw hK;obtain⟨f0,f1,f2,f3,f4,f5⟩:=hf it (by simp)
  have W:=Walks.range (prog:=X.prog) (w:=X.w) (I.ok.hd hc) it lo 1 n;refine W.item i s _ _ hg st λv h' tk hv st' kk=>?_
  obtain⟨t,rfl⟩:=hv;have I1:Inv X pins σ H { s with heap:=h',toks:=tk }:=I.turned (λb o hb e=>kk b o (by simpa using hb) e) f0 f1 f3 f4 f5
  refine⟨_,rfl,uk (s:={ s with heap:=h',toks:=tk }) (n:="range_iterator") st' rfl rfl (by decide) ⟨.int (lo+i),H,I1,⟨t,?_⟩,⟨rfl,rfl⟩,st',λb hb=>(hf b hb).1⟩⟩
  rw[Int.mul_one]
 done:=by
  intro X hP hw hK hc i pins s σ H E I hf st hg;subst hP hw hK;obtain⟨f0,f1,f2,f3,f4,f5⟩:=hf it (by simp)
  exact wpAny_pyNext_range_end (I.ok.hd hc) st (by have:n<=i:=hg; omega) λh' eb=>⟨rfl,I.turned (t':=s.toks) (λb o hb e=>eb b o hb e) f0 f1 f3 f4 f5⟩
 self:=λ_ _ _ _ _ st h=>wpAny_pyIter_rangeiter st h
section
variable{X:Cx}{tg:Kn}
theorem qt {pins:JM (JX×LF)}{σ:St}{H:Hp}{s:JS}{R:It->Hp->Prop}{E:JP->JS->Prop}{lo hi:J5}{t u v:Tv}{tk:JW}(I:Inv X pins σ H s)(h1 : -(2 ^ 62)<=lo)(h2:lo < 2 ^ 62)(h3 : -(2 ^ 62)<=hi)(h4:hi < 2 ^ 62)
  (q:R (F4 lo (hi - lo).toNat) H):wpAny (model X.prog X.w) X.A (pyIter (.ref s.heap.objs.size)) (HB X pins σ tg R) E { s with heap:=s.heap.push { cls:=.type "range",data:=.fields [.int lo t,.int hi u,.int 1 v].toArray },toks:=tk }:=by
 refine wpAny_pyIter_range (IsRange.new ..) (R5 h1 h2 h3 h4) ?_;have I1:Inv X pins σ H { s with heap:=s.heap.push { cls:=.type "range",data:=.fields [.int lo t,.int hi u,.int 1 v].toArray },toks:=tk }:=I.kept λb o e=>JQ _ e
 refine⟨(s.heap.push { cls:=.type "range",data:=.fields [.int lo t,.int hi u,.int 1 v].toArray }).objs.size,[(s.heap.push { cls:=.type "range",data:=.fields [.int lo t,.int hi u,.int 1 v].toArray }).objs.size],_,_,H,rfl,
  I1.kept (t':=tk) λb o e=>JQ _ e,sK _ lo (hi - lo).toNat,?_,λb hb=>?_,q⟩
 ·have e1:lo+((0:JW):J5)*1=lo:=by simp
  have e2:(((hi - lo).toNat:JW):J5) - ((0:JW):J5)=LP lo hi 1:=by rw[PZ]; split <;> omega
  show So _ _ (lo+((0:JW):J5)*1) ((((hi - lo).toNat:JW):J5) - ((0:JW):J5)) 1;rw[e1,e2];exact J9 _ rfl
 ·have e:b=(s.heap.push { cls:=.type "range",data:=.fields [.int lo t,.int hi u,.int 1 v].toArray }).objs.size:=by simpa using hb
  subst e;exact I1.fpOk (JZ _) (I1.hok.fresh (JZ _))
noncomputable def F5 (ta:TA):TI:=λσ H R=>ta σ H λvs H1=>∃j:J5,vs=[.int j]/\-(2 ^ 62)<=j/\j < 2 ^ 62/\R (F4 0 j.toNat) H1
noncomputable def iRng2 (ta:TA):TI:=λσ H R=>ta σ H λvs H1=>∃i j:J5,vs=[.int i,.int j]/\(-(2 ^ 62)<=i/\i < 2 ^ 62/\-(2 ^ 62)<=j/\j < 2 ^ 62)/\R (F4 i (j - i).toNat) H1
theorem vL {a:Kn}{ta:TA}{p pos:Mo}(hg:Gl X "range")(hm:X.mg "range" = gV)(ha:PA X [a] ta)(hs:starEach [a] X.env=[(false,eval a X.env)]:=by rfl):PI X tg (.Call (.Name "range" p) [a] [] pos) (F5 ta):=by
 intro pins s σ H R I h;refine Call_ (jr I hg hm boot_range (Ml (b7 (ha pos pins s σ H _ I h) λus s1 ⟨vs,H1,I1,r1,q1⟩=>?_) hs rfl))
 obtain⟨j,e,q1,q2,q⟩:=q1;subst e;cases r1 with
 | cons r rr=>
  cases rr;obtain⟨t,rfl⟩:=r;exact R9 (qt I1 (by omega) (by omega) q1 q2 (by simpa using q))
theorem vM {a b:Kn}{ta:TA}{p pos:Mo}(hg:Gl X "range")(hm:X.mg "range" = gV)(ha:PA X [a,b] ta)(hs:starEach [a,b] X.env=[(false,eval a X.env),(false,eval b X.env)]:=by rfl)(hs2:starEach [b] X.env=[(false,eval b X.env)]:=by rfl) :
  PI X tg (.Call (.Name "range" p) [a,b] [] pos) (iRng2 ta):=by
 intro pins s σ H R I h;refine Call_ (jr I hg hm boot_range (Ml (b7 (ha pos pins s σ H _ I h) λus s1 ⟨vs,H1,I1,r1,q1⟩=>?_) (by rw[hs,hs2]) (by rw[hs2]; rfl)))
 obtain⟨i,j,e,⟨q1,q2,q3,q4⟩,q⟩:=q1;subst e;cases r1 with
 | cons r rr=>
  cases rr with
  | cons r' rr=>
   cases rr;obtain⟨t,rfl⟩:=r;obtain⟨t',rfl⟩:=r';exact call_range_2 (qt I1 q1 q2 q3 q4 q)
noncomputable def Ic (wi:TI)(g:TG)(tb:TS):TS:=λD σ H=>wi σ H λJ H1=>∃W:JW->JW->St->Hp->Prop,(∃m,W 0 m σ H1)/\∀i m σ H,W i m σ H->
 (J.stop i H/\D.nx σ H)\/(J.go i H/\∃N:St->Hp->Prop,(∀σ' H',N σ' H'->∃m',m' < m/\W (i+1) m' σ' H')/\∀x H',J.yld i H x H'->g x σ H' λσ2 H2=>tb { D with nx:=N,ct:=N,bk:=D.nx } σ2 H2)
noncomputable def ju (fp:JM JX)(h:KW):JM (JX×LF):=fp.filterMap λb=>(h.get? b).map λo=>(b,o)
theorem fR {fp:JM JX}{h:KW}{b:JX}{o:LF}(hb:b∈fp)(e:h.get? b=ba o):(b,o)∈ju fp h:=Oi.mpr ⟨b,hb,by rw[e]; rfl⟩
theorem vN {fp:JM JX}{h:KW}{p:JX×LF}(hp:p∈ju fp h):p.1∈fp/\h.get? p.1=ba p.2:=by
 obtain⟨b,hb,e⟩:=Oi.mp hp;cases q:h.get? b with
 | none=>rw[q]at e; cases e
 | some o=>
  rw[q]at e;have e':(b,o)=p:=Ld e;subst e';exact⟨hb,q⟩
theorem Inv.pinned {pins:JM (JX×LF)}{σ:St}{H:Hp}{s:JS}{fp:JM JX}(I:Inv X pins σ H s)(hf:∀b∈fp,jt X pins H b)(ho:∀b∈fp,∃o,s.heap.get? b=ba o/\∀v,o.data≠.cell v):Inv X (pins++ju fp s.heap) σ H s:=
 I.pins_of λp hp=>(KF.mp hp).elim (λz=>I.pin p (KG _ z)) λz=>by
  obtain⟨hb,e⟩:=vN z;obtain⟨f0,f1,f2,_⟩:=hf p.1 hb;obtain⟨o,e',d⟩:=ho p.1 hb;rw[e]at e'; cases e'
  exact⟨e,f0,f1,f2,d⟩
theorem Inv.unpinned {pins pl:JM (JX×LF)}{σ:St}{H:Hp}{s:JS}(I:Inv X (pins++pl) σ H s):Inv X pins σ H s:=I.pins_of λp hp=>I.pin p (KG _ (L6 _ hp))
theorem DU {iter:Kn}{body:JM MC}{wi:TI}{g:TG}{tb:TS}{pos:Mo}(hp:PP (model X.prog X.w) X.A X.env X.xe)(hc:X.calm=true)(hi:PI X tg iter wi)(hg:PG X tg g)(hb:PSs X body tb)
  (hs:∀x,foldedSetIterable iter X.env x=pure x:=by intro _; rfl):PS X (.For tg iter body [] pos) (Ic wi g tb):=by
 intro pins s σ H D I h;refine wpAny_For (b7 (hi pins s σ H _ I h) λv s1 h1=>b7 h1 λitv s2 h2=>?_) hs
 obtain⟨it,fp,tn,J,H2,e,I2,T,bw,f2,W,⟨m0,w0⟩,turn⟩:=h2;subst e;have stat:∀ {H':Hp},(∀b∈fp,H' b=gV)->∀b∈fp,jt X pins H' b:=λhn b hb=>⟨hn b hb,(f2 b hb).2⟩
 refine codeAny_forLoop_any (λn s'=>∃i σ' H',Inv X pins σ' H' s'/\tn i s'.heap/\(∀b∈fp,H' b=gV)/\W i n σ' H') ?_ m0 ⟨0,σ,H2,I2,bw,λb hb=>(f2 b hb).1,w0⟩
 rintro n s3 ⟨i,σ3,H3,I3,st3,fr3,w3⟩;rcases turn i n σ3 H3 w3 with⟨stop,qn⟩|⟨go,N,hN,step⟩
 ·refine Mt hp (b7 (T.done X rfl rfl rfl hc i pins s3 σ3 H3 X.xe I3 (stat fr3) st3 stop) λr s4 ⟨hr,I4⟩=>?_)
  subst hr;exact Pb ⟨σ3,H3,I4,qn⟩
 ·refine Mt hp (b7 (T.item X rfl rfl rfl hc i pins s3 σ3 H3 X.xe I3 (stat fr3) st3 go) λr s4 ⟨u,hr,h4⟩=>?_)
  subst hr;refine Mt hp (b7 h4 λ_ s5 ⟨x,H5,I5,r5,y5,st5,fr5⟩=>?_)
  have I5':=I5.pinned (stat fr5) (T.obj _ _ st5);refine Mt hp (b7 (hg _ s5 σ3 H5 x u _ I5' r5 (step x H5 y5)) λ_ s6 ⟨σ6,H6,I6,q6⟩=>?_)
  refine Mt hp (b7 (hb _ s6 σ6 H6 _ I6 q6) λf s7 q7=>?_)
  have again:∀ {σ7:St} {H7:Hp},Inv X (pins++ju fp s5.heap) σ7 H7 s7->N σ7 H7->∃m,m < n/\∃i σ' H',Inv X pins σ' H' s7/\tn i s7.heap/\(∀b∈fp,H' b=gV)/\W i m σ' H':=λ{σ7 H7} I7 n7=>by
   obtain⟨m',hm,w7⟩:=hN σ7 H7 n7;refine⟨m',hm,i+1,σ7,H7,I7.unpinned,T.keep _ _ _ st5 λb hb o e=>(I7.pin (b,o) (KG _ (KG _ (fR hb e)))).1,λb hb=>?_,w7⟩
   obtain⟨o,e,d⟩:=T.obj _ _ st5 b hb;exact(I7.pin (b,o) (KG _ (KG _ (fR hb e)))).2.1
  cases f with
  | next=>obtain⟨σ7,H7,I7,n7⟩:=q7; exact again I7 n7
  | cont=>obtain⟨σ7,H7,I7,n7⟩:=q7; exact again I7 n7
  | brk=>obtain⟨σ7,H7,I7,q7⟩:=q7; exact⟨σ7,H7,I7.unpinned,q7⟩
  | ret v=>obtain⟨x7,σ7,H7,I7,r7,q7⟩:=q7; exact⟨x7,σ7,H7,I7.unpinned,r7,q7⟩
end
theorem for_tup {K:J2}{a:JX}{xs:JM V}{g:TG}{tb:TS}{D:Ends}{σ:St}{H:Hp}(Pv:JW->St->Hp->Prop)(h0:Pv 0 σ H)(hl:∀i σ H,i<=xs.length->Pv i σ H->SqT K H a xs)
  (hs:∀i x σ H,xs[i]?=ba x->Pv i σ H->g x σ H λσ2 H2=>tb { D with nx:=Pv (i+1),ct:=Pv (i+1),bk:=D.nx } σ2 H2) (hd:∀σ H,Pv xs.length σ H->D.nx σ H) :
  ∃W:JW->JW->St->Hp->Prop,(∃m,W 0 m σ H)/\∀i m σ H,W i m σ H->
   ((Fz K a).stop i H/\D.nx σ H)\/((Fz K a).go i H/\∃N:St->Hp->Prop,(∀σ' H',N σ' H'->∃m',m' < m/\W (i+1) m' σ' H')/\∀x H',(Fz K a).yld i H x H'->g x σ H' λσ2 H2=>tb { D with nx:=N,ct:=N,bk:=D.nx } σ2 H2):=by
 refine⟨λi m σ H=>m=xs.length - i/\i<=xs.length/\Pv i σ H,⟨xs.length,by simp,LB _,h0⟩,?_⟩
 rintro i m σ H ⟨rfl,hi,p⟩;have q:=hl i σ H hi p
 by_cases hlt:i < xs.length
 ·refine .inr ⟨⟨xs,xs[i],q,by simp[hlt]⟩,Pv (i+1),λσ' H' p'=>⟨xs.length - (i+1),by omega,rfl,hlt,p'⟩,λx H' y=>?_⟩
  obtain⟨e,y⟩:=y;subst e;exact hs i x σ _ (y xs q) p
 ·have e:i=xs.length:=by omega
  subst e;exact .inl ⟨⟨xs,q,JZ _⟩,hd σ H p⟩
noncomputable abbrev R2:=V->V->Hp->VK->Prop
noncomputable def OpR (X:Cx)(f:JP->JP->Sn JP)(r:R2):Prop:=
 ∀(pins:JM (JX×LF)) (s:JS) (σ:St) (H:Hp) (x y:V) (v u:JP) (Q:VK),Inv X pins σ H s->RelV x v->RelV y u->r x y H Q->
  wpAny (model X.prog X.w) X.A (f v u) (EP X pins σ Q) X.xe s
noncomputable def Ig (X:Cx)(f:JP->Sn JP)(r:V->Hp->VK->Prop):Prop:=
 ∀(pins:JM (JX×LF)) (s:JS) (σ:St) (H:Hp) (x:V) (v:JP) (Q:VK),Inv X pins σ H s->RelV x v->r x H Q->
  wpAny (model X.prog X.w) X.A (f v) (EP X pins σ Q) X.xe s
noncomputable def CallR (X:Cx)(f:JP)(r:JM V->Hp->VK->Prop):Prop:=
 ∀(pins:JM (JX×LF)) (s:JS) (σ:St) (H:Hp) (xs:JM V) (us:JM JP) (Q:VK),Inv X pins σ H s->Vals xs us->r xs H Q->
  wpAny (model X.prog X.w) X.A (call f us) (EP X pins σ Q) X.xe s
noncomputable def Ih (X:Cx)(r:V->Hp->(Kt->Hp->Prop)->Prop):Prop:=
 ∀(pins:JM (JX×LF)) (s:JS) (σ:St) (H:Hp) (x:V) (v:JP) (Q:Kt->Hp->Prop),Inv X pins σ H s->RelV x v->r x H Q->
  wpAny (model X.prog X.w) X.A (truthy v) (TP X pins σ Q) X.xe s
noncomputable def HC (r:R2)(ta tb:TE):TE:=λσ H Q=>ta σ H λx H1=>tb σ H1 λy H2=>r x y H2 Q
noncomputable def JA (r:V->Hp->VK->Prop)(ta:TE):TE:=λσ H Q=>ta σ H λx H1=>r x H1 Q
noncomputable def rI (C:J5->J5->Prop)(g:J5->J5->V):R2:=λx y H Q=>∃i j,x=.int i/\y=.int j/\C i j/\Q (g i j) H
noncomputable def C5 (g:J5->J5->V):R2:=λx y H Q=>∃i j,x=.int i/\y=.int j/\Q (g i j) H
noncomputable def rU (g:J5->V):V->Hp->VK->Prop:=λx H Q=>∃i,x=.int i/\Q (g i) H
section
variable{X:Cx}{a b c:Kn}{ta tb tc:TE}{pos:Mo}
theorem DV (ha:PE X a ta)(hb:PE X b tb){pins:JM (JX×LF)}{s:JS}{σ:St}{H:Hp}{R:V->V->Hp->Prop}(I:Inv X pins σ H s)
  (h:ta σ H λx H1=>tb σ H1 λy H2=>R x y H2) {Q:JP->JS->Prop} {f:JP->JP->Sn JP}
  (hf:∀v u s2 x y H2,Inv X pins σ H2 s2->RelV x v->RelV y u->R x y H2->wpAny (model X.prog X.w) X.A (f v u) Q X.xe s2) :
  wpAny (model X.prog X.w) X.A (eval a X.env) (λv s₁=>wpAny (model X.prog X.w) X.A (eval b X.env) (λu s₂=>wpAny (model X.prog X.w) X.A (f v u) Q X.xe s₂) X.xe s₁) X.xe s:=by
 refine b7 (ha pins s σ H _ I h) λv s1 ⟨x,H1,I1,r1,q1⟩=>?_
 refine b7 (hb pins s1 σ H1 _ I1 q1) λu s2 ⟨y,H2,I2,r2,q2⟩=>?_
 exact hf v u s2 x y H2 I2 r1 r2 q2
theorem F6 {op:Qo}{r:R2}(ho:OpR X (binaryOp op) r)(ha:PE X a ta)(hb:PE X b tb):PE X (.BinOp a op b pos) (HC r ta tb):=by
 intro pins s σ H Q I h;exact wpAny_BinOp (DV ha hb I h λv u s2 x y H2 I2 rx ry q=>ho pins s2 σ H2 x y v u Q I2 rx ry q)
theorem F7 {op:UnaryOp}{r:V->Hp->VK->Prop}(ho:Ig X (unaryOp op) r)(ha:PE X a ta):PE X (.UnaryOp op a pos) (JA r ta):=by
 intro pins s σ H Q I h;exact UnaryOp_ (b7 (ha pins s σ H _ I h) λv s1 ⟨x,H1,I1,r1,q1⟩=>ho pins s1 σ H1 x v Q I1 r1 q1)
theorem HD {f:JP->JP->Sn JP}{C:J5->J5->Prop}{g:J5->J5->J5}
  (rule:∀(i j:J5) (t u:Tv) (s:JS) (Q:JP->JS->Prop) (E:JP->JS->Prop),C i j->Q (.int (g i j) s.toks) { s with toks:=s.toks+1 }->wpAny (model X.prog X.w) X.A (f (.int i t) (.int j u)) Q E s) :
  OpR X f (rI C λi j=>.int (g i j)):=by
 intro pins s σ H x y v u Q I rx ry h;obtain⟨i,j,rfl,rfl,hc,q⟩:=h;obtain⟨t,rfl⟩:=rx;obtain⟨t',rfl⟩:=ry;exact rule i j t t' s _ _ hc ⟨.int (g i j),H,I.tok _,⟨_,rfl⟩,q⟩
theorem F8 {f:JP->JP->Sn JP}{g:J5->J5->J5}
  (rule:∀(i j:J5) (t u:Tv) (s:JS) (Q:JP->JS->Prop) (E:JP->JS->Prop),Q (.int (g i j) s.toks) { s with toks:=s.toks+1 }->wpAny (model X.prog X.w) X.A (f (.int i t) (.int j u)) Q E s) :
  OpR X f (C5 λi j=>.int (g i j)):=by
 intro pins s σ H x y v u Q I rx ry h;obtain⟨i,j,rfl,rfl,q⟩:=h;obtain⟨t,rfl⟩:=rx;obtain⟨t',rfl⟩:=ry;exact rule i j t t' s _ _ ⟨.int (g i j),H,I.tok _,⟨_,rfl⟩,q⟩
theorem Ba {f:JP->JP->Sn JP}{g:J5->J5->Kt}
  (rule:∀(i j:J5) (t u:Tv) (s:JS) (Q:JP->JS->Prop) (E:JP->JS->Prop),Q (.bool (g i j)) s->wpAny (model X.prog X.w) X.A (f (.int i t) (.int j u)) Q E s) :
  OpR X f (C5 λi j=>.bl (g i j)):=by
 intro pins s σ H x y v u Q I rx ry h;obtain⟨i,j,rfl,rfl,q⟩:=h;obtain⟨t,rfl⟩:=rx;obtain⟨t',rfl⟩:=ry;exact rule i j t t' s _ _ ⟨.bl (g i j),H,I,rfl,q⟩
noncomputable def Ii (i j:J5):Prop:=0 < j/\j < 1073741824
noncomputable def Ij (i j:J5):Prop:=0<=j/\j<=1000000/\i.natAbs < 2 ^ 64
noncomputable def CMul (i j:J5):Prop:=(-(2 ^ 64) < i/\i < 2 ^ 64)\/(-(2 ^ 64) < j/\j < 2 ^ 64)
theorem CMul.ok {i j:J5}(h:CMul i j):IntMulOk i j:=by
 rcases h with⟨h1,h2⟩|⟨h1,h2⟩
 ·exact .of_left (RM h1 h2)
 ·exact .of_right (RM h1 h2)
theorem DW:OpR X (binaryOp .Add) (C5 λi j=>.int (i+j)):=F8 λ_ _ _ _ _ _ _ q=>add_int q
theorem DX:OpR X (binaryOp .Sub) (C5 λi j=>.int (i - j)):=F8 λ_ _ _ _ _ _ _ q=>sub_int q
theorem DY:OpR X (binaryOp .Mult) (rI CMul λi j=>.int (i*j)):=HD λ_ _ _ _ _ _ _ hc q=>mul_int q hc.ok
theorem Bb:OpR X (binaryOp .FloorDiv) (rI Ii λi j=>.int (i / j)):=HD λi j _ _ _ _ _ hc q=>by
 have h1:(0:J5) < j:=hc.1;have h2:j < 1073741824:=hc.2;exact floordiv_int (by omega) (by rw[Int.fdiv_eq_ediv_of_nonneg i (by omega)]; exact q) (.inl (PyProof.noPylong_small (by omega)))
theorem DZ:OpR X (binaryOp .Mod) (rI (λ_ j=>0 < j) λi j=>.int (i % j)):=HD λi j _ _ _ _ _ hc q=>by
 have h1:(0:J5) < j:=hc;exact mod_int' (by omega) (by rw[Int.fmod_eq_emod_of_nonneg i (by omega)]; exact q)
theorem D0:OpR X (binaryOp .Pow) (rI Ij λi j=>.int (i ^ j.toNat)):=HD λ_ _ _ _ _ _ _ hc q=>pow_int_small hc.1 hc.2.1 hc.2.2 q
theorem JB {f:JP->Sn JP}{g:J5->J5}
  (rule:∀(i:J5) (t:Tv) (s:JS) (Q:JP->JS->Prop) (E:JP->JS->Prop),Q (.int (g i) s.toks) { s with toks:=s.toks+1 }->wpAny (model X.prog X.w) X.A (f (.int i t)) Q E s) :
  Ig X f (rU λi=>.int (g i)):=by
 intro pins s σ H x v Q I rx h;obtain⟨i,rfl,q⟩:=h;obtain⟨t,rfl⟩:=rx;exact rule i t s _ _ ⟨.int (g i),H,I.tok _,⟨_,rfl⟩,q⟩
theorem D2:Ig X (unaryOp .USub) (rU λi=>.int (-i)):=JB λ_ _ _ _ _ q=>neg_int q
end
section
variable{X:Cx}{a b c:Kn}{ta tb tc:TE}{pos:Mo}
theorem xM {pins:JM (JX×LF)}{σ:St}{H:Hp}{s:JS}{Q:VK}{k k':Kt}(I:Inv X pins σ H s)(q:Q (.bl k) H)(e:k=k'):EP X pins σ Q (.bool k') s:=by
 subst e;exact⟨.bl k,H,I,rfl,q⟩
theorem F9:OpR X (compareOp .Lt) (C5 λi j=>.bl (decide (i < j))):=Ba λ_ _ _ _ _ _ _ q=>lt_int q
theorem Ga:OpR X (compareOp .LtE) (C5 λi j=>.bl (decide (i<=j))):=Ba λ_ _ _ _ _ _ _ q=>le_int q
theorem Gb:OpR X (compareOp .Gt) (C5 λi j=>.bl (decide (j < i))):=Ba λ_ _ _ _ _ _ _ q=>gt_int q
theorem Gc:OpR X (compareOp .GtE) (C5 λi j=>.bl (decide (j<=i))):=Ba λ_ _ _ _ _ _ _ q=>ge_int q
theorem D6:OpR X (compareOp .Is) (λx y H Q=>y=.non/\Q (.bl (decide (x=.non))) H):=by
 intro pins s σ H x y v u Q I rx ry h;obtain⟨rfl,q⟩:=h;cases ry;refine is_none_gen (xM I q ?_);cases x <;> first
  | (cases rx; rfl)
  | (obtain⟨t,rfl⟩:=rx; rfl)
theorem Bc:OpR X (compareOp .IsNot) (λx y H Q=>y=.non/\Q (.bl (!decide (x=.non))) H):=by
 intro pins s σ H x y v u Q I rx ry h;obtain⟨rfl,q⟩:=h;cases ry;refine isnot_none_gen (xM I q ?_);cases x <;> first
  | (cases rx; rfl)
  | (obtain⟨t,rfl⟩:=rx; rfl)
theorem Bd {op:R6}{r:R2}(ho:OpR X (compareOp op) r)(ha:PE X a ta)(hb:PE X b tb)(hm:behindInMarks op b=false):PE X (.Compare a [op] [b] pos) (HC r ta tb):=by
 intro pins s σ H Q I h;exact wpAny_Compare1 (DV ha hb I h λv u s2 x y H2 I2 rx ry q=>ho pins s2 σ H2 x y v u Q I2 rx ry q) hm
noncomputable def Gd (t:TE):TT:=λσ H Q=>t σ H λx H'=>∃k,x=.bl k/\Q k H'
theorem Be {op:R6}{r:R2}(ho:OpR X (compareOp op) r)(ha:PE X a ta)(hb:PE X b tb)(hm:behindInMarks op b=false):PT X (.Compare a [op] [b] pos) (Gd (HC r ta tb)):=by
 intro pins s σ H Q I h;refine wpAny_isTrue_Compare1 (b7 (ha pins s σ H _ I h) λv s1 ⟨x,H1,I1,r1,q1⟩=>b7 (hb pins s1 σ H1 _ I1 q1) λu s2 ⟨y,H2,I2,r2,q2⟩=>
  b7 (ho pins s2 σ H2 x y v u _ I2 r1 r2 q2) λc s3 ⟨z,H3,I3,r3,k,e,q3⟩=>?_) hm
 subst e;cases r3;exact Mc ⟨H3,I3,q3⟩
noncomputable def Ik (K:J2)(x:V)(H:Hp)(k:Kt):Prop:=
 match x with
 | .non=>k=false
 | .bl b=>k=b
 | .int i=>k=(i != 0)
 | .str y=>y.length<=sizeLine/\k=((y.length:J5) != 0)
 | .byt y=>y.size<=sizeLine/\k=((y.size:J5) != 0)
 | .ref p=>(∃xs,SqL K H p xs/\k = !xs.isEmpty)\/(∃xs,SqT K H p xs/\k = !xs.isEmpty)\/∃kvs,H p=ba (.dK kvs)/\k = !kvs.isEmpty
 | _=>Lq
theorem sL {κ:Type}{kvs:JM (κ×V)}{vs:JM (κ×JP)}(r:KV kvs vs):(!vs.isEmpty) = !kvs.isEmpty:=by
 cases r <;> rfl
theorem lv {xs:JM V}{its:JM JP}(r:Vals xs its):(!its.toArray.isEmpty) = !xs.isEmpty:=by
 cases r <;> simp
theorem jv:(sizeLine:JW) < 2 ^ 63:=by rw[KZ]; decide
theorem Ea:Ih X (λx H Q=>∃k,Ik X.K x H k/\Q k H):=by
 intro pins s σ H x v Q I rx h;obtain⟨k,e,q⟩:=h;have hl:=jv;have hs:sizeLine=16777216:=KZ;cases x with
 | non=>
  cases rx;have e':k=false:=e;subst e';exact truthy_none ⟨H,I,q⟩
 | bl b=>
  cases rx;have e':k=b:=e;subst e';exact Mc ⟨H,I,q⟩
 | int i=>
  obtain⟨t,rfl⟩:=rx;have e':k=(i != 0):=e;subst e';exact PySem.P.truthy_int ⟨H,I,q⟩
 | str y=>
  obtain⟨t,rfl⟩:=rx;obtain⟨hy,e'⟩ : y.length<=sizeLine/\k=((y.length:J5) != 0):=e;subst e';exact PySem.P.truthy_str (by omega) ⟨H,I.tok _,q⟩
 | byt y=>
  obtain⟨t,rfl⟩:=rx;obtain⟨hy,e'⟩ : y.size<=sizeLine/\k=((y.size:J5) != 0):=e;subst e';exact PySem.W.truthy_bytes (by exact J3 ‹_› (Kc rfl)) ⟨H,I.tok _,q⟩
 | ref p=>
  cases rx;have e':(∃xs,SqL X.K H p xs/\k = !xs.isEmpty)\/(∃xs,SqT X.K H p xs/\k = !xs.isEmpty)\/∃kvs,H p=ba (.dK kvs)/\k = !kvs.isEmpty:=e;rcases e' with⟨xs,hx,e'⟩|⟨xs,hx,e'⟩|⟨kvs,hx,e'⟩
  ·subst e';obtain⟨its,r,pl,hz⟩:=I.list hx;have hlen:=r.length;exact wpAny_truthy_list pl.isList (by simp only[J7]; omega) ⟨H,I.tok _,by rw[lv r]; exact q⟩
  ·subst e';obtain⟨its,r,pl,hz⟩:=I.tuple hx;have hlen:=r.length;exact truthy_tuple pl (by simp only[J7]; omega) ⟨H,I.tok _,by rw[lv r]; exact q⟩
  ·subst e';obtain⟨hz,hS,vs,r,m⟩ : kvs.length<=sizeLine/\(p==sysModules)=false/\∃vs,KV kvs vs/\s.heap.DictOf (oQ X.prog X.w) p vs:=I.hok p _ hx;have hlen:kvs.length=vs.length:=OO r;exact wpAny_truthy_dict hS m (by omega) ⟨H,I.tok _,by rw[sL r]; exact q⟩
 | _=>exact(show Lq from e).elim
theorem sM:OpR X (binaryOp .Add) (λx y H Q=>∃i j,x=.str i/\y=.str j/\i.length+j.length<=sizeLine/\Q (.str (i++j)) H):=by
 intro pins s σ H x y v u Q I rx ry h;obtain⟨i,j,rfl,rfl,hz,q⟩:=h;obtain⟨t,rfl⟩:=rx;obtain⟨t',rfl⟩:=ry;exact add_str (λt' tk=>⟨.str (i++j),H,I.tok _,⟨_,rfl⟩,q⟩) hz
theorem nO {x:V}{us:JM JP}(r:Vals [x] us):∃u,us=[u]/\RelV x u:=by
 cases r with
 | cons r1 r2=>cases r2; exact⟨_,rfl,r1⟩
theorem nP:CallR X (.type "int") (λxs H Q=>(∃i,xs=[.int i]/\Q (.int i) H)\/∃k,xs=[.bl k]/\Q (.int (if k then 1 else 0)) H):=by
 intro pins s σ H xs us Q I r h;rcases h with⟨i,rfl,q⟩|⟨k,rfl,q⟩
 ·obtain⟨u,rfl,t,rfl⟩:=nO r;exact call_int_int ⟨.int i,H,I,⟨_,rfl⟩,q⟩
 ·obtain⟨u,rfl,r1⟩:=nO r;cases r1;exact call_int_bool ⟨.int (if k then 1 else 0),H,I.tok _,⟨_,rfl⟩,q⟩
noncomputable def Il (K:J2)(x:V)(H:Hp)(n:JW):Prop:=
 match x with
 | .str y=>y.length<=sizeLine/\n=y.length
 | .byt y=>y.size<=sizeLine/\n=y.size
 | .ref p=>(∃xs,SqL K H p xs/\n=xs.length)\/∃xs,SqT K H p xs/\n=xs.length
 | _=>Lq
theorem lw:CallR X (.builtin "len") (λxs H Q=>∃x n,xs=[x]/\Il X.K x H n/\Q (.int n) H):=by
 intro pins s σ H xs us Q I r h;obtain⟨x,n,rfl,e,q⟩:=h;obtain⟨u,rfl,rx⟩:=nO r;have hl:=jv;have hs:sizeLine=16777216:=KZ;cases x with
 | str y=>
  obtain⟨t,rfl⟩:=rx;obtain⟨hy,e'⟩ : y.length<=sizeLine/\n=y.length:=e;subst e';exact len_str (by omega) ⟨.int _,H,I.tok _,⟨_,rfl⟩,q⟩
 | byt y=>
  obtain⟨t,rfl⟩:=rx;obtain⟨hy,e'⟩ : y.size<=sizeLine/\n=y.size:=e;subst e';exact PySem.W.len_bytes (by exact J3 ‹_› (Kc rfl)) ⟨.int _,H,I.tok _,⟨_,rfl⟩,q⟩
 | ref p=>
  cases rx;have e':(∃xs,SqL X.K H p xs/\n=xs.length)\/∃xs,SqT X.K H p xs/\n=xs.length:=e;rcases e' with⟨xs,hx,e'⟩|⟨xs,hx,e'⟩
  ·subst e';obtain⟨its,r',pl,hz⟩:=I.list hx;have hlen:=r'.length;exact Calls.call_len_list pl.isList (by simp only[J7]; omega) ⟨.int xs.length,H,I.tok _,⟨_,by simp only[J7]; rw[hlen]⟩,q⟩
  ·subst e';obtain⟨its,r',pl,hz⟩:=I.tuple hx;have hlen:=r'.length;exact len_tuple pl (by simp only[J7]; omega) ⟨.int xs.length,H,I.tok _,⟨_,by simp only[J7]; rw[hlen]⟩,q⟩
 | _=>exact(show Lq from e).elim
end
structure Room (k:JW)(A:KH):Prop where
 hd:A.handled=gV
 dp:A.depth+3*k+5 < recursionLimit
 un:A.units+16*k+200 < cLine
theorem Room.deeper {k:JW}{A:KH}(r:Room (k+1) A)(env:Ql):Room k (A.deeper env):=
 ⟨r.hd,by have:=r.dp; show A.depth+1+3*k+5 < _; omega,by have:=r.un; show A.units+3+16*k+200 < _; omega⟩
theorem Room.depth {k:JW}{A:KH}(r:Room k A):A.depth < recursionLimit:=by have:=r.dp; omega
noncomputable def Ge:TA:=λ_ H Q=>Q [] H
noncomputable def Gf (ta:TE)(tr:TA):TA:=λσ H Q=>ta σ H λx H1=>tr σ H1 λxs H2=>Q (x::xs) H2
section
variable{X:Cx}{e:Kn}{es:JM Kn}{te:TE}{t:TA}{pos:Mo}
theorem xN:PA X [] Ge:=λ_ _ _ _ H Q I h=>Calls.spliced_nil ⟨[],H,I,.nil,h⟩
theorem oT (ha:PE X e te)(hr:PA X es t)(hs:starEach (e::es) X.env=(false,eval e X.env)::starEach es X.env:=by rfl):PA X (e::es) (Gf te t):=by
 intro pos pins s σ H Q I h;rw[hs];show wpAny _ _ (spliced ((false,eval e X.env)::backTo pos (starEach es X.env))) _ _ s;refine Calls.spliced_cons (b7 (ha pins s σ H _ I h) λu s1 ⟨x,H1,I1,r1,q1⟩=>?_)
 exact b7 (hr pos pins s1 σ H1 _ I1 q1) λus s2 ⟨xs,H2,I2,r2,q2⟩=>⟨x::xs,H2,I2,.cons r1 r2,q2⟩
noncomputable def Im (t:TA):TE:=λσ H Q=>t σ H λxs H1=>xs.length<=sizeLine/\∀p,H1 p=gV->Q (.ref p) (cj H1 p (.tup xs))
noncomputable def Io (t:TA):TE:=λσ H Q=>t σ H λxs H1=>xs.length<=sizeLine/\∀p,H1 p=gV->Q (.ref p) (cj H1 p (.lst xs))
theorem Eb {x1}(h:PA X es t):PE X (.Tuple es x1 pos) (Im t):=by
 intro pins s σ H Q I hq;refine wpAny_Tuple_spliced (b7 (h pos pins s σ H _ I hq) λus s1 ⟨xs,H1,I1,r,z,q⟩=>⟨by rw[<- r.length]; exact z,?_⟩)
 have hf:H1 s1.heap.objs.size=gV:=I1.hok.fresh (JZ _);refine⟨.ref s1.heap.objs.size,cj H1 s1.heap.objs.size (.tup xs),I1.laid (t':=s1.toks) (λb u e=>JQ _ e) (JZ _) ?_,rfl,q _ hf⟩
 exact⟨z,us,r,⟨_,J9 _ rfl,rfl,_,rfl⟩⟩
theorem Ec (h:PA X es t):PE X (.List es pos) (Io t):=by
 intro pins s σ H Q I hq;refine wpAny_List_spliced (b7 (h pos pins s σ H _ I hq) λus s1 ⟨xs,H1,I1,r,z,q⟩=>⟨by rw[<- r.length]; exact z,?_⟩)
 have hf:H1 s1.heap.objs.size=gV:=I1.hok.fresh (JZ _);refine⟨.ref s1.heap.objs.size,cj H1 s1.heap.objs.size (.lst xs),I1.laid (t':=s1.toks) (λb u e=>JQ _ e) (JZ _) ?_,rfl,q _ hf⟩
 exact⟨z,us,0,r,J9 _ rfl⟩
end
noncomputable abbrev Sp:=JM V->Hp->VK->XK->Prop
noncomputable abbrev xO:=JM Ql->Hp->JS->XK->JP->JS->Prop
structure Env0 (P:Kx)(w:KO)(K:J2)(mg:Kd->JU JP)(base:KW)(A:KH)(outer:JM Ql)(s:JS)(H:Hp):Prop where
 frames:A.frames=ba outer
 mod:Mod K mg base
 bs:∀b o,base.get? b=ba o->s.heap.get? b=ba o/\H b=gV
 bsz:base.objs.size<=s.heap.objs.size
 funs:s.heap.FunFrames base outer
 frf:∀b∈sI outer,H b=gV
 hok:HOk P w H s.heap
 bare:OG s.gens
noncomputable def CE (outer:JM Ql)(P:Kx)(w:KO)(H:Hp)(s:JS)(Q:VK)(u:JP)(s':JS):Prop:=
 ∃v H',s'.os=s.os/\OG s'.gens/\Un (sI outer) [] H H' s.heap s'.heap/\HOk P w H' s'.heap/\RelV v u/\Q v H'
noncomputable def CR (CX:xO)(outer:JM Ql)(P:Kx)(w:KO)(H:Hp)(s:JS)(Q:VK)(E:XK)(r:QP)(s':JS):Prop:=
 match r with
 | .ok (.ret u)=>CE outer P w H s Q u s'
 | .ok _=>Lq
 | .error e=>CX outer H s E e s'
structure FnOk (P:Kx)(w:KO)(K:J2)(mg:Kd->JU JP)(base:KW)(CX:xO)(k:JW)(f:JX)(fd:Mp)(ps:JM Kd)(sp:Sp):Prop where
 len:∀vs H Q E,sp vs H Q E->vs.length=ps.length
 run:∀(A:KH) (outer:JM Ql) (s:JS) (H:Hp) (args:Args) (us:JM JP) (vs:JM V) (Q:VK) (E:XK),Room k A->Env0 P w K mg base A outer s H->Qp s fd args (ps.zip us)->Vals vs us->sp vs H Q E->
  codeAny (model P w) A (.call (.ref f) args) (CR CX outer P w H s Q E) s
section
variable{X:Cx}{pins:JM (JX×LF)}{σ:St}{H:Hp}{s s':JS}
theorem Inv.env0 (I:Inv X pins σ H s):Env0 X.prog X.w X.K X.mg X.base X.A X.stack s H:=
 ⟨I.ok.frames,I.ok.mod,I.bs,J3 I.ok.bsz I.sz,I.stack,I.stkFree,I.hok,I.bare⟩
theorem Inv.after {Q:VK}{u:JP}(I:Inv X pins σ H s)(h:CE X.stack X.prog X.w H s Q u s'):EP X pins σ Q u s':=by
 obtain⟨v,H',os,bare,un,hok,r,q⟩:=h;obtain⟨hh,g,d,t,os'⟩:=s';obtain rfl:os'=s.os:=os;exact⟨v,H',I.call (h':=hh) (g':=g) (d':=d) (t':=t) (ch:=[]) un hok bare (λb z=>absurd z (by simp)),r,q⟩
end
noncomputable def xP (sp:Sp)(dvs:JM V)(E:XK)(t:TA):TE:=λσ H Q=>t σ H λvs H1=>sp (vs++dvs) H1 Q E
noncomputable def Binds (K:J2)(fd:Mp)(ps:JM Kd)(ds:JM JP):Prop:=
 ∀(s:JS) (us:JM JP),K.In s.heap->(us++ds).length=ps.length->Qp s fd ⟨us,[]⟩ (ps.zip (us++ds))
theorem Binds.all {K:J2}{fd:Mp}{ps:JM Kd}(h:∀us:JM JP,us.length=ps.length->bindArgs fd ⟨us,[]⟩=pure (ps.zip us)):Binds K fd ps []:=λs us _ hl=>by
 rw[LK]at hl ⊢;exact .of_eq (h us hl)
noncomputable def oU (CX:xO)(X:Cx)(E:XK):Prop:=∀(pins:JM (JX×LF)) (σ:St) (H:Hp) (s:JS) (e:JP) (s':JS),Inv X pins σ H s->CX X.stack H s E e s'->X.xe e s'
section
variable{X:Cx}{CX:xO}{k:JW}{f C:JX}{fd:Mp}{ps:JM Kd}{sp:Sp}{dvs:JM V}{ds:JM JP}{E:XK}{x m:Kd}{p pos apos:Mo}{e o:Kn}{es:JM Kn}{ta:TE}{t:TA}
theorem xQ {pins:JM (JX×LF)}{σ:St}{H:Hp}{s:JS}{Q:VK}{us:JM JP}{vs:JM V}(F:FnOk X.prog X.w X.K X.mg X.base CX k f fd ps sp)(hr:Room k X.A)(hb:Binds X.K fd ps ds)(hd:Vals dvs ds)(hx:oU CX X E)
  (I:Inv X pins σ H s) (r:Vals vs us) (h:sp (vs++dvs) H Q E):wpAny (model X.prog X.w) X.A (call (.ref f) us) (EP X pins σ Q) X.xe s:=by
 have r2:Vals (vs++dvs) (us++ds):=r.append hd;have hl:(us++ds).length=ps.length:=by rw[<- r2.length]; exact F.len _ _ _ _ h
 refine wpAny_call (NB (F.run X.A X.stack s H ⟨us,[]⟩ (us++ds) (vs++dvs) Q E hr I.env0 (hb s us I.kIn hl) r2 h) λr s' hq=>?_)
 cases r with
 | error e=>exact hx pins σ H s e s' I hq
 | ok fl=>
  cases fl with
  | ret u=>exact I.after hq
  | next=>exact Lq.elim hq
  | brk=>exact Lq.elim hq
  | cont=>exact Lq.elim hq
theorem Bf (F:FnOk X.prog X.w X.K X.mg X.base CX k f fd ps sp)(hr:Room k X.A)(hg:Gl X x)(hm:X.mg x=ba (.ref f))(hk:LC X.K (.ref f)=true)(hb:Binds X.K fd ps ds)(hd:Vals dvs ds)(hx:oU CX X E)
  (ha:PA X (e::es) t) (hdb:(x==("__debug__" : Kd))=false:=by decide) (he:starEach (e::es) X.env=(false,eval e X.env)::starEach es X.env:=by rfl) (hpl:(backTo pos (starEach es X.env)).any (·.1)=false:=by rfl) :
  PE X (.Call (.Name x p) (e::es) [] pos) (xP sp dvs E t):=by
 intro pins s σ H Q I h;refine Nu (uh I hg hm ?_ hdb);refine PySem.W.callWith_K (h₀:=X.base) I.ok.mod.kin hk (b7 (ha pos pins s σ H _ I h) λus s1 ⟨vs,H1,I1,r,q⟩=>⟨I1.kIn,?_⟩) he hpl
 exact xQ F hr hb hd hx I1 r q
theorem xR (F:FnOk X.prog X.w X.K X.mg X.base CX k f fd ps sp)(hr:Room k X.A)(hg:Gl X x)(hm:X.mg x=ba (.ref f))(hk:LC X.K (.ref f)=true)(hb:Binds X.K fd ps ds)(hd:Vals dvs ds)(hx:oU CX X E)
  (hdb:(x==("__debug__" : Kd))=false:=by decide):PE X (.Call (.Name x p) [] [] pos) (xP sp dvs E Ge):=by
 intro pins s σ H Q I h;refine Nu (uh I hg hm ?_ hdb);exact PySem.W.callWith_K0 I.kIn hk (xQ (us:=[]) F hr hb hd hx I .nil h)
end
structure FnScope (N P:JM Kd)(sc:MZ):Prop where
 kind:sc.kind=.function
 co:sc.isCoroutine=false
 gen:sc.isGenerator=false
 nd:N.Nodup
 pre:N.take P.length=P
 par:∀x∈P,sc.names.lookup x=ba .local\/sc.names.lookup x=ba .cell
 nofree:∀y∈sc.names,y.2≠.free
theorem nQ {kindOf:Kd->JU LQ}{x:Kd}:∀ {binds:JM (Kd×JP)} {m:Kd->JU JP},(∀v,(x,v)∉binds)->bindL kindOf binds m x=m x
 | [],_,_=>rfl
 | (n,v)::r,m,h=>by
  unfold bindL;rw[nQ λw hw=>h w (Lm _ hw)]
  split
  ·have:x≠n:=by rintro rfl; exact h v Lo
   simp[this]
  ·rfl
theorem nR {kindOf:Kd->JU LQ}{x:Kd}:∀ {binds:JM (Kd×JP)} {m:Kd->JU JP},(∀v,(x,v)∉binds)->bindC kindOf binds m x=m x
 | [],_,_=>rfl
 | (n,v)::r,m,h=>by
  unfold bindC;rw[nR λw hw=>h w (Lm _ hw)]
  split
  ·rfl
  ·have:x≠n:=by rintro rfl; exact h v Lo
   simp[this]
theorem nS {kindOf:Kd->JU LQ}{x:Kd}{v:JP}:∀ {P:JM Kd} {vs:JM JP} {i:JW} {m:Kd->JU JP},P.Nodup->P[i]?=ba x->vs[i]?=ba v->kindOf x=ba .local->
  bindL kindOf (P.zip vs) m x=ba v
 | [],_,_,_,_,h,_,_=>by simp at h
 | _::_,[],_,_,_,_,h,_=>by simp at h
 | p::P,w::vs,0,m,nd,h1,h2,hk=>by
  simp at h1 h2; subst h1; subst h2
  show bindL kindOf ((p,w)::P.zip vs) m p=_;unfold bindL;rw[nQ λv hv=>(Mu.mp nd).1 (Pc hv).1,Ko hk]
  simp
 | p::P,w::vs,i+1,m,nd,h1,h2,hk=>by
  show bindL kindOf ((p,w)::P.zip vs) m x=_;unfold bindL;exact nS (i:=i) (Mu.mp nd).2 (by simpa using h1) (by simpa using h2) hk
theorem nT {kindOf:Kd->JU LQ}{x:Kd}{v:JP}:∀ {P:JM Kd} {vs:JM JP} {i:JW} {m:Kd->JU JP},P.Nodup->P[i]?=ba x->vs[i]?=ba v->kindOf x≠ba .local->
  bindC kindOf (P.zip vs) m x=ba v
 | [],_,_,_,_,h,_,_=>by simp at h
 | _::_,[],_,_,_,_,h,_=>by simp at h
 | p::P,w::vs,0,m,nd,h1,h2,hk=>by
  simp at h1 h2; subst h1; subst h2
  show bindC kindOf ((p,w)::P.zip vs) m p=_;unfold bindC;rw[nR λv hv=>(Mu.mp nd).1 (Pc hv).1,Kw hk]
  simp
 | p::P,w::vs,i+1,m,nd,h1,h2,hk=>by
  show bindC kindOf ((p,w)::P.zip vs) m x=_;unfold bindC;exact nT (i:=i) (Mu.mp nd).2 (by simpa using h1) (by simpa using h2) hk
noncomputable def gn (N:JM Kd)(vs:JM V):St:=vs.map ba++K2 (N.length - vs.length) gV
noncomputable def sN (CX:xO)(P:Kx)(w:KO)(K:J2)(mg:Kd->JU JP)(base:KW)(N:JM Kd)(qual:Kd)(scope:MZ)(f:JX)(cd:JP)(A:KH)(outer:JM Ql)(s:JS)(H:Hp)(E:XK):Cx where
 prog:=P
 w:=w
 K:=K
 mg:=mg
 base:=base
 A:=A.deeper (envOfC qual scope s.heap.objs.size f cd)
 N:=N
 s₀:=s
 H₀:=H
 env:=envOfC qual scope s.heap.objs.size f cd
 outer:=outer
 stack:=envOfC qual scope s.heap.objs.size f cd::outer
 ex:=[]
 calm:=true
 fn:=λ_=>true
 pn:=[]
 xe:=λe s'=>wpAny (model P w) (A.deeper (envOfC qual scope s.heap.objs.size f cd)) (leaving (envOfC qual scope s.heap.objs.size f cd) e) (λ_ s''=>CX outer H s E e s'') (λe' s''=>CX outer H s E e' s'') s'
theorem qu {sc:MZ}{n:JW}{x:Kd}(h:sc.names.lookup x=ba .cell):∃c,(cellsFrom n sc.names []).lookup x=ba c:=by
 have q:=O5 sc.names n [] (.inl h);exact K1.mp q
theorem vO {CX:xO}{P:Kx}{w:KO}{K:J2}{mg:Kd->JU JP}{base:KW}{N ps:JM Kd}{qual:Kd}{scope:MZ}{f:JX}{cd:JP}{A:KH}{outer:JM Ql}{s s1:JS}{H:Hp}{E:XK}{us:JM JP}{vs:JM V}
  (S:FnScope N ps scope) (hd:A.handled=gV) (e0:Env0 P w K mg base A outer s H) (hl:vs.length=ps.length) (r:Vals vs us)
  (x:InCallC s s.heap.objs.size (bindL (envOfC qual scope s.heap.objs.size f cd).kindOf (ps.zip us) λ_=>gV) (cellsFrom (s.heap.objs.size+1) scope.names []) (bindC (envOfC qual scope s.heap.objs.size f cd).kindOf (ps.zip us) λ_=>gV) s1) :
  Inv (sN CX P w K mg base N qual scope f cd A outer s H E) [] (gn N vs) H s1:=by
 have hpl:ps.length<=N.length:=by have:=congrArg Sq S.pre; rw[KA]at this; omega
 obtain⟨h1,tk,rfl,hk⟩:=x.done;have noA:∀b:JX,b∉(sN CX P w K mg base N qual scope f cd A outer s H E).ex:=λb z=>absurd (show b∈([]:JM JX)from z) (by simp)
 refine⟨⟨e0.mod,S.kind,rfl,rfl,JZ _,λy z c h1 h2=>?_,λy hy=>?_,λy c _ h=>?_,λ_=>hd,Around.frames_deeper e0.frames,.inr ⟨rfl,rfl⟩,λb z=>absurd z (noA b),e0.bs,e0.bsz,λb _ _=>noA b,λb z=>absurd z (noA b),e0.funs,e0.frf⟩,
  rfl,e0.bare,Un.kept hk,⟨_,x.toInCall.ns,λi y v h1 h2 h3=>?_⟩,λy c h=>⟨_,x.cell y c h⟩,e0.hok.fresh (JZ _),λy c h=>?_,λp hp=>absurd (show p∈([]:JM (JX×LF))from hp) (by simp),e0.hok.kept hk,?_⟩
 ·exact name_of_addr x.apart (MG h1) (MG h2)
 ·have hy:scope.names.lookup y=ba .cell\/scope.names.lookup y=ba .free:=hy;rcases hy with hy|hy
  ·exact qu hy
  ·exact absurd rfl (S.nofree _ (MG hy))
 ·exact LU (x.above y c (MG h))
 ·have hi:i < vs.length:=by
   unfold gn at h2
   by_cases hi:i < vs.length
   ·exact hi
   ·rw[LV (by simpa using hi)]at h2
    rw[List.getElem?_replicate]at h2;split at h2 <;> cases h2
  have ha:vs[i]?=ba v:=by
   unfold gn at h2;rw[KT (by simpa using hi),JY]at h2
   cases e:vs[i]? with
   | none=>rw[e]at h2; cases h2
   | some a=>rw[e]at h2; cases h2; rfl
  obtain⟨u,hu,rv⟩:=r.get ha;have hp:ps[i]?=ba y:=by
   rw[<- S.pre,OP (by omega)]; exact h1
  have ndP:ps.Nodup:=by rw[<- S.pre]; exact S.nd.sublist (List.take_sublist _ _)
  refine⟨u,rv,?_⟩;rcases S.par y (Ke hp)with k|k
  ·exact .inl ⟨k,nS ndP hp hu k⟩
  ·obtain⟨c,e⟩:=qu (n:=s.heap.objs.size+1) k;refine .inr ⟨.inl k,c,e,?_⟩;have q:=x.cell y c e;rw[nT ndP hp hu (by show scope.names.lookup y≠_; rw[k]; decide)]at q
   exact q
 ·exact e0.hok.fresh (LU (x.above y c (MG h)))
 ·unfold gn;show _=N.length;rw[J0,JO,List.length_replicate];omega
theorem Gg {CX:xO}{P:Kx}{w:KO}{K:J2}{mg:Kd->JU JP}{base:KW}{k:JW}{f:JX}{name qual:Kd}{params:Arguments}{body:JM MC}{scope:MZ}{dV kV doc pm cdv ct oc:JP}{an od:JU JX}
  {osl:Ku (JU JP)} {N ps:JM Kd} {sp:Sp} (lk:K.lookup f=ba ⟨oc,od,.func (L4 name qual params body scope dV kV doc pm an cdv ct),osl⟩) (hcd:M4 K cdv qual=true) (S:FnScope N ps scope)
  (len:∀vs H Q E,sp vs H Q E->vs.length=ps.length)
  (hbody:∀(A:KH) (outer:JM Ql) (s:JS) (H:Hp) (vs:JM V) (Q:VK) (E:XK),Room k (A.deeper (envOfC qual scope s.heap.objs.size f cdv))->sp vs H Q E->
   ∃t,PSs (sN CX P w K mg base N qual scope f cdv A outer s H E) body t/\t { nx:=λ_ H'=>Q .non H',rt:=Q } (gn N vs) H) :
  FnOk P w K mg base CX (k+1) f (L4 name qual params body scope dV kV doc pm an cdv ct) ps sp:=by
 refine⟨len,λA outer s H args us vs Q E hr e0 hb r hsp=>?_⟩
 have hl:=len _ _ _ _ hsp;have KX:K.In s.heap:=e0.mod.kin.keeps λb o e=>(e0.bs b o e).1
 have lim:s.heap.NoLimit:=e0.mod.nolimit.keeps λb o e=>(e0.bs b o e).1
 have hkind:∀y∈ps.zip us,scope.names.lookup y.1=ba .local\/(scope.names.lookup y.1=ba .cell/\((cellsFrom (s.heap.objs.size+1) scope.names []).lookup y.1).isSome=true):=λ⟨n,v⟩ hy=>by
  rcases S.par n (Pc hy).1 with q|q
  ·exact .inl q
  ·exact .inr ⟨q,O5 _ _ _ (.inl q)⟩
 refine codeAny_call_function hr.depth (KX _ _ lk) rfl S.co S.gen rfl (PySem.W.codeRec_of KX hcd) (hb _ _ _ _ ?_);refine wpAny_newFunctionEnv_cells S.kind hkind λenv he s1 x=>?_
 subst he;refine⟨lim.keeps x.toInCall.keep,codeAny_func ?_⟩;obtain⟨t,ht,hq⟩:=hbody A outer s H vs Q E (hr.deeper _) hsp;have I:Inv (sN CX P w K mg base N qual scope f cdv A outer s H E) [] (gn N vs) H s1:=vO S hr.hd e0 hl r x;refine LO (ht [] s1 (gn N vs) H _ I hq) (λfl s' hs=>?_) λe s' hs=>hs
 have fin:∀ {σ':St} {H':Hp} {v:V} {u:JP},Inv (sN CX P w K mg base N qual scope f cdv A outer s H E) [] σ' H' s'->RelV v u->Q v H'->CE outer P w H s Q u s':=
  λ{σ' H' v u} J rv q=>⟨v,H',J.os,J.bare,J.base,J.hok,rv,q⟩
 cases fl with
 | ret u=>
  obtain⟨v,σ',H',J,rv,q⟩:=hs;exact fin J rv q
 | next=>
  obtain⟨σ',H',J,q⟩:=hs;exact fin (v:=V.non) (u:=KU) J rfl q
 | brk=>
  obtain⟨_,_,_,q⟩:=hs;exact Lq.elim q
 | cont=>
  obtain⟨_,_,_,q⟩:=hs;exact Lq.elim q
section
variable{X:Cx}{x:Kd}{p pos:Mo}{e:Kn}{es:JM Kn}{t:TA}{id T:Lv}{r:JM V->Hp->VK->Prop}
noncomputable def Jr (r:JM V->Hp->VK->Prop)(t:TA):TE:=λσ H Q=>t σ H λvs H1=>r vs H1 Q
theorem qv (hc:CallR X (.builtin id) r)(hg:Gl X x)(hm:X.mg x=gV)(hv:bootBuiltins x=ba (.builtin id))(ha:PA X (e::es) t)(hn:x≠"__name__":=by decide)(hdb:(x==("__debug__" : Kd))=false:=by decide)
  (he:starEach (e::es) X.env=(false,eval e X.env)::starEach es X.env:=by rfl) (hpl:(backTo pos (starEach es X.env)).any (·.1)=false:=by rfl):PE X (.Call (.Name x p) (e::es) [] pos) (Jr r t):=by
 intro pins s σ H Q I h;refine Nu (jr I hg hm hv ?_ hn hdb);exact QQ (b7 (ha pos pins s σ H _ I h) λus s1 ⟨vs,H1,I1,r1,q1⟩=>hc pins s1 σ H1 vs us Q I1 r1 q1) he hpl
theorem vP (hc:CallR X (.type T) r)(hg:Gl X x)(hm:X.mg x=gV)(hv:bootBuiltins x=ba (.type T))(ha:PA X (e::es) t)(hn:x≠"__name__":=by decide)(hdb:(x==("__debug__" : Kd))=false:=by decide)
  (he:starEach (e::es) X.env=(false,eval e X.env)::starEach es X.env:=by rfl) (hpl:(backTo pos (starEach es X.env)).any (·.1)=false:=by rfl):PE X (.Call (.Name x p) (e::es) [] pos) (Jr r t):=by
 intro pins s σ H Q I h;refine Nu (jr I hg hm hv ?_ hn hdb);exact Ml (b7 (ha pos pins s σ H _ I h) λus s1 ⟨vs,H1,I1,r1,q1⟩=>hc pins s1 σ H1 vs us Q I1 r1 q1) he hpl
end
end L2
namespace HT
open PySem PyProof.Rows
section
open PySem.SeqAt
open PySem.AutoSeq1 (wpAny_loadPart')
open PySem.MeetsSeq PySem.MeetsSeq2 PySem.MeetsSeq3
end
section
variable{prog:Kx}{w:KO}{A:KH}{E:JP->JS->Prop}{s:JS}
theorem Bg {t b:JX}{vs ws:JM JP}{Q:JP->JS->Prop}(ht:Qk s.heap t vs.toArray)(hb:Qk s.heap b ws.toArray)(hv:vs≠[])
  (h1:ws=[]->Q (.ref t) s) (h2:ws≠[]->Q (.ref s.heap.objs.size) { s with heap:=s.heap.push { cls:=.type "tuple",data:=.seq (vs++ws).toArray } })
  (hsz:vs.length+ws.length<=sizeLine):wpAny (model prog w) A (binaryOp .Add (.ref t) (.ref b)) Q E s:=by
 obtain⟨⟨cls,dd,data,sl⟩,ho,hc,n,hd⟩:=id ht;obtain⟨⟨cls2,dd2,data2,sl2⟩,ho2,hc2,n2,hd2⟩:=id hb;simp only at hc hd hc2 hd2;subst hc hd hc2 hd2;have e:vs.toArray++ws.toArray=(vs++ws).toArray:=by simp
 by_cases hw:ws=[]
 ·exact Qq ⟨_,ho,rfl⟩ ⟨_,ho2,rfl⟩ OW P0 NC Ny (Nl _ _)
   (tuple_addW1 t b vs.toArray ws.toArray n n2 dd dd2 sl sl2 (by simpa using hv) (by simp[hw])) ⟨ho,ho2,h1 hw⟩
 ·refine Qq ⟨_,ho,rfl⟩ ⟨_,ho2,rfl⟩ OW P0 NC Ny (Nl _ _)
   (tuple_addW2 t b vs.toArray ws.toArray n n2 dd dd2 sl sl2 (by simpa using hv) (by simpa using hw) (by rw[J7,J7]; exact hsz)) ⟨ho,ho2,?_⟩
  rw[e];exact h2 hw
noncomputable def cY (n d:JW):JU J5->JW
 | none=>d
 | some v=>if v < 0 then(v+(n:J5)).toNat else min v.toNat n
theorem qw (n d:JW):cY n d gV=d:=rfl
theorem um (n d k:JW):cY n d (ba (k:J5))=min k n:=by
 show(if (k:J5) < 0 then((k:J5)+(n:J5)).toNat else min (k:J5).toNat n)=min k n
 rw[Kw (by omega),Kh]
theorem Ed (n d:JW)(hd:d<=n)(o:JU J5):cY n d o<=n:=by
 cases o with
 | none=>exact hd
 | some v=>
  show(if v < 0 then(v+(n:J5)).toNat else min v.toNat n)<=n
  by_cases hv:v < 0
  ·rw[Ko hv]; omega
  ·rw[Kw hv]; exact Nat.min_le_right _ _
theorem uq (v:J5)(n d:JW):(if v < 0 then max (v+(n:J5)) 0 else min v (n:J5))=((cY n d (ba v):JW):J5):=by
 show(if v < 0 then max (v+(n:J5)) 0 else min v (n:J5))=(((if v < 0 then(v+(n:J5)).toNat else min v.toNat n):JW):J5)
 by_cases hv:v < 0
 ·simp only[Ko hv]; omega
 ·simp only[Kw hv]; omega
theorem sO (lo hi:JU J5)(n:JW):Nf lo hi 1 (n:J5)=(((cY n 0 lo:JW):J5),((cY n n hi:JW):J5)):=by
 have h1:¬ ((1:J5) < 0):=by omega
 unfold Nf;simp only[h1,Li];refine To ?_ ?_
 ·cases lo with
  | none=>rfl
  | some v=>exact uq v n 0
 ·cases hi with
  | none=>rfl
  | some v=>exact uq v n n
theorem sP (i j:JW):Ms (i:J5) (j:J5) 1=j - i:=by
 unfold Ms;have h1:(1:J5) > 0:=by omega
 simp only[h1,LH,Int.ediv_one];split <;> omega
theorem lx {v:JP}{o:JU J5}{Q:JU J5->JS->Prop}(p:Oj v o)(h:Q o s):wpAny (model prog w) A (Rc v) Q E s:=by
 cases p with
 | none=>exact Rq h
 | int i t=>exact slicePart_int h
theorem fI {sl:JX}{vl vu:JP}{lo hi:JU J5}{n:JW}{Q:J5×J5×JW->JS->Prop}(hs:s.heap.IsSliceOf sl vl vu .none)(pl:Oj vl lo)(pu:Oj vu hi)
  (h:Q (((cY n 0 lo:JW):J5),1,cY n n hi - cY n 0 lo) s):wpAny (model prog w) A (Ol (.ref sl) (pure (n:J5))) Q E s:=by
 obtain⟨os,hos,hcs,hds⟩:=id hs;unfold Ol RI;refine JN (JN (L7 hos hds (x:=vl) rfl (JN (L7 hos hds (x:=vu) rfl (JN (L7 hos hds (x:=.none) rfl (JT ?_)))))));refine JN (Rq ?_);show wpAny _ _ (if ((1:J5)==0)=true then _ else _) _ _ s
 rw[Kw (by decide)]
 refine JN (lx pl (JN (lx pu (JN (JT ?_)))));show wpAny _ _ (match Nf lo hi 1 (n:J5)with|(lo,hi)=>pure (lo,(1:J5),Ms lo hi 1)) _ _ s
 rw[sO lo hi n];show wpAny _ _ (pure (((cY n 0 lo:JW):J5),(1:J5),Ms ((cY n 0 lo:JW):J5) ((cY n n hi:JW):J5) 1)) _ _ s;rw[sP];exact JT h
theorem xS (xs:Ku JP)(i k:JW):((Ky k).filterMap λ(m:JW)=>xs[((i:J5)+(m:J5)*1).toNat]?).toArray=((xs.toList.drop i).take k).toArray:=by
 have e:(λ(m:JW)=>xs[((i:J5)+(m:J5)*1).toNat]?)=λm=>xs[i+m]?:=by
  funext m
  have:((i:J5)+(m:J5)*1).toNat=i+m:=by omega
  rw[this]
 rw[e];have:=pick_run xs i k;rw[List.filterMap_map]at this;have e2:((λx=>xs[x]?)∘λx=>i+x)=λm=>xs[i+m]?:=rfl
 rw[e2]at this;rw[this]
theorem iM {t sl:JX}{items:Ku JP}{vl vu:JP}{lo hi:JU J5}{Q:JP->JS->Prop}(ht:Qk s.heap t items)(hs:s.heap.IsSliceOf sl vl vu .none)(pl:Oj vl lo)(pu:Oj vu hi)
  (hw:¬ (cY items.size 0 lo=0/\cY items.size items.size hi=items.size))
  (h:Q (.ref s.heap.objs.size) { s with heap:=s.heap.push { cls:=.type "tuple",data:=.seq ((items.toList.drop (cY items.size 0 lo)).take (cY items.size items.size hi - cY items.size 0 lo)).toArray } })
  (hsz:items.size<=sizeLine):wpAny (model prog w) A (getItem (.ref t) (.ref sl)) Q E s:=by
 have htake:sizeOk (.seq ((items.toList.drop (cY items.size 0 lo)).take (cY items.size items.size hi - cY items.size 0 lo)).toArray):=by
  show((items.toList.drop (cY items.size 0 lo)).take (cY items.size items.size hi - cY items.size 0 lo)).toArray.size<=sizeLine;rw[J7,KA,Na,Kb];omega
 have hj:cY items.size items.size hi<=items.size:=Ed _ _ (JZ _) hi;obtain⟨os,hos,hcs,hds⟩:=id hs;have hTs:s.TypeIs (.ref sl) "slice":=⟨os,hos,hcs⟩;unfold getItem
 try with_reducible refine K8 ?_
 first|refine JN (JT ?_)|skip
 refine JN (Qr ht.typeIs (by decide) ?_)
 refine JN (La (name:=L5 "__getitem__") ht.typeIs L1
  (Lb L1 ht.typeIs PR ?_ (P8 _ _)))
 show wpAny _ _ (M5 (.ref t) >>= _) _ _ s;refine JN (RN ht ?_);refine JN (MS hTs ?_);rw[Ko (by decide)]
 refine JN (fI hs pl pu ?_);have hno:¬ ((((cY items.size 0 lo:JW):J5)==0&&(1:J5)==1&&(cY items.size items.size hi - cY items.size 0 lo)==items.size)=true):=by
  intro q;rw[JV,JV]at q;have q1:((cY items.size 0 lo:JW):J5)=0:=eq_of_beq q.1.1;have q2:cY items.size items.size hi - cY items.size 0 lo=items.size:=eq_of_beq q.2;exact hw ⟨by omega,by omega⟩
 show wpAny _ _ (if (((cY items.size 0 lo:JW):J5)==0&&(1:J5)==1&&(cY items.size items.size hi - cY items.size 0 lo)==items.size)=true then _ else _) _ _ s
 rw[Kw hno,xS]
 first
  | exact JN (m:=LI _) (KQ (JT ⟨_,rfl,JT h⟩) htake)
  | exact JN (m:=LI _) (KQ (JN (JT (JT ⟨_,rfl,JT h⟩))) htake)
  | exact JN (JN (m:=LI _) (KQ (JT (JT ⟨_,rfl,JT h⟩)) htake))
  | exact JN (JN (m:=LI _) (KQ (JT ⟨_,rfl,JT h⟩) htake))
end
end HT
namespace L2
open PySem PySem.Spec PyProof.Rows
noncomputable abbrev TO:=St->Hp->(JU J5->Hp->Prop)->Prop
noncomputable def PO (X:Cx)(e:JU Kn)(t:TO):Prop:=
 ∀(pins:JM (JX×LF)) (s:JS) (σ:St) (H:Hp) (Q:JU J5->Hp->Prop),Inv X pins σ H s->t σ H Q->
  wpAny (model X.prog X.w) X.A (evalPart e X.env) (λu s'=>∃o H',Inv X pins σ H' s'/\Oj u o/\Q o H') X.xe s
noncomputable def Bh:TO:=λ_ H Q=>Q gV H
noncomputable def Gh (t:TE):TO:=λσ H Q=>t σ H λx H1=>∃i,x=.int i/\Q (ba i) H1
section
variable{X:Cx}{e:Kn}{te:TE}{lo hi:JU Kn}{tl th:TO}{pos p2:Mo}
theorem Bj:PO X gV Bh:=by
 intro pins s σ H Q I h;rw[RO];exact JT ⟨gV,H,I,.none,h⟩
theorem Bk (h:PE X e te):PO X (ba e) (Gh te):=by
 intro pins s σ H Q I hw;rw[evalPart_some];refine b7 (h pins s σ H _ I hw) λu s1 ⟨x,H1,I1,r1,q1⟩=>?_
 obtain⟨i,rfl,q⟩:=q1;obtain⟨t,rfl⟩:=r1;exact⟨ba i,H1,I1,.int i t,q⟩
noncomputable def Gi (X:Cx)(r:V->JU J5->JU J5->Hp->VK->Prop):Prop:=
 ∀(pins:JM (JX×LF)) (s:JS) (σ:St) (H:Hp) (x:V) (v vl vu:JP) (lo hi:JU J5) (sl:JX) (Q:VK),Inv X pins σ H s->RelV x v->s.heap.IsSliceOf sl vl vu .none->Oj vl lo->Oj vu hi->r x lo hi H Q->
  ∃T id,typeLookup (.type T) "__getitem__" = pure (ba (.builtin id))/\s.TypeIs v T/\wpAny (model X.prog X.w) X.A (getItem v (.ref sl)) (EP X pins σ Q) X.xe s
noncomputable def JC (r:V->JU J5->JU J5->Hp->VK->Prop)(te:TE)(tl th:TO):TE:=λσ H Q=>te σ H λx H1=>tl σ H1 λl H2=>th σ H2 λu H3=>r x l u H3 Q
theorem xT {r:V->JU J5->JU J5->Hp->VK->Prop}(hr:Gi X r)(he:PE X e te)(hl:PO X lo tl)(hu:PO X hi th):PE X (.Subscript e (.Slice lo hi gV p2) pos) (JC r te tl th):=by
 intro pins s σ H Q I h;refine Subscript_ (b7 (he pins s σ H _ I h) λv s1 ⟨x,H1,I1,r1,q1⟩=>?_)
 refine wpAny_Slice (b7 (hl pins s1 σ H1 _ I1 q1) λvl s2 ⟨l,H2,I2,pl,q2⟩=>b7 (hu pins s2 σ H2 _ I2 q2) λvu s3 ⟨u,H3,I3,pu,q3⟩=>?_)
 rw[RO];refine JT ?_;have I4:Inv X pins σ H3 { s3 with heap:=s3.heap.push { cls:=.type "slice",data:=.fields [vl,vu,.none].toArray } }:=I3.kept (t':=s3.toks) λb ob q=>JQ _ q
 obtain⟨T,id,hT,ht,hg⟩:=hr pins { s3 with heap:=s3.heap.push { cls:=.type "slice",data:=.fields [vl,vu,.none].toArray } } σ H3 x v vl vu l u s3.heap.objs.size Q I4 r1 (SL ..) pl pu q3
 show wpAny (model X.prog X.w) X.A (subscriptTail e (.Slice lo hi gV p2) v (.ref s3.heap.objs.size)) (EP X pins σ Q) X.xe { s3 with heap:=s3.heap.push { cls:=.type "slice",data:=.fields [vl,vu,.none].toArray } }
 exact tail_any (ops:=[.ref s3.heap.objs.size,v]) ht hT hg (by with_unfolding_all rfl)
noncomputable def ly (xs:JM V)(lo hi:JU J5):JM V:=(xs.drop (HT.cY xs.length 0 lo)).take (HT.cY xs.length xs.length hi - HT.cY xs.length 0 lo)
theorem ki (xs:JM V)(lo hi:JU J5):(ly xs lo hi).length<=xs.length:=by
 unfold ly;rw[KA,Na];omega
noncomputable def Ip (K:J2):V->JU J5->JU J5->Hp->VK->Prop:=λx lo hi H Q=>∃a xs,x=.ref a/\SqT K H a xs/\
 ¬ (HT.cY xs.length 0 lo=0/\HT.cY xs.length xs.length hi=xs.length)/\∀p,H p=gV->Q (.ref p) (cj H p (.tup (ly xs lo hi)))
theorem Ee:Gi X (Ip X.K):=by
 intro pins s σ H x v vl vu lo hi sl Q I rx hs pl pu h;obtain⟨a,xs,rfl,hx,hw,q⟩:=h;cases rx;obtain⟨its,r,ht,hz⟩:=I.tuple hx;have hlen:its.toArray.size=xs.length:=by rw[J7]; exact r.length.symm
 refine⟨"tuple",_,PyProof.Rows.slot_tuple_getitem.lookup,ht.typeIs,?_⟩;refine HT.iM ht hs pl pu (by rw[hlen]; exact hw) ?_ (by rw[hlen]; exact hz)
 rw[hlen];refine⟨.ref s.heap.objs.size,_,I.laid (t':=s.toks) (o:=.tup (ly xs lo hi)) (λb ob q=>JQ _ q) (JZ _) ?_,rfl,q _ (I.hok.fresh (JZ _))⟩
 exact⟨J3 (ki xs lo hi) hz,_,(r.drop (HT.cY xs.length 0 lo)).take (HT.cY xs.length xs.length hi - HT.cY xs.length 0 lo),QN _ _⟩
theorem Vals.nil_iff {xs:JM V}{us:JM JP}(r:Vals xs us):us=[]↔xs=[]:=by
 cases r with
 | nil=>simp
 | cons _ _=>simp
end
noncomputable def xx (n:JW)(i:J5):JU JW:=if 0<=i then(if i < n then ba i.toNat else gV)else if -(n:J5)<=i then ba (i+n).toNat else gV
noncomputable def sF {α:Type}(xs:JM α)(i:J5):JU α:=(xx xs.length i).bind λj=>xs[j]?
theorem ur {n:JW}{i:J5}{j:JW}(h:xx n i=ba j):seqIndex? i n=ba j/\j < n/\-(n:J5)<=i/\i < n:=by
 unfold xx at h
 by_cases h0:0<=i
 ·rw[Ko h0]at h
  by_cases h1:i < n
  ·rw[Ko h1]at h;have e:i.toNat=j:=Ld h;exact⟨by rw[Q6 h0 h1,e],by omega,by omega,h1⟩
  ·rw[Kw h1]at h; cases h
 ·rw[Kw h0]at h
  by_cases h1 : -(n:J5)<=i
  ·rw[Ko h1]at h;have e:(i+n).toNat=j:=Ld h;exact⟨by rw[Qs (by omega) h1,e],by omega,h1,by omega⟩
  ·rw[Kw h1]at h; cases h
theorem oV {α:Type}{xs:JM α}{i:J5}{v:α}(h:sF xs i=ba v):∃j,seqIndex? i xs.length=ba j/\xs[j]?=ba v/\j < xs.length/\-(xs.length:J5)<=i/\i < xs.length:=by
 unfold sF at h;cases e:xx xs.length i with
 | none=>rw[e]at h; cases h
 | some j=>
  rw[e]at h;obtain⟨h1,h2,h3,h4⟩:=ur e;exact⟨j,h1,h,h2,h3,h4⟩
theorem atI_nat {α:Type}{xs:JM α}{j:JW}{v:α}(h:xs[j]?=ba v):sF xs (j:J5)=ba v:=by
 have hj:j < xs.length:=(J1.mp h).1;have e:xx xs.length (j:J5)=ba j:=by
  unfold xx;rw[Ko (by omega),Ko (LL.mpr ‹_›)]; simp
 unfold sF; rw[e]; exact h
noncomputable def oW (b:Kn):Prop:=∀o i,subscripted b false o i=operate [o,i] (getItem o i)
noncomputable def IxR (X:Cx)(r:R2):Prop:=
 ∀(value slice:Kn) (pins:JM (JX×LF)) (s:JS) (σ:St) (H:Hp) (x y:V) (v u:JP) (Q:VK),Inv X pins σ H s->RelV x v->RelV y u->r x y H Q->
  subscripted slice false v u=operate [v,u] (getItem v u)->wpAny (model X.prog X.w) X.A (subscriptTail value slice v u) (EP X pins σ Q) X.xe s
noncomputable def MtR (X:Cx)(id:Lv)(r:V->JM V->Hp->VK->Prop):Prop:=
 ∀(pins:JM (JX×LF)) (s:JS) (σ:St) (H:Hp) (x:V) (xs:JM V) (v:JP) (us:JM JP) (Q:VK),Inv X pins σ H s->RelV x v->Vals xs us->r x xs H Q->
  wpAny (model X.prog X.w) X.A (call (.builtin id) (v::us)) (EP X pins σ Q) X.xe s
section
variable{X:Cx}{a b:Kn}{ta tb:TE}{pos:Mo}
theorem Gj {r:R2}(hr:IxR X r)(ha:PE X a ta)(hb:PE X b tb)(hs:oW b):PE X (.Subscript a b pos) (HC r ta tb):=by
 intro pins s σ H Q I h;exact Subscript_ (DV ha hb I h λv u s2 x y H2 I2 rx ry q=>hr a b pins s2 σ H2 x y v u Q I2 rx ry q (hs _ _))
noncomputable def Iq (K:J2):R2:=λx y H Q=>∃p xs i v,x=.ref p/\y=.int i/\SqL K H p xs/\sF xs i=ba v/\Q v H
noncomputable def Ir (K:J2):R2:=λx y H Q=>∃p xs i v,x=.ref p/\y=.int i/\SqT K H p xs/\sF xs i=ba v/\Q v H
noncomputable def Iu:R2:=λx y H Q=>∃z i c,x=.str z/\y=.int i/\z.length<=sizeLine/\sF z.cps.toList i=ba c/\Q (.str ⟨[c].toArray⟩) H
theorem Bl:IxR X (Iq X.K):=by
 intro value slice pins s σ H x y v u Q I rx ry h hs;obtain⟨p,xs,i,z,rfl,rfl,hq,he,q⟩:=h;cases rx;obtain⟨t,rfl⟩:=ry;obtain⟨its,r,pl,hz⟩:=I.list hq;obtain⟨j,h1,h2,h3,h4,h5⟩:=oV he;obtain⟨w,ew,rw'⟩:=r.get h2;have hl:=r.length;have hn:=jv;have fin:EP X pins σ Q w s:=⟨z,H,I,rw',q⟩
 by_cases h0:0<=i
 ·have hj:i.toNat=j:=by
   rw[Q6 h0 h5]at h1;exact Ld h1
  exact item_listR pl.isList h0 (by omega) (by rw[hj]; simpa using ew) fin hs
 ·have hj:(i+(its.toArray.size:J5)).toNat=j:=by
   rw[Qs (by omega) h4]at h1
   rw[J7,<- hl];exact Ld h1
  exact ND (x:=w) pl.isList.typeIs slot_list_getitem.lookup
   (wpAny_getItem_list_neg (Q:=λr s'=>r=w/\EP X pins σ Q r s') pl.isList (by omega) (by rw[J7] <;> omega) (by omega) (by rw[hj]; simpa using ew) ⟨rfl,fin⟩) hs
theorem Ef:IxR X (Ir X.K):=by
 intro value slice pins s σ H x y v u Q I rx ry h hs;obtain⟨p,xs,i,z,rfl,rfl,hq,he,q⟩:=h;cases rx;obtain⟨t,rfl⟩:=ry;obtain⟨its,r,pl,hz⟩:=I.tuple hq;obtain⟨j,h1,h2,h3,h4,h5⟩:=oV he;obtain⟨w,ew,rw'⟩:=r.get h2;have hl:=r.length;have hn:=jv;have fin:EP X pins σ Q w s:=⟨z,H,I,rw',q⟩;exact ND (x:=w) pl.typeIs slot_tuple_getitem.lookup
  (getItem_tuple (j:=j) (Q:=λr s'=>r=w/\EP X pins σ Q r s') pl (by omega) (by omega) (by rw[J7,<- hl]; exact h1) (by simpa using ew) ⟨rfl,fin⟩) hs
theorem Eg:IxR X Iu:=by
 intro value slice pins s σ H x y v u Q I rx ry h hs;obtain⟨z,i,c,rfl,rfl,hz,he,q⟩:=h;obtain⟨t,rfl⟩:=rx;obtain⟨t',rfl⟩:=ry;obtain⟨j,h1,h2,h3,h4,h5⟩:=oV he;have hl:z.cps.toList.length=z.length:=by simp[SM]
 rw[hl]at h1 h4 h5;have hn:=jv;exact tail_any (typeIs_str s z t) slot_str_getitem.lookup (getItem_str (c:=c) (by
  have e1:decide (i < -(2 ^ 63:J5))=false:=Kz (by omega)
  have e2:decide (i>=2 ^ 63)=false:=Kz (by omega)
  rw[e1,e2,P1]) (by rw[h1]; simpa using h2) ⟨.str ⟨[c].toArray⟩,H,I.tok _,⟨_,rfl⟩,q⟩) hs
theorem sQ (its:JM JP)(n j:JW)(u:JP):Lw (·.setIfInBounds j u) { cls:=.type "list",data:=.seq its.toArray n }={ cls:=.type "list",data:=.seq (its.set j u).toArray n }:=by
 simp[Lw]
theorem Inv.lst {pins:JM (JX×LF)}{σ:St}{H:Hp}{s:JS}{p:JX}{xs:JM V}(I:Inv X pins σ H s)(h:H p=ba (.lst xs)) :
  ∃(its:JM JP) (n:JW),Vals xs its/\s.heap.get? p=ba { cls:=.type "list",data:=.seq its.toArray n }/\xs.length<=sizeLine:=by
 obtain⟨z,its,n,r,e⟩:=I.hok p _ h;exact⟨its,n,r,e,z⟩
theorem Inv.lstUpd {pins:JM (JX×LF)}{σ:St}{H:Hp}{s:JS}{p:JX}{xs ys:JM V}{its its':JM JP}{n n':JW}{f:LF->LF}(I:Inv X pins σ H s)(h:H p=ba (.lst xs))
  (ho:s.heap.get? p=ba { cls:=.type "list",data:=.seq its.toArray n }) (hf:f { cls:=.type "list",data:=.seq its.toArray n }={ cls:=.type "list",data:=.seq its'.toArray n' }) (r:Vals ys its') (hz:ys.length<=sizeLine) (t:JW) :
  Inv X pins σ (cj H p (.lst ys)) { s with heap:=s.heap.update p f,toks:=t }:=by
 have e:(s.heap.update p f).get? p=ba { cls:=.type "list",data:=.seq its'.toArray n' }:=by
  rw[Lz f ho (by rw[hf] <;> rfl),hf]
 refine I.write (x:=p) (e:=p) (by rw[h]; trivial) (.inl rfl) (λb u hb q=>(KS _ _ (Ne.symm hb)).trans q) ⟨_,e⟩ ?_
 exact⟨hz,its',n',r,e⟩
noncomputable def Gk:V->V->V->Hp->(Hp->Prop)->Prop:=λo i v H Q=>∃p xs k j,o=.ref p/\i=.int k/\H p=ba (.lst xs)/\xx xs.length k=ba j/\Q (cj H p (.lst (xs.set j v)))
theorem xU:DO X Gk:=by
 intro pins s σ H o i v ov iv u Q I ro ri rv h;obtain⟨p,xs,k,j,rfl,rfl,hp,hj,q⟩:=h;cases ro;obtain⟨t,rfl⟩:=ri;obtain⟨its,n,r,ho,hz⟩:=I.lst hp;obtain⟨h1,h2,h3,h4⟩:=ur hj;have hl:=r.length;have hn:=jv;have I':Inv X pins σ (cj H p (.lst (xs.set j v))) { s with heap:=s.heap.update p (Lw (·.setIfInBounds j u)) }:=
  I.lstUpd hp ho (sQ its n j u) (r.set rv j) (by rw[List.length_set]; exact hz) s.toks
 by_cases h0:0<=k
 ·have hk:k.toNat=j:=by
   rw[Q6 h0 h4]at h1;exact Ld h1
  exact PySem.W.ki_setAt ho h0 (by omega) (by rw[J7,<- hl]; exact h4) (by rw[hk]; exact⟨_,I',q⟩)
 ·have hk:(k+(its.toArray.size:J5)).toNat=j:=by
   rw[Qs (by omega) h3]at h1
   rw[J7,<- hl];exact Ld h1
  exact PySem.W.ki_setBack ho (by omega) (by rw[J7,<- hl]; exact h3) (by omega) (by rw[hk]; exact⟨_,I',q⟩)
theorem oX (lo hi:JU J5)(n:JW):(sliceBounds lo hi gV n).1=((HT.cY n 0 lo:JW):J5)/\(sliceBounds lo hi gV n).2.1=((HT.cY n n hi:JW):J5)/\(sliceBounds lo hi gV n).2.2=1:=by
 refine⟨?_,?_,rfl⟩
 ·cases lo with
  | none=>simp[sliceBounds,HT.cY]
  | some i=>
   simp only[sliceBounds,HT.cY,QR,show(1:J5) > 0 by decide,LH]
   by_cases h:i < 0
   ·simp only[h,LH] <;> omega
   ·simp only[h,Li] <;> omega
 ·cases hi with
  | none=>simp[sliceBounds,HT.cY]
  | some i=>
   simp only[sliceBounds,HT.cY,QR,show(1:J5) > 0 by decide,LH]
   by_cases h:i < 0
   ·simp only[h,LH] <;> omega
   ·simp only[h,Li] <;> omega
theorem mY (its:JM JP)(lo hi:JU J5):slicePick its.toArray lo hi gV=((its.drop (HT.cY its.length 0 lo)).take (HT.cY its.length its.length hi - HT.cY its.length 0 lo)).toArray:=by
 obtain⟨h1,h2,h3⟩:=oX lo hi its.toArray.size;unfold slicePick;rw[h1,h2,h3];simp only[sliceRange_one,pick_run,J7] <;> rfl
noncomputable def Iv (K:J2):V->JU J5->JU J5->Hp->VK->Prop:=λx lo hi H Q=>∃a xs,x=.ref a/\SqL K H a xs/\∀p,H p=gV->Q (.ref p) (cj H p (.lst (ly xs lo hi)))
theorem Bm:Gi X (Iv X.K):=by
 intro pins s σ H x v vl vu lo hi sl Q I rx hs pl pu h;obtain⟨a,xs,rfl,hx,q⟩:=h;cases rx;obtain⟨its,r,ht,hz⟩:=I.list hx;have hlen:=r.length;refine⟨"list",_,slot_list_getitem.lookup,ht.isList.typeIs,?_⟩;refine wpAny_getItem_list_slice ht.isList hs pl pu .none (by simp) ?_ (by rw[J7] <;> omega)
 rw[mY,<- hlen];refine⟨.ref s.heap.objs.size,_,I.laid (t':=s.toks) (o:=.lst (ly xs lo hi)) (λb ob q=>JQ _ q) (JZ _) ?_,rfl,q _ (I.hok.fresh (JZ _))⟩
 exact⟨J3 (ki xs lo hi) hz,_,0,(r.drop (HT.cY xs.length 0 lo)).take (HT.cY xs.length xs.length hi - HT.cY xs.length 0 lo),J9 _ rfl⟩
noncomputable def ig:V->Kt
 | .non=>true
 | .bl _=>true
 | .int _=>true
 | .str _=>true
 | _=>false
noncomputable def Bn:V->V->Kt
 | .non,.non=>true
 | .bl a,.bl b=>a==b
 | .bl a,.int b=>(if a then 1 else 0)==b
 | .int a,.bl b=>a==(if b then 1 else 0)
 | .int a,.int b=>a==b
 | .str a,.str b=>a==b
 | _,_=>false
theorem Eh {A:KH}{s:JS}{y x:V}{u v:JP}(ry:RelV y u)(rx:RelV x v)(fy:ig y=true)(fx:ig x=true):Om A s u v (Bn y x):=by
 cases y with
 | non=>
  cases ry;cases x with
  | non=>cases rx; exact Tf _
  | bl b=>cases rx; exact Sr b
  | int b=>obtain⟨t,rfl⟩:=rx; exact SA b t
  | str b=>obtain⟨t,rfl⟩:=rx; exact SC b t
  | _=>exact absurd (show false=true from fx) Kr
 | bl a=>
  cases ry;cases x with
  | non=>cases rx; exact Su a
  | bl b=>cases rx; exact Sv a b
  | int b=>obtain⟨t,rfl⟩:=rx; exact SD a b t
  | str b=>obtain⟨t,rfl⟩:=rx; exact SF a b t
  | _=>exact absurd (show false=true from fx) Kr
 | int a=>
  obtain⟨t',rfl⟩:=ry;cases x with
  | non=>cases rx; exact SG a t'
  | bl b=>cases rx; exact SH a t' b
  | int b=>obtain⟨t,rfl⟩:=rx; exact SN a t' b t
  | str b=>obtain⟨t,rfl⟩:=rx; exact P4 a t' b t
  | _=>exact absurd (show false=true from fx) Kr
 | str a=>
  obtain⟨t',rfl⟩:=ry;cases x with
  | non=>cases rx; exact SI a t'
  | bl b=>cases rx; exact SJ a t' b
  | int b=>obtain⟨t,rfl⟩:=rx; exact P5 a t' b t
  | str b=>obtain⟨t,rfl⟩:=rx; exact SO a t' b t
  | _=>exact absurd (show false=true from fx) Kr
 | _=>exact absurd (show false=true from fy) Kr
noncomputable def sR (x:V)(u:JP):Kt:=match u with
 | .none=>Bn .non x
 | .bool b=>Bn (.bl b) x
 | .int i _=>Bn (.int i) x
 | .str z _=>Bn (.str z) x
 | _=>false
theorem xV {x y:V}{u:JP}(r:RelV y u)(f:ig y=true):sR x u=Bn y x:=by
 cases y with
 | non=>cases r; rfl
 | bl b=>cases r; rfl
 | int i=>obtain⟨t,rfl⟩:=r; rfl
 | str z=>obtain⟨t,rfl⟩:=r; rfl
 | _=>exact absurd (show false=true from f) Kr
theorem iN {x:V}:∀ {xs:JM V} {us:JM JP},Vals xs us->xs.all ig=true->us.any (sR x)=xs.any λy=>Bn y x
 | _,_,.nil,_=>rfl
 | y::xs,u::us,.cons r t,f=>by
  rw[K9,JV]at f;rw[Mm,Mm,xV r f.1,iN t f.2]
theorem gp {A:KH}{s:JS}{x:V}{v:JP}(rx:RelV x v)(fx:ig x=true):∀ {xs:JM V} {us:JM JP},Vals xs us->xs.all ig=true->∀u∈us,Om A s u v (sR x u)
 | _,_,.nil,_=>λu hu=>by cases hu
 | y::xs,u::us,.cons r t,f=>λu' hu=>by
  rw[K9,JV]at f;rcases Kv.mp hu with rfl|hu
  ·rw[xV r f.1]; exact Eh r rx f.1 fx
  ·exact gp rx fx t f.2 u' hu
noncomputable def HE (x:V)(xs:JM V):Kt:=xs.any λy=>Bn y x
noncomputable def Iw (K:J2)(neg:Kt):R2:=λx y H Q=>∃p xs,y=.ref p/\(SqL K H p xs\/SqT K H p xs)/\ig x=true/\xs.all ig=true/\Q (.bl (if neg then !HE x xs else HE x xs)) H
theorem vQ:OpR X (compareOp .In) (Iw X.K false):=by
 intro pins s σ H x y v u Q I rx ry h;obtain⟨p,xs,rfl,hq,fx,fs,q⟩:=h;cases ry;rcases hq with hq|hq
 ·obtain⟨its,r,pl,hz⟩:=I.list hq;refine Re (sR x) pl.isList (λw hw=>gp rx fx r fs w (by simpa using hw)) ⟨.bl _,H,I,rfl,?_⟩
  rw[show its.toArray.any (sR x)=its.any (sR x) by simp,iN r fs]
  exact q
 ·obtain⟨its,r,pl,hz⟩:=I.tuple hq;refine SeqAt.in_tupleAt (sR x) pl (λw hw=>gp rx fx r fs w (by simpa using hw)) ⟨.bl _,H,I,rfl,?_⟩
  rw[show its.toArray.any (sR x)=its.any (sR x) by simp,iN r fs]
  exact q
theorem oY:OpR X (compareOp .NotIn) (Iw X.K true):=by
 intro pins s σ H x y v u Q I rx ry h;obtain⟨p,xs,rfl,hq,fx,fs,q⟩:=h;cases ry;rcases hq with hq|hq
 ·obtain⟨its,r,pl,hz⟩:=I.list hq;refine P9 (sR x) pl.isList (λw hw=>gp rx fx r fs w (by simpa using hw)) ⟨.bl _,H,I,rfl,?_⟩
  rw[show its.toArray.any (sR x)=its.any (sR x) by simp,iN r fs]
  exact q
 ·obtain⟨its,r,pl,hz⟩:=I.tuple hq;refine SeqAt.notIn_tupleAt (sR x) pl (λw hw=>gp rx fx r fs w (by simpa using hw)) ⟨.bl _,H,I,rfl,?_⟩
  rw[show its.toArray.any (sR x)=its.any (sR x) by simp,iN r fs]
  exact q
theorem oZ:CallR X (.type "list") (λxs H Q=>∃p ys,xs=[.ref p]/\(SqL X.K H p ys\/SqT X.K H p ys)/\∀l,H l=gV->Q (.ref l) (cj H l (.lst ys))):=by
 intro pins s σ H xs us Q I r h;obtain⟨p,ys,rfl,hq,q⟩:=h;obtain⟨u,rfl,rx⟩:=nO r;cases rx;have fin:∀(its:JM JP),Vals ys its->ys.length<=sizeLine->∀(h':KW) (c':JW),(∀b o',s.heap.get? b=ba o'->h'.get? b=ba o')->
   h'.get? s.heap.objs.size=ba { cls:=.type "list",dict:=gV,data:=.seq its.toArray c',slots:=#[] }->EP X pins σ Q (.ref s.heap.objs.size) { s with heap:=h' }:=λits r' hz h' c' kp e=>
  ⟨.ref s.heap.objs.size,_,I.laid (t':=s.toks) kp (JZ _) (show ObjOk X.prog X.w _ h' _ (.lst ys)from⟨hz,its,c',r',e⟩),rfl,q _ (I.hok.fresh (JZ _))⟩
 rcases hq with hq|hq
 ·obtain⟨its,r',pl,hz⟩:=I.list hq;have hlen:=r'.length;obtain⟨o,ho,hc,n,hd⟩:=pl.isList;exact RP p (.inl rfl) ho hc hd (λh' c' kp e=>fin its r' hz h' c' kp e) (by simp only[J7] <;> omega)
 ·obtain⟨its,r',pl,hz⟩:=I.tuple hq;have hlen:=r'.length;obtain⟨o,ho,hc,n,hd⟩:=pl;exact RP p (.inr rfl) ho hc hd (λh' c' kp e=>fin its r' hz h' c' kp e) (by simp only[J7] <;> omega)
theorem ii:CallR X (.type "tuple") (λxs H Q=>∃p ys,xs=[.ref p]/\((SqL X.K H p ys/\∀l,H l=gV->Q (.ref l) (cj H l (.tup ys)))\/(SqT X.K H p ys/\Q (.ref p) H))):=by
 intro pins s σ H xs us Q I r h;obtain⟨p,ys,rfl,h⟩:=h;obtain⟨u,rfl,rx⟩:=nO r;cases rx;rcases h with⟨hq,q⟩|⟨hq,q⟩
 ·obtain⟨its,r',pl,hz⟩:=I.list hq;have hlen:=r'.length;refine call_tuple_list pl.isList (λh' kp=>?_) (by simp only[J7] <;> omega)
  have I1:Inv X pins σ H { s with heap:=h' }:=I.kept (t':=s.toks) kp
  have I2:Inv X pins σ (cj H h'.objs.size (.tup ys)) { s with heap:=h'.push { cls:=.type "tuple",data:=.seq its.toArray } }:=
   I1.laid (t':=s.toks) (λb o e=>JQ _ e) (JZ _) (show ObjOk X.prog X.w _ _ _ (.tup ys)from⟨hz,its,r',QN _ _⟩)
  exact⟨.ref h'.objs.size,_,I2,rfl,q _ (I1.hok.fresh (JZ _))⟩
 ·obtain⟨its,r',pl,hz⟩:=I.tuple hq;exact call_tuple_same pl ⟨.ref p,H,I,rfl,q⟩
noncomputable def Ix (K:J2)(T:Lv)(x:V)(H:Hp):Prop:=match x with
 | .str _=>T = "str"
 | .int _=>T = "int"
 | .ref p=>(T = "list"/\∃xs,SqL K H p xs)\/(T = "tuple"/\∃o,K.lookup p=ba o/\o.cls=.type "tuple"/\o.dict=gV)\/
   (T = "dict"/\((∃kvs,H p=ba (.dK kvs))\/∃kvs,H p=ba (.dT kvs)))\/(T = "set"/\∃S n,H p=ba (.set S n))
 | _=>Lq
theorem xW {pins:JM (JX×LF)}{σ:St}{H:Hp}{s:JS}{T:Lv}{x:V}{v:JP}(I:Inv X pins σ H s)(r:RelV x v)(ty:Ix X.K T x H) :
  s.TypeIs v T/\∀a,v=.ref a->∃ob,s.heap.get? a=ba ob/\ob.dict=gV:=by
 cases x with
 | str z=>
  obtain⟨t,rfl⟩:=r;cases(show T = "str" from ty)
  exact⟨typeIs_str s z t,λ_ e=>nomatch e⟩
 | int i=>
  obtain⟨t,rfl⟩:=r;cases(show T = "int" from ty)
  exact⟨Rr s i t,λ_ e=>nomatch e⟩
 | ref p=>
  cases r;rcases ty with⟨rfl,xs,hq⟩|⟨rfl,o,hk,hc,hd⟩|⟨rfl,hk⟩|⟨rfl,S,n,hk⟩
  ·obtain⟨its,_,pl,_⟩:=I.list hq;refine⟨pl.isList.typeIs,λa e=>?_⟩
   cases e;obtain⟨o,n,e,c,hd,_⟩:=pl;exact⟨o,e,hd⟩
  ·refine⟨⟨o,I.kIn p o hk,hc⟩,λa e=>?_⟩
   cases e;exact⟨o,I.kIn _ o hk,hd⟩
  ·have z:∃o,s.heap.get? p=ba o/\o.ExactDict:=by
    rcases hk with⟨kvs,hk⟩|⟨kvs,hk⟩
    ·obtain⟨_,_,_,_,o,_,_,e,ex,_⟩:=I.hok p _ hk;exact⟨o,e,ex⟩
    ·obtain⟨_,_,_,_,o,_,_,e,ex,_⟩:=I.hok p _ hk;exact⟨o,e,ex⟩
   obtain⟨o,e,ex⟩:=z;refine⟨⟨o,e,ex.1⟩,λa e2=>?_⟩
   cases e2;exact⟨o,e,ex.2.1⟩
  ·obtain⟨o,_,_,_,e,ex,_⟩:=I.hok p _ hk;refine⟨⟨o,e,ex.1⟩,λa e2=>?_⟩
   cases e2;exact⟨o,e,ex.2.1⟩
 | _=>exact Lq.elim ty
variable{o e:Kn}{es:JM Kn}{to:TE}{t:TA}{name:Kd}{apos cpos:Mo}{T id:Lv}{r:V->JM V->Hp->VK->Prop}
end
noncomputable def Iy (X:Cx)(id:Lv)(r:V->JM V->Hp->VK->Prop):Prop:=
 ∀(pins:JM (JX×LF)) (s:JS) (σ:St) (H:Hp) (x:V) (xs:JM V) (v:JP) (us:JM JP) (Q:VK),Inv X pins σ H s->RelV x v->Vals xs us->r x xs H Q->
  wpAny (model X.prog X.w) X.A (call (.builtin id) (v::us)) (EP X pins σ Q) X.xe s
theorem Vals.one:∀ {x:V} {us:JM JP},Vals [x] us->∃u,us=[u]/\RelV x u
 | _,_,.cons r .nil=>⟨_,rfl,r⟩
theorem Vals.eraseIdx:∀ {xs:JM V} {us:JM JP} (i:JW),Vals xs us->Vals (xs.eraseIdx i) (us.eraseIdx i)
 | _,_,_,.nil=>.nil
 | _,_,0,.cons _ t=>t
 | _,_,i+1,.cons r t=>.cons r (Vals.eraseIdx i t)
theorem Vals.rep {xs:JM V}{us:JM JP}(h:Vals xs us):∀k:JW,Vals (K2 k xs).flatten (K2 k us).flatten
 | 0=>.nil
 | k+1=>by
  rw[LZ,LZ,Mx,Mx];exact Vals.append h (Vals.rep h k)
theorem nU {α:Type}:∀(l:JM α) (i:JW),(l.eraseIdx i).length<=l.length
 | [],_=>JZ _
 | _::_,0=>My _
 | _::r,i+1=>NQ (nU r i)
theorem nV (its:JM JP):∀(k:JW) (acc:JM JP),
  Rs (λx1 x2=>x1++x2) acc.toArray (K2 k its.toArray)=(acc++(K2 k its).flatten).toArray
 | 0,acc=>by simp
 | k+1,acc=>by
  have e:acc.toArray++its.toArray=(acc++its).toArray:=by simp
  have e2:(acc++its)++(K2 k its).flatten=acc++(K2 (k+1) its).flatten:=by
   rw[LZ,Mx,LW]
  rw[<- e2,<- nV its k (acc++its),<- e,LZ,List.foldl_cons]
section
variable{X:Cx}{pins:JM (JX×LF)}{σ:St}{H:Hp}{s:JS}{l b:JX}{xs ys zs:JM V}
theorem Inv.lset {its its':JM JP}{n:JW}{f:Ku JP->Ku JP}{t':JW}(I:Inv X pins σ H s)(hH:H l=ba (.lst xs))
  (e:s.heap.get? l=ba { cls:=.type "list",data:=.seq its.toArray n }) (hf:f its.toArray=its'.toArray) (hv:Vals ys its') (hz:ys.length<=sizeLine) :
  Inv X pins σ (cj H l (.lst ys)) { s with heap:=s.heap.update l (Lw f),toks:=t' }:=by
 have q:=QS e f;rw[hf]at q;refine I.write (x:=l) (e:=l) (by rw[hH]; exact trivial) (.inl rfl) (λb' u hb hu=>(KS s.heap (Lw f) (Ne.symm hb)).trans hu) ⟨_,q⟩ ?_
 exact⟨hz,its',_,hv,q⟩
theorem Inv.lnew {its:JM JP}{t':JW}(I:Inv X pins σ H s)(hv:Vals ys its)(hz:ys.length<=sizeLine) :
  Inv X pins σ (cj H s.heap.objs.size (.lst ys)) { s with heap:=s.heap.push { cls:=.type "list",data:=.seq its.toArray },toks:=t' }:=
 I.laid (λ_ _ q=>JQ _ q) (JZ _) ⟨hz,its,0,hv,J9 _ rfl⟩
theorem Inv.fresh (I:Inv X pins σ H s):H s.heap.objs.size=gV:=I.hok.fresh (JZ _)
theorem Inv.lstM (I:Inv X pins σ H s)(hH:H l=ba (.lst xs)):xs.length<=sizeLine/\∃(its:JM JP) (n:JW),Vals xs its/\xs.length=its.length/\s.heap.get? l=ba { cls:=.type "list",data:=.seq its.toArray n }:=by
 obtain⟨z,its,n,r,e⟩:=I.hok l _ hH;exact⟨z,its,n,r,r.length,e⟩
theorem qx {n:JW}(h:n<=sizeLine):MD n=false:=by
 unfold MD;exact Kz (by omega)
end
section
variable{X:Cx}
noncomputable def Bo:V->JM V->Hp->VK->Prop:=λx vs H Q=>∃l xs y,x=.ref l/\vs=[y]/\H l=ba (.lst xs)/\xs.length < sizeLine/\Q .non (cj H l (.lst (xs++[y])))
theorem vR:Iy X "list.append" Bo:=by
 intro pins s σ H x vs v us Q I rx rv h;obtain⟨l,xs,y,rfl,rfl,hH,hz,q⟩:=h;cases rx;obtain⟨u,rfl,ru⟩:=rv.one;obtain⟨z,its,n,r,hl,e⟩:=I.lstM hH;refine On F.slot_list_append ⟨_,e,rfl⟩ F.entry_list_append (F.args_list_append_2 _ _) (Qt l its.toArray n u (by rw[J7]; omega)) ⟨e,?_⟩
 refine⟨.non,_,I.lset (its':=its++[u]) hH e (by simp) (r.append (.cons ru .nil)) ?_,rfl,q⟩
 rw[J0,Lr];exact Qu ‹_›
noncomputable def Bp:V->JM V->Hp->VK->Prop:=λx vs H Q=>∃l b xs zs,x=.ref l/\vs=[.ref b]/\H l=ba (.lst xs)/\H b=ba (.lst zs)/\xs.length+zs.length<=sizeLine/\Q .non (cj H l (.lst (xs++zs)))
theorem vS:Iy X "list.extend" Bp:=by
 intro pins s σ H x vs v us Q I rx rv h;obtain⟨l,b,xs,zs,rfl,rfl,hH,hB,hz,q⟩:=h;cases rx;obtain⟨u,rfl,ru⟩:=rv.one;cases ru;obtain⟨z,its,n,r,hl,e⟩:=I.lstM hH;obtain⟨z2,its2,n2,r2,hl2,e2⟩:=I.lstM hB;have hsz:its.toArray.size+its2.toArray.size<=sizeLine:=by rw[J7,J7]; omega
 have hlong:¬ (!its.toArray.isEmpty&&MD (its.toArray.size+its2.toArray.size))=true:=by
  rw[qx hsz,Oo];exact Kr
 refine On F.slot_list_extend ⟨_,e,rfl⟩ F.entry_list_extend (F.args_list_extend_2 _ _)
  (Qv l its.toArray n b its2.toArray n2 hlong (by rw[J7]; omega) (Mf ‹_›)) ⟨e,e2,?_⟩
 refine⟨.non,_,I.lset (its':=its++its2) hH e (by simp) (r.append r2) ?_,rfl,q⟩
 rw[J0]
 assumption
noncomputable def Ei:V->JM V->Hp->VK->Prop:=λx vs H Q=>∃l xs i k y,x=.ref l/\vs=[.int i]/\H l=ba (.lst xs)/\-(2 ^ 63)<=i/\i < 2 ^ 63/\seqIndex? i xs.length=ba k/\xs[k]?=ba y/\Q y (cj H l (.lst (xs.eraseIdx k)))
theorem xX:Iy X "list.pop" Ei:=by
 intro pins s σ H x vs v us Q I rx rv h;obtain⟨l,xs,i,k,y,rfl,rfl,hH,h1,h2,hk,hy,q⟩:=h;cases rx;obtain⟨u,rfl,ru⟩:=rv.one;obtain⟨t,rfl⟩:=ru;obtain⟨z,its,n,r,hl,e⟩:=I.lstM hH;obtain⟨w,hw,rw'⟩:=r.get hy;refine On F.slot_list_pop ⟨_,e,rfl⟩ F.entry_list_pop (F.args_list_pop_2 _ _)
  (Sw l its.toArray n i t k w (Rt h1 h2) (by rw[J7,<- hl]; exact hk) (by rw[<- Lj]; exact hw) (by rw[J7]; omega)) ⟨e,?_⟩
 refine⟨y,_,I.lset (its':=its.eraseIdx k) hH e ?_ (r.eraseIdx k) ?_,rw',q⟩
 ·show its.toArray.eraseIdxIfInBounds k=(its.eraseIdx k).toArray;rw[List.eraseIdxIfInBounds_toArray]
 ·have:=nU xs k;exact J3 ‹_› ‹_›
noncomputable def Iz:R2:=λx y H Q=>∃l b xs zs,x=.ref l/\y=.ref b/\H l=ba (.lst xs)/\H b=ba (.lst zs)/\xs.length+zs.length<=sizeLine/\∀p,H p=gV->Q (.ref p) (cj H p (.lst (xs++zs)))
theorem Ej:OpR X (binaryOp .Add) Iz:=by
 intro pins s σ H x y v u Q I rx ry h;obtain⟨l,b,xs,zs,rfl,rfl,hH,hB,hz,q⟩:=h;cases rx;cases ry;obtain⟨z,its,n,r,hl,e⟩:=I.lstM hH;obtain⟨z2,its2,n2,r2,hl2,e2⟩:=I.lstM hB;refine PySem.P.add_list e e2 ?_ (by rw[J7,J7]; omega)
 have ea:its.toArray++its2.toArray=(its++its2).toArray:=by simp
 rw[ea];exact⟨.ref _,_,I.lnew (t':=s.toks) (r.append r2) (by rw[J0]; assumption),rfl,q _ I.fresh⟩
noncomputable def IA:R2:=λx y H Q=>∃l k xs,x=.ref l/\y=.int k/\H l=ba (.lst xs)/\-(2 ^ 63)<=k/\k < 2 ^ 63/\xs.length*k.toNat<=sizeLine/\
 ∀p,H p=gV->Q (.ref p) (cj H p (.lst (K2 k.toNat xs).flatten))
theorem Bq {α:Type}(xs:JM α)(k:JW):(K2 k xs).flatten.length=k*xs.length:=by
 induction k with
 | zero=>simp
 | succ k ih=>rw[LZ,Mx,J0,ih,Oa,Nat.add_comm]
theorem Ek:OpR X (binaryOp .Mult) IA:=by
 intro pins s σ H x y v u Q I rx ry h;obtain⟨l,k,xs,rfl,rfl,hH,h1,h2,hz,q⟩:=h;cases rx;obtain⟨t,rfl⟩:=ry;obtain⟨z,its,n,r,hl,e⟩:=I.lstM hH;have hlen:its.toArray.size*k.toNat<=sizeLine:=by rw[J7,<- hl]; exact hz
 have hcap:¬ its.toArray.size*k.toNat > (2 ^ 63 - 1) / 8:=by
  have:(sizeLine:JW)<=(2 ^ 63 - 1) / 8:=by decide
  omega
 have hfit:¬ (!Ru k)=true:=by
  rw[Rt h1 h2];exact Kr
 have hlong:¬ MD (its.toArray.size*k.toNat)=true:=by
  rw[qx hlen];exact Kr
 have hnew:Rs (λx1 x2=>x1++x2) #[] (K2 (if its.toArray.isEmpty=true then 0 else k.toNat) its.toArray)=(K2 k.toNat its).flatten.toArray:=by
  have f0:∀m:JW,Rs (λx1 x2=>x1++x2) #[] (K2 m its.toArray)=(K2 m its).flatten.toArray:=λm=>by
   have:=nV its m [];rw[List.nil_append]at this;exact this
  rw[f0];cases its with
  | nil=>simp
  | cons a r'=>rw[Kw (by simp)]
 refine wpAny_binaryOp_repeat_ref (T:="list") (U:="int") (by decide) ⟨_,e,rfl⟩ (λs'=>Rr s' k t) noFill_list_mul F.fills_int_mul F.slot_int_rmul repeat_list F.slot_int_index.lookup
  (On F.slot_int_rmul (Rr s k t) F.entry_int_rmul (F.args_int_rmul_2 _ _) (int___rmul___int_list k t l its.toArray n)
   ⟨e,rfl,⟨_,e,rfl⟩,On F.slot_list_mul ⟨_,e,rfl⟩ F.entry_list_mul (F.args_list_mul_2 _ _) (Qj l its.toArray n k t hfit hcap hlong) ⟨e,?_⟩⟩)
 rw[hnew];exact⟨.ref _,_,I.lnew (t':=s.toks) (r.rep k.toNat) (by rw[Bq,Nb]; exact hz),rfl,q _ I.fresh⟩
end
section
variable{X:Cx}{pins:JM (JX×LF)}{σ:St}{H:Hp}{s:JS}{a:JX}{y v:V}{u r:JP}{o:JU V}{A:KH}{E:JP->JS->Prop}
theorem Inv.big (I:Inv X pins σ H s):sysModules < s.heap.objs.size:=by
 have h:mainGlobals < s.heap.objs.size:=(I.mod.glob.keeps I.bk).lt;exact NE (by decide) h
theorem o4 {h':KW}{t':JW}{ob:HO}(I:Inv X pins σ H s)(mu:FP (H a))(hs:LJ a s.heap h')(he:∃q,h'.get? a=ba q)(new:ObjOk X.prog X.w (cj H a ob) h' a ob) :
  Inv X pins σ (cj H a ob) { s with heap:=h',toks:=t' }:=
 I.write (x:=a) (e:=a) mu (.inl rfl) (λb q hb z=>(hs.2 b hb).trans z) he new
end
noncomputable abbrev VV:JM (V×V)->JM (JP×JP)->Prop:=O1 λp q=>RelV p.1 q.1/\RelV p.2 q.2
end L2
namespace Att
open PySem PySem.W PySem.Calls PyProof.Rows
theorem kF {P:Rv}{h:KW}:∀(ns:JM J5) (vs:JM JP),WellAll P h vs (ns.map WData.int)->Rm vs ns:=by
 intro ns
 induction ns with
 | nil=>
  intro vs w;rw[Qw]at w;cases w;exact .nil
 | cons n ns ih=>
  intro vs w;rw[Lp]at w;cases w with
  | cons a b=>
   cases a;exact .cons _ _ (ih _ b)
theorem vT {l:OpenLaw}{n:JW}(hn:l.most=ba n){P:Rv}{h:KW}{args:JM WData}{vals:JM JP}
  (hpre:l.row.toRowW.claim.pre args=true) (hwl:WellAll P h vals args) :
  ∃a vs ns,vals=[KI a]/\args=[WData.list (ns.map WData.int)]/\h.get? a=ba { cls:=.type "list",data:=.seq vs.toArray }/\Rm vs ns/\ns.length<=n:=by
 have hsh:WShape.hasAll [] args [.list .int]=true:=(pre_splitW hpre).1;have hc:l.pre.holds [] { args:=args }=true:=(pre_splitW hpre).2;obtain⟨d,r,rfl,h1,h2⟩:=hasAllW_cons hsh;obtain rfl:=hasAllW_nil h2;obtain⟨xs,rfl,h3⟩:=hasW_list h1;obtain⟨ns,rfl⟩:=items_int h3;have hlen:ns.length<=n:=by
  unfold OpenLaw.pre at hc;have h4:(WTm.not (.lt (.lit (.int (n:J5))) (.len (.arg 0)))).holds [] { args:=[.list (ns.map .int)] }=true:=by
   have h4:=(holds_andW hc).1;rw[hn]at h4;exact h4
  have h5:=condW_of h4 (w_not (w_lt w_lit (w_len_list (w_arg rfl))));rw[JO]at h5;refine QT λq=>?_
  have q':(n:J5) < ((ns.length:JW):J5):=by exact LL.mpr ‹_›
  first
   | (rw[LX q']at h5; exact absurd h5 (by decide))
   | (simp at h5; omega)
 cases hwl with
 | cons w1 w2=>
  cases w2;cases w1 with
  | list ho hall=>exact⟨_,_,ns,rfl,rfl,ho,kF ns _ hall,hlen⟩
theorem vU (l:OpenLaw)(args:JM WData):l.row.toRowW.claim.post args (.bool true) args=true:=
 postW_of (r:=l.row.toRowW) (X:=(true==true))
  (show WShape.has [] (.bool true) .bool=true by first|rfl|decide|simp[WShape.has,WShape.arms,WShape.armsAll])
  (show(WTm.eq .res (.lit (.bool true))).value [] { args:=args,res:=ba (.bool true),after:=args }=ba (.bool (true==true))from w_eq_bool (w_res rfl) w_lit) rfl
theorem attach_call {l:OpenLaw}{n:JW}{q:Kx}{loose:JM Kd}{XP:(Kd->JU JP)->KW->Prop}{YP:KO->KW->Prop}{d:DefRec}
  (hn:l.most=ba n) (hdf:d.params.defaults=[])
  (call:∀(w:KO) (s₀ s₁:JS) (mg mb:Kd->JU JP) (fa:JX) (o:LF) (pm cd doc:JP) (a:JX) (vs:JM JP) (ns:JM J5),
   Ground q loose [] XP w s₀ mg mb s₁.heap->YP w s₁.heap->
   s₁.heap.get? fa=ba o->o.data=.func (docDef d.name d.params d.body d.scope pm cd doc)->s₁.heap.CodeRec cd d.name->mg d.name=ba (.ref fa)->
   s₁.heap.get? a=ba { cls:=.type "list",data:=.seq vs.toArray }->Rm vs ns->ns.length<=n->s₁.gens=#[]->
   codeAny (model l.prog w) callerA (.call (.ref fa) ⟨[.ref a],[]⟩) (λr s'=>r=.ok (.ret (.bool true))/\OldK s₁.heap s'.heap/\s'.os=s₁.os/\OG s'.gens) s₁) :
  WalkO q loose XP YP l.row.toRowW d [] (λf vs=>Rw f vs):=by
 intro w s₀ s₁ mg mb G Y fa o pm cd doc dV kV ho hd hcd hD hmg hg args vals as hpre hlay hrd hwl hlo;obtain rfl:dV=.none:=Dflts.none hD hdf;obtain rfl:kV=.none:=Dflts.noKw hD;obtain⟨a,vs,ns,rfl,rfl,hobj,hints,hlen⟩:=vT hn hpre hwl;refine enter_call (NB (call w s₀ s₁ mg mb fa o pm cd doc a vs ns G Y ho (fd_plain hd) hcd hmg hobj hints hlen hg) λr s' hq=>?_)
 obtain⟨rfl,h2,h3,h4⟩:=hq;exact⟨.inl ⟨.bool true,.bool true,[],rfl,λ_=>rfl,.bool true,vU l _,λ_=>⟨SV,λ_ hm=>(nomatch hm)⟩⟩,h2,h3,h4⟩
end Att
namespace L2
open PySem PySem.Spec PyProof.Rows
theorem nW:∀ {vs:JM JP} {ns:JM J5},Rm vs ns->Vals (ns.map V.int) vs
 | _,_,.nil=>.nil
 | _,_,.cons n t h=>.cons ⟨t,rfl⟩ (nW h)
noncomputable def xY (H:Hp):Prop:=∀b,H b=gV\/∃o xs,H b=ba (.frz o (.lst xs))
theorem xZ {P:Kx}{w:KO}{K:J2}{mg mb:Kd->JU JP}{CX:xO}{k:JW}{fa a:JX}{fd:Mp}{x:Kd}{sp:Sp}{s₁:JS}{vs:JM JP}{ns:JM J5}
  (KX:K.In s₁.heap) (hns:s₁.heap.Ns mainGlobals mg) (hb:s₁.heap.Ns builtinsNs mb) (hbb:∀x:Kd,x≠"__name__"->mb x=bootBuiltins x) (hlim:s₁.heap.NoLimit) (hg:s₁.gens=#[])
  (ha:s₁.heap.get? a=ba { cls:=.type "list",data:=.seq vs.toArray }) (hi:Rm vs ns) (hl:ns.length<=sizeLine) (hr:Room k callerA)
  (F:∀base:KW,K.In base->base.Ns mainGlobals mg->FnOk P w K mg base CX k fa fd [x] sp) (hbind:∀(s:JS) (u:JP),Qp s fd ⟨[u],[]⟩ [(x,u)])
  (hsp:∀H:Hp,xY H->SqL K H a (ns.map V.int)->sp [.ref a] H (λv _=>v=.bl true) λ_ _ _=>Lq)
  (hCX:∀H e s',CX [] H s₁ (λ_ _ _=>Lq) e s'->Lq) :
  codeAny (model P w) callerA (.call (.ref fa) ⟨[.ref a],[]⟩) (λr s'=>r=.ok (.ret (.bool true))/\OldK s₁.heap s'.heap/\s'.os=s₁.os/\OG s'.gens) s₁:=by
 have rv:=nW hi;have lenV:=hi.length;have core:∀H:Hp,xY H->SqL K H a (ns.map V.int)->HOk P w H s₁.heap->(∀b,H b≠gV->b=a)->(H a≠gV->K.lookup a=gV)->
   codeAny (model P w) callerA (.call (.ref fa) ⟨[.ref a],[]⟩) (λr s'=>r=.ok (.ret (.bool true))/\OldK s₁.heap s'.heap/\s'.os=s₁.os/\OG s'.gens) s₁:=by
  intro H hO hS hok hA hK;have base_of:∀ {b:JX} {o:LF},s₁.heap.get? b=ba o->H b=gV->(oR s₁.heap H).get? b=ba o:=λe n=>xB e n
  have noA:∀ {b:JX} {o:LF} {es:Ku Mg} {ep:JW},s₁.heap.get? b=ba o->o.data=.dict es ep->H b=gV:=λ{b o es ep} e d=>by
   cases q:H b with
   | none=>rfl
   | some u=>
    have e':b=a:=hA b (by rw[q]; simp)
    subst e';rw[ha]at e; cases e
    have d':Data.seq vs.toArray _=Data.dict es ep:=d;cases d'
  have nsK:∀ {b:JX} {m:Kd->JU JP},s₁.heap.Ns b m->(oR s₁.heap H).Ns b m:=λ{b m} ⟨o,es,ep,e,d,r⟩=>⟨o,es,ep,base_of e (noA e d),d,r⟩
  have hKb:K.In (oR s₁.heap H):=λb o e=>base_of (KX b o e) (by
   cases q:H b with
   | none=>rfl
   | some u=>
    have e':b=a:=hA b (by rw[q]; simp)
    subst e';rw[hK (by rw[q]; simp)]at e; cases e)
  have hM:Mod K mg (oR s₁.heap H):=⟨hKb,nsK hns,⟨mb,nsK hb,hbb⟩,let ⟨mc,h1,h2⟩:=hlim; ⟨mc,nsK h1,h2⟩⟩
  have e0:Env0 P w K mg (oR s₁.heap H) callerA [] s₁ H:=⟨rfl,hM,λb o e=>AS e,Nat.le_of_eq (vI _ _),trivial,λb hb=>absurd (show b∈([]:JM JX)from hb) (by simp),hok,.of_eq hg⟩
  refine NB ((F _ hKb (nsK hns)).run callerA [] s₁ H ⟨[.ref a],[]⟩ [.ref a] [.ref a] _ _ hr e0 (hbind s₁ (.ref a)) (.cons rfl .nil) (hsp H hO hS)) λr s' h=>?_
  cases r with
  | error e=>exact(hCX H e s' h).elim
  | ok fl=>
   cases fl with
   | next=>exact Lq.elim h
   | brk=>exact Lq.elim h
   | cont=>exact Lq.elim h
   | ret u=>
    obtain⟨v,H',os,bare,un,hok',r',q⟩:=h;have q':v=.bl true:=q;subst q';obtain rfl:u=M3 true:=r';refine⟨rfl,OldK.of_keep λb o e=>?_,os,bare⟩
    cases q:H b with
    | none=>exact un.keep b o e q (by intro z; exact absurd (show b∈([]:JM JX)from z) (by simp)) (by simp)
    | some u=>
     rcases hO b with z|⟨ob,xs,z⟩
     ·rw[q]at z; cases z
     ·have z2:=un.frzs b ob _ z;obtain⟨e1,_⟩:=hok b _ z;obtain⟨e2,_⟩:=hok' b _ z2;rw[e]at e1; cases e1
      exact e2
 cases hk:K.lookup a with
 | some o=>
  have e:=KX a o hk;rw[ha]at e;cases e;refine core (λ_=>gV) (λ_=>.inl rfl) (.inr ⟨_,vs.toArray,_,hk,rfl,rfl,rfl,by rw[J7,lenV]; exact hl,by simpa using rv⟩) (λb u z=>by have z':(gV:JU HO)=ba u:=z; cases z') (λb z=>absurd rfl z) λz=>absurd rfl z
 | none=>
  refine core (λb=>if b=a then ba (.frz { cls:=.type "list",data:=.seq vs.toArray } (.lst (ns.map V.int)))else gV) (λb=>?_) (.inl (.inr ⟨{ cls:=.type "list",data:=.seq vs.toArray },Ko rfl⟩)) (λb u z=>?_) (λb z=>?_) λ_=>hk
  ·by_cases hb:b=a
   ·exact .inr ⟨_,_,Ko hb⟩
   ·exact .inl (Kw hb)
  ·by_cases hb:b=a
   ·have z':=(Ko hb).symm.trans z;cases z';subst hb;exact⟨ha,by rw[JO]; exact hl,vs,_,rv,ha⟩
   ·have z':=(Kw hb).symm.trans z;cases z'
  ·by_cases hb:b=a
   ·exact hb
   ·exact absurd (Kw hb) z
theorem Br {l:Pd}{n k:JW}{q:Kx}{loose:JM Kd}{XP:(Kd->JU JP)->KW->Prop}{YP:KO->KW->Prop}{d:DefRec}{K:Rv->J2}{CX:KO->xO}{sp:KO->Sp}{x:Kd}
  (hn:l.most=ba n) (hn2:n<=sizeLine) (hdf:d.params.defaults=[]) (hr:Room k callerA)
  (hY:∀(w:KO) (h:KW),YP w h->(K w.params).In h)
  (F:∀(w:KO) (mg:Kd->JU JP) (fa:JX) (h:KW),(K w.params).In h->h.Ns mainGlobals mg->mg d.name=ba (.ref fa)->
   ∃fd:Mp,(∀(s:JS) (u:JP),Qp s fd ⟨[u],[]⟩ [(x,u)])/\
    ∀base:KW,(K w.params).In base->base.Ns mainGlobals mg->FnOk l.prog w (K w.params) mg base (CX w) k fa fd [x] (sp w))
  (hsp:∀(w:KO) (H:Hp) (a:JX) (ns:JM J5),ns.length<=n->xY H->SqL (K w.params) H a (ns.map V.int)->sp w [.ref a] H (λv _=>v=.bl true) λ_ _ _=>Lq)
  (hCX:∀(w:KO) (H:Hp) (s:JS) (e:JP) (s':JS),CX w [] H s (λ_ _ _=>Lq) e s'->Lq) :
  RQ q loose XP YP l.row.toRowW d [] (λf vs=>Rw f vs):=by
 refine Att.attach_call hn hdf λw s₀ s₁ mg mb fa o pm cd doc a vs ns G Y ho hd hcd hmg hobj hints hlen hg=>?_
 have KX:=hY w _ Y;obtain⟨fd,hb,hF⟩:=F w mg fa _ KX G.T.g hmg;exact xZ KX G.T.g G.T.b G.T.builtins G.T.nolimit hg hobj hints (J3 hlen hn2) hr hF hb (λH hO hS=>hsp w H a ns hlen hO hS) λH e s'=>hCX w H s₁ e s'
noncomputable def ee (s:MC):Arguments:=match s with
 | .FunctionDef _ a _ _ _ _ _ _ _ _=>a
 | _=>{ posonlyargs:=[],args:=[],vararg:=gV,kwonlyargs:=[],kw_defaults:=[],kwarg:=gV,defaults:=[] }
noncomputable def dv (s:MC):JM MC:=match s with
 | .FunctionDef _ _ b _ _ _ _ _ _ _=>b
 | _=>[]
noncomputable def ag (s:MC):MZ:=match s with
 | .FunctionDef _ _ _ _ _ _ sc _ _ _=>sc
 | _=>{ kind:=.function,names:=[],isGenerator:=false,isCoroutine:=false }
noncomputable abbrev xy:xO:=λ_ _ _ _ _ _=>Lq
noncomputable abbrev E0:XK:=λ_ _ _=>Lq
theorem C6 {X:Cx}:oU xy X E0:=λ_ _ _ _ _ _ _ h=>h.elim
structure Fun (K:J2)(x qual:Kd)(st:MC)(f:JX)(fd:Mp):Prop where
 ex:∃(oc:JP) (od:JU JX) (kV doc pm:JP) (an:JU JX) (cdv ct:JP) (osl:Ku (JU JP)),
  fd=L4 x qual (ee st) (dv st) (ag st) .none kV doc pm an cdv ct/\K.lookup f=ba ⟨oc,od,.func fd,osl⟩/\M4 K cdv qual=true
 kp:LC K (.ref f)=true
section
variable{P:Kx}{w:KO}{K:J2}{mg:Kd->JU JP}{base:KW}
theorem Fun.ok {x qual:Kd}{st:MC}{f:JX}{fd:Mp}{N ps:JM Kd}{k:JW}{sp:Sp}(F:Fun K x qual st f fd)(S:FnScope N ps (ag st))(len:∀vs H Q E,sp vs H Q E->vs.length=ps.length)
  (hbody:∀(cdv:JP) (A:KH) (outer:JM Ql) (s:JS) (H:Hp) (vs:JM V) (Q:VK) (E:XK),Room k (A.deeper (envOfC qual (ag st) s.heap.objs.size f cdv))->sp vs H Q E->
   ∃t,PSs (sN xy P w K mg base N qual (ag st) f cdv A outer s H E).nox (dv st) t/\t { nx:=λ_ H'=>Q .non H',rt:=Q } (gn N vs) H):FnOk P w K mg base xy (k+1) f fd ps sp:=by
 obtain⟨oc,od,kV,doc,pm,an,cdv,ct,osl,rfl,lk,hcd⟩:=F.ex;refine Gg lk hcd S len λA outer s H vs Q E hr hsp=>?_
 obtain⟨t,h,q⟩:=hbody cdv A outer s H vs Q E hr hsp;exact⟨t,h.nox,q⟩
theorem Fun.binds {x qual:Kd}{st:MC}{f:JX}{fd:Mp}{ps:JM Kd}(F:Fun K x qual st f fd)
  (h:∀(kV doc pm:JP) (an:JU JX) (cdv ct:JP) (us:JM JP),us.length=ps.length->bindArgs (L4 x qual (ee st) (dv st) (ag st) .none kV doc pm an cdv ct) ⟨us,[]⟩=pure (ps.zip us)):Binds K fd ps []:=by
 obtain⟨oc,od,kV,doc,pm,an,cdv,ct,osl,rfl,lk,hcd⟩:=F.ex;exact .all (h kV doc pm an cdv ct)
theorem ya {x qual:Kd}{st:MC}{f:JX}{oc:JP}{od an:JU JX}{osl:Ku (JU JP)}{kV doc pm cdv ct:JP}(l:K.lookup f=ba ⟨oc,od,.func (L4 x qual (ee st) (dv st) (ag st) .none kV doc pm an cdv ct),osl⟩)
  (c:M4 K cdv qual=true) (k:LC K (.ref f)=true):Fun K x qual st f (L4 x qual (ee st) (dv st) (ag st) .none kV doc pm an cdv ct):=⟨⟨oc,od,kV,doc,pm,an,cdv,ct,osl,rfl,l,c⟩,k⟩
end
section
variable{X:Cx}
theorem pv (i:JW){x:Kd}{pos:Mo}(hN:X.N[i]?=ba x:=by rfl)(hv:HA X.env.scope x)(hd:(x==("__debug__" : Kd))=false:=by decide)
  (hcd:(x==("__classdict__" : Kd))=false:=by decide):PE X (.Name x pos) (DC i):=xC hN hv hd hcd
end
end L2
namespace Mi
open PySem PySem.Spec PyProof.Rows L2
noncomputable def fS (t:Lh)(n:JW):Kt:=decide (ML t.place 0=0)&&(Ky n).all λi=>decide (ML t.place (t.place.getD i 0+1)=i+1)
noncomputable def fJ (w:KO):Kt:=w.params.followText "set-order"
inductive W where
 | non|bl (b:Kt)|int (i:J5)|str (x:Kd)|tup (xs:JM W)|ref (i:JW)
inductive T where
 | int (i:J5)|str (x:Kd)|tup (xs:JM T)
mutual
noncomputable def T.beq:T->T->Kt
 | .int i,.int j=>i==j
 | .str x,.str y=>x==y
 | .tup xs,.tup ys=>T.beqs xs ys
 | _,_=>false
noncomputable def T.beqs:JM T->JM T->Kt
 | [],[]=>true
 | x::xs,y::ys=>T.beq x y&&T.beqs xs ys
 | _,_=>false
end
mutual
theorem T.beq_iff:∀x y:T,T.beq x y=true↔x=y
 | .int i,.int j=>by simp[T.beq]
 | .str x,.str y=>by simp[T.beq]
 | .tup xs,.tup ys=>by simp[T.beq,T.beqs_iff xs ys]
 | .int _,.str _|.int _,.tup _|.str _,.int _|.str _,.tup _|.tup _,.int _|.tup _,.str _=>by simp[T.beq]
theorem T.beqs_iff:∀xs ys:JM T,T.beqs xs ys=true↔xs=ys
 | [],[]=>by simp[T.beqs]
 | x::xs,y::ys=>by simp[T.beqs,T.beq_iff x y,T.beqs_iff xs ys]
 | [],_::_|_::_,[]=>by simp[T.beqs]
end
noncomputable instance:M2 T:=λx y=>decidable_of_iff (T.beq x y=true) (T.beq_iff x y)
mutual
noncomputable def T.w:T->W
 | .int i=>.int i
 | .str x=>.str x
 | .tup xs=>.tup (T.ws xs)
noncomputable def T.ws:JM T->JM W
 | []=>[]
 | x::xs=>T.w x::T.ws xs
end
mutual
noncomputable def W.t:W->JU T
 | .int i=>ba (.int i)
 | .str x=>ba (.str x)
 | .tup xs=>(W.ts xs).map .tup
 | _=>gV
noncomputable def W.ts:JM W->JU (JM T)
 | []=>ba []
 | x::xs=>match W.t x,W.ts xs with
  | some y,ba ys=>ba (y::ys)
  | _,_=>gV
end
mutual
theorem W.t_w:∀ {w:W} {k:T},W.t w=ba k->k.w=w
 | .int i,_,h=>by cases h; rfl
 | .str x,_,h=>by cases h; rfl
 | .tup xs,_,h=>by
  simp only[W.t,JR]at h;obtain⟨ks,h1,h2⟩:=h;subst h2;simp only[T.w,W.ts_w h1]
 | .non,_,h|.bl _,_,h|.ref _,_,h=>by cases h
theorem W.ts_w:∀ {ws:JM W} {ks:JM T},W.ts ws=ba ks->T.ws ks=ws
 | [],_,h=>by cases h; rfl
 | w::ws,_,h=>by
  simp only[W.ts]at h;split at h
  ·rename_i y ys h1 h2;cases h;simp only[T.ws,W.t_w h1,W.ts_w h2]
  ·cases h
end
mutual
theorem T.w_t:∀k:T,W.t k.w=ba k
 | .int _=>rfl
 | .str _=>rfl
 | .tup xs=>by simp only[T.w,W.t,T.ws_ts xs,KR]
theorem T.ws_ts:∀ks:JM T,W.ts (T.ws ks)=ba ks
 | []=>rfl
 | x::xs=>by simp only[T.ws,W.ts,T.w_t x,T.ws_ts xs]
end
mutual
noncomputable def T.depth:T->JW
 | .tup xs=>T.depths xs+1
 | _=>0
noncomputable def T.depths:JM T->JW
 | []=>0
 | x::xs=>max (T.depth x) (T.depths xs)
end
mutual
noncomputable def T.draws:T->JW
 | .tup xs=>T.drawss xs+1
 | _=>1
noncomputable def T.drawss:JM T->JW
 | []=>0
 | x::xs=>T.draws x+T.drawss xs
end
mutual
noncomputable def fq (wd:KO):T->J5
 | .int i=>hashInt i
 | .str x=>hashStr wd x
 | .tup xs=>reduceHash (Ng (iw wd xs))
noncomputable def iw (wd:KO):JM T->JM J5
 | []=>[]
 | x::xs=>fq wd x::iw wd xs
end
noncomputable def T.isTup:T->Kt
 | .tup _=>true
 | _=>false
noncomputable def aG:JW:=6
inductive O where
 | lst (xs:JM W)
 | fro (xs:JM W)
 | stt (ks:JM T)
 | rng (lo hi:J5)
 | dic (kvs:JM (T×W))
 | frd (kvs:JM (T×W))
noncomputable abbrev aa:=JM O
noncomputable abbrev Fm:=JM (JU W)
section
variable (K:J2) (A:JM JX) (H:Hp)
mutual
inductive Rel:W->V->Prop
 | non:Rel .non .non
 | bl {b:Kt}:Rel (.bl b) (.bl b)
 | int {i:J5}:Rel (.int i) (.int i)
 | str {x:Kd}:Rel (.str x) (.str x)
 | tup {ws:JM W} {a:JX} {vs:JM V}:SqT K H a vs->RelL ws vs->Rel (.tup ws) (.ref a)
 | ref {i:JW} {a:JX}:A[i]?=ba a->Rel (.ref i) (.ref a)
inductive RelL:JM W->JM V->Prop
 | nil:RelL [] []
 | cons {w:W} {v:V} {ws:JM W} {vs:JM V}:Rel w v->RelL ws vs->RelL (w::ws) (v::vs)
end
end
section
variable{K:J2}{A A' A'':JM JX}{H H' H'':Hp}
structure Ext (K:J2)(A:JM JX)(H:Hp)(A':JM JX)(H':Hp):Prop where
 ad:∀(i:JW) (a:JX),A[i]?=ba a->A'[i]?=ba a
 tp:∀(a:JX) (vs:JM V),SqT K H a vs->SqT K H' a vs
 fz:∀(a:JX) (o:LF) (u:HO),H a=ba (.frz o u)->H' a=ba (.frz o u)
theorem Ext.refl:Ext K A H A H:=⟨λ_ _ h=>h,λ_ _ h=>h,λ_ _ _ h=>h⟩
theorem Ext.trans (e:Ext K A H A' H')(f:Ext K A' H' A'' H''):Ext K A H A'' H'':=⟨λi a h=>f.ad i a (e.ad i a h),λa vs h=>f.tp a vs (e.tp a vs h),λa o u h=>f.fz a o u (e.fz a o u h)⟩
mutual
theorem Rel.mono (e:Ext K A H A' H'):∀ {w:W} {v:V},Rel K A H w v->Rel K A' H' w v
 | _,_,.non=>.non
 | _,_,.bl=>.bl
 | _,_,.int=>.int
 | _,_,.str=>.str
 | _,_,.tup h r=>.tup (e.tp _ _ h) (RelL.mono e r)
 | _,_,.ref h=>.ref (e.ad _ _ h)
theorem RelL.mono (e:Ext K A H A' H'):∀ {ws:JM W} {vs:JM V},RelL K A H ws vs->RelL K A' H' ws vs
 | _,_,.nil=>.nil
 | _,_,.cons r t=>.cons (Rel.mono e r) (RelL.mono e t)
end
theorem RelL.length:∀ {ws:JM W} {vs:JM V},RelL K A H ws vs->ws.length=vs.length
 | _,_,.nil=>rfl
 | _,_,.cons _ t=>by simp[RelL.length t]
theorem RelL.get:∀ {ws:JM W} {vs:JM V} {i:JW} {w:W},RelL K A H ws vs->ws[i]?=ba w->∃v,vs[i]?=ba v/\Rel K A H w v
 | _,_,_,_,.nil,e=>by simp at e
 | _,_,0,_,.cons r _,e=>by simp at e; subst e; exact⟨_,rfl,r⟩
 | _,_,i+1,w,.cons _ t,e=>by
  obtain⟨u,h1,h2⟩:=RelL.get (i:=i) (w:=w) t (by simpa using e)
  exact⟨u,by simpa using h1,h2⟩
theorem RelL.append:∀ {xs ys:JM W} {us ws:JM V},RelL K A H xs us->RelL K A H ys ws->RelL K A H (xs++ys) (us++ws)
 | _,_,_,_,.nil,s=>s
 | _,_,_,_,.cons r t,s=>.cons r (RelL.append t s)
theorem RelL.take:∀ {xs:JM W} {us:JM V} (n:JW),RelL K A H xs us->RelL K A H (xs.take n) (us.take n)
 | _,_,0,_=>.nil
 | _,_,_+1,.nil=>.nil
 | _,_,n+1,.cons r t=>.cons r (RelL.take n t)
theorem RelL.drop:∀ {xs:JM W} {us:JM V} (n:JW),RelL K A H xs us->RelL K A H (xs.drop n) (us.drop n)
 | _,_,0,r=>r
 | _,_,_+1,.nil=>.nil
 | _,_,n+1,.cons _ t=>RelL.drop n t
theorem RelL.set {x:W}{u:V}(r:Rel K A H x u):∀ {xs:JM W} {us:JM V} (i:JW),RelL K A H xs us->RelL K A H (xs.set i x) (us.set i u)
 | _,_,_,.nil=>.nil
 | _,_,0,.cons _ t=>.cons r t
 | _,_,i+1,.cons q t=>.cons q (RelL.set r i t)
theorem RelL.rep {xs:JM W}{us:JM V}(h:RelL K A H xs us):∀k:JW,RelL K A H (K2 k xs).flatten (K2 k us).flatten
 | 0=>.nil
 | k+1=>by
  rw[LZ,LZ,Mx,Mx];exact RelL.append h (RelL.rep h k)
theorem RelL.eraseIdx:∀ {xs:JM W} {us:JM V} (i:JW),RelL K A H xs us->RelL K A H (xs.eraseIdx i) (us.eraseIdx i)
 | _,_,_,.nil=>.nil
 | _,_,0,.cons _ t=>t
 | _,_,i+1,.cons r t=>.cons r (RelL.eraseIdx i t)
noncomputable def FroL (K:J2)(H:Hp)(a:JX)(vs:JM V):Prop:=
 (∃o,H a=ba (.frz o (.lst vs)))\/
  ∃(o:LF) (its:Ku JP) (n:JW),K.lookup a=ba o/\o.cls=.type "list"/\o.dict=gV/\o.data=.seq its n/\its.size<=sizeLine/\Vals vs its.toList
theorem FroL.sq {a:JX}{vs:JM V}(h:FroL K H a vs):SqL K H a vs:=by
 rcases h with⟨o,h⟩|h
 ·exact .inl (.inr ⟨o,h⟩)
 ·exact .inr h
noncomputable def yb (wd:KO)(x:T×JX×JP):Mg:=⟨fq wd x.1,.ref x.2.1,x.2.2⟩
noncomputable def DicAt (wd:KO)(a:JX)(xs:JM (T×JX×JP))(h:KW):Prop:=
 xs.length<=sizeLine/\(a==sysModules)=false/\(xs.map (·.1)).Nodup/\∃o es ep,h.get? a=ba o/\o.ExactDict/\o.data=.dict es ep/\es.toList=xs.map (yb wd)
noncomputable def eM (wd:KO)(a:JX)(xs:JM (T×JX×JP)):HO:=.ext (DicAt wd a xs)
noncomputable def KRel (K:J2)(A:JM JX)(H:Hp):JM (T×W)->JM (T×JX×JP)->Prop:=
 O1 λ(p:T×W) (q:T×JX×JP)=>p.1=q.1/\p.1.isTup=true/\p.1.depth<=aG/\Rel K A H p.1.w (.ref q.2.1)/\∃v,Rel K A H p.2 v/\RelV v q.2.2
theorem KRel.mono (e:Ext K A H A' H'){kvs:JM (T×W)}{xs:JM (T×JX×JP)}(h:KRel K A H kvs xs):KRel K A' H' kvs xs:=
 Paired.mapP h λ_ _ ⟨h1,h2,h3,h4,v,h5,h6⟩=>⟨h1,h2,h3,h4.mono e,v,h5.mono e,h6⟩
variable{wd:KO}
noncomputable def Bs (wd:KO)(as:JM JX)(o:LF):Prop:=o.ExactSet/\∃es ep t,o.data=.set es ep t/\es.size<=sizeLine/\t.fits es.size=true/\t.led=(!fJ wd)/\(t.plain=true->es.size=0\/fS t es.size=true)/\es.toList.map (·.2)=as.map KI
noncomputable def ObjRel (wd:KO)(K:J2)(A:JM JX)(H:Hp)(a:JX):O->Prop
 | .lst ws=>∃vs,H a=ba (.lst vs)/\RelL K A H ws vs
 | .fro ws=>∃vs,FroL K H a vs/\RelL K A H ws vs
 | .stt ks=>∃o φ as,H a=ba (.frz o (.ext φ))/\Bs wd as o/\RelL K A H (T.ws ks) (as.map V.ref)
 | .rng lo hi=>H a=ba (.rng lo hi)
 | .dic kvs=>∃xs,H a=ba (eM wd a xs)/\KRel K A H kvs xs
 | .frd kvs=>∃o xs,H a=ba (.frz o (eM wd a xs))/\KRel K A H kvs xs
noncomputable def O.mut:O->Kt
 | .fro _=>false
 | .stt _=>false
 | .rng _ _=>false
 | .frd _=>false
 | _=>true
structure StoreOk (wd:KO)(K:J2)(A:JM JX)(H:Hp)(S:aa):Prop where
 len:A.length=S.length
 nd:∀(i j:JW) (a:JX) (o u:O),S[i]?=ba o->o.mut=true->S[j]?=ba u->u.mut=true->A[i]?=ba a->A[j]?=ba a->i=j
 obj:∀(i:JW) (o:O) (a:JX),S[i]?=ba o->A[i]?=ba a->ObjRel wd K A H a o
noncomputable def EnvRel (K:J2)(A:JM JX)(H:Hp)(ρ:Fm)(σ:L2.St):Prop:=
 ρ.length=σ.length/\∀(i:JW) (w:W),ρ[i]?=ba (ba w)->∃v,σ[i]?=ba (ba v)/\Rel K A H w v
theorem EnvRel.mono {ρ:Fm}{σ:L2.St}(e:Ext K A H A' H')(h:EnvRel K A H ρ σ):EnvRel K A' H' ρ σ:=
 ⟨h.1,λi w q=>let ⟨v,a,b⟩:=h.2 i w q; ⟨v,a,b.mono e⟩⟩
theorem EnvRel.set {ρ:Fm}{σ:L2.St}{w:W}{v:V}(h:EnvRel K A H ρ σ)(r:Rel K A H w v)(i:JW):EnvRel K A H (ρ.set i (ba w)) (σ.set i (ba v)):=by
 refine⟨by simp[h.1],λj w' q=>?_⟩
 rw[LY]at q ⊢
 by_cases e:i=j
 ·subst e;rw[Ko rfl]at q ⊢
  by_cases hl:i < ρ.length
  ·rw[Ko hl]at q;rw[Ko (h.1 ▸ hl)];cases q;exact⟨v,rfl,r⟩
  ·rw[Kw hl]at q; cases q
 ·rw[Kw e]at q ⊢;exact h.2 j w' q
noncomputable def Wr (H:Hp)(p:JX):Prop:=H p=gV\/(∃xs,H p=ba (.lst xs))\/(∃φ,H p=ba (.ext φ))\/∃ks,H p=ba (.dK ks)
theorem Wr.lst {p:JX}{xs:JM V}(h:H p=ba (.lst xs)):Wr H p:=.inr (.inl ⟨xs,h⟩)
theorem Wr.ext {p:JX}{φ:KW->Prop}(h:H p=ba (.ext φ)):Wr H p:=.inr (.inr (.inl ⟨φ,h⟩))
theorem Wr.ne_tup {p a:JX}{xs:JM V}(hp:Wr H p)(h:H a=ba (.tup xs)):a≠p:=by
 intro e; subst e
 rcases hp with q|⟨xs,q⟩|⟨φ,q⟩|⟨ks,q⟩ <;> (rw[h]at q; cases q)
theorem Wr.ne_frz {p a:JX}{o:LF}{u:HO}(hp:Wr H p)(h:H a=ba (.frz o u)):a≠p:=by
 intro e; subst e
 rcases hp with q|⟨xs,q⟩|⟨φ,q⟩|⟨ks,q⟩ <;> (rw[h]at q; cases q)
theorem Wr.ne_rng {p a:JX}{lo hi:J5}(hp:Wr H p)(h:H a=ba (.rng lo hi)):a≠p:=by
 intro e; subst e
 rcases hp with q|⟨xs,q⟩|⟨φ,q⟩|⟨ks,q⟩ <;> (rw[h]at q; cases q)
theorem ut {p:JX}{o:HO}(hp:Wr H p){a:JX}{vs:JM V}(h:SqT K H a vs):SqT K (cj H p o) a vs:=by
 rcases h with(h|⟨o',h⟩)|h
 ·exact .inl (.inl (by rw[aN (hp.ne_tup h)]; exact h))
 ·exact .inl (.inr ⟨o',by rw[aN (hp.ne_frz h)]; exact h⟩)
 ·exact .inr h
theorem yc {p:JX}{o:HO}(hp:Wr H p){a:JX}{vs:JM V}(h:FroL K H a vs):FroL K (cj H p o) a vs:=by
 rcases h with⟨o',h⟩|h
 ·exact .inl ⟨o',by rw[aN (hp.ne_frz h)]; exact h⟩
 ·exact .inr h
theorem dM {p:JX}{o:HO}(hp:Wr H p):Ext K A H A (cj H p o):=⟨λ_ _ h=>h,λ_ _ h=>ut hp h,λ_ _ _ h=>by rw[aN (hp.ne_frz h)]; exact h⟩
theorem dw {p:JX}{o:HO}(hp:H p=gV):Ext K A H (A++[p]) (cj H p o):=
 ⟨λi a h=>by rw[KT (J1.mp h).1]; exact h,λ_ _ h=>ut (.inl hp) h,λ_ _ _ h=>by rw[aN (Wr.ne_frz (.inl hp) h)]; exact h⟩
theorem ObjRel.keep {p a:JX}{o:HO}{b:O}(hp:Wr H p)(hne:b.mut=true->a≠p)(e:Ext K A H A' (cj H p o))(h:ObjRel wd K A H a b):ObjRel wd K A' (cj H p o) a b:=by
 cases b with
 | lst ws=>
  obtain⟨vs,q,r⟩:=h;exact⟨vs,by rw[aN (hne rfl)]; exact q,r.mono e⟩
 | fro ws=>
  obtain⟨vs,q,r⟩:=h;exact⟨vs,yc hp q,r.mono e⟩
 | stt ks=>
  obtain⟨ob,φ,as,q,r1,r2⟩:=h;exact⟨ob,φ,as,by rw[aN (hp.ne_frz q)]; exact q,r1,r2.mono e⟩
 | rng lo hi=>
  have h:H a=ba (.rng lo hi):=h;show cj H p o a=ba (.rng lo hi);rw[aN (hp.ne_rng h)];exact h
 | dic kvs=>
  obtain⟨xs,q,r⟩:=h;exact⟨xs,by rw[aN (hne rfl)]; exact q,r.mono e⟩
 | frd kvs=>
  obtain⟨ob,xs,q,r⟩:=h;exact⟨ob,xs,by rw[aN (hp.ne_frz q)]; exact q,r.mono e⟩
theorem ObjRel.there {a:JX}{b:O}(h:ObjRel wd K A H a b)(hm:b.mut=true):H a≠gV:=by
 cases b with
 | lst ws=>obtain⟨vs,q,r⟩:=h; rw[q]; intro z; cases z
 | fro ws=>cases hm
 | stt ws=>cases hm
 | rng lo hi=>cases hm
 | dic kvs=>obtain⟨vs,q,r⟩:=h; rw[q]; intro z; cases z
 | frd ws=>cases hm
theorem ObjRel.wr {a:JX}{b:O}(h:ObjRel wd K A H a b)(hm:b.mut=true):Wr H a:=by
 cases b with
 | lst ws=>obtain⟨vs,q,r⟩:=h; exact .lst q
 | fro ws=>cases hm
 | stt ws=>cases hm
 | rng lo hi=>cases hm
 | dic kvs=>obtain⟨vs,q,r⟩:=h; exact .ext q
 | frd ws=>cases hm
theorem StoreOk.lay {S:aa}{p:JX}{o:HO}(h:StoreOk wd K A H S)(hp:H p=gV):StoreOk wd K A (cj H p o) S:=
 ⟨h.len,h.nd,λi b a e ea=>(h.obj i b a e ea).keep (.inl hp) (λhm z=>(h.obj i b a e ea).there hm (z ▸ hp)) (dM (.inl hp))⟩
theorem StoreOk.pushO {S:aa}{p:JX}{n:O}{u:HO}(h:StoreOk wd K A H S)(hp:H p=gV)(r:ObjRel wd K (A++[p]) (cj H p u) p n):StoreOk wd K (A++[p]) (cj H p u) (S++[n]):=by
 have ex:Ext K A H (A++[p]) (cj H p u):=dw hp;have old:∀ {i:JW} {o:O} {a:JX},(S++[n])[i]?=ba o->(A++[p])[i]?=ba a->i < S.length->S[i]?=ba o/\A[i]?=ba a:=λ{i o a} e ea hl=>by
  rw[KT hl]at e;rw[KT (h.len ▸ hl)]at ea;exact⟨e,ea⟩
 have new:∀ {i:JW} {o:O} {a:JX},(S++[n])[i]?=ba o->(A++[p])[i]?=ba a->¬ i < S.length->i=S.length/\o=n/\a=p:=λ{i o a} e ea hl=>by
  have hi:i=S.length:=by
   have:=(J1.mp e).1;simp at this;omega
  subst hi;simp at e;rw[<- h.len]at ea;simp at ea;exact⟨rfl,e.symm,ea.symm⟩
 refine⟨by simp[h.len],λi j a o u e1 m1 e2 m2 a1 a2=>?_,λi o a e ea=>?_⟩
 ·by_cases hi:i < S.length <;> by_cases hj:j < S.length
  ·obtain⟨x1,y1⟩:=old e1 a1 hi;obtain⟨x2,y2⟩:=old e2 a2 hj;exact h.nd i j a o u x1 m1 x2 m2 y1 y2
  ·obtain⟨x1,y1⟩:=old e1 a1 hi;obtain⟨_,_,z⟩:=new e2 a2 hj;subst z;exact absurd hp ((h.obj i o a x1 y1).there m1)
  ·obtain⟨x2,y2⟩:=old e2 a2 hj;obtain⟨_,_,z⟩:=new e1 a1 hi;subst z;exact absurd hp ((h.obj j u a x2 y2).there m2)
  ·rw[(new e1 a1 hi).1,(new e2 a2 hj).1]
 ·by_cases hi:i < S.length
  ·obtain⟨x1,y1⟩:=old e ea hi;exact(h.obj i o a x1 y1).keep (.inl hp) (λhm z=>(h.obj i o a x1 y1).there hm (z ▸ hp)) ex
  ·obtain⟨_,rfl,rfl⟩:=new e ea hi;exact r
theorem StoreOk.push {S:aa}{p:JX}{ws:JM W}{vs:JM V}(h:StoreOk wd K A H S)(hp:H p=gV)(r:RelL K A H ws vs):StoreOk wd K (A++[p]) (cj H p (.lst vs)) (S++[.lst ws]):=
 h.pushO hp ⟨vs,bv,r.mono (dw hp)⟩
theorem StoreOk.writeO {S:aa}{i:JW}{p:JX}{o0 n:O}{u:HO}(h:StoreOk wd K A H S)(e:S[i]?=ba o0)(m0:o0.mut=true)(ea:A[i]?=ba p)(r:ObjRel wd K A (cj H p u) p n) :
  StoreOk wd K A (cj H p u) (S.set i n)/\Ext K A H A (cj H p u):=by
 have hw:Wr H p:=(h.obj i _ p e ea).wr m0;have ex:Ext K A H A (cj H p u):=dM hw;have hl:i < S.length:=(J1.mp e).1;refine⟨⟨by simp[h.len],λj k a o u e1 m1 e2 m2 a1 a2=>?_,λj o a e1 a1=>?_⟩,ex⟩
 ·have get:∀ {j:JW} {o:O},(S.set i n)[j]?=ba o->o.mut=true->∃o',S[j]?=ba o'/\o'.mut=true:=λ{j o} q m=>by
   rw[LY]at q
   by_cases z:i=j
   ·subst z; exact⟨_,e,m0⟩
   ·rw[Kw z]at q; exact⟨o,q,m⟩
  obtain⟨o',x1,m1'⟩:=get e1 m1;obtain⟨u',x2,m2'⟩:=get e2 m2;exact h.nd j k a o' u' x1 m1' x2 m2' a1 a2
 ·rw[LY]at e1
  by_cases z:i=j
  ·subst z;rw[Ko rfl,Ko hl]at e1;cases e1;rw[ea]at a1; cases a1
   exact r
  ·rw[Kw z]at e1;exact(h.obj j o a e1 a1).keep hw (λhm q=>z (h.nd i j p _ o e m0 e1 hm ea (q ▸ a1))) ex
theorem StoreOk.write {S:aa}{i:JW}{p:JX}{ws:JM W}{us:JM V}{ws0:JM W}(h:StoreOk wd K A H S)(e:S[i]?=ba (.lst ws0))(ea:A[i]?=ba p)(r:RelL K A H ws us) :
  StoreOk wd K A (cj H p (.lst us)) (S.set i (.lst ws))/\Ext K A H A (cj H p (.lst us)):=
 h.writeO e rfl ea ⟨us,bv,r.mono (dM ((h.obj i _ p e ea).wr rfl))⟩
end
noncomputable def iO (S:aa)(i:JW):JU (JM W):=match S[i]? with
 | some (.lst xs)=>ba xs
 | some (.fro xs)=>ba xs
 | _=>gV
noncomputable def qm (S:aa)(i:JW):JU (JM W):=match S[i]? with
 | some (.lst xs)=>ba xs
 | _=>gV
noncomputable def mZ (S:aa)(xs:JM W):JU (W×aa):=if xs.length<=sizeLine then ba (.ref S.length,S++[.lst xs])else gV
noncomputable def sS (S:aa)(xs:JM W):JU (W×aa):=if xs.length<=sizeLine then ba (.tup xs,S)else gV
noncomputable def Bt (j:J5):Kt:=decide (0 < j)&&decide (j < 1073741824)
noncomputable def vV (i j:J5):Kt:=(decide (-(2 ^ 64) < i)&&decide (i < 2 ^ 64))||(decide (-(2 ^ 64) < j)&&decide (j < 2 ^ 64))
noncomputable def Gm (i j:J5):Kt:=decide (0<=j)&&decide (j<=1000000)&&decide (i.natAbs < 2 ^ 64)
inductive BOp where|add|sub|mul|fdiv|mod|pow
 deriving M2
noncomputable def AQ (c:J5->J5->Kt)(f:J5->J5->J5)(x y:W)(S:aa):JU (W×aa):=match x,y with
 | .int i,.int j=>if c i j then ba (.int (f i j),S)else gV
 | _,_=>gV
noncomputable def vW (x y:W)(S:aa):JU (W×aa):=match x with
 | .int i=>match y with
  | .int j=>ba (.int (i+j),S)
  | _=>gV
 | .str x=>match y with
  | .str y=>if x.length+y.length<=sizeLine then ba (.str (x++y),S)else gV
  | _=>gV
 | .tup xs=>match y with
  | .tup ys=>sS S (xs++ys)
  | _=>gV
 | .ref i=>match y with
  | .ref j=>match qm S i,qm S j with
   | some xs,ba ys=>mZ S (xs++ys)
   | _,_=>gV
  | _=>gV
 | _=>gV
noncomputable def yd (x y:W)(S:aa):JU (W×aa):=match x with
 | .str x=>match y with
  | .int k=>if k < 2 ^ 24/\-(2 ^ 24)<=k/\x.length*k.toNat<=sizeLine then ba (.str (Tw x k),S)else gV
  | _=>gV
 | .ref i=>match y with
  | .int k=>match qm S i with
   | some xs=>if k < 2 ^ 24/\-(2 ^ 24)<=k/\xs.length*k.toNat<=sizeLine then mZ S (K2 k.toNat xs).flatten else gV
   | none=>gV
  | _=>gV
 | x=>AQ vV (· * ·) x y S
noncomputable def gq:BOp->W->W->aa->JU (W×aa)
 | .add,x,y,S=>vW x y S
 | .sub,x,y,S=>AQ (λ_ _=>true) (· - ·) x y S
 | .mul,x,y,S=>yd x y S
 | .fdiv,x,y,S=>AQ (λ_ j=>Bt j) (· / ·) x y S
 | .mod,x,y,S=>AQ (λ_ j=>decide (0 < j)) (· % ·) x y S
 | .pow,x,y,S=>AQ Gm (λi j=>i ^ j.toNat) x y S
noncomputable def BOp.py:BOp->Qo
 | .add=>.Add|.sub=>.Sub|.mul=>.Mult|.fdiv=>.FloorDiv|.mod=>.Mod|.pow=>.Pow
section
variable (X:Cx)
noncomputable def d7 (pins:JM (JX×LF))(σ:L2.St)(A:JM JX)(H:Hp)(S':aa)(w:W)(u:JP)(s':JS):Prop:=
 ∃v H' A',Inv X pins σ H' s'/\RelV v u/\Ext X.K A H A' H'/\StoreOk X.w X.K A' H' S'/\Rel X.K A' H' w v
noncomputable abbrev FE:=Fm->aa->JU (W×aa)
noncomputable def LOp (f:JP->JP->Sn JP)(g:W->W->aa->JU (W×aa)):Prop:=
 ∀(pins:JM (JX×LF)) (s:JS) (σ:L2.St) (H:Hp) (A:JM JX) (S:aa) (x y:W) (a b:V) (u v:JP) (w:W) (S':aa),Inv X pins σ H s->StoreOk X.w X.K A H S->
  Rel X.K A H x a->RelV a u->Rel X.K A H y b->RelV b v->g x y S=ba (w,S')->wpAny (model X.prog X.w) X.A (f u v) (d7 X pins σ A H S' w) X.xe s
end
section
variable{X:Cx}
theorem lz {S:aa}{i:JW}{xs:JM W}(h:qm S i=ba xs):S[i]?=ba (.lst xs):=by
 unfold qm at h;split at h
 ·cases h; assumption
 ·cases h
theorem fE {A:JM JX}{H:Hp}{S:aa}{i:JW}{xs:JM W}{a:JX}(so:StoreOk X.w X.K A H S)(h:qm S i=ba xs)(ea:A[i]?=ba a):∃vs,H a=ba (.lst vs)/\RelL X.K A H xs vs:=
 so.obj i _ a (lz h) ea
theorem cX {A:JM JX}{H:Hp}{S:aa}{i:JW}{xs:JM W}{a:JX}(so:StoreOk X.w X.K A H S)(h:iO S i=ba xs)(ea:A[i]?=ba a):∃vs,SqL X.K H a vs/\RelL X.K A H xs vs:=by
 unfold iO at h;split at h
 ·cases h;obtain⟨vs,q,r⟩:=so.obj i _ a ‹_› ea;exact⟨vs,.of q,r⟩
 ·cases h;obtain⟨vs,q,r⟩:=so.obj i _ a ‹_› ea;exact⟨vs,q.sq,r⟩
 ·cases h
theorem lb {S S':aa}{xs:JM W}{w:W}(h:mZ S xs=ba (w,S')):xs.length<=sizeLine/\w=.ref S.length/\S'=S++[.lst xs]:=by
 unfold mZ at h;split at h
 ·cases h; exact⟨by assumption,rfl,rfl⟩
 ·cases h
theorem uu {S S':aa}{xs:JM W}{w:W}(h:sS S xs=ba (w,S')):xs.length<=sizeLine/\w=.tup xs/\S'=S:=by
 unfold sS at h;split at h
 ·cases h; exact⟨by assumption,rfl,rfl⟩
 ·cases h
theorem Bu {A:JM JX}{H:Hp}{S:aa}{ws:JM W}{vs:JM V}{Q:VK}{p:JX}(so:StoreOk X.w X.K A H S)(r:RelL X.K A H ws vs)(hp:H p=gV)
  (q:∀v H' A',Ext X.K A H A' H'->StoreOk X.w X.K A' H' (S++[.lst ws])->Rel X.K A' H' (.ref S.length) v->Q v H'):Q (.ref p) (cj H p (.lst vs)):=
 q _ _ (A++[p]) (dw hp) (so.push hp r) (.ref (by rw[<- so.len]; simp))
theorem Bv {A:JM JX}{H:Hp}{S:aa}{ws:JM W}{vs:JM V}{Q:VK}{p:JX}(so:StoreOk X.w X.K A H S)(r:RelL X.K A H ws vs)(hp:H p=gV)
  (q:∀v H' A',Ext X.K A H A' H'->StoreOk X.w X.K A' H' S->Rel X.K A' H' (.tup ws) v->Q v H'):Q (.ref p) (cj H p (.tup vs)):=
 q _ _ A (dM (.inl hp)) (so.lay hp) (.tup (.of bv) (r.mono (dM (.inl hp))))
noncomputable def Gn (K:J2):R2:=λx y H Q=>∃a b xs ys,x=.ref a/\y=.ref b/\SqT K H a xs/\SqT K H b ys/\xs.length+ys.length<=sizeLine/\
 (xs=[]->Q (.ref b) H)/\(ys=[]->Q (.ref a) H)/\(∀p,H p=gV->Q (.ref p) (cj H p (.tup (xs++ys))))
theorem Bw:OpR X (binaryOp .Add) (Gn X.K):=by
 intro pins s σ H x y v u Q I rx ry h;obtain⟨a,b,xs,ys,rfl,rfl,ha,hb,hz,q0,q1,q2⟩:=h;cases rx;cases ry;obtain⟨its,r1,p1,_⟩:=I.tuple ha;obtain⟨its2,r2,p2,_⟩:=I.tuple hb
 by_cases hx:xs=[]
 ·obtain⟨⟨cls,dd,data,sl⟩,ho,hc,n,hd⟩:=id p1;obtain⟨⟨cls2,dd2,data2,sl2⟩,ho2,hc2,n2,hd2⟩:=id p2;simp only at hc hd hc2 hd2;subst hc hd hc2 hd2;exact Qq ⟨_,ho,rfl⟩ ⟨_,ho2,rfl⟩ OW P0 NC Ny (Nl _ _)
   (tuple_addW0 a b its.toArray its2.toArray n n2 dd dd2 sl sl2 (by simp[r1.nil_iff.mpr hx])) ⟨ho,ho2,⟨.ref b,H,I,rfl,q0 hx⟩⟩
 ·refine HT.Bg p1 p2 (λz=>hx (r1.nil_iff.mp z)) (λz=>⟨.ref a,H,I,rfl,q1 (r2.nil_iff.mp z)⟩) (λz=>?_) (by rw[<- r1.length,<- r2.length]; exact hz)
  refine⟨.ref s.heap.objs.size,_,I.laid (t':=s.toks) (o:=.tup (xs++ys)) (λb ob q=>JQ _ q) (JZ _) ?_,rfl,q2 _ (I.hok.fresh (JZ _))⟩
  exact⟨by rw[J0]; exact hz,_,r1.append r2,QN _ _⟩
theorem RelL.nil_iff {K:J2}{A:JM JX}{H:Hp}{ws:JM W}{vs:JM V}(r:RelL K A H ws vs):vs=[]↔ws=[]:=by
 cases r <;> simp
theorem sT:OpR X (binaryOp .Mult) (λx y H Q=>∃z k,x=.str z/\y=.int k/\MulOk z k/\Q (.str (Tw z k)) H):=by
 intro pins s σ H x y v u Q I rx ry h;obtain⟨z,k,rfl,rfl,ok,q⟩:=h;obtain⟨t,rfl⟩:=rx;obtain⟨t',rfl⟩:=ry;exact SB.mul ok λt2 k2=>⟨.str _,H,I.tok _,⟨_,rfl⟩,q⟩
theorem ye {x:Kd}{k:J5}(h1:k < 16777216)(h2 : -16777216<=k)(h3:x.length*k.toNat<=sizeLine):MulOk x k:=by
 have hs:sizeLine=16777216:=KZ;rw[hs]at h3;refine⟨?_,λa b=>?_,λ_ _=>?_⟩
 ·rw[Bool.or_eq_false_iff];exact⟨Kz (by omega),Kz (by omega)⟩
 ·have hk:0 < k:=by omega
  have e:(x.length:J5)*k=((x.length*k.toNat:JW):J5):=by
   rw[Pe,PU (by omega)]
  intro hgt;have h4:(2 ^ 63 - 1:J5) < (x.length:J5)*k:=(Int.ediv_lt_iff_lt_mul hk).mp hgt;rw[e]at h4;generalize x.length*k.toNat=z at h3 h4;omega
 ·unfold RJ;rw[hs];exact Kz (by omega)
noncomputable def EndV (wd:KO)(K:J2)(A:JM JX)(H:Hp)(S':aa)(w:W):VK:=λv H'=>∃A',Ext K A H A' H'/\StoreOk wd K A' H' S'/\Rel K A' H' w v
theorem EndV.here {A:JM JX}{H:Hp}{S:aa}{w:W}{v:V}(so:StoreOk X.w X.K A H S)(r:Rel X.K A H w v):EndV X.w X.K A H S w v H:=⟨A,.refl,so,r⟩
theorem EndV.lst {A:JM JX}{H:Hp}{S:aa}{ws:JM W}{vs:JM V}{p:JX}(so:StoreOk X.w X.K A H S)(r:RelL X.K A H ws vs)(hp:H p=gV):EndV X.w X.K A H (S++[.lst ws]) (.ref S.length) (.ref p) (cj H p (.lst vs)):=
 Bu (Q:=EndV X.w X.K A H (S++[.lst ws]) (.ref S.length)) so r hp λv H' A' a b c=>⟨A',a,b,c⟩
theorem EndV.tup {A:JM JX}{H:Hp}{S:aa}{ws:JM W}{vs:JM V}{p:JX}(so:StoreOk X.w X.K A H S)(r:RelL X.K A H ws vs)(hp:H p=gV):EndV X.w X.K A H S (.tup ws) (.ref p) (cj H p (.tup vs)):=
 Bv (Q:=EndV X.w X.K A H S (.tup ws)) so r hp λv H' A' a b c=>⟨A',a,b,c⟩
theorem EP.post {pins:JM (JX×LF)}{σ:L2.St}{A:JM JX}{H:Hp}{S':aa}{w:W}{u:JP}{s':JS}(h:EP X pins σ (EndV X.w X.K A H S' w) u s'):d7 X pins σ A H S' w u s':=by
 obtain⟨v,H',I',r,A',x,y,z⟩:=h;exact⟨v,H',A',I',r,x,y,z⟩
theorem OpR.go {f:JP->JP->Sn JP}{r:R2}(h:OpR X f r){pins:JM (JX×LF)}{σ:L2.St}{A:JM JX}{H:Hp}{S':aa}{w:W}{s:JS}{a b:V}{u v:JP}(I:Inv X pins σ H s)(ru:RelV a u)(rv:RelV b v)
  (q:r a b H (EndV X.w X.K A H S' w)):wpAny (model X.prog X.w) X.A (f u v) (d7 X pins σ A H S' w) X.xe s:=b7 (h pins s σ H a b u v _ I ru rv q) λ_ _=>EP.post
theorem Bx:LOp X (binaryOp .Add) (gq .add):=by
 intro pins s σ H A S x y a b u v w S' I so rx ru ry rv e;cases rx with
 | int=>cases ry with
  | int=>cases e; exact OpR.go DW I ru rv ⟨_,_,rfl,rfl,.here so .int⟩
  | _=>cases e
 | str=>cases ry with
  | str=>
   simp only[gq,vW]at e;split at e
   ·cases e; exact OpR.go sM I ru rv ⟨_,_,rfl,rfl,by assumption,.here so .str⟩
   ·cases e
  | _=>cases e
 | tup h1 r1=>cases ry with
  | tup h2 r2=>
   obtain⟨hl,rfl,rfl⟩:=uu (show sS S _=_ from e)
   rw[J0,r1.length,r2.length]at hl;refine OpR.go Bw I ru rv ⟨_,_,_,_,rfl,rfl,h1,h2,hl,λz=>?_,λz=>?_,λp hp=>.tup so (r1.append r2) hp⟩
   ·have z':=r1.nil_iff.mp z;subst z';exact .here so (.tup h2 r2)
   ·have z':=r2.nil_iff.mp z;subst z';rw[LK];exact .here so (.tup h1 r1)
  | _=>cases e
 | ref h1=>cases ry with
  | ref h2=>
   simp only[gq,vW]at e;split at e
   ·obtain⟨hl,rfl,rfl⟩:=lb e;obtain⟨vs,q1,r1⟩:=fE so ‹_› h1;obtain⟨us,q2,r2⟩:=fE so ‹_› h2;rw[J0,r1.length,r2.length]at hl;exact OpR.go Ej I ru rv ⟨_,_,_,_,rfl,rfl,q1,q2,hl,λp hp=>.lst so (r1.append r2) hp⟩
   ·cases e
  | _=>cases e
 | _=>cases e
theorem qz {f:JP->JP->Sn JP}{c:J5->J5->Kt}{g:J5->J5->J5}{r:R2}(h:OpR X f r)(hr:∀i j H Q,c i j=true->Q (.int (g i j)) H->r (.int i) (.int j) H Q):LOp X f (AQ c g):=by
 intro pins s σ H A S x y a b u v w S' I so rx ru ry rv e;cases rx with
 | int=>cases ry with
  | int=>
   unfold AQ at e;dsimp only at e;split at e
   ·cases e; exact OpR.go h I ru rv (hr _ _ _ _ ‹_› (.here so .int))
   ·cases e
  | _=>cases e
 | _=>cases e
theorem By:LOp X (binaryOp .Sub) (gq .sub):=qz DX λ_ _ _ _ _ q=>⟨_,_,rfl,rfl,q⟩
theorem Bz {i j:J5}(h:vV i j=true):CMul i j:=by
 unfold vV at h;rw[LM,JV,JV,Ki,Ki,Ki,Ki]at h;exact h
theorem BA:LOp X (binaryOp .Mult) (gq .mul):=by
 have hI:LOp X (binaryOp .Mult) (AQ vV (· * ·)):=qz DY λ_ _ _ _ h q=>⟨_,_,rfl,rfl,Bz h,q⟩
 intro pins s σ H A S x y a b u v w S' I so rx ru ry rv e;cases x with
 | str z=>
  cases rx with
  | str=>cases ry with
   | int=>
    simp only[gq,yd]at e;split at e
    ·rename_i hc;cases e; exact OpR.go sT I ru rv ⟨_,_,rfl,rfl,ye (by omega) (by omega) hc.2.2,.here so .str⟩
    ·cases e
   | _=>cases e
 | ref z=>
  cases rx with
  | ref h1=>cases ry with
   | int=>
    simp only[gq,yd]at e;split at e
    ·split at e
     ·rename_i hc;obtain⟨hl,rfl,rfl⟩:=lb e;obtain⟨vs,q1,r1⟩:=fE so ‹_› h1;rw[r1.length]at hc;exact OpR.go Ek I ru rv ⟨_,_,_,rfl,rfl,q1,by omega,by omega,hc.2.2,λp hp=>.lst so (r1.rep _) hp⟩
     ·cases e
    ·cases e
   | _=>cases e
 | _=>exact hI _ _ _ _ _ _ _ _ _ _ _ _ _ _ I so rx ru ry rv e
theorem yf:LOp X (binaryOp .FloorDiv) (gq .fdiv):=qz Bb λ_ _ _ _ h q=>⟨_,_,rfl,rfl,by
 unfold Bt at h;rw[JV,Ki,Ki]at h;exact h,q⟩
theorem BB:LOp X (binaryOp .Mod) (gq .mod):=qz DZ λ_ _ _ _ h q=>⟨_,_,rfl,rfl,K4 h,q⟩
theorem BC:LOp X (binaryOp .Pow) (gq .pow):=qz D0 λ_ _ _ _ h q=>⟨_,_,rfl,rfl,by
 unfold Gm at h;rw[JV,JV,Ki,Ki,Ki]at h;exact⟨h.1.1,h.1.2,h.2⟩,q⟩
theorem uw (o:BOp):LOp X (binaryOp o.py) (gq o):=by
 cases o
 ·exact Bx
 ·exact By
 ·exact BA
 ·exact yf
 ·exact BB
 ·exact BC
end
noncomputable def qA (f:W->W->JU Kt):JM W->JM W->JU Kt
 | [],[]=>ba true
 | [],_::_=>ba false
 | _::_,[]=>ba false
 | x::xs,y::ys=>match f x y,qA f xs ys with
  | some a,ba b=>ba (a&&b)
  | _,_=>gV
noncomputable def b2 (b:Kt):J5:=if b then 1 else 0
noncomputable def qB (S:aa):JW->W->W->JU Kt
 | _,.non,y=>match y with
  | .non=>ba true
  | _=>gV
 | _,.bl a,y=>match y with
  | .bl b=>ba (a==b)
  | _=>gV
 | _,.int a,y=>match y with
  | .int b=>ba (a==b)
  | _=>gV
 | _,.str a,y=>match y with
  | .str b=>ba (a==b)
  | _=>gV
 | 0,_,_=>gV
 | d+1,.tup xs,y=>match y with
  | .tup ys=>qA (qB S d) xs ys
  | _=>gV
 | d+1,.ref i,y=>match y with
  | .ref j=>match qm S i,qm S j with
   | some xs,ba ys=>if xs.length=ys.length then qA (qB S d) xs ys else ba false
   | _,_=>gV
  | _=>gV
section
variable{X:Cx}{pins:JM (JX×LF)}{σ:L2.St}{H:Hp}{s:JS}{A:JM JX}{S:aa}
noncomputable def RU (K:J2)(A:JM JX)(H:Hp)(w:W)(u:JP):Prop:=∃v,Rel K A H w v/\RelV v u
theorem uy {ws:JM W}{vs:JM V}{us:JM JP}(r:RelL X.K A H ws vs)(q:Vals vs us):∀(j:JW) (h1:j < ws.length) (h2:j < us.length),RU X.K A H ws[j] us[j]:=by
 induction ws generalizing vs us with
 | nil=>intro j h1; simp at h1
 | cons w ws ih=>
  cases r with
  | cons r1 rr=>
   cases q with
   | cons q1 qq=>
    intro j h1 h2;cases j with
    | zero=>exact⟨_,r1,q1⟩
    | succ j=>exact ih rr qq j (by simpa using h1) (by simpa using h2)
theorem yg {ws:JM W}{u:JP}(I:Inv X pins σ H s)(h:RU X.K A H (.tup ws) u):∃a its,u=.ref a/\Qk s.heap a its/\its.size=ws.length/\ws.length<=sizeLine/\∀(j:JW) (h1:j < ws.length) (h2:j < its.size),RU X.K A H ws[j] its[j]:=by
 obtain⟨v,r,q⟩:=h;cases r with
 | tup sq rl=>
  obtain⟨its,rv,ht,hz⟩:=I.tuple sq;refine⟨_,its.toArray,q,ht,by rw[J7,<- rv.length,rl.length],by rw[rl.length]; exact hz,λj h1 h2=>?_⟩
  have:=uy rl rv j h1 (by simpa using h2)
  simpa using this
theorem yh {i:JW}{ws:JM W}{u:JP}(I:Inv X pins σ H s)(so:StoreOk X.w X.K A H S)(e:qm S i=ba ws)(h:RU X.K A H (.ref i) u):∃a its,u=.ref a/\A[i]?=ba a/\s.heap.IsList a its/\its.size=ws.length/\ws.length<=sizeLine/\∀(j:JW) (h1:j < ws.length) (h2:j < its.size),RU X.K A H ws[j] its[j]:=by
 obtain⟨v,r,q⟩:=h;cases r with
 | ref ea=>
  obtain⟨vs,hq,rl⟩:=fE so e ea;obtain⟨its,rv,ht,hz⟩:=I.list (.of hq);refine⟨_,its.toArray,q,ea,ht.isList,by rw[J7,<- rv.length,rl.length],by rw[rl.length]; exact hz,λj h1 h2=>?_⟩
  have:=uy rl rv j h1 (by simpa using h2)
  simpa using this
theorem lA {f:W->W->JU Kt}:∀ {xs ys:JM W} {k:Kt},qA f xs ys=ba k->∃e:JW->Kt,(∀(j:JW) (h1:j < xs.length) (h2:j < ys.length),f xs[j] ys[j]=ba (e j))/\
  k=((Ky (min xs.length ys.length)).all e&&xs.length==ys.length)
 | [],[],k,h=>⟨λ_=>true,λj h1=>by simp at h1,by cases h; rfl⟩
 | [],_::_,k,h=>⟨λ_=>true,λj h1=>by simp at h1,by cases h; simp⟩
 | _::_,[],k,h=>⟨λ_=>true,λj h1 h2=>by simp at h2,by cases h; simp⟩
 | x::xs,y::ys,k,h=>by
  simp only[qA]at h;split at h
  ·rename_i a b ha hb;cases h;obtain⟨e,h1,h2⟩:=lA hb;refine⟨λj=>match j with|0=>a|j+1=>e j,λj hj1 hj2=>?_,?_⟩
   ·cases j with
    | zero=>exact ha
    | succ j=>exact h1 j (by simpa using hj1) (by simpa using hj2)
   ·subst h2;simp only[K5,Nat.add_min_add_right,O6,K9,Sb,Bool.and_assoc];congr 2;simp
  ·cases h
theorem BE (I:Inv X pins σ H s)(so:StoreOk X.w X.K A H S):∀(d:JW) {x y:W} {v:V} {k:Kt},Rel X.K A H x v->Rel X.K A H y v->qB S d x y=ba k->k=true:=by
 intro d
 induction d with
 | zero=>
  intro x y v k rx ry e;cases rx with
  | non=>cases ry; cases e; rfl
  | bl=>cases ry; cases e; exact Lk _
  | int=>cases ry; cases e; exact Lk _
  | str=>cases ry; cases e; exact Lk _
  | tup _ _=>cases e
  | ref _=>cases e
 | succ d ih=>
  have lists:∀ {xs ys:JM W} {vs:JM V} {k:Kt},RelL X.K A H xs vs->RelL X.K A H ys vs->qA (qB S d) xs ys=ba k->k=true:=by
   intro xs
   induction xs with
   | nil=>
    intro ys vs k r1 r2 e;cases r1; cases r2; cases e; rfl
   | cons x xs ihx=>
    intro ys vs k r1 r2 e;cases r1 with
    | cons p1 q1=>
     cases r2 with
     | cons p2 q2=>
      simp only[qA]at e;split at e
      ·rename_i a b ha hb;cases e;rw[ih p1 p2 ha,ihx q1 q2 hb];rfl
      ·cases e
  intro x y v k rx ry e;cases rx with
  | non=>cases ry; cases e; rfl
  | bl=>cases ry; cases e; exact Lk _
  | int=>cases ry; cases e; exact Lk _
  | str=>cases ry; cases e; exact Lk _
  | tup h1 r1=>
   cases ry with
   | tup h2 r2=>
    rw[I.tuple_inj h1 h2]at r1;exact lists r1 r2 e
   | ref ea=>cases e
  | ref ea=>
   cases ry with
   | tup h2 r2=>cases e
   | ref eb=>
    simp only[qB]at e;split at e
    ·rename_i xs ys hx hy;have:=so.nd _ _ _ _ _ (lz hx) rfl (lz hy) rfl ea eb;subst this;rw[hx]at hy; cases hy
     rw[Ko rfl]at e;obtain⟨vs,q,r⟩:=fE so hx ea;exact lists r r e
    ·cases e
theorem bo (A:KH):A.in1.units=A.units+1:=rfl
noncomputable abbrev FB (B:KH)(s:JS)(u v:JP)(k:Kt):Prop:=SeqAt.RcAt B s u v k/\SeqAt.RcNeAt B s u v (!k)/\Om B s u v k
open SeqAt in
theorem C7 (I:Inv X pins σ H s)(so:StoreOk X.w X.K A H S):∀(d:JW) (B:KH) {x y:W} {u v:JP} {k:Kt},B.units+d < cLine->RU X.K A H x u->RU X.K A H y v->qB S d x y=ba k->FB B s u v k:=by
 have non:∀ {B:KH} {y:W} {u v:JP} {k:Kt} {d:JW},RU X.K A H .non u->RU X.K A H y v->qB S d .non y=ba k->FB B s u v k:=by
  intro B y u v k d ⟨_,rx,ra⟩ ⟨_,ry,rb⟩ e;cases rx;cases(show u=KU from ra)
  cases y with
  | non=>
   have e:ba (true)=ba k:=by cases d <;> exact e
   cases e;cases ry;cases(show v=KU from rb)
   exact⟨.none_none,.none_none,.same _⟩
  | _=>cases d <;> cases e
 have bl:∀ {B:KH} {b:Kt} {y:W} {u v:JP} {k:Kt} {d:JW},RU X.K A H (.bl b) u->RU X.K A H y v->qB S d (.bl b) y=ba k->FB B s u v k:=by
  intro B b y u v k d ⟨_,rx,ra⟩ ⟨_,ry,rb⟩ e;cases rx;cases(show u=M3 _ from ra)
  cases y with
  | bl c=>
   have e:ba (b==c)=ba k:=by cases d <;> exact e
   cases e;cases ry;cases(show v=M3 _ from rb)
   exact⟨.bool_bool _ _,.bool_bool _ _,.bool_bool _ _⟩
  | _=>cases d <;> cases e
 have int:∀ {B:KH} {b:J5} {y:W} {u v:JP} {k:Kt} {d:JW},RU X.K A H (.int b) u->RU X.K A H y v->qB S d (.int b) y=ba k->FB B s u v k:=by
  intro B b y u v k d ⟨_,rx,ra⟩ ⟨_,ry,rb⟩ e;cases rx;obtain⟨t0,rfl⟩ : ∃t,u=OV _ t:=ra;cases y with
  | int c=>
   have e:ba (b==c)=ba k:=by cases d <;> exact e
   cases e;cases ry;obtain⟨t,rfl⟩ : ∃t,v=OV _ t:=rb;exact⟨.int_int _ _ _ _,.int_int _ _ _ _,.int_int _ _ _ _⟩
  | _=>cases d <;> cases e
 have str:∀ {B:KH} {b:Kd} {y:W} {u v:JP} {k:Kt} {d:JW},RU X.K A H (.str b) u->RU X.K A H y v->qB S d (.str b) y=ba k->FB B s u v k:=by
  intro B b y u v k d ⟨_,rx,ra⟩ ⟨_,ry,rb⟩ e;cases rx;obtain⟨t0,rfl⟩ : ∃t,u=NO _ t:=ra;cases y with
  | str c=>
   have e:ba (b==c)=ba k:=by cases d <;> exact e
   cases e;cases ry;obtain⟨t,rfl⟩ : ∃t,v=NO _ t:=rb;exact⟨.str_str _ _ _ _,.str_str _ _ _ _,.str_str _ _ _ _⟩
  | _=>cases d <;> cases e
 intro d
 induction d with
 | zero=>
  intro B x y u v k hu rx ry e;cases x with
  | non=>exact non rx ry e
  | bl b=>exact bl rx ry e
  | int b=>exact int rx ry e
  | str b=>exact str rx ry e
  | _=>cases e
 | succ d ih=>
  intro B x y u v k hu rx ry e;have hu0:B.units < cLine:=by omega
  have hu1:B.in1.units+d < cLine:=by rw[bo]; omega
  have rx0:=rx;have ry0:=ry;have fin:∀ {a b:JX},u=.ref a->v=.ref b->RcAt B s u v k->RcNeAt B s u v (!k)->FB B s u v k:=by
   intro a b ea eb h1 h2;subst ea eb;refine⟨h1,h2,?_⟩
   by_cases hab:a=b
   ·subst hab;obtain⟨v1,q1,z1⟩:=rx0;obtain⟨v2,q2,z2⟩:=ry0;have e12:v1=v2:=z1.inj z2;subst e12;have:=BE I so (d+1) q1 q2 e;subst this;exact EqAt.same _
   ·exact EqAt.of_refs hab h1
  cases x with
  | non=>exact non rx ry e
  | bl b=>exact bl rx ry e
  | int b=>exact int rx ry e
  | str b=>exact str rx ry e
  | tup xs=>
   cases y with
   | tup ys=>
    obtain⟨a,its,rfl,ht,hs,_,hi⟩:=yg I rx;obtain⟨b,its2,rfl,ht2,hs2,_,hi2⟩:=yg I ry;obtain⟨f,h1,h2⟩:=lA (show qA (qB S d) xs ys=ba k from e)
    have he:∀j (h1:j < its.size) (h2:j < its2.size),EqAt B.in1 s its[j] its2[j] (f j):=λj j1 j2=>
     (ih B.in1 hu1 (hi j (hs ▸ j1) j1) (hi2 j (hs2 ▸ j2) j2) (h1 j (hs ▸ j1) (hs2 ▸ j2))).2.2
    rw[<- hs,<- hs2]at h2;subst h2;exact fin rfl rfl (RcAt.tuples ht ht2 hu0 he) (RcNeAt.tuples ht ht2 hu0 he)
   | _=>cases e
  | ref i=>
   cases y with
   | ref j=>
    simp only[qB]at e;split at e
    ·rename_i ws ws2 hw hw2;obtain⟨a,its,rfl,_,hl,hs,_,hi⟩:=yh I so hw rx;obtain⟨b,its2,rfl,_,hl2,hs2,_,hi2⟩:=yh I so hw2 ry;split at e
     ·rename_i hlen;obtain⟨f,h1,h2⟩:=lA e;have he:∀j (h1:j < its.size) (h2:j < its2.size),EqAt B.in1 s its[j] its2[j] (f j):=λj j1 j2=>
       (ih B.in1 hu1 (hi j (hs ▸ j1) j1) (hi2 j (hs2 ▸ j2) j2) (h1 j (hs ▸ j1) (hs2 ▸ j2))).2.2
      have hk:k=(Ky its.size).all f:=by rw[h2,hs,hlen]; simp
      subst hk;exact fin rfl rfl (RcAt.lists hl hl2 (by rw[hs,hs2,hlen]) hu0 he) (RcNeAt.lists hl hl2 (by rw[hs,hs2,hlen]) hu0 he)
     ·rename_i hlen;cases e;have hb:(its.size != its2.size)=true:=by rw[hs,hs2]; simpa using hlen
      exact fin rfl rfl (RcAt.lists_lengths hl hl2 hb hu0) (RcNeAt.lists_lengths hl hl2 hb hu0)
    ·cases e
   | _=>cases e
end
noncomputable def C8 (fe fl:W->W->JU Kt):JM W->JM W->JU Kt
 | [],[]=>ba false
 | [],_::_=>ba true
 | _::_,[]=>ba false
 | x::xs,y::ys=>match fe x y with
  | some true=>C8 fe fl xs ys
  | some false=>fl x y
  | none=>gV
noncomputable def JD (S:aa):JW->W->W->JU Kt
 | _,.int a,.int b=>ba (decide (a < b))
 | _,.str a,.str b=>ba (decide (a.cps.toList < b.cps.toList))
 | d+1,.tup xs,.tup ys=>C8 (qB S d) (JD S d) xs ys
 | _,_,_=>gV
noncomputable def LtAt (B:KH)(s:JS)(u v:JP)(k:Kt):Prop:=
 ∀(prog:Kx) (w:KO) (E:JP->JS->Prop) (Q:JP->JS->Prop),Q (.bool k) s->wpAny (model prog w) B (richCompare .Lt u v) Q E s
inductive LexR (B:KH)(s:JS):JM JP->JM JP->Kt->Prop
 | nn:LexR B s [] [] false
 | nc {v:JP} {vs:JM JP}:LexR B s [] (v::vs) true
 | cn {v:JP} {vs:JM JP}:LexR B s (v::vs) [] false
 | eq {u v:JP} {us vs:JM JP} {k:Kt}:Om B s u v true->LexR B s us vs k->LexR B s (u::us) (v::vs) k
 | ne {u v:JP} {us vs:JM JP} {k:Kt}:Om B s u v false->LtAt B s u v k->LexR B s (u::us) (v::vs) k
section
open PySem.SeqAt
open PySem.AutoSeq1 (wpAny_loadPart')
open PySem.MeetsSeq PySem.MeetsSeq2 PySem.MeetsSeq3
theorem o5 (l b:JX)(items items2:Ku JP)(n n2:JW)(dd dd2:JU JX)(sl sl2:Ku (JU JP))(k:Kt) :
  Meets (M0.«tuple.__lt__» ⟨[.ref l,.ref b],[]⟩)
   (λB R s=>s.heap.get? l=ba { cls:=.type "tuple",dict:=dd,data:=.seq items n,slots:=sl }/\s.heap.get? b=ba { cls:=.type "tuple",dict:=dd2,data:=.seq items2 n2,slots:=sl2 }/\
    LexR B.in1 s items.toList items2.toList k/\R (.ok (.ret (.bool k))) s):=
 .of_wp λprog w A R s h=>by
  obtain⟨hp,g,d,tk,os⟩:=s; obtain⟨hl,hb,hx,h⟩:=h
  have f2:=RS;have z1:items.toList.length=items.size:=by simp
  have z2:items2.toList.length=items2.size:=by simp
  wp_walk using N1 hl,N1 hb,Nc _ (λb8 b s'=>b.1=gV/\s'=⟨hp,g,d,tk,os⟩/\∃(vs ws:JM JP),b8=vs.zip ws/\
   LexR A.in1 ⟨hp,g,d,tk,os⟩ vs ws k/\vs.length+items2.size=ws.length+items.size) _
  case turn=>
   rintro⟨y,x⟩ b8 b s' ⟨hb',rfl,vs,ws,hz,hlx,hlen⟩;cases hlx with
   | nn=>rw[Qx]at hz; cases hz
   | nc=>rw[Qx]at hz; cases hz
   | cn=>rw[List.zip_nil_right]at hz; cases hz
   | eq he hr=>
    rw[MT]at hz;injection hz with hyx hrest
    injection hyx with hy hx
    subst hy hx;simp only[K5]at hlen;refine JN (he prog w _ _ ?_)
    wp_walk
    exact⟨rfl,rfl,_,_,hrest,hr,by omega⟩
   | ne he hr=>
    rw[MT]at hz;injection hz with hyx hrest
    injection hyx with hy hx
    subst hy hx;refine JN (he prog w _ _ ?_);have hri:=hr prog w
    wp_walk using hri
    exact⟨_,rfl,by simpa using h⟩
  case fin=>
   rintro⟨b1,b2⟩ s' ⟨hb',rfl,vs,ws,hz,hlx,hlen⟩;simp only at hb';subst hb';have hv:k=decide (items.size < items2.size):=by
    cases hlx with
    | nn=>simp only[L0]at hlen; exact(Kz (by omega)).symm
    | nc=>simp only[L0,K5]at hlen; exact(LX (by omega)).symm
    | cn=>simp only[L0,K5]at hlen; exact(Kz (by omega)).symm
    | eq _ _=>rw[MT]at hz; cases hz
    | ne _ _=>rw[MT]at hz; cases hz
   subst hv
   wp_walk
   exact⟨_,rfl,by simpa [QK]using h⟩
  case h=>
   exact⟨rfl,rfl,items.toList,items2.toList,rfl,hx,by omega⟩
end
theorem LtAt.tuples {B:KH}{s:JS}{l b:JX}{items items2:Ku JP}{k:Kt}(hl:Qk s.heap l items)(hb:Qk s.heap b items2)(hu:B.units < cLine)(hx:LexR B.in1 s items.toList items2.toList k) :
  LtAt B s (.ref l) (.ref b) k:=λprog w E Q h=>by
 obtain⟨⟨cls,dd,data,sl⟩,ho,hc,n,hd⟩:=id hl;obtain⟨⟨cls2,dd2,data2,sl2⟩,ho2,hc2,n2,hd2⟩:=id hb;simp only at hc hd hc2 hd2;subst hc hd hc2 hd2;exact richCompare_meets_room (op:=.Lt) ⟨_,ho,rfl⟩ ⟨_,ho2,rfl⟩ PySem.F.slot_tuple_lt PySem.F.entry_tuple_lt (PySem.F.args_tuple_lt_2 _ _) (o5 l b items items2 n n2 dd dd2 sl sl2 k)
  ⟨ho,ho2,hx,show M3 k≠Value.notImplemented/\Q (.bool k) s from⟨(λx=>nomatch x),h⟩⟩ hu
inductive COp where|eq|ne|lt|le|gt|ge|isin|notin|is|isnot
 deriving M2
noncomputable def COp.py:COp->R6
 | .eq=>.Eq|.ne=>.NotEq|.lt=>.Lt|.le=>.LtE|.gt=>.Gt|.ge=>.GtE|.isin=>.In|.notin=>.NotIn|.is=>.Is|.isnot=>.IsNot
noncomputable def cr:W->Kt
 | .non=>true
 | .bl _=>true
 | .int _=>true
 | .str _=>true
 | _=>false
noncomputable def yi:W->W->Kt
 | .non,.non=>true
 | .bl a,.bl b=>a==b
 | .bl a,.int b=>b2 a==b
 | .int a,.bl b=>a==b2 b
 | .int a,.int b=>a==b
 | .str a,.str b=>a==b
 | _,_=>false
noncomputable def ft (S:aa):W->JU (JM W)
 | .tup xs=>ba xs
 | .ref i=>iO S i
 | _=>gV
noncomputable abbrev iy:JW:=20
noncomputable def BF (x y:W)(S:aa):JU Kt:=match ft S y with
 | some ys=>if cr x&&ys.all cr then ba (ys.any λz=>yi z x)else gV
 | none=>gV
noncomputable def yj:W->Kt
 | .non=>true
 | _=>false
noncomputable def yk (f:J5->J5->Kt):W->W->JU Kt
 | .int i,.int j=>ba (f i j)
 | _,_=>gV
noncomputable def El:COp->W->W->aa->JU Kt
 | .eq,x,y,S=>qB S iy x y
 | .ne,x,y,S=>(qB S iy x y).map (!·)
 | .lt,x,y,_=>yk (λi j=>decide (i < j)) x y
 | .le,x,y,_=>yk (λi j=>decide (i<=j)) x y
 | .gt,x,y,_=>yk (λi j=>decide (j < i)) x y
 | .ge,x,y,_=>yk (λi j=>decide (j<=i)) x y
 | .isin,x,y,S=>BF x y S
 | .notin,x,y,S=>(BF x y S).map (!·)
 | .is,x,y,_=>if yj y then ba (yj x)else gV
 | .isnot,x,y,_=>if yj y then ba (!yj x)else gV
noncomputable def iP (o:COp)(x y:W)(S:aa):JU (W×aa):=(El o x y S).map λk=>(.bl k,S)
section
variable{X:Cx}
theorem uz {pins:JM (JX×LF)}{σ:L2.St}{H:Hp}{s:JS}{A:JM JX}{S:aa}{k:Kt}(I:Inv X pins σ H s)(so:StoreOk X.w X.K A H S):d7 X pins σ A H S (.bl k) (.bool k) s:=
 ⟨.bl k,H,A,I,rfl,.refl,so,.bl⟩
theorem BG {o:COp}{x y w:W}{S S':aa}(h:iP o x y S=ba (w,S')):∃k,El o x y S=ba k/\w=.bl k/\S'=S:=by
 unfold iP at h;rw[JR]at h;obtain⟨k,h1,h2⟩:=h;cases h2;exact⟨k,h1,rfl,rfl⟩
theorem qC {A:JM JX}{H:Hp}{w:W}{v:V}(r:Rel X.K A H w v)(f:cr w=true):ig v=true:=by
 cases r <;> first|rfl|cases f
theorem nX {A:JM JX}{H:Hp}:∀ {ws:JM W} {vs:JM V},RelL X.K A H ws vs->ws.all cr=true->vs.all ig=true
 | _,_,.nil,_=>rfl
 | _,_,.cons r t,f=>by
  rw[K9,JV]at f ⊢;exact⟨qC r f.1,nX t f.2⟩
theorem BH {A:JM JX}{H:Hp}{x y:W}{u v:V}(r:Rel X.K A H x u)(q:Rel X.K A H y v)(fx:cr x=true)(fy:cr y=true):Bn u v=yi x y:=by
 cases r <;> cases q <;> first|rfl|cases fx|cases fy
theorem uA {A:JM JX}{H:Hp}{y:W}{v:V}(q:Rel X.K A H y v)(fy:cr y=true):∀ {ws:JM W} {vs:JM V},RelL X.K A H ws vs->ws.all cr=true->HE v vs=ws.any λz=>yi z y
 | _,_,.nil,_=>rfl
 | _,_,.cons r t,f=>by
  rw[K9,JV]at f;have:=uA q fy t f.2;unfold HE at this ⊢;rw[Mm,Mm,BH r q f.1 fy,this]
theorem o7 {pins:JM (JX×LF)}{σ:L2.St}{H:Hp}{s:JS}{A:JM JX}{S:aa}{y:W}{b:V}{ys:JM W}(so:StoreOk X.w X.K A H S)(r:Rel X.K A H y b)(e:ft S y=ba ys):∃p vs,b=.ref p/\(SqL X.K H p vs\/SqT X.K H p vs)/\RelL X.K A H ys vs:=by
 cases r with
 | tup h1 r1=>cases e; exact⟨_,_,rfl,.inr h1,r1⟩
 | ref ea=>
  obtain⟨vs,h1,r1⟩:=cX so e ea;exact⟨_,vs,rfl,.inl h1,r1⟩
 | _=>cases e
theorem ym {neg:Kt}{o:R6}(ho:OpR X (compareOp o) (Iw X.K neg)){pins:JM (JX×LF)}{σ:L2.St}{H:Hp}{s:JS}{A:JM JX}{S:aa}{x y:W}{a b:V}{u v:JP}{ys:JM W}(I:Inv X pins σ H s)(so:StoreOk X.w X.K A H S)
  (rx:Rel X.K A H x a) (ru:RelV a u) (ry:Rel X.K A H y b) (rv:RelV b v) (e:ft S y=ba ys) (f:(cr x&&ys.all cr)=true) :
  wpAny (model X.prog X.w) X.A (compareOp o u v) (d7 X pins σ A H S (.bl (if neg then !ys.any λz=>yi z x else ys.any λz=>yi z x))) X.xe s:=by
 obtain⟨p,vs,rfl,hq,rl⟩:=o7 (pins:=pins) (σ:=σ) (s:=s) so ry e;rw[JV]at f;refine OpR.go ho I ru rv ⟨p,vs,rfl,hq,qC rx f.1,nX rl f.2,?_⟩;rw[uA rx f.1 rl f.2];exact .here so .bl
theorem BI (hu:X.A.units+iy < cLine)(o:COp):LOp X (compareOp o.py) (iP o):=by
 intro pins s σ H A S x y a b u v w S' I so rx ru ry rv e;obtain⟨k,ek,e1,e2⟩:=BG e;subst e1;subst e2;clear e
 rename aa=>S
 have twoI:∀ {f:J5->J5->Kt},yk f x y=ba k->∃i j,x=.int i/\y=.int j/\k=f i j:=by
  intro f h;cases x with
  | int i=>cases y with
   | int j=>cases h; exact⟨i,j,rfl,rfl,rfl⟩
   | _=>cases h
  | _=>cases h
 have hu1:X.A.units+1 < cLine:=by have:iy=20:=rfl; omega
 have ofSq:∀ {c:Kt},BF x y S=ba c->(∃ys,ft S y=ba ys/\(cr x&&ys.all cr)=true/\c=ys.any λz=>yi z x):=by
  intro c h;unfold BF at h;split at h
  ·split at h
   ·cases h; exact⟨_,by assumption,by assumption,rfl⟩
   ·cases h
  ·cases h
 have ofN:∀ {c:Kt},(if yj y then ba c else gV)=ba k->y=.non/\k=c:=by
  intro c h;cases y with
  | non=>cases h; exact⟨rfl,rfl⟩
  | _=>cases h
 cases o with
 | eq=>exact(C7 I so iy X.A hu ⟨a,rx,ru⟩ ⟨b,ry,rv⟩ ek).1 _ _ _ _ (uz I so)
 | ne=>
  obtain⟨k',h1,rfl⟩:=JR.mp ek;exact(C7 I so iy X.A hu ⟨a,rx,ru⟩ ⟨b,ry,rv⟩ h1).2.1 _ _ _ _ (uz I so)
 | lt=>
  obtain⟨i,j,rfl,rfl,rfl⟩:=twoI ek;cases rx; cases ry
  exact OpR.go F9 I ru rv ⟨_,_,rfl,rfl,.here so .bl⟩
 | le=>
  obtain⟨i,j,rfl,rfl,rfl⟩:=twoI ek;cases rx; cases ry
  exact OpR.go Ga I ru rv ⟨_,_,rfl,rfl,.here so .bl⟩
 | gt=>
  obtain⟨i,j,rfl,rfl,rfl⟩:=twoI ek;cases rx; cases ry
  exact OpR.go Gb I ru rv ⟨_,_,rfl,rfl,.here so .bl⟩
 | ge=>
  obtain⟨i,j,rfl,rfl,rfl⟩:=twoI ek;cases rx; cases ry
  exact OpR.go Gc I ru rv ⟨_,_,rfl,rfl,.here so .bl⟩
 | isin=>
  obtain⟨ys,h1,h2,rfl⟩:=ofSq ek;exact ym (neg:=false) vQ I so rx ru ry rv h1 h2
 | notin=>
  obtain⟨c,h,rfl⟩:=JR.mp ek;obtain⟨ys,h1,h2,rfl⟩:=ofSq h;exact ym (neg:=true) oY I so rx ru ry rv h1 h2
 | is=>
  obtain⟨rfl,rfl⟩:=ofN ek;cases ry;refine OpR.go D6 I ru rv ⟨rfl,?_⟩;cases rx <;> exact .here so .bl
 | isnot=>
  obtain⟨rfl,rfl⟩:=ofN ek;cases ry;refine OpR.go Bc I ru rv ⟨rfl,?_⟩;cases rx <;> exact .here so .bl
end
end Mi
namespace HT
open PySem PyProof.Rows
section
variable{prog:Kx}{w:KO}{A:KH}{E:JP->JS->Prop}{s:JS}
theorem gY {t sl:JX}{items:Ku JP}{vl vu:JP}{lo hi:JU J5}{Q:JP->JS->Prop}(ht:Qk s.heap t items)(hs:s.heap.IsSliceOf sl vl vu .none)(pl:Oj vl lo)(pu:Oj vu hi)
  (hw:cY items.size 0 lo=0/\cY items.size items.size hi=items.size) (h:Q (.ref t) s):wpAny (model prog w) A (getItem (.ref t) (.ref sl)) Q E s:=by
 obtain⟨os,hos,hcs,hds⟩:=id hs;have hTs:s.TypeIs (.ref sl) "slice":=⟨os,hos,hcs⟩;unfold getItem
 try with_reducible refine K8 ?_
 first|refine JN (JT ?_)|skip
 refine JN (Qr ht.typeIs (by decide) ?_)
 refine JN (La (name:=L5 "__getitem__") ht.typeIs L1
  (Lb L1 ht.typeIs PR ?_ (P8 _ _)))
 show wpAny _ _ (M5 (.ref t) >>= _) _ _ s;refine JN (RN ht ?_);refine JN (MS hTs ?_);rw[Ko (by decide)]
 refine JN (fI hs pl pu ?_);have hyes:((((cY items.size 0 lo:JW):J5)==0&&(1:J5)==1&&(cY items.size items.size hi - cY items.size 0 lo)==items.size)=true):=by
  rw[hw.1,hw.2];simp
 show wpAny _ _ (if (((cY items.size 0 lo:JW):J5)==0&&(1:J5)==1&&(cY items.size items.size hi - cY items.size 0 lo)==items.size)=true then _ else _) _ _ s
 rw[Ko hyes];unfold Rx;refine JN (JN (MS ht.typeIs (JT ?_)));rw[Ko (by decide)]
 exact JN (O3 (JN (JT (JT ⟨_,rfl,JT h⟩))))
end
end HT
namespace Mi
open PySem PySem.Spec PyProof.Rows L2
noncomputable def xz (x y:W)(S:aa):JU (W×aa):=match x,y with
 | .tup xs,.int i=>(sF xs i).map λw=>(w,S)
 | .ref r,.int i=>match iO S r with
  | some xs=>(sF xs i).map λw=>(w,S)
  | none=>gV
 | .str x,.int i=>if x.length<=sizeLine then(sF x.cps.toList i).map λc=>(.str ⟨[c].toArray⟩,S)else gV
 | _,_=>gV
noncomputable def lB (xs:JM W)(lo hi:JU J5):JM W:=(xs.drop (HT.cY xs.length 0 lo)).take (HT.cY xs.length xs.length hi - HT.cY xs.length 0 lo)
noncomputable def sU (x:W)(lo hi:JU J5)(S:aa):JU (W×aa):=match x with
 | .tup xs=>ba (.tup (lB xs lo hi),S)
 | .ref r=>match iO S r with
  | some xs=>ba (.ref S.length,S++[.lst (lB xs lo hi)])
  | none=>gV
 | _=>gV
noncomputable def vX (o i v:W)(S:aa):JU aa:=match o,i with
 | .ref r,.int k=>match qm S r with
  | some xs=>match xx xs.length k with
   | some j=>ba (S.set r (.lst (xs.set j v)))
   | none=>gV
  | none=>gV
 | _,_=>gV
section
variable (X:Cx)
noncomputable def LIx (g:W->W->aa->JU (W×aa)):Prop:=
 ∀(value slice:Kn) (pins:JM (JX×LF)) (s:JS) (σ:L2.St) (H:Hp) (A:JM JX) (S:aa) (x y:W) (a b:V) (u v:JP) (w:W) (S':aa),Inv X pins σ H s->StoreOk X.w X.K A H S->
  Rel X.K A H x a->RelV a u->Rel X.K A H y b->RelV b v->g x y S=ba (w,S')->subscripted slice false u v=operate [u,v] (getItem u v)->wpAny (model X.prog X.w) X.A (subscriptTail value slice u v) (d7 X pins σ A H S' w) X.xe s
noncomputable def LSl (g:W->JU J5->JU J5->aa->JU (W×aa)):Prop:=
 ∀(pins:JM (JX×LF)) (s:JS) (σ:L2.St) (H:Hp) (A:JM JX) (S:aa) (x:W) (a:V) (v vl vu:JP) (lo hi:JU J5) (sl:JX) (w:W) (S':aa),Inv X pins σ H s->StoreOk X.w X.K A H S->
  Rel X.K A H x a->RelV a v->s.heap.IsSliceOf sl vl vu .none->Oj vl lo->Oj vu hi->g x lo hi S=ba (w,S')->
  ∃T id,typeLookup (.type T) "__getitem__" = pure (ba (.builtin id))/\s.TypeIs v T/\wpAny (model X.prog X.w) X.A (getItem v (.ref sl)) (d7 X pins σ A H S' w) X.xe s
noncomputable def LSet (g:W->W->W->aa->JU aa):Prop:=
 ∀(pins:JM (JX×LF)) (s:JS) (σ:L2.St) (H:Hp) (A:JM JX) (S:aa) (o i x:W) (ao ai ax:V) (uo ui ux:JP) (S':aa),Inv X pins σ H s->StoreOk X.w X.K A H S->
  Rel X.K A H o ao->RelV ao uo->Rel X.K A H i ai->RelV ai ui->Rel X.K A H x ax->RelV ax ux->g o i x S=ba S'->
  wpAny (model X.prog X.w) X.A (setItem uo ui ux) (λ_ s'=>∃H' A',Inv X pins σ H' s'/\Ext X.K A H A' H'/\StoreOk X.w X.K A' H' S') X.xe s
noncomputable def LCall (f:JP)(g:JM W->aa->JU (W×aa)):Prop:=
 ∀(pins:JM (JX×LF)) (s:JS) (σ:L2.St) (H:Hp) (A:JM JX) (S:aa) (xs:JM W) (vs:JM V) (us:JM JP) (w:W) (S':aa),Inv X pins σ H s->StoreOk X.w X.K A H S->
  RelL X.K A H xs vs->Vals vs us->g xs S=ba (w,S')->wpAny (model X.prog X.w) X.A (call f us) (d7 X pins σ A H S' w) X.xe s
noncomputable def LMeth (id:Lv)(g:W->JM W->aa->JU (W×aa)):Prop:=
 ∀(pins:JM (JX×LF)) (s:JS) (σ:L2.St) (H:Hp) (A:JM JX) (S:aa) (x:W) (a:V) (u:JP) (xs:JM W) (vs:JM V) (us:JM JP) (w:W) (S':aa),Inv X pins σ H s->StoreOk X.w X.K A H S->
  Rel X.K A H x a->RelV a u->RelL X.K A H xs vs->Vals vs us->g x xs S=ba (w,S')->wpAny (model X.prog X.w) X.A (call (.builtin id) (u::us)) (d7 X pins σ A H S' w) X.xe s
end
section
variable{X:Cx}{pins:JM (JX×LF)}{σ:L2.St}{H:Hp}{s:JS}{A:JM JX}{S:aa}
theorem IxR.go {r:R2}(h:IxR X r){S':aa}{w:W}{a b:V}{u v:JP}{value slice:Kn}(I:Inv X pins σ H s)(ru:RelV a u)(rv:RelV b v)(q:r a b H (EndV X.w X.K A H S' w))(hs:subscripted slice false u v=operate [u,v] (getItem u v)) :
  wpAny (model X.prog X.w) X.A (subscriptTail value slice u v) (d7 X pins σ A H S' w) X.xe s:=b7 (h value slice pins s σ H a b u v _ I ru rv q hs) λ_ _=>EP.post
theorem CallR.go {f:JP}{r:JM V->Hp->VK->Prop}(h:CallR X f r){S':aa}{w:W}{vs:JM V}{us:JM JP}(I:Inv X pins σ H s)(rv:Vals vs us)(q:r vs H (EndV X.w X.K A H S' w)) :
  wpAny (model X.prog X.w) X.A (call f us) (d7 X pins σ A H S' w) X.xe s:=b7 (h pins s σ H vs us _ I rv q) λ_ _=>EP.post
theorem MtR.go {id:Lv}{r:V->JM V->Hp->VK->Prop}(h:MtR X id r){S':aa}{w:W}{a:V}{u:JP}{vs:JM V}{us:JM JP}(I:Inv X pins σ H s)(ru:RelV a u)(rv:Vals vs us)(q:r a vs H (EndV X.w X.K A H S' w)) :
  wpAny (model X.prog X.w) X.A (call (.builtin id) (u::us)) (d7 X pins σ A H S' w) X.xe s:=b7 (h pins s σ H a vs u us _ I ru rv q) λ_ _=>EP.post
theorem uB {xs:JM W}{vs:JM V}{i:J5}{w:W}(r:RelL X.K A H xs vs)(e:sF xs i=ba w):∃v,sF vs i=ba v/\Rel X.K A H w v:=by
 unfold sF at e ⊢;rw[r.length]at e;cases q:xx vs.length i with
 | none=>rw[q]at e; cases e
 | some j=>
  rw[q]at e;obtain⟨v,h1,h2⟩:=r.get (show xs[j]?=ba w from e)
  exact⟨v,h1,h2⟩
theorem JE (hu:X.A.units+10 < cLine):LIx X xz:=by
 intro value slice pins s σ H A S x y a b u v w S' I so rx ru ry rv e hs;cases rx with
 | tup h1 r1=>cases ry with
  | int=>
   simp only[xz,JR]at e;obtain⟨w',e1,e2⟩:=e;cases e2;obtain⟨z,h2,r2⟩:=uB r1 e1;exact IxR.go Ef I ru rv ⟨_,_,_,_,rfl,rfl,h1,h2,.here so r2⟩ hs
  | _=>cases e
 | ref ea=>cases ry with
  | int=>
   simp only[xz]at e;split at e
   ·rename_i ws hw;rw[JR]at e;obtain⟨w',e1,e2⟩:=e;cases e2;obtain⟨vs,h1,r1⟩:=cX so hw ea;obtain⟨z,h2,r2⟩:=uB r1 e1;exact IxR.go Bl I ru rv ⟨_,_,_,_,rfl,rfl,h1,h2,.here so r2⟩ hs
   ·cases e
  | _=>cases e
 | str=>cases ry with
  | int=>
   simp only[xz]at e;split at e
   ·rw[JR]at e;obtain⟨c,e1,e2⟩:=e;cases e2;exact IxR.go Eg I ru rv ⟨_,_,_,rfl,rfl,by assumption,e1,.here so .str⟩ hs
   ·cases e
  | _=>cases e
 | _=>cases ry <;> cases e
theorem o8 {xs:JM W}{vs:JM V}{lo hi:JU J5}(r:RelL X.K A H xs vs):RelL X.K A H (lB xs lo hi) (ly vs lo hi):=by
 unfold lB ly;rw[r.length];exact(r.drop _).take _
theorem BJ:Gi X (λx lo hi H Q=>∃a xs,x=.ref a/\SqT X.K H a xs/\(ly xs lo hi=xs->Q (.ref a) H)/\∀p,H p=gV->Q (.ref p) (cj H p (.tup (ly xs lo hi)))):=by
 intro pins s σ H x v vl vu lo hi sl Q I rx hs pl pu h;obtain⟨a,xs,rfl,hx,q0,q⟩:=h
 by_cases hw:(HT.cY xs.length 0 lo=0/\HT.cY xs.length xs.length hi=xs.length)
 ·cases rx;obtain⟨its,r,ht,hz⟩:=I.tuple hx;have hlen:its.toArray.size=xs.length:=by rw[J7]; exact r.length.symm
  refine⟨"tuple",_,PyProof.Rows.slot_tuple_getitem.lookup,ht.typeIs,?_⟩;refine HT.gY ht hs pl pu (by rw[hlen]; exact hw) ⟨.ref a,H,I,rfl,q0 ?_⟩
  unfold ly;rw[hw.1,hw.2];simp
 ·exact Ee pins s σ H (.ref a) v vl vu lo hi sl Q I rx hs pl pu ⟨a,xs,rfl,hx,hw,q⟩
theorem JF:LSl X sU:=by
 intro pins s σ H A S x a v vl vu lo hi sl w S' I so rx rv hs pl pu e;cases rx with
 | tup h1 r1=>
  cases e;obtain⟨T,id,z1,z2,z3⟩:=BJ pins s σ H _ v vl vu lo hi sl (EndV X.w X.K A H S (.tup (lB _ lo hi))) I rv hs pl pu ⟨_,_,rfl,h1,λq=>.here so (.tup h1 (by have:=o8 (lo:=lo) (hi:=hi) r1; rw[q]at this; exact this)),λp hp=>.tup so (o8 r1) hp⟩
  exact⟨T,id,z1,z2,b7 z3 λ_ _=>EP.post⟩
 | ref ea=>
  simp only[sU]at e;split at e
  ·rename_i ws hw;cases e;obtain⟨vs,h1,r1⟩:=cX so hw ea;obtain⟨T,id,z1,z2,z3⟩:=Bm pins s σ H _ v vl vu lo hi sl (EndV X.w X.K A H (S++[.lst (lB ws lo hi)]) (.ref S.length)) I rv hs pl pu ⟨_,_,rfl,h1,λp hp=>.lst so (o8 r1) hp⟩
   exact⟨T,id,z1,z2,b7 z3 λ_ _=>EP.post⟩
  ·cases e
 | _=>cases e
theorem lset (hu:X.A.units+10 < cLine):LSet X vX:=by
 intro pins s σ H A S o i x ao ai ax uo ui ux S' I so ro ruo ri rui rx rux e;cases ro with
 | ref ea=>cases ri with
  | int=>
   simp only[vX]at e;split at e
   ·rename_i ws hw;split at e
    ·rename_i j hj;cases e;obtain⟨vs,h1,r1⟩:=fE so hw ea;rw[r1.length]at hj;obtain⟨so',ex⟩:=so.write (lz hw) ea (r1.set rx j);exact b7 (xU pins s σ H _ _ _ uo ui ux (λH'=>H'=cj H _ (.lst (vs.set j ax))) I ruo rui rux ⟨_,_,_,_,rfl,rfl,h1,hj,rfl⟩) λ_ s' ⟨H',I',e'⟩=>⟨_,A,e' ▸ I',ex,so'⟩
    ·cases e
   ·cases e
  | _=>cases e
 | _=>cases ri <;> cases e
noncomputable def sV (xs:JM W)(S:aa):JU (W×aa):=match xs with
 | [.tup ys]=>ba (.int ys.length,S)
 | [.str y]=>if y.length<=sizeLine then ba (.int y.length,S)else gV
 | [.ref i]=>(iO S i).map λys=>(.int ys.length,S)
 | _=>gV
theorem vY:LCall X (.builtin "len") sV:=by
 intro pins s σ H A S xs vs us w S' I so rl rv e;cases rl with
 | nil=>cases e
 | cons r t=>
  cases t with
  | cons _ _=>cases r <;> cases e
  | nil=>
   cases r with
   | tup h1 r1=>cases e; rw[r1.length]; exact CallR.go lw I rv ⟨_,_,rfl,.inr ⟨_,h1,rfl⟩,.here so .int⟩
   | str=>
    simp only[sV]at e;split at e
    ·cases e; exact CallR.go lw I rv ⟨_,_,rfl,⟨by assumption,rfl⟩,.here so .int⟩
    ·cases e
   | ref ea=>
    simp only[sV,JR]at e;obtain⟨ws,hw,e2⟩:=e;cases e2;obtain⟨vs',h1,r1⟩:=cX so hw ea;rw[r1.length];exact CallR.go lw I rv ⟨_,_,rfl,.inl ⟨_,h1,rfl⟩,.here so .int⟩
   | _=>cases e
noncomputable def iQ (xs:JM W)(S:aa):JU (W×aa):=match xs with
 | [x]=>match ft S x with
  | some ys=>ba (.ref S.length,S++[.lst ys])
  | none=>gV
 | _=>gV
theorem iz:LCall X (.type "list") iQ:=by
 intro pins s σ H A S xs vs us w S' I so rl rv e;cases rl with
 | nil=>cases e
 | cons r t=>
  cases t with
  | cons _ _=>cases e
  | nil=>
   simp only[iQ]at e;split at e
   ·rename_i ys hy;cases e;obtain⟨p,vs',rfl,hq,r1⟩:=o7 (pins:=pins) (σ:=σ) (s:=s) so r hy;exact CallR.go oZ I rv ⟨p,vs',rfl,hq,λl hl=>.lst so r1 hl⟩
   ·cases e
noncomputable def lC (xs:JM W)(S:aa):JU (W×aa):=match xs with
 | [.tup ys]=>ba (.tup ys,S)
 | [.ref i]=>match iO S i with
  | some ys=>ba (.tup ys,S)
  | none=>gV
 | _=>gV
theorem kj:LCall X (.type "tuple") lC:=by
 intro pins s σ H A S xs vs us w S' I so rl rv e;cases rl with
 | nil=>cases e
 | cons r t=>
  cases t with
  | cons _ _=>cases r <;> cases e
  | nil=>
   cases r with
   | tup h1 r1=>cases e; exact CallR.go ii I rv ⟨_,_,rfl,.inr ⟨h1,.here so (.tup h1 r1)⟩⟩
   | ref ea=>
    simp only[lC]at e;split at e
    ·rename_i ys hy;cases e;obtain⟨vs',h1,r1⟩:=cX so hy ea;exact CallR.go ii I rv ⟨_,_,rfl,.inl ⟨h1,λl hl=>.tup so r1 hl⟩⟩
    ·cases e
   | _=>cases e
noncomputable def Go (xs:JM W)(S:aa):JU (W×aa):=match xs with
 | [.int i]=>ba (.int i,S)
 | [.bl b]=>ba (.int (if b then 1 else 0),S)
 | _=>gV
theorem vZ:LCall X (.type "int") Go:=by
 intro pins s σ H A S xs vs us w S' I so rl rv e;cases rl with
 | nil=>cases e
 | cons r t=>
  cases t with
  | cons _ _=>cases r <;> cases e
  | nil=>
   cases r with
   | int=>cases e; exact CallR.go nP I rv (.inl ⟨_,rfl,.here so .int⟩)
   | bl=>cases e; exact CallR.go nP I rv (.inr ⟨_,rfl,.here so .int⟩)
   | _=>cases e
noncomputable def iR (x:W)(xs:JM W)(S:aa):JU (W×aa):=match x,xs with
 | .ref i,[y]=>match qm S i with
  | some ys=>if ys.length < sizeLine then ba (.non,S.set i (.lst (ys++[y])))else gV
  | none=>gV
 | _,_=>gV
theorem jw {i:JW}{p:JX}{ws ws0:JM W}{us:JM V}(so:StoreOk X.w X.K A H S)(e:qm S i=ba ws0)(ea:A[i]?=ba p)(r:RelL X.K A H ws us){w:W}{v:V}(rw':Rel X.K A H w v) :
  EndV X.w X.K A H (S.set i (.lst ws)) w v (cj H p (.lst us)):=by
 obtain⟨so',ex⟩:=so.write (lz e) ea r;exact⟨A,ex,so',rw'.mono ex⟩
theorem o9:LMeth X "list.append" iR:=by
 intro pins s σ H A S x a u xs vs us w S' I so rx ru rl rv e;cases rx with
 | ref ea=>
  cases rl with
  | nil=>cases e
  | cons r t=>
   cases t with
   | cons _ _=>cases e
   | nil=>
    simp only[iR]at e;split at e
    ·rename_i ys hy;split at e
     ·rename_i hl;cases e;obtain⟨vs',h1,r1⟩:=fE so hy ea;rw[r1.length]at hl;exact MtR.go vR I ru rv ⟨_,_,_,rfl,rfl,h1,hl,jw so hy ea (r1.append (.cons r .nil)) .non⟩
     ·cases e
    ·cases e
 | _=>cases e
noncomputable def iS (x:W)(xs:JM W)(S:aa):JU (W×aa):=match x,xs with
 | .ref i,[.ref j]=>match qm S i,qm S j with
  | some ys,ba zs=>if ys.length+zs.length<=sizeLine then ba (.non,S.set i (.lst (ys++zs)))else gV
  | _,_=>gV
 | _,_=>gV
theorem pb:LMeth X "list.extend" iS:=by
 intro pins s σ H A S x a u xs vs us w S' I so rx ru rl rv e;cases rx with
 | ref ea=>
  cases rl with
  | nil=>cases e
  | cons r t=>
   cases t with
   | cons _ _=>cases r <;> cases e
   | nil=>
    cases r with
    | ref eb=>
     simp only[iS]at e;split at e
     ·rename_i ys zs hy hz;split at e
      ·rename_i hl;cases e;obtain⟨vs',h1,r1⟩:=fE so hy ea;obtain⟨vs2,h2,r2⟩:=fE so hz eb;rw[r1.length,r2.length]at hl;exact MtR.go vS I ru rv ⟨_,_,_,_,rfl,rfl,h1,h2,hl,jw so hy ea (r1.append r2) .non⟩
      ·cases e
     ·cases e
    | _=>cases e
 | _=>cases e
noncomputable def Em (x:W)(xs:JM W)(S:aa):JU (W×aa):=match x,xs with
 | .ref i,[.int k]=>match qm S i with
  | some ys=>if -(2 ^ 63)<=k/\k < 2 ^ 63 then match seqIndex? k ys.length with
   | some j=>match ys[j]? with
    | some y=>ba (y,S.set i (.lst (ys.eraseIdx j)))
    | none=>gV
   | none=>gV
   else gV
  | none=>gV
 | _,_=>gV
theorem v4:LMeth X "list.pop" Em:=by
 intro pins s σ H A S x a u xs vs us w S' I so rx ru rl rv e;cases rx with
 | ref ea=>
  cases rl with
  | nil=>cases e
  | cons r t=>
   cases t with
   | cons _ _=>cases r <;> cases e
   | nil=>
    cases r with
    | int=>
     simp only[Em]at e;split at e
     ·rename_i ys hy;split at e
      ·rename_i hk;split at e
       ·rename_i j hj;split at e
        ·rename_i y hyj;cases e;obtain⟨vs',h1,r1⟩:=fE so hy ea;obtain⟨v',h2,r2⟩:=r1.get hyj;rw[r1.length]at hj;exact MtR.go xX I ru rv ⟨_,_,_,_,_,rfl,rfl,h1,hk.1,hk.2,hj,h2,jw so hy ea (r1.eraseIdx j) r2⟩
        ·cases e
       ·cases e
      ·cases e
     ·cases e
    | _=>cases e
 | _=>cases e
noncomputable def jx:JM W->JU (JM Kd)
 | []=>ba []
 | .str x::xs=>(jx xs).map (x :: ·)
 | _::_=>gV
noncomputable def uC (x:W)(xs:JM W)(S:aa):JU (W×aa):=match x,xs with
 | .str x,[y]=>match ft S y with
  | some ys=>match jx ys with
   | some zs=>if (zs.map (·.length)).sum+zs.length*x.length<=16777216 then ba (.str (Sx x zs),S)else gV
   | none=>gV
  | none=>gV
 | _,_=>gV
theorem lD:∀ {ws:JM W} {vs:JM V} {us:JM JP} {zs:JM Kd},RelL X.K A H ws vs->Vals vs us->jx ws=ba zs->StrsAre us zs
 | _,_,_,zs,.nil,.nil,e=>by cases e; exact .nil
 | _,_,_,zs,.cons r t,.cons q p,e=>by
  cases r with
  | str=>
   simp only[jx,JR]at e;obtain⟨z,e1,e2⟩:=e;subst e2;obtain⟨tk,rfl⟩ : ∃t,_=NO _ t:=q;exact .cons _ tk (lD t p e1)
  | _=>cases e
theorem sW:LMeth X "str.join" uC:=by
 intro pins s σ H A S x a u xs vs us w S' I so rx ru rl rv e;cases rx with
 | str=>
  cases rl with
  | nil=>cases e
  | cons r t=>
   cases t with
   | cons _ _=>cases e
   | nil=>
    simp only[uC]at e;split at e
    ·rename_i ys hy;split at e
     ·rename_i zs hz;split at e
      ·rename_i hl;cases e;obtain⟨p,vs',rfl,hq,r1⟩:=o7 (pins:=pins) (σ:=σ) (s:=s) so r hy;obtain⟨t0,rfl⟩ : ∃t,u=NO _ t:=ru;obtain⟨u1,rfl,ru1⟩:=nO rv;have ru1':u1=KI p:=ru1;subst ru1';rcases hq with hq|hq
       ·obtain⟨its,rr,pl,hz'⟩:=I.list hq;exact join_list pl.isList (by simpa using lD r1 rr hz) hl λt' k=>⟨.str _,H,A,I.tok _,⟨_,rfl⟩,.refl,so,.str⟩
       ·obtain⟨its,rr,pl,hz'⟩:=I.tuple hq;exact join_tuple pl (by simpa using lD r1 rr hz) hl λt' k=>⟨.str _,H,A,I.tok _,⟨_,rfl⟩,.refl,so,.str⟩
      ·cases e
     ·cases e
    ·cases e
 | _=>cases e
noncomputable def iT (S:aa):W->JU Kt
 | .non=>ba false
 | .bl b=>ba b
 | .int i=>ba (i != 0)
 | .str y=>if y.length<=sizeLine then ba ((y.length:J5) != 0)else gV
 | .tup xs=>ba (!xs.isEmpty)
 | .ref i=>(iO S i).map λxs=>!xs.isEmpty
theorem km {ws:JM W}{vs:JM V}(r:RelL X.K A H ws vs):(!ws.isEmpty) = !vs.isEmpty:=by cases r <;> rfl
theorem IB {x:W}{a:V}{u:JP}{k:Kt}{Q:Kt->JS->Prop}(I:Inv X pins σ H s)(so:StoreOk X.w X.K A H S)(rx:Rel X.K A H x a)(ru:RelV a u)(e:iT S x=ba k)(hq:∀s',Inv X pins σ H s'->Q k s') :
  wpAny (model X.prog X.w) X.A (truthy u) Q X.xe s:=by
 refine b7 (Ea pins s σ H a u (λb H'=>b=k/\H'=H) I ru ⟨k,?_,rfl,rfl⟩) λb s' ⟨H',I',e1,e2⟩=>?_
 ·cases rx with
  | non=>cases e; rfl
  | bl=>cases e; rfl
  | int=>cases e; rfl
  | str=>
   simp only[iT]at e;split at e
   ·cases e; exact⟨by assumption,rfl⟩
   ·cases e
  | tup h1 r1=>cases e; exact .inr (.inl ⟨_,h1,km r1⟩)
  | ref ea=>
   simp only[iT,JR]at e;obtain⟨ws,hw,e2⟩:=e;subst e2;obtain⟨vs,h1,r1⟩:=cX so hw ea;exact .inl ⟨_,h1,km r1⟩
 ·subst e1 e2;exact hq s' I'
end
noncomputable def c9 (w:KO):LF:={ cls:=.type "set",dict:=gV,data:=.set #[] 0 (.fresh 0 0 (!fJ w)) }
section
variable{prog:Kx}{w:KO}{A:KH}{E:JP->JS->Prop}{s:JS}{R:QP->JS->Prop}{I:JX}{fp wr:JM JX}{G:Ku Px->Ku Px->Prop}{n:JW}{P:JW->JP->Prop}{St:JW->JS->Prop}
theorem yn (a:JP){Q₁:JP->JS->Prop}(h:Q₁ (.ref s.heap.objs.size) { s with heap:=s.heap.push (c9 w) }):codeAny (model prog w) A (.call (.builtin "set.__new__") ⟨[.type "set",a],[]⟩) (wants Q₁ E) s:=by
 refine Pf ?_;show wpAny _ A.in1 (checkBuiltinCall "set.__new__" ⟨[.type "set",a],[]⟩ >>= λ_=>again (.builtin "set.__new__" ⟨[.type "set",a],[]⟩)) _ _ s
 refine JN (Nz (F.newCall_set_1 a) (JT ⟨LS F.plain_set_new _,Le F.entry_set_new ?_⟩));rw[K6 F.plain_set_new _];unfold M0.«set.__new__» Ry;have hsub:=Qa;obtain⟨hp,g,d,tk,os⟩:=s;dsimp only
 wp_walk
 refine MM (JT ?_);dsimp only;simp only[newObj];exact JN (Sy (JT (JT h)))
end
theorem gr:Slot "set_iterator" "__next__" "set_iterator.__next__":=.of (owner:="set_iterator") (n:="__next__") (by rw[Rf,Pn]; kernel_rfl) (by decide +kernel) (by decide +kernel) (by decide +kernel) (by first|exact .inl (by decide +kernel)|exact .inr (by decide +kernel)) (by rw[Rz]; kernel_rfl)
theorem qD:Slot "set_iterator" "__iter__" "set_iterator.__iter__":=.of (owner:="set_iterator") (n:="__iter__") (by rw[Rf,Pn]; kernel_rfl) (by decide +kernel) (by decide +kernel) (by decide +kernel) (by first|exact .inl (by decide +kernel)|exact .inr (by decide +kernel)) (by rw[Rz]; kernel_rfl)
theorem v6:entryFor table "set_iterator.__next__" = ba M0.«set_iterator.__next__»:=entryFor_of_tree (by kernel_rfl)
theorem sX:entryFor table "set.__iter__" = ba M0.«frozenset.__iter__»:=RA (id':="frozenset.__iter__") (by kernel_rfl) rfl (by decide +kernel) (by kernel_rfl)
theorem yo (a:JP):argsOk "set_iterator.__next__" ⟨[a],[]⟩:=by unfold argsOk; kernel_rfl
section
variable{α:Type}{prog:Kx}{w:KO}{A:KH}{E:JP->JS->Prop}{s:JS}
theorem v8 {src:Source}{n:JW}{Q:JW->JS->Prop}(hn:n≠0)(h:∀i dr,i < n->Q i { s with drawn:=dr }):wpAny (model prog w) A (choose src n) Q E s:=λ_ _ _=>⟨hn,h _ _ (O7 _ (Nat.pos_of_ne_zero hn))⟩
theorem lE:∀ {l:JM α} {i:JW} (h:i < l.length),(l[i]::l.eraseIdx i).Perm l
 | x::l,0,_=>.refl _
 | x::l,i+1,h=>(Tq _ _ _).trans ((lE (l:=l) (i:=i) (by simpa using h)).cons x)
theorem lF:∀(n:JW) (xs:JM α) {s:JS} {Q:JM α->JS->Prop},xs.length=n->(∀ys dr,ys.Perm xs->Q ys { s with drawn:=dr })->wpAny (model prog w) A (drawOrder n xs) Q E s
 | 0,xs,s,Q,hl,h=>by
  obtain rfl:=Mh.mp hl;exact JT (h [] s.drawn .nil)
 | n+1,[],s,Q,hl,h=>by cases hl
 | n+1,x::xs,s,Q,hl,h=>by
  unfold drawOrder;refine JN (v8 (by simp) λi dr hi=>?_)
  rw[J6 hi];dsimp only;refine JN (lF n _ (by rw[Op hi,hl]; rfl) λys dr' hp=>JT (h _ dr' ?_))
  exact(hp.cons _).trans (lE hi)
theorem uD {next:JW->JW}:∀(f k:JW) (left:JM α) (out:Ku α),f=left.length->(pickOrder.go next f k left out).toList.Perm (out.toList++left)
 | 0,k,left,out,h=>by
  obtain rfl:=Mh.mp h.symm;simp[pickOrder.go]
 | f+1,k,left,out,h=>by
  unfold pickOrder.go;have hp:0 < left.length:=by omega
  have hi:next k % left.length < left.length:=O7 _ hp;rw[J6 hi];dsimp only;refine(uD f (k+1) _ _ (by rw[Op hi]; omega)).trans ?_
  rw[OH,LW];exact(lE hi).append_left _
theorem gN {next:JW->JW}{xs:Ku α}:(pickOrder next xs).toList.Perm xs.toList:=by
 have:=uD (next:=next) xs.size 0 xs.toList #[] (by simp)
 simpa [pickOrder]using this
noncomputable def SIt (I:JX)(f r:JP)(i n ep:JW)(h:KW):Prop:=h.get? I=ba { cls:=.type "set_iterator",data:=.fields [f,.int i 0,r,.int n 0,.int ep 0].toArray }
theorem SIt.type {I:JX}{f r:JP}{i n ep:JW}(x:SIt I f r i n ep s.heap):s.TypeIs (.ref I) "set_iterator":=⟨_,x,rfl⟩
theorem qE {I:JX}{Q:JU JP->JS->Prop}{f r:JP}{i n ep:JW}(x:SIt I f r i n ep s.heap)(h:wpAny (model prog w) A.in1 (M0.«set_iterator.__next__» ⟨[.ref I],[]⟩) (λfin s'=>∃v,fin=.done (.ret v)/\Q (ba v) s') (λe s'=>wpAny (model prog w) A (do if <- isInstance e (.type "StopIteration")then pure gV else throw e) Q E s') s):wpAny (model prog w) A (pyNext (.ref I)) Q E s:=by
 unfold pyNext;refine JN (NU (La (name:=L5 "__next__") x.type gr (Lb gr x.type v6 ?_ (yo _))));exact LO h (λ_ _ ⟨v,e,q⟩=>⟨v,e,JT q⟩) λ_ _ q=>q
noncomputable def Gp (prog:Kx)(w:KO)(A:KH)(Q:JU JP->JS->Prop)(E:JP->JS->Prop)(e:JP)(s':JS):Prop:=wpAny (model prog w) A (do if <- isInstance e (.type "StopIteration")then pure gV else throw e) Q E s'
theorem qF {Q:JU JP->JS->Prop}{Q2:Tb->JS->Prop}(hh:A.handled=gV)(h:∀h',(∀b o,s.heap.get? b=ba o->h'.get? b=ba o)->Q gV { s with heap:=h' }):wpAny (model prog w) A.in1 (newExc (.type "StopIteration") [] >>= λx=>raiseNew x) Q2 (Gp prog w A Q E) s:=by
 refine JN ?_;simp only[newExc,newTuple];refine JN (KQ ?_ (by size_fits))
 refine JN (m:=firstArgMember _ _) (Nz (a:=KU) (by first|rfl|(simp only[firstArgMember]; rfl)) ?_)
 refine KQ ?_ (by size_fits)
 simp only[raiseNew];refine JN (P2 ?_);rw[show A.in1.handled=gV from hh]
 refine JN (JT (Q7 ?_));refine JN (Nd (T:="StopIteration") (b:=true) ⟨_,J9 _ rfl,rfl⟩ Pz ?_);exact JT (h _ λb o e=>JQ _ (JQ _ e))
section
variable{I a:JX}{f r:JP}{i n ep sl:JW}{o:LF}{es:Ku (J5×JP)}{t:Lh}{Q:JU JP->JS->Prop}
theorem gO {Q:Tn->JS->Prop}{vs:Ku JP}{k:JW}{v:JP}(x:s.heap.get? I=ba { cls:=.type "set_iterator",data:=.fields vs })(hk:k < vs.size)(h:∀h',h'.get? I=ba { cls:=.type "set_iterator",data:=.fields (vs.setIfInBounds k v) }->LJ I s.heap h'->Q () { s with heap:=h' }):wpAny (model prog w) A (setField (.ref I) k v) Q E s:=Qb x hk h
theorem gP (x:SIt I (.int sl 0) (.ref a) i n ep s.heap)(ho:s.heap.get? a=ba o)(hd:o.data=.set es ep t)(hf:t.fits es.size=true)(hn:es.size=n)(hh:A.handled=gV){rs:JU (JP×JW)}
  (hx:∀Q':JU (JP×JW)->JS->Prop,Q' rs s->wpAny (model prog w) A.in1 (setNext a sl i ep) Q' (Gp prog w A Q E) s)
  (h1:∀v sl',rs=ba (v,sl')->∀h',SIt I (.int sl' 0) (.ref a) (i+1) n ep h'->(∀b o,b≠I->s.heap.get? b=ba o->h'.get? b=ba o)->Q (ba v) { s with heap:=h' })
  (h2:rs=gV->∀h',(∀b o,b≠I->s.heap.get? b=ba o->h'.get? b=ba o)->Q gV { s with heap:=h' }):wpAny (model prog w) A (pyNext (.ref I)) Q E s:=by
 refine qE x ?_;refine JN (JT ?_);show wpAny _ _ (fieldsOf (.ref I) >>= _) _ _ s;refine JN (Oq x rfl ?_);refine JN (N6 ho hd hf ?_);rw[Kw (by simp[hn])]
 refine JN (hx _ ?_);cases rs with
 | some p=>
  obtain⟨v,sl'⟩:=p;dsimp only;refine JN (gO x (by simp) λh' x' sb'=>?_)
  refine JN (gO x' (by simp) λh2 x2 sb2=>?_)
  refine JT ⟨v,rfl,h1 v sl' rfl h2 ?_ λb o hb e=>?_⟩
  ·simpa [SIt,rawInt]using x2
  ·rw[sb2.2 b hb,sb'.2 b hb]; exact e
 | none=>
  dsimp only;refine JN (gO x (by simp) λh' x' sb'=>?_)
  refine qF hh λh'' k=>h2 rfl h'' λb o hb e=>k b o (by rw[sb'.2 b hb]; exact e)
theorem nY {tp:JX}{ps:JM JW}(x:SIt I (.ref tp) (.ref a) i n ep s.heap)(ho:s.heap.get? a=ba o)(hd:o.data=.set es ep t)(hf:t.fits es.size=true)(hn:es.size=n)(hh:A.handled=gV)
  (ht:s.heap.get? tp=ba { cls:=.type "tuple",data:=.seq (ps.map λk=>rawInt (k:JW)).toArray 0 })
  (h1:∀p e,ps[i]?=ba p->es[p]?=ba e->∀h',SIt I (.ref tp) (.ref a) (i+1) n ep h'->(∀b o,b≠I->s.heap.get? b=ba o->h'.get? b=ba o)->Q (ba e.2) { s with heap:=h' })
  (hp:∀p,ps[i]?=ba p->∃e,es[p]?=ba e)
  (h2:ps[i]?=gV->∀h',(∀b o,b≠I->s.heap.get? b=ba o->h'.get? b=ba o)->Q gV { s with heap:=h' }):wpAny (model prog w) A (pyNext (.ref I)) Q E s:=by
 refine qE x ?_;refine JN (JT ?_);show wpAny _ _ (fieldsOf (.ref I) >>= _) _ _ s;refine JN (Oq x rfl ?_);refine JN (N6 ho hd hf ?_);rw[Kw (by simp[hn])]
 refine JN (L8 ht rfl ?_);dsimp only;have hg:(ps.map λk=>rawInt (k:JW)).toArray[(i:J5).toNat]?=(ps[i]?).map λk=>rawInt (k:JW):=by simp
 rw[hg];cases q:ps[i]? with
 | some p=>
  obtain⟨e,he⟩:=hp p q;show wpAny _ _ (setNextDrawn a (p:J5).toNat (ep:J5).toNat >>= _) _ _ s;unfold setNextDrawn;refine JN (JN (Ln ho hd hf ?_));dsimp only;rw[Kw (by simp)]
  simp only[Kh,he];refine JT ?_;refine JN (gO x (by simp) λh' x' sb'=>?_)
  refine JT ⟨e.2,rfl,h1 p e q he h' ?_ λb o hb z=>?_⟩
  ·simpa [SIt,rawInt]using x'
  ·rw[sb'.2 b hb]; exact z
 | none=>
  dsimp only[Option.map_none];refine JN (gO x (by simp) λh' x' sb'=>?_)
  refine JN (gO x' (by simp) λh3 x3 sb3=>?_)
  refine qF hh λh'' k=>h2 q h'' λb o hb e=>k b o (by rw[sb3.2 b hb,sb'.2 b hb]; exact e)
theorem nZ {E:JP->JS->Prop}{Q:JU (JP×JW)->JS->Prop}(ho:s.heap.get? a=ba o)(hd:o.data=.set es ep t)(hf:t.fits es.size=true)(hb:fJ w=true)(h:Q ((((pickOrder (w.params.setOrder a ep) es).toList.map (·.2))[i]?).map λv=>(v,sl)) s):wpAny (model prog w) A (setNext a sl i ep) Q E s:=by
 unfold setNext;refine JN (Ln ho hd hf ?_);dsimp only;have ask1:∀ {Q:Kt->JS->Prop},Q true s->wpAny (model prog w) A setsByText Q E s:=λ{Q} hq=>by
  unfold setsByText;refine JN (MM (JT ?_));show Q (fJ w) s;rw[hb]; exact hq
 refine JN (ask1 ?_);rw[Ko rfl,Kw (by simp)]
 refine JN ?_;unfold setWalk;refine JN (Ln ho hd hf ?_);dsimp only;refine JN (ask1 ?_);rw[Ko rfl];refine JN (MM (JT (JT ?_)));have e:(((pickOrder (w.params.setOrder a ep) es)[i]?).map λe=>(e.2,sl))=((((pickOrder (w.params.setOrder a ep) es).toList.map (·.2))[i]?).map λv=>(v,sl)):=by
  rw[JY,Lj,RB]; rfl
 show Q (((pickOrder (w.params.setOrder a ep) es)[i]?).map λe=>(e.2,sl)) s
 rw[e]; exact h
theorem qG {E:JP->JS->Prop}{Q:JU (JP×JW)->JS->Prop}(ho:s.heap.get? a=ba o)(hd:o.data=.set es ep t)(hf:t.fits es.size=true)(hb:fJ w=false)(hl:t.led=true)(h1:es.size<=1)(hi:i=0/\sl=0\/i=es.size/\sl=(t.place.getD 0 0)+1)
  (h:Q (((es.toList.map (·.2))[i]?).map λv=>(v,t.place.getD 0 0+1)) s):wpAny (model prog w) A (setNext a sl i ep) Q E s:=by
 unfold setNext;refine JN (Ln ho hd hf ?_);dsimp only;have ask1:∀ {Q:Kt->JS->Prop},Q false s->wpAny (model prog w) A setsByText Q E s:=λ{Q} hq=>by
  unfold setsByText;refine JN (MM (JT ?_));show Q (fJ w) s;rw[hb]; exact hq
 refine JN (ask1 ?_);rw[Kw Kr];refine MV (λhc=>absurd hc (by show ¬ ((!t.plain&&decide (es.size > 1))=true); simp; omega)) (λ_=>?_)
 refine JN ?_;show wpAny _ _ (if (!t.led && !es.isEmpty)=true then unsupported "set:maker-not-led" else pure ()) _ _ s
 rw[Kw (by simp[hl])]
 refine JT (JT ?_);obtain⟨es⟩:=es;obtain⟨mk,pl,dm,fg,ld,mv,pn⟩:=t;obtain⟨pl⟩:=pl;simp only[RT,JV,beq_iff_eq]at hf
 match es,pl,hf.1,h1 with
 | [],[],_,_=>
  have:i=0:=by rcases hi with z|z <;> simpa using z.1
  subst this;exact h
 | [e],[j],_,_=>
  rcases hi with⟨rfl,rfl⟩|⟨rfl,rfl⟩
  ·exact h
  ·have e1:ML [j].toArray (j+1)=1:=by
    show Qy [j].toArray (j+1) 1 0 1=1;simp[Qy]
   have e2:(({ mask:=mk,place:=[j].toArray,dummies:=dm,finger:=fg,led:=ld,moves:=mv,plain:=pn }:Lh).place.getD 0 0)=j:=rfl;show Q (match ([e].toArray:Ku (J5×JP))[ML [j].toArray (j+1)]?,([j].toArray:Ku JW)[ML [j].toArray (j+1)]? with|some (_,x),ba j=>ba (x,j+1)|_,_=>gV) s
   rw[e1];exact h
 | e::e'::es,_,_,z=>simp at z
 | [],_::_,z,_=>simp at z
 | [_],[],z,_=>simp at z
 | [_],_::_::_,z,_=>simp at z
theorem lG {E:JP->JS->Prop}{Q:JU (JP×JW)->JS->Prop}(ho:s.heap.get? a=ba o)(hd:o.data=.set es ep t)(hf:t.fits es.size=true)(hb:fJ w=false)(hl:t.led=true)(hp:t.plain=true)(hw:ML t.place sl=i)
  (h:Q (((es.toList.map (·.2))[i]?).map λv=>(v,t.place.getD i 0+1)) s):wpAny (model prog w) A (setNext a sl i ep) Q E s:=by
 unfold setNext;refine JN (Ln ho hd hf ?_);dsimp only;have ask1:∀ {Q:Kt->JS->Prop},Q false s->wpAny (model prog w) A setsByText Q E s:=λ{Q} hq=>by
  unfold setsByText;refine JN (MM (JT ?_));show Q (fJ w) s;rw[hb]; exact hq
 refine JN (ask1 ?_);rw[Kw Kr];refine MV (λhc=>absurd hc (by show ¬ ((!t.plain&&decide (es.size > 1))=true); simp[hp])) (λ_=>?_)
 refine JN ?_;show wpAny _ _ (if (!t.led && !es.isEmpty)=true then unsupported "set:maker-not-led" else pure ()) _ _ s
 rw[Kw (by simp[hl])]
 refine JT (JT ?_);rw[hw];have hz:t.place.size=es.size:=by
  simp only[RT,JV,beq_iff_eq]at hf;exact hf.1
 rw[JY,Lj]at h
 by_cases hi:i < es.size
 ·have e1:es[i]?=ba es[i]:=by simp[hi]
  have e2:t.place[i]?=ba (t.place.getD i 0):=by simp[Nv,hz,hi]
  rw[e1]at h ⊢;rw[e2];exact h
 ·have e1:es[i]?=gV:=by simp; omega
  rw[e1]at h ⊢;exact h
end
end
theorem wa:entryFor table "set_iterator.__iter__" = ba M0.«dict_keyiterator.__iter__»:=RA (id':="dict_keyiterator.__iter__") (by kernel_rfl) rfl (by decide +kernel) (by kernel_rfl)
theorem yp (a:JP):argsOk "set_iterator.__iter__" ⟨[a],[]⟩:=by unfold argsOk; kernel_rfl
section
variable{prog:Kx}{w:KO}{A:KH}{E:JP->JS->Prop}{s:JS}{I a tp:JX}{f r:JP}{i n ep sl:JW}{o:LF}{es:Ku (J5×JP)}{t:Lh}
theorem iU {Q:JP->JS->Prop}(x:SIt I f r i n ep s.heap)(h:Q (.ref I) s):wpAny (model prog w) A (pyIter (.ref I)) Q E s:=by
 refine OI x.type qD (Lb qD x.type wa ?_ (yp _));show wpAny _ _ (ret (.ref I)) _ _ s;exact JT ⟨_,rfl,"set_iterator",_,x.type,gr.lookup,h⟩
theorem qH {b x y:JX}(h:b∉[x]):b≠x:=λz=>h (by simp[z])
theorem sY (hh:A.handled=gV)(hne:a≠I)(hd:o.data=.set es ep t)(hf:t.fits es.size=true)(hb:fJ w=true) :
  Q8 prog w A I [I,a] [I] es.size (λi v=>((pickOrder (w.params.setOrder a ep) es).toList.map (·.2))[i]?=ba v) (λi h=>SIt I (.int 0 0) (.ref a) i es.size ep h/\h.get? a=ba o) where
 sub:=λb hb=>by simp at hb; simp[hb]
 frame:=λ_ _ _ st hk=>⟨hk I (by simp) _ st.1,hk a (by simp) _ st.2⟩
 item:=λi s Q E hi st hQ=>by
  have hl:((pickOrder (w.params.setOrder a ep) es).toList.map (·.2)).length=es.size:=by rw[JO,gN.length_eq,Kb]
  refine gP (sl:=0) st.1 st.2 hd hf rfl hh (λQ' hq=>nZ st.2 hd hf hb hq) (λv sl' e h' x' k=>?_) λe h' k=>?_
  ·obtain⟨v',q,e⟩:=JR.mp e;cases e;exact hQ v h' s.toks q ⟨x',k a _ hne st.2⟩ λb o hb e=>k b o (qH (y:=b) hb) e
  ·rw[NF,Lg]at e;omega
 done:=λs Q E st hQ=>by
  have hl:((pickOrder (w.params.setOrder a ep) es).toList.map (·.2)).length=es.size:=by rw[JO,gN.length_eq,Kb]
  refine gP (sl:=0) st.1 st.2 hd hf rfl hh (λQ' hq=>nZ st.2 hd hf hb hq) (λv sl' e h' x' k=>?_) λe h' k=>hQ h' s.toks λb o hb e=>k b o (qH (y:=b) hb) e
  obtain⟨v',q,e⟩:=JR.mp e;have:=(J1.mp q).1;omega
 self:=λ_ _ _ _ st hQ=>iU st.1 hQ
theorem wb (hh:A.handled=gV)(hne:a≠I)(hd:o.data=.set es ep t)(hf:t.fits es.size=true)(hb:fJ w=false)(hl:t.led=true)(h1:es.size<=1) :
  Q8 prog w A I [I,a] [I] es.size (λi v=>(es.toList.map (·.2))[i]?=ba v) (λi h=>SIt I (.int ((if i=0 then 0 else t.place.getD 0 0+1:JW):J5) 0) (.ref a) i es.size ep h/\h.get? a=ba o) where
 sub:=λb hb=>by simp at hb; simp[hb]
 frame:=λ_ _ _ st hk=>⟨hk I (by simp) _ st.1,hk a (by simp) _ st.2⟩
 item:=λi s Q E hi st hQ=>by
  have i0:i=0:=by omega
  subst i0;refine gP st.1 st.2 hd hf rfl hh (λQ' hq=>qG st.2 hd hf hb hl h1 (.inl ⟨rfl,rfl⟩) hq) (λv sl' e h' x' k=>?_) λe h' k=>?_
  ·obtain⟨v',q,e⟩:=JR.mp e;cases e;exact hQ v h' s.toks q ⟨x',k a _ hne st.2⟩ λb o hb e=>k b o (qH (y:=b) hb) e
  ·rw[NF,Lg,JO,Kb]at e;omega
 done:=λs Q E st hQ=>by
  refine gP st.1 st.2 hd hf rfl hh (λQ' hq=>qG st.2 hd hf hb hl h1 ?_ hq) (λv sl' e h' x' k=>?_) λe h' k=>hQ h' s.toks λb o hb e=>k b o (qH (y:=b) hb) e
  ·by_cases h0:es.size=0
   ·exact .inl ⟨h0,by rw[Ko h0]⟩
   ·exact .inr ⟨rfl,by rw[Kw h0]⟩
  ·obtain⟨v',q,e⟩:=JR.mp e;have:=(J1.mp q).1;rw[JO,Kb]at this;omega
 self:=λ_ _ _ _ st hQ=>iU st.1 hQ
theorem qI (hh:A.handled=gV)(hne:a≠I)(hd:o.data=.set es ep t)(hf:t.fits es.size=true)(hb:fJ w=false)(hl:t.led=true)(hp:t.plain=true)(hw:fS t es.size=true) :
  Q8 prog w A I [I,a] [I] es.size (λi v=>(es.toList.map (·.2))[i]?=ba v) (λi h=>SIt I (.int ((if i=0 then 0 else t.place.getD (i - 1) 0+1:JW):J5) 0) (.ref a) i es.size ep h/\h.get? a=ba o):=by
 have go:∀i,i<=es.size->ML t.place (if i=0 then 0 else t.place.getD (i - 1) 0+1)=i:=λi hi=>by
  simp only[fS,JV,Ki,Kj,KP]at hw
  by_cases h0:i=0
  ·rw[Ko h0,h0]; exact hw.1
  ·rw[Kw h0,hw.2 (i - 1) (by omega)]; omega
 exact {
  sub:=λb hb=>by simp at hb; simp[hb]
  frame:=λ_ _ _ st hk=>⟨hk I (by simp) _ st.1,hk a (by simp) _ st.2⟩
  item:=λi s Q E hi st hQ=>by
   refine gP st.1 st.2 hd hf rfl hh (λQ' hq=>lG st.2 hd hf hb hl hp (go i (LU ‹_›)) hq) (λv sl' e h' x' k=>?_) λe h' k=>?_
   ·obtain⟨v',q,e⟩:=JR.mp e;cases e;exact hQ v h' s.toks q ⟨by rw[Kw (QU i)]; exact x',k a _ hne st.2⟩ λb o hb e=>k b o (qH (y:=b) hb) e
   ·rw[NF,Lg,JO,Kb]at e;omega
  done:=λs Q E st hQ=>by
   refine gP st.1 st.2 hd hf rfl hh (λQ' hq=>lG st.2 hd hf hb hl hp (go _ (JZ _)) hq) (λv sl' e h' x' k=>?_) λe h' k=>hQ h' s.toks λb o hb e=>k b o (qH (y:=b) hb) e
   obtain⟨v',q,e⟩:=JR.mp e;have:=(J1.mp q).1;rw[JO,Kb]at this;omega
  self:=λ_ _ _ _ st hQ=>iU st.1 hQ }
theorem qJ {ps:JM JW}(hh:A.handled=gV)(hne:a≠I)(hnt:tp≠I)(hd:o.data=.set es ep t)(hf:t.fits es.size=true)(hp:ps.Perm (Ky es.size)) :
  Q8 prog w A I [I,a,tp] [I] es.size (λi v=>(ps.map λp=>(es.getD p (0,.none)).2)[i]?=ba v) (λi h=>SIt I (.ref tp) (.ref a) i es.size ep h/\h.get? a=ba o/\h.get? tp=ba { cls:=.type "tuple",data:=.seq (ps.map λk=>rawInt (k:JW)).toArray 0 }) where
 sub:=λb hb=>by simp at hb; simp[hb]
 frame:=λ_ _ _ st hk=>⟨hk I (by simp) _ st.1,hk a (by simp) _ st.2.1,hk tp (by simp) _ st.2.2⟩
 item:=λi s Q E hi st hQ=>by
  have lt:∀ {p},ps[i]?=ba p->p < es.size:=λq=>KP.mp (hp.mem_iff.mp (Ke q))
  refine nY st.1 st.2.1 hd hf rfl hh st.2.2 (λp e q qe h' x' k=>?_) (λp q=>⟨es[p]'(lt q),by simp[lt q]⟩) λe h' k=>?_
  ·refine hQ e.2 h' s.toks ?_ ⟨x',k a _ hne st.2.1,k tp _ hnt st.2.2⟩ λb o hb e=>k b o (qH (y:=b) hb) e
   rw[JY,q];simp[Nv,lt q];rw[L3 (lt q)]at qe;cases qe; rfl
  ·rw[Lg,hp.length_eq,KJ]at e;omega
 done:=λs Q E st hQ=>by
  refine nY st.1 st.2.1 hd hf rfl hh st.2.2 (λp e q qe h' x' k=>?_) (λp q=>?_) λe h' k=>hQ h' s.toks λb o hb e=>k b o (qH (y:=b) hb) e
  ·have:=(J1.mp q).1;rw[hp.length_eq,KJ]at this;omega
  ·have:=(J1.mp q).1;rw[hp.length_eq,KJ]at this;omega
 self:=λ_ _ _ _ st hQ=>iU st.1 hQ
end
section
variable{prog:Kx}{w:KO}{A:KH}{E:JP->JS->Prop}{s:JS}{a:JX}{o:LF}{xs:JM Kd}{es:Ku (J5×JP)}{ep:JW}{t:Lh}
structure SetWalk (prog:Kx)(w:KO)(A:KH)(s:JS)(a:JX)(es:Ku (J5×JP))(I:JX)(h':KW):Prop where
 ex:∃(fp:JM JX) (St:JW->KW->Prop) (us:JM JP) (n:JW),us.Perm (es.toList.map (·.2))/\us.length=n/\Q8 prog w A I fp [I] n (λi v=>us[i]?=ba v) St/\St 0 h'/\∀b∈fp,b=a\/s.heap.objs.size<=b/\b < h'.objs.size
 new:s.heap.objs.size<=I
 keep:∀b u,s.heap.get? b=ba u->h'.get? b=ba u
theorem yq {Q:JP->JS->Prop}(hh:A.handled=gV)(ho:s.heap.get? a=ba o)(hex:o.ExactSet)(hd:o.data=.set es ep t)(hz:es.size<=sizeLine)(fit:t.fits es.size=true)(led:t.led = !fJ w)(pl:t.plain=true->es.size=0\/fS t es.size=true)(h:∀I h' dr,SetWalk prog w A s a es I h'->Q (.ref I) { s with heap:=h',drawn:=dr }):wpAny (model prog w) A (pyIter (.ref a)) Q E s:=by
 have hT:s.TypeIs (.ref a) "set":=⟨o,ho,hex.1⟩;have ha:a < s.heap.objs.size:=Kf ho;refine OI hT F.slot_set_iter (Lb F.slot_set_iter hT sX ?_ (F.args_set_iter_1 _));unfold M0.«frozenset.__iter__»;refine JN (JN (JT ?_));show wpAny _ _ (pure a) _ _ s;refine JT ?_;unfold RV setDrawn;refine JN (JN (N6 ho hd fit (JT ?_)));refine JN (JN (Ln ho hd fit ?_));dsimp only;unfold setsByText;refine JN (JN (MM (JT (JT ?_))));have oI:∀(f:JP) (h0:KW),(h0.push { cls:=.type "set_iterator",data:=.fields [f,rawInt 0,.ref a,rawInt es.size,rawInt ep].toArray }).get? h0.objs.size=ba { cls:=.type "set_iterator",data:=.fields [f,rawInt 0,.ref a,rawInt es.size,rawInt ep].toArray }:=λf h0=>J9 _ rfl
 refine MV (λhc=>?_) (λhc=>?_)
 ·refine JN (lF es.size _ KJ λps dr hp=>?_)
  refine JN (PB ?_ (by rw[JO,hp.length_eq,KJ]; exact hz))
  have o1:=JQ (seqObj "tuple" (ps.map λk=>rawInt (k:JW)).toArray 0) ho
  refine JN (Qz o1 hd fit ?_);refine JN (KQ (JT ⟨_,rfl,"set_iterator",_,⟨_,oI _ _,rfl⟩,gr.lookup,?_⟩));have z1:(s.heap.push (seqObj "tuple" (ps.map λk=>rawInt (k:JW)).toArray 0)).objs.size=s.heap.objs.size+1:=MN ..
  have W:=qJ (prog:=prog) (w:=w) (A:=A) (a:=a) (I:=(s.heap.push (seqObj "tuple" (ps.map λk=>rawInt (k:JW)).toArray 0)).objs.size) (tp:=s.heap.objs.size) (ps:=ps) hh (by rw[z1]; exact Kk (Mz ha)) (by rw[z1]; exact Kk (Ll _)) hd fit hp
  have eL:(ps.map λp=>(es.getD p (0,KU)).2).length=es.size:=by rw[JO,hp.length_eq,KJ]
  refine h _ _ dr ⟨⟨_,_,ps.map λp=>(es.getD p (0,KU)).2,_,?_,eL,W,⟨oI _ _,JQ _ o1,JQ _ (J9 _ rfl)⟩,λb hb=>?_⟩,by rw[z1]; exact My _,λb u e=>JQ _ (JQ _ e)⟩
  ·refine(hp.map _).trans ?_;have e:((Ky es.size).map λp=>(es.getD p (0,KU)).2)=es.toList.map λe=>e.2:=by
    apply NR
    ·simp
    ·intro k h1 h2;simp only[JO,KJ]at h1;simp[Nv,h1]
   rw[e]
  ·rw[MN,z1];simp only[Kv,Lc,MA]at hb;rcases hb with rfl|rfl|rfl
   ·exact .inr ⟨by rw[z1]; exact My _,by rw[z1]; exact Ll _⟩
   ·exact .inl rfl
   ·exact .inr ⟨JZ _,Mz (Ll _)⟩
 ·refine JN (JT (JN (Qz ho hd fit ?_)));refine JN (KQ (JT ⟨_,rfl,"set_iterator",_,⟨_,oI _ _,rfl⟩,gr.lookup,?_⟩));have near:∀b∈[s.heap.objs.size,a],b=a\/s.heap.objs.size<=b/\b < (s.heap.push { cls:=.type "set_iterator",data:=.fields [rawInt 0,rawInt 0,.ref a,rawInt es.size,rawInt ep].toArray }).objs.size:=λb hb=>by
   rw[MN];simp only[Kv,Lc,MA]at hb;rcases hb with rfl|rfl
   ·exact .inr ⟨JZ _,Ll _⟩
   ·exact .inl rfl
  cases hb:fJ w with
  | true=>
   have W:=sY (prog:=prog) (A:=A) (I:=s.heap.objs.size) hh (Kk ha) hd fit hb;have eL:((pickOrder (w.params.setOrder a ep) es).toList.map (·.2)).length=es.size:=by rw[JO,gN.length_eq,Kb]
   refine h _ _ s.drawn ⟨⟨[s.heap.objs.size,a],_,(pickOrder (w.params.setOrder a ep) es).toList.map (·.2),_,gN.map _,eL,W,⟨oI _ _,JQ _ ho⟩,near⟩,JZ _,λb u e=>JQ _ e⟩
  | false=>
   have hl:t.led=true:=by rw[led,hb]; rfl
   have eL:(es.toList.map (·.2)).length=es.size:=by rw[JO,Kb]
   by_cases hpw:t.plain=true/\fS t es.size=true
   ·have W:=qI (prog:=prog) (A:=A) (I:=s.heap.objs.size) hh (Kk ha) hd fit hb hl hpw.1 hpw.2;refine h _ _ s.drawn ⟨⟨[s.heap.objs.size,a],_,es.toList.map (·.2),_,.refl _,eL,W,⟨oI _ _,JQ _ ho⟩,near⟩,JZ _,λb u e=>JQ _ e⟩
   have h1:es.size<=1:=by
    cases hp:t.plain with
    | true=>
     rcases pl hp with z|z
     ·rw[z]; exact LB _
     ·exact absurd ⟨hp,z⟩ hpw
    | false=>
     refine QT λz=>hc ?_
     show((!fJ w)&&((!t.plain)&&decide (es.size > 1)))=true;rw[hb,hp]
     simpa using z
   have W:=wb (prog:=prog) (A:=A) (I:=s.heap.objs.size) hh (Kk ha) hd fit hb hl h1;refine h _ _ s.drawn ⟨⟨[s.heap.objs.size,a],_,es.toList.map (·.2),_,.refl _,eL,W,⟨oI _ _,JQ _ ho⟩,near⟩,JZ _,λb u e=>JQ _ e⟩
theorem yr {Q:Kt->JS->Prop}(hT:s.TypeIs (.ref a) "set")(h:Q false s):wpAny (model prog w) A (Ob (.ref a)) Q E s:=by
 unfold Ob;refine JN (Pg hT F.slot_set_len.lookup ?_);generalize hid:("set.__len__" : Lv)=k0
 wp_delta
 rw[show splitId k0=ba ("set","__len__")from by subst hid; decide +kernel]
 subst hid;refine JN (Nd (T:="set") (b:=true) hT Qa ?_);refine MV (λz=>absurd z (by decide)) (λ_=>MV (λ_=>?_) (λz=>absurd (by decide +kernel) z))
 exact JN (MS hT (JT h))
theorem qK {Q:JM JP->JS->Prop}(hh:A.handled=gV)(ho:s.heap.get? a=ba o)(hex:o.ExactSet)(hd:o.data=.set es ep t)(hz:es.size<=sizeLine)(fit:t.fits es.size=true)(led:t.led = !fJ w)(pl:t.plain=true->es.size=0\/fS t es.size=true)
  (hQ:∀h' tk dr us,(∀b u,s.heap.get? b=ba u->h'.get? b=ba u)->s.heap.objs.size<=h'.objs.size->us.Perm (es.toList.map (·.2))->Q us { s with heap:=h',toks:=tk,drawn:=dr }):wpAny (model prog w) A (collect (.ref a)) Q E s:=by
 have ha:a < s.heap.objs.size:=Kf ho;unfold collect;refine JN (NG (Le F.entry_proto_collect ?_));rw[K6 F.plain_proto_collect _];show wpAny _ A.in1 (newList [] >>= λl=>again (.builtin "list.__iadd__" ⟨[l,.ref a],[]⟩)) _ _ s
 refine JN (KQ ?_);have oL:(s.heap.push { cls:=.type "list",data:=.seq ([]:JM JP).toArray }).get? s.heap.objs.size=ba { cls:=.type "list",data:=.seq #[] 0 }:=J9 _ rfl;have o1:=JQ { cls:=.type "list",data:=.seq ([]:JM JP).toArray } ho;have z1:(s.heap.push { cls:=.type "list",data:=.seq ([]:JM JP).toArray }).objs.size=s.heap.objs.size+1:=MN ..;refine JT ⟨LS F.plain_list_iadd _,Le F.entry_list_iadd ?_⟩;rw[K6 F.plain_list_iadd _];show wpAny _ A.in1 (LA (.ref s.heap.objs.size) (.ref a) (.ref s.heap.objs.size)) _ _ _;unfold LA;refine JN (MS (T:="set") ⟨o,o1,hex.1⟩ ?_);have n1:OQ (.ref s.heap.objs.size) (.ref a)=false:=by
  have:s.heap.objs.size≠a:=KC ha;simp[OQ,this]
 have n2:(LG "set" == LG "list")=false:=by decide
 have n3:(LG "set" == LG "tuple")=false:=by decide
 simp only[n1,n2,n3,P1,Ks,Li];refine JN (yq (A:=A.in1) (by simp[hh]) o1 hex hd hz fit led pl λI h' dr W=>?_)
 obtain⟨⟨fp,St,us,n,hP,hn,W,st,hfp⟩,hI,kp⟩:=W;rw[z1]at hI;have oa:=kp a o o1;refine JN (K8 (yr ⟨o,oa,hex.1⟩ ?_));have oL1:=kp _ _ oL;have hD:s.heap.objs.size∉fp:=λz=>by
  rcases hfp _ z with e|⟨e,_⟩
  ·exact KC ha e
  ·rw[z1]at e; exact Nat.not_succ_le_self _ e
 refine MV (λ_=>?_) (λz=>absurd (by decide +kernel) z)
 refine JN (O3 (JN ?_));show wpAny _ _ (updateSeq s.heap.objs.size (·.push .none) >>= λ_=>updateSeq s.heap.objs.size (·.pop)) _ _ _
 refine JN (Nr oL1 rfl ?_);have oL2:=Lz (Lw (·.push KU)) oL1 rfl
 refine Nr (hz:=by seq_fits) oL2 rfl ?_
 have oL3:=Lz (Lw (·.pop)) oL2 rfl
 have hnl:n<=sizeLine:=by rw[<- hn,hP.length_eq,JO,Kb]; exact hz
 refine JT ⟨LS PySem.F.plain_extend_loop _,codeAny_extend_loopS W.toS hnl s.heap.objs.size hD (.ref s.heap.objs.size) n 0 _ #[] _ rfl (LB _) (W.frame 0 _ _ st λb hb u e=>?_) oL3 (ItemsOf.nil _) λs' acc c' mv oS hacc=>?_⟩
 ·have hb':b≠s.heap.objs.size:=λz=>hD (z ▸ hb)
  exact(KS _ _ (Ne.symm hb')).trans ((KS _ _ (Ne.symm hb')).trans e)
 ·rw[RW mv];show wpAny (model prog w) A (do
    let o <- load s.heap.objs.size
    match o.data with
    | .seq xs _=>pure xs.toList
    | _=>unsupported "internal:collect") Q E _
  refine JN (O4 oS (JT ?_));have eU:acc.toList=us:=by
   apply OJ;intro i
   by_cases hi:i < n
   ·have h1:i < acc.size:=by rw[hacc.1]; exact hi
    have:=hacc.2 i acc[i] (by simp[h1])
    rw[this,Lj]; simp[h1]
   ·rw[MX (by rw[Kb,hacc.1]; omega),MX (by omega)]
  rw[eU];refine hQ _ _ dr us (λb u e=>?_) (LU (Kf oS)) hP
  have hb:=Kf e;have hb':b≠s.heap.objs.size:=Kk hb;refine mv.heap b u (λz=>?_) ((KS _ _ (Ne.symm hb')).trans ((KS _ _ (Ne.symm hb')).trans (kp b u (JQ _ e))))
  simp only[Kv,Lc,MA]at z;rcases z with z|z
  ·exact hb' z
  ·rw[z]at hb; exact Ly _ (Kq (Mz hb) hI)
end
noncomputable def BK (S:aa)(i:JW):JU (J5×J5):=match S[i]? with
 | some (.rng lo hi)=>ba (lo,hi)
 | _=>gV
noncomputable def sZ (xs:JM W)(S:aa):JU (W×aa):=match xs with
 | [.int j]=>if -(2 ^ 62)<=j/\j < 2 ^ 62 then ba (.ref S.length,S++[.rng 0 j])else gV
 | _=>gV
noncomputable def Gq (lo:J5)(n:JW):JM W:=(Ky n).map λ(k:JW)=>.int (lo+(k:J5))
noncomputable def n0 (xs:JM W)(S:aa):JU (W×aa):=match xs with
 | [.ref i]=>match BK S i with
  | some (lo,hi)=>if -(2 ^ 62)<=lo/\lo < 2 ^ 62/\-(2 ^ 62)<=hi/\hi < 2 ^ 62/\(hi - lo).toNat<=sizeLine then ba (.ref S.length,S++[.lst (Gq lo (hi - lo).toNat)])else gV
  | none=>iQ [.ref i] S
 | xs=>iQ xs S
section
variable{X:Cx}{pins:JM (JX×LF)}{σ:L2.St}{H:Hp}{s:JS}{A:JM JX}{S:aa}
theorem Inv.drawn (I:Inv X pins σ H s)(d:Tk):Inv X pins σ H { s with drawn:=d }:=⟨I.ok,I.os,I.bare,I.base,I.loc,I.cell,I.free,I.freeC,I.pin,I.hok,I.len⟩
theorem iV {h':KW}{tk:JW}{dr:Tk}{D:JX}{n:O}{u:HO}(I:Inv X pins σ H s)(so:StoreOk X.w X.K A H S)(hk:∀b o,s.heap.get? b=ba o->h'.get? b=ba o)(hD:s.heap.objs.size<=D)(new:ObjOk X.prog X.w (cj H D u) h' D u)
  (r:H D=gV->ObjRel X.w X.K (A++[D]) (cj H D u) D n):d7 X pins σ A H (S++[n]) (.ref S.length) (.ref D) { s with heap:=h',toks:=tk,drawn:=dr }:=by
 have hn:H D=gV:=I.hok.fresh hD;refine⟨.ref D,_,A++[D],Mi.Inv.drawn (I.laid (a:=D) (o:=u) (t':=tk) hk hD new) dr,rfl,dw hn,so.pushO hn (r hn),.ref ?_⟩;rw[<- so.len]; simp
theorem pc:∀ {vs:JM V} {us:JM JP},vs.length=us.length->(∀(i:JW) v u,vs[i]?=ba v->us[i]?=ba u->L2.RelV v u)->Vals vs us
 | [],[],_,_=>.nil
 | v::vs,u::us,hl,h=>.cons (h 0 v u rfl rfl) (pc (by simpa using hl) λi v u a b=>h (i+1) v u (by simpa using a) (by simpa using b))
 | [],_::_,hl,_=>by cases hl
 | _::_,[],hl,_=>by cases hl
theorem pd {K:J2}{lo:J5}:∀(l:JM JW),RelL K A H (l.map λ(k:JW)=>W.int (lo+(k:J5))) (l.map λ(k:JW)=>V.int (lo+(k:J5)))
 | []=>.nil
 | _::l=>.cons .int (pd l)
theorem lc {xs:JM W}{vs:JM V}{us:JM JP}{i:JW}(rl:RelL X.K A H [.ref i] vs)(rv:Vals vs us):∃a,A[i]?=ba a/\us=[.ref a]:=by
 cases rl with
 | cons r t=>
  cases t;cases r with
  | @ref _ a ea=>
   cases rv with
   | cons ru rv=>
    cases rv;obtain rfl:_=KI a:=ru;exact⟨a,ea,rfl⟩
theorem qL:LCall X (.type "range") sZ:=by
 intro pins s σ H A S xs vs us w S' I so rl rv e;unfold sZ at e;split at e
 ·rename_i j;split at e
  ·rename_i hb;cases e;cases rl with
   | cons r t=>
    cases t;cases r;cases rv with
    | cons ru rv=>
     cases rv;obtain⟨tk,rfl⟩:=ru;exact R9 (iV (dr:=s.drawn) (u:=.rng 0 j) I so (λb o e=>JQ _ e) (JZ _) ⟨_,_,_,J9 _ rfl⟩ λ_=>bv)
  ·cases e
 ·cases e
theorem qM (hh:X.A.handled=gV):LCall X (.type "list") n0:=by
 intro pins s σ H A S xs vs us w S' I so rl rv e;unfold n0 at e;split at e
 ·rename_i i;split at e
  ·rename_i lo hi hr;split at e
   ·rename_i hb;cases e;obtain⟨a,ea,rfl⟩:=lc (xs:=[]) rl rv;obtain⟨b1,b2,b3,b4,b5⟩:=hb;have hH:H a=ba (.rng lo hi):=by
     unfold BK at hr;split at hr
     ·rename_i hx; cases hr; exact so.obj i _ a hx ea
     ·cases hr
    obtain⟨t,u,v,ho⟩:=I.hok a _ hH;have hn:LP lo hi 1=((hi - lo).toNat:JW):=by rw[PZ]; split <;> omega
    refine call_list_range hh ho (R5 b1 b2 b3 b4) hn b5 λh' tk acc c hk hD hacc=>?_
    have hv:Vals ((Ky (hi - lo).toNat).map λ(k:JW)=>V.int (lo+(k:J5))) acc.toList:=by
     refine pc (by rw[JO,KJ,Kb,hacc.1]) λi v u e1 e2=>?_
     rw[JY,JR]at e1;obtain⟨k,e1,rfl⟩:=e1;obtain⟨hk,rfl⟩:=J1.mp e1;obtain⟨t,rfl⟩:=hacc.2 i u (by rw[<- Lj]; exact e2)
     exact⟨t,by simp⟩
    refine iV (dr:=s.drawn) (u:=.lst ((Ky (hi - lo).toNat).map λ(k:JW)=>V.int (lo+(k:J5)))) I so hk (JZ _) ⟨by simpa using b5,acc.toList,c,hv,by simpa using hD⟩ λhn=>⟨_,bv,?_⟩
    exact pd _
   ·cases e
  ·exact iz pins s σ H A S _ vs us w S' I so rl rv e
 ·exact iz pins s σ H A S _ vs us w S' I so rl rv e
end
mutual
inductive IsT (h:KW):T->JP->Prop
 | int {i:J5} {t:Tv}:IsT h (.int i) (.int i t)
 | str {x:Kd} {t:Tv}:IsT h (.str x) (.str x t)
 | tup {ks:JM T} {a:JX} {o:LF} {items:Ku JP} {n:JW}:h.get? a=ba o->o.cls=.type "tuple"->o.data=.seq items n->IsTs h ks items.toList->IsT h (.tup ks) (.ref a)
inductive IsTs (h:KW):JM T->JM JP->Prop
 | nil:IsTs h [] []
 | cons {k:T} {v:JP} {ks:JM T} {vs:JM JP}:IsT h k v->IsTs h ks vs->IsTs h (k::ks) (v::vs)
end
mutual
theorem IsT.inj {h:KW}:∀ {x y:T} {v:JP},IsT h x v->IsT h y v->x=y
 | _,_,_,.int,h2=>by cases h2; rfl
 | _,_,_,.str,h2=>by cases h2; rfl
 | _,_,_,.tup a1 _ d1 t1,h2=>by
  cases h2 with
  | tup a2 _ d2 t2=>
   rw[a1]at a2; cases a2
   rw[d1]at d2; cases d2
   rw[IsTs.inj t1 t2]
theorem IsTs.inj {h:KW}:∀ {x y:JM T} {v:JM JP},IsTs h x v->IsTs h y v->x=y
 | _,_,_,.nil,h2=>by cases h2; rfl
 | _,_,_,.cons a b,h2=>by
  cases h2 with
  | cons c d=>rw[IsT.inj a c,IsTs.inj b d]
end
mutual
theorem IsT.keeps {h h':KW}{d:JX}{o:LF}{es:Ku Mg}{ep:JW}(ho:h.get? d=ba o)(hd:o.data=.dict es ep)(hs:LJ d h h'):∀ {x:T} {v:JP},IsT h x v->IsT h' x v
 | _,_,.int=>.int
 | _,_,.str=>.str
 | _,_,.tup (a:=a) a1 c1 d1 t1=>by
  have hne:a≠d:=by
   rintro rfl;rw[a1]at ho; cases ho
   rw[d1]at hd; cases hd
  exact .tup ((hs.2 a hne).trans a1) c1 d1 (IsTs.keeps ho hd hs t1)
theorem IsTs.keeps {h h':KW}{d:JX}{o:LF}{es:Ku Mg}{ep:JW}(ho:h.get? d=ba o)(hd:o.data=.dict es ep)(hs:LJ d h h'):∀ {x:JM T} {v:JM JP},IsTs h x v->IsTs h' x v
 | _,_,.nil=>.nil
 | _,_,.cons a b=>.cons (IsT.keeps ho hd hs a) (IsTs.keeps ho hd hs b)
end
theorem IsTs.length {h:KW}:∀ {x:JM T} {v:JM JP},IsTs h x v->x.length=v.length
 | _,_,.nil=>rfl
 | _,_,.cons _ b=>by simp[IsTs.length b]
theorem IsTs.get {h:KW}:∀ {x:JM T} {v:JM JP},IsTs h x v->∀(j:JW) (h1:j < x.length) (h2:j < v.length),IsT h x[j] v[j]
 | _,_,.cons a _,0,_,_=>a
 | _,_,.cons _ b,j+1,h1,h2=>IsTs.get b j (by simpa using h1) (by simpa using h2)
theorem cZ:∀ {ks:JM T} (j:JW) (h:j < ks.length),(ks[j]).depth<=T.depths ks
 | k::ks,0,_=>by simp only[T.depths,List.getElem_cons_zero]; omega
 | k::ks,j+1,h=>by
  have:=cZ (ks:=ks) j (by simpa using h)
  simp only[T.depths,List.getElem_cons_succ]; omega
section
variable{prog:Kx}{w:KO}{E:JP->JS->Prop}
mutual
theorem qN:∀(k:T) (v:JP) (A:KH) (s:JS) (Q:J5->JS->Prop),IsT s.heap k v->A.units+k.depth < cLine->Q (fq w k) { s with toks:=s.toks+k.draws }->wpAny (model prog w) A (pyHash v) Q E s
 | .int i,_,A,s,Q,x,_,h=>by cases x; exact QL h
 | .str y,_,A,s,Q,x,_,h=>by cases x; exact QM h
 | .tup ks,_,A,s,Q,x,hu,h=>by
  cases x with
  | @tup _ a o items n hg hc hd hw=>
   simp only[T.depth]at hu;refine PySem.W.pyHash_slot (T:="tuple") ⟨_,hg,hc⟩ F.slot_tuple_hash F.entry_tuple_hash (F.args_tuple_hash_1 _) (beq_builtin_none _) (.inr (by omega)) ?_
   show wpAny _ _ (M5 (.ref a) >>= _) _ _ s;refine JN (wpAny_tupleItemsOf hg hd ?_);refine JN ?_;rw[<- Nw];refine lH ks items.toList A.in1 s #[] _ hw (by rw[bo]; omega) λb hb=>?_
   show wpAny _ _ (retInt (Ng b.toList)) _ _ _;rw[hb];refine JN (Q9 (JT ⟨_,_,rfl,?_⟩))
   simpa [T.draws,RX,fq]using h
theorem lH:∀(ks:JM T) (vs:JM JP) (A:KH) (s:JS) (b:Ku J5) (Q:Ku J5->JS->Prop),IsTs s.heap ks vs->A.units+T.depths ks < cLine->
  (∀b',b'.toList=b.toList++iw w ks->Q b' { s with toks:=s.toks+T.drawss ks })->
  wpAny (model prog w) A (forIn vs b λx r=>do let h <- pyHash x; pure Qc; pure (LN (r.push h))) Q E s
 | [],_,A,s,b,Q,x,_,h=>by cases x; exact JT (h b (by simp[iw]))
 | k::ks,_,A,s,b,Q,x,hu,h=>by
  cases x with
  | cons x1 x2=>
   simp only[T.depths]at hu;rw[Ph];refine JN (JN (qN k _ A s _ x1 (by omega) ?_))
   refine JN (JT (JT ?_));refine lH ks _ A _ _ Q x2 (by omega) λb' hb=>?_
   have:=h b' (by simp[hb,iw])
   simpa [T.drawss,RX]using this
end
open SeqAt in
theorem yt:∀(d:JW) (x y:T) (u v:JP) (B:KH) (s:JS),x.depth<=d->IsT s.heap x u->IsT s.heap y v->B.units+d < cLine->B.units+y.depth < cLine->EqAt B s u v (decide (x=y))
 | d,.int i,y,_,_,B,s,_,h1,h2,hu,hv=>by
  cases h1;cases h2 with
  | int=>
   rename_i j t2;have:decide (T.int i=T.int j)=(i==j):=by by_cases e:i=j <;> simp[e]
   rw[this]; exact .int_int _ _ _ _
  | str=>rw[Kz (by simp)]; exact .int_str _ _ _ _
  | tup a c dd t=>rw[Kz (by simp)]; exact .int_tuple _ _ ⟨_,a,c,_,dd⟩ (by simp only[T.depth]at hv; omega)
 | d,.str z,y,_,_,B,s,_,h1,h2,hu,hv=>by
  cases h1;cases h2 with
  | int=>rw[Kz (by simp)]; exact .str_int _ _ _ _
  | str=>
   rename_i z2 t2;have:decide (T.str z=T.str z2)=(z==z2):=by by_cases e:z=z2 <;> simp[e]
   rw[this]; exact .str_str _ _ _ _
  | tup a c dd t=>rw[Kz (by simp)]; exact .str_tuple _ _ ⟨_,a,c,_,dd⟩ (by simp only[T.depth]at hv; omega)
 | 0,.tup ks,y,_,_,B,s,hd,h1,h2,hu,hv=>by simp[T.depth]at hd
 | d+1,.tup ks,y,_,_,B,s,hd,h1,h2,hu,hv=>by
  have h1':=h1;cases h1 with
  | @tup _ a o items n a1 c1 d1 t1=>
   have hT:s.heap.IsTuple a items:=⟨_,a1,c1,_,d1⟩;simp only[T.depth]at hd;cases h2 with
   | int=>rw[Kz (by simp)]; exact .tuple_int _ _ hT (by omega)
   | str=>rw[Kz (by simp)]; exact .tuple_str _ _ hT (by omega)
   | @tup ks2 b o2 items2 n2 a2 c2 d2 t2=>
    have hT2:s.heap.IsTuple b items2:=⟨_,a2,c2,_,d2⟩
    by_cases hab:a=b
    ·subst hab;have:T.tup ks=T.tup ks2:=h1'.inj (.tup a2 c2 d2 t2);rw[LX this];exact EqAt.same _
    ·refine EqAt.of_refs hab ?_;simp only[T.depth]at hv;have l1:items.size=ks.length:=by rw[<- Kb,t1.length]
     have l2:items2.size=ks2.length:=by rw[<- Kb,t2.length]
     let e:JW->Kt:=λj=>if h:j < ks.length/\j < ks2.length then decide (ks[j]'h.1=ks2[j]'h.2)else true
     have he:∀j (h1:j < items.size) (h2:j < items2.size),EqAt B.in1 s items[j] items2[j] (e j):=λj j1 j2=>by
      have g1:=t1.get j (l1 ▸ j1) (by simpa using j1)
      have g2:=t2.get j (l2 ▸ j2) (by simpa using j2)
      have q1:=cZ (ks:=ks) j (l1 ▸ j1);have q2:=cZ (ks:=ks2) j (l2 ▸ j2);have:=yt d _ _ _ _ B.in1 s (by omega) g1 g2 (by rw[bo]; omega) (by rw[bo]; omega)
      show EqAt B.in1 s items[j] items2[j] (if h:j < ks.length/\j < ks2.length then decide (ks[j]'h.1=ks2[j]'h.2)else true)
      rw[SW ⟨l1 ▸ j1,l2 ▸ j2⟩]
      simpa using this
     have:=RcAt.tuples hT hT2 (by omega) he
     have hk:((Ky (min items.size items2.size)).all e&&items.size==items2.size)=decide (T.tup ks=T.tup ks2):=by
      rw[l1,l2]
      by_cases hl:ks.length=ks2.length
      ·by_cases hq:ks=ks2
       ·subst hq;simp only[Sc,Lk,Nm,Ra,Kj,KP];intro j hj;show(if h:j < ks.length/\j < ks.length then decide (ks[j]'h.1=ks[j]'h.2)else true)=true
        rw[SW ⟨hj,hj⟩]; simp
       ·rw[Kz (by simpa using hq)]
        have:∃j,∃h:j < ks.length,ks[j]≠ks2[j]'(hl ▸ h):=by
         apply OB;intro hn;exact hq (NR hl λj h1 h2=>OB λz=>hn ⟨j,h1,z⟩)
        obtain⟨j,hj,hne⟩:=this;rw[Po];left;rw[List.all_eq_false];refine⟨j,by rw[KP,<- hl,Sc]; exact hj,?_⟩
        show ¬ (if h:j < ks.length/\j < ks2.length then decide (ks[j]'h.1=ks2[j]'h.2)else true)=true
        rw[SW ⟨hj,hl ▸ hj⟩]
        simpa using hne
      ·rw[Kz (by simp; intro z; exact hl (by rw[z])),Po]
       right
       simpa using hl
     rw[hk]at this;exact this
theorem n6 {n:JW}{v:JP}(h:∀a,v≠.ref a):eqIsQuiet n v=pure true:=by
 cases v with
 | ref a=>exact absurd rfl (h a)
 | _=>first|rfl|simp[eqIsQuiet]|(unfold eqIsQuiet; rfl)
theorem lf:∀(d:JW) (k:T) (v:JP) (A:KH) (s:JS) (Q:Kt->JS->Prop),k.depth<=d->IsT s.heap k v->Q true s->wpAny (model prog w) A (eqIsQuiet d v) Q E s
 | d,.int i,_,A,s,Q,_,x,h=>by cases x; rw[n6 (λa=>by simp)]; exact JT h
 | d,.str i,_,A,s,Q,_,x,h=>by cases x; rw[n6 (λa=>by simp)]; exact JT h
 | 0,.tup ks,_,A,s,Q,hd,x,h=>by simp[T.depth]at hd
 | d+1,.tup ks,_,A,s,Q,hd,x,h=>by
  cases x with
  | @tup _ a o items n ho hc hdt hi=>
   simp only[T.depth]at hd;have hT:s.TypeIs (.ref a) "tuple":=⟨_,ho,hc⟩;unfold eqIsQuiet;refine JN (Pg hT F.slot_tuple_eq.lookup ?_);show wpAny _ _ (isInstance (.ref a) (.type "tuple") >>= _) _ _ s;refine JN (Nd hT isSubtype_tuple_tuple ?_);simp only[ME,Ks,Li];refine JN (L8 ho hdt ?_);refine JN ?_;show wpAny _ _ (forIn items _ _) _ _ s;rw[<- Nw];refine Nc _ (λb8 r s'=>r.1=gV/\s'=s/\∃kk,IsTs s.heap kk b8/\T.depths kk<=d) _ ?_ ?_ _ _ ⟨rfl,rfl,ks,hi,by omega⟩
   ·rintro v b8 r s' ⟨hr,rfl,kk,hall,hdk⟩;cases hall with
    | cons q1 q2=>
     simp only[T.depths]at hdk;refine JN (lf d _ v _ _ _ (by omega) q1 ?_)
     simp only[ME,Ks,Li];exact JT ⟨rfl,rfl,_,q2,by omega⟩
   ·rintro⟨r1,r2⟩ s' ⟨hr,rfl,_⟩;simp only at hr;subst hr;exact JT h
end
noncomputable def bI (prog:Kx)(w:KO):HeapKind prog w T where
 is:=λh k a=>IsT h k (.ref a)/\k.depth<=aG
 hash:=fq w
 draws:=T.draws
 room:=λA=>A.units+aG < cLine
 inj:=λhx hy=>hx.1.inj hy.1
 keeps:=λx ho hd hs=>⟨x.1.keeps ho hd hs,x.2⟩
 pyHash:=λhu hk h=>qN _ _ _ _ _ hk.1 (by have:=hk.2; omega) h
 eqBool:=λhu hx hy h=>yt aG _ _ _ _ _ _ hx.2 hx.1 hy.1 hu (by have:=hy.2; omega) _ _ _ _ h
 quiet:=λhk h=>lf 8 _ _ _ _ _ (by have:=hk.2; unfold aG at this; exact J3 ‹_› (Kc rfl)) hk.1 h
section
variable{prog:Kx}{w:KO}{E:JP->JS->Prop}
theorem n8 {n:JW}{v:JP}(h:∀a,v≠.ref a):ofAClassStatement n v=pure false:=by
 cases v with
 | ref a=>exact absurd rfl (h a)
 | _=>first|rfl|simp[ofAClassStatement]|(unfold ofAClassStatement; rfl)
theorem pe:∀(d:JW) (k:T) (v:JP) (A:KH) (s:JS) (Q:Kt->JS->Prop),k.depth<=d->IsT s.heap k v->Q false s->wpAny (model prog w) A (ofAClassStatement d v) Q E s
 | d,.int i,_,A,s,Q,_,x,h=>by cases x; rw[n8 (λa=>by simp)]; exact JT h
 | d,.str i,_,A,s,Q,_,x,h=>by cases x; rw[n8 (λa=>by simp)]; exact JT h
 | 0,.tup ks,_,A,s,Q,hd,x,h=>by simp[T.depth]at hd
 | d+1,.tup ks,_,A,s,Q,hd,x,h=>by
  cases x with
  | @tup _ a o items n ho hc hdt hi=>
   simp only[T.depth]at hd;have hT:s.TypeIs (.ref a) "tuple":=⟨_,ho,hc⟩;unfold ofAClassStatement;refine JN (MS hT ?_);dsimp only;rw[Ko (show("tuple" == "tuple")=true by decide)]
   refine JN (JT ?_);simp only[ME,Ks,Li];refine JN (L8 ho hdt ?_);refine JN ?_;show wpAny _ _ (forIn items _ _) _ _ s;rw[<- Nw];refine Nc _ (λb8 r s'=>r.1=gV/\s'=s/\∃kk,IsTs s.heap kk b8/\T.depths kk<=d) _ ?_ ?_ _ _ ⟨rfl,rfl,ks,hi,by omega⟩
   ·rintro v b8 r s' ⟨hr,rfl,kk,hall,hdk⟩;cases hall with
    | cons q1 q2=>
     simp only[T.depths]at hdk;refine JN (pe d _ v _ _ _ (by omega) q1 ?_)
     simp only[Ks,Li];exact JT ⟨rfl,rfl,_,q2,by omega⟩
   ·rintro⟨r1,r2⟩ s' ⟨hr,rfl,_⟩;simp only at hr;subst hr;exact JT h
theorem yu {A:KH}{s:JS}{Q:Kt->JS->Prop}{x:T}{b:JX}{ys:JM JP}(hx:IsT s.heap x (.ref b))(hdx:x.depth<=aG)(hy:∀v∈ys,∃y c,v=.ref c/\IsT s.heap y (.ref c)/\y.depth<=aG)(h:Q false s):wpAny (model prog w) A (searchCouldBeSeen (.ref b) ys) Q E s:=by
 unfold searchCouldBeSeen;refine JN ?_;refine Nc _ (λb8 r s'=>r.1=gV/\s'=s/\∀v∈b8,∃y c,v=.ref c/\IsT s.heap y (.ref c)/\y.depth<=aG) _ ?_ ?_ _ _ ⟨rfl,rfl,hy⟩
 ·rintro v b8 r s' ⟨hr,rfl,hall⟩;obtain⟨y,c,rfl,q,hdy⟩:=hall v (.head _);have hrest:∀v∈b8,∃y c,v=.ref c/\IsT s'.heap y (.ref c)/\y.depth<=aG:=λv hv=>hall v (.tail _ hv)
  have k6:aG<=8:=by unfold aG; decide
  dsimp only;split
  ·exact JT ⟨rfl,rfl,hrest⟩
  ·refine JN (lf 8 _ _ _ _ _ (J3 ‹_› ‹_›) hx ?_);simp only[ME,Ks,Li];refine JN (lf 8 _ _ _ _ _ (J3 ‹_› ‹_›) q ?_);simp only[ME,Ks,Li];refine JN (pe 8 _ _ _ _ _ (J3 ‹_› ‹_›) hx ?_);simp only[Ks,Li];refine JN (pe 8 _ _ _ _ _ (J3 ‹_› ‹_›) q ?_);simp only[Ks,Li];exact JT ⟨rfl,rfl,hrest⟩
 ·rintro⟨r1,r2⟩ s' ⟨hr,rfl,_⟩;simp only at hr;subst hr;exact JT h
end
set_option genInjectivity false in
inductive Sf where|there|free (slot:JW)
noncomputable def ef (es:Ku (J5×T))(t:Lh)(x:T)(h:J5):JW->JU Os->JU Sf
 | 0,_=>gV
 | f+1,stand=>match t.probe (λi=>(es[i]?.map (·.1)).getD 0) h (stand.getD (t.probeStart h))with
  | none=>gV
  | some (.empty j gV)=>ba (.free j)
  | some (.empty _ (ba _))=>gV
  | some (.candidate j i next)=>match es[i]? with
   | none=>gV
   | some (_,y)=>if y=x then ba .there else if t.slot j=.live i then ef es t x h f (ba next)else gV
structure SE (h:KW)(es0:Ku (J5×T))(es:Ku (J5×JP)):Prop where
 size:es0.size=es.size
 ent:∀(i:JW) (hh:J5) (y:T),es0[i]?=ba (hh,y)->∃b:JX,es[i]?=ba (hh,KI b)/\IsT h y (.ref b)/\y.depth<=aG
theorem SE.hash {h:KW}{es0:Ku (J5×T)}{es:Ku (J5×JP)}(R:SE h es0 es):(λ(i:JW)=>(es0[i]?.map (λp=>p.1)).getD 0)=λ(i:JW)=>(es[i]?.map (λp=>p.1)).getD 0:=by
 funext i
 cases e:es0[i]? with
 | none=>
  have:es[i]?=gV:=by rw[Array.getElem?_eq_none_iff]at e ⊢; rw[<- R.size]; exact e
  rw[this]; rfl
 | some p=>
  obtain⟨b,e2,_⟩:=R.ent i p.1 p.2 e;rw[e2]; rfl
theorem SE.vals {h:KW}{es0:Ku (J5×T)}{es:Ku (J5×JP)}(R:SE h es0 es):∀e∈es.toList,∃y c,e.2=.ref c/\IsT h y (.ref c)/\y.depth<=aG:=λe he=>by
 obtain⟨i,hi,rfl⟩:=M6.mp he;rw[Kb]at hi;have hi0:i < es0.size:=by rw[R.size]; exact hi
 obtain⟨b,e2,q⟩:=R.ent i es0[i].1 es0[i].2 (L3 hi0);rw[L3 hi]at e2;refine⟨_,b,?_,q⟩;rw[NW,Ld e2]
section
variable{prog:Kx}{w:KO}{E:JP->JS->Prop}{A:KH}{s:JS}
theorem yv {a b:JX}{o:LF}{es0:Ku (J5×T)}{es:Ku (J5×JP)}{ep:JW}{t:Lh}{x:T}{h:J5}{Q:SetFound->JS->Prop}(ho:s.heap.get? a=ba o)(hd:o.data=.set es ep t)(hf:t.fits es.size=true)(hg:t.gaveWay=false)(R:SE s.heap es0 es)
    (hx:IsT s.heap x (.ref b)) (hdx:x.depth<=aG) (hu:(bI prog w).room A):∀(f F:JW) (stand:JU Os) (r:Sf),ef es0 t x h f stand=ba r->f<=F->(r=.there->Q (.there gV) s)->(∀j,r=.free j->Q (.free j false) s)->
    wpAny (model prog w) A (setSearchFrom a (.ref b) h true F stand) Q E s:=by
  intro f
  induction f with
  | zero=>intro F stand r e; cases e
  | succ f ih=>
    intro F stand r e hF h1 h2;obtain⟨F,rfl⟩ : ∃F',F=F'+1:=⟨F - 1,by omega⟩
    unfold setSearchFrom;refine JN (Ln ho hd hf ?_);dsimp only;rw[hg];simp only[Ks,Li];unfold ef at e;rw[R.hash]at e;split
    · rename_i met hm
      have hm:t.probe (λi=>(es[i]?.map (·.1)).getD 0) h (stand.getD (t.probeStart h))=ba met:=hm
      rw[hm]at e;cases met with
      | empty j dm=>
        cases dm with
        | none=>cases e; exact JT (h2 j rfl)
        | some d=>cases e
      | candidate j i next=>
        dsimp only at e ⊢;cases ei:es0[i]? with
        | none=>rw[ei]at e; cases e
        | some p=>
          obtain⟨hh,y⟩:=p;rw[ei]at e;dsimp only at e;obtain⟨c,ec,qy,hdy⟩:=R.ent i hh y ei;rw[ec];dsimp only;have sm:t.sameMemory t.moves t.mask=ba true:=by unfold SK; rw[Ko (Lk _)]
          have hv:∀v∈List.map (λx=>x.snd) (Array.filter (λx=>x.fst==h) es).toList,∃y c,v=KI c/\IsT s.heap y (.ref c)/\y.depth<=aG:=λv hv=>by
            obtain⟨p,hp,rfl⟩:=Kl.mp hv;rw[Array.toList_filter]at hp;exact R.vals p (Nq.mp hp).1
          cases hl:t.led
          · simp only[PC,LH]
            refine JN (yu hx hdx hv ?_);simp only[Ks,Li];refine JN (K8 ((bI prog w).eqBool hu ⟨qy,hdy⟩ ⟨hx,hdx⟩ ?_));refine JN (Ln ho hd hf ?_)
            by_cases hyx:y=x
            · rw[Ko hyx]at e
              cases e;simp only[hyx,Ra,Nm,LH];exact JT (h1 rfl)
            · rw[Kw hyx]at e
              split at e
              · rename_i hsl
                simp only[hyx,Sd,Oo,Ks,Li,sm,LH,hsl,ec];refine JN (Pp ?_);refine JN (JT ?_);simp only[LH];exact ih F (ba next) r e (by omega) h1 h2
              · cases e
          · simp only[ME,Ks,Li]
            refine JN (K8 ((bI prog w).eqBool hu ⟨qy,hdy⟩ ⟨hx,hdx⟩ ?_));refine JN (Ln ho hd hf ?_)
            by_cases hyx:y=x
            · rw[Ko hyx]at e
              cases e;simp only[hyx,Ra,Nm,LH];exact JT (h1 rfl)
            · rw[Kw hyx]at e
              split at e
              · rename_i hsl
                simp only[hyx,Sd,Oo,Ks,Li,sm,LH,hsl,ec];refine JN (Pp ?_);refine JN (JT ?_);simp only[LH];exact ih F (ba next) r e (by omega) h1 h2
              · cases e
    · rename_i hm
      have hm:t.probe (λi=>(es[i]?.map (·.1)).getD 0) h (stand.getD (t.probeStart h))=gV:=by
        first|exact hm|(cases hp:t.probe (λi=>(es[i]?.map (·.1)).getD 0) h (stand.getD (t.probeStart h))with
          | none=>rfl
          | some m=>exact absurd hp (hm m))
      rw[hm]at e;cases e
end
mutual
noncomputable def fT:T->Kt
 | .int _=>true
 | .str _=>false
 | .tup xs=>dH xs
noncomputable def dH:JM T->Kt
 | []=>true
 | x::xs=>fT x&&dH xs
end
section
variable{prog:Kx}{w:KO}{E:JP->JS->Prop}
theorem uE:∀(d:JW) (k:T) (v:JP) (A:KH) (s:JS) (Q:Kt->JS->Prop),fT k=true->k.depth<=d->IsT s.heap k v->Q true s->wpAny (model prog w) A (hashByValue d v) Q E s
 | d,.int i,_,A,s,Q,_,_,x,h=>by
  cases x;have:∀t,hashByValue d (.int i t)=pure true:=λt=>by cases d <;> rfl
  rw[this]; exact JT h
 | d,.str i,_,A,s,Q,hn,_,x,h=>by cases hn
 | 0,.tup ks,_,A,s,Q,_,hd,x,h=>by simp[T.depth]at hd
 | d+1,.tup ks,_,A,s,Q,hn,hd,x,h=>by
  cases x with
  | @tup _ a o items n ho hc hdt hi=>
   simp only[T.depth]at hd;have hn:dH ks=true:=hn;have hT:s.TypeIs (.ref a) "tuple":=⟨_,ho,hc⟩;unfold hashByValue;refine JN (Pg hT F.slot_tuple_hash.lookup ?_);refine JN (L8 ho hdt ?_);refine JN ?_;show wpAny _ _ (forIn items _ _) _ _ s;rw[<- Nw];refine Nc _ (λb8 r s'=>r.1=gV/\s'=s/\∃kk,IsTs s.heap kk b8/\T.depths kk<=d/\dH kk=true) _ ?_ ?_ _ _ ⟨rfl,rfl,ks,hi,by omega,hn⟩
   ·rintro v b8 r s' ⟨hr,rfl,kk,hall,hdk,hnk⟩;cases hall with
    | cons q1 q2=>
     simp only[T.depths]at hdk;simp only[dH,JV]at hnk;refine JN (uE d _ v _ _ _ hnk.1 (by omega) q1 ?_)
     simp only[ME,Ks,Li];exact JT ⟨rfl,rfl,_,q2,by omega,hnk.2⟩
   ·rintro⟨r1,r2⟩ s' ⟨hr,rfl,_⟩;simp only at hr;subst hr;exact JT h
end
noncomputable abbrev Ze:=J5×T×JX
noncomputable def zT (z:Ze):J5×T:=(z.1,z.2.1)
noncomputable def zV (z:Ze):J5×JP:=(z.1,.ref z.2.2)
noncomputable def ZOk (h:KW)(zs:Ku Ze):Prop:=∀z∈zs.toList,IsT h z.2.1 (.ref z.2.2)/\z.2.1.depth<=aG
theorem ZOk.se {h:KW}{zs:Ku Ze}(k:ZOk h zs):SE h (zs.map zT) (zs.map zV):=⟨by simp,λi hh y e=>by
 rw[Ot,JR]at e;obtain⟨z,hz,e⟩:=e;cases e;exact⟨z.2.2,by rw[Ot,hz]; rfl,k z (by rw[M7]; exact NN hz)⟩⟩
theorem iW {α β:Type}{f:α->β}{xs:Ku α}{p:JW}{x:α}:KL (xs.map f) p (f x)=(KL xs p x).map f:=by
 unfold KL;simp[Array.map_extract]
noncomputable def dR (t:Lh)(n:JW):Kt:=t.fits n && !t.gaveWay&&decide (n<=1000)
noncomputable def bT (hf:T->J5)(st:Ku (J5×T)×Lh)(x:T):JU (Ku (J5×T)×Lh):=
 match ef st.1 st.2 x (hf x) 100 gV with
 | none=>gV
 | some .there=>ba st
 | some (.free slot)=>
  if dR (st.2.put slot).1 (KL st.1 (st.2.put slot).2 (hf x,x)).size then
   if (st.2.put slot).1.tooFull then
    if Ou (NH (st.1.size+1))<=sizeLine then
     match (st.2.put slot).1.relaid ((KL st.1 (st.2.put slot).2 (hf x,x)).map (·.1)) (NH (st.1.size+1))with
     | none=>gV
     | some (t2,order)=>
      if (order.filterMap ((KL st.1 (st.2.put slot).2 (hf x,x))[·]?)).size=(KL st.1 (st.2.put slot).2 (hf x,x)).size/\dR t2 (order.filterMap ((KL st.1 (st.2.put slot).2 (hf x,x))[·]?)).size=true then ba (order.filterMap ((KL st.1 (st.2.put slot).2 (hf x,x))[·]?),t2)else gV
    else gV
   else ba (KL st.1 (st.2.put slot).2 (hf x,x),(st.2.put slot).1)
  else gV
theorem filterMap_map {α β:Type}{f:α->β}{xs:Ku α}{order:Ku JW}:order.filterMap ((xs.map f)[·]?)=(order.filterMap (xs[·]?)).map f:=by
 rw[Array.map_filterMap];congr 1
 funext i
 exact Ot ..
theorem tf {b:JX}{es:Ku (J5×JP)}:byScan (.ref b) es=false:=rfl
theorem lI {t:Lh}{n:JW}(h:dR t n=true):t.fits n=true/\t.gaveWay=false/\n<=1000:=by
 unfold dR at h;simp only[JV,NI,Ki]at h;exact⟨h.1.1,h.1.2,h.2⟩
section
variable{prog:Kx}{w:KO}{E:JP->JS->Prop}{A:KH}{s:JS}
theorem tj {a:JX}{o:LF}{es es1:Ku (J5×JP)}{ep:JW}{t t1:Lh}{Q:Tn->JS->Prop}(ho:s.heap.get? a=ba o)(hd:o.data=.set es ep t)(hz:es1.size<=1000)
  (h:∀h',LJ a s.heap h'->h'.get? a=ba { o with data:=.set es1 (ep+1) t1 }->Q () { s with heap:=h' }):wpAny (model prog w) A (storeSet a es1 t1) Q E s:=by
 refine wpAny_storeSet_of ho hd (h _ (MH ..) ?_) (J3 hz (by rw[KZ]; decide))
 have:=Lz (Obj.putSet es1 t1) ho (by rw[putSet_of es1 t1 hd]; rfl)
 rw[putSet_of es1 t1 hd]at this;exact this
theorem Gr {a b:JX}{o:LF}{zs:Ku Ze}{ep:JW}{t:Lh}{x:T}{hf:T->J5}{es1:Ku (J5×T)}{t1:Lh}{Q:Kt->JS->Prop}(ho:s.heap.get? a=ba o)(hd:o.data=.set (zs.map zV) ep t)(hft:dR t zs.size=true)(hz:ZOk s.heap zs)
  (hx:IsT s.heap x (.ref b)) (hdx:x.depth<=aG) (hnx:fT x=true) (hu:(bI prog w).room A) (e:bT hf (zs.map zT,t) x=ba (es1,t1))
  (k:∀(bb:Kt) (h':KW) (zs':Ku Ze) (ep':JW),zs'.map zT=es1->dR t1 zs'.size=true->LJ a s.heap h'->h'.get? a=ba { o with data:=.set (zs'.map zV) ep' t1 }->(∀z∈zs'.toList,z∈zs.toList\/z=(hf x,x,b))->Q bb { s with heap:=h' }) :
  wpAny (model prog w) A (setAddHashed a (.ref b) (hf x)) Q E s:=by
 obtain⟨f1,f2,f3⟩:=lI hft;have f1':t.fits (zs.map zV).size=true:=by rw[Ls]; exact f1
 unfold setAddHashed setAddHashedIn;refine K8 (JN (Ln ho hd f1' ?_));dsimp only;rw[tf];simp only[Ks,Li];unfold bT at e;cases hs:ef (zs.map zT) t x (hf x) 100 gV with
 | none=>rw[hs]at e; cases e
 | some r=>
  rw[hs]at e;dsimp only at e;refine JN ?_;unfold setSearch;refine yv ho hd f1' f2 hz.se hx hdx hu 100 100000 gV r hs (by decide) (λhr=>?_) λslot hr=>?_
  ·subst hr;cases e;exact JT (k false s.heap zs ep rfl hft (QA ..) (by rw[<- hd]; exact ho) λz h=>.inl h)
  ·subst hr;dsimp only at e ⊢;refine JN (Ln ho hd f1' ?_);dsimp only;split at e
   ·rename_i hok1;have eI:KL (zs.map zT) (t.put slot).2 (hf x,x)=(KL zs (t.put slot).2 (hf x,x,b)).map zT:=iW (f:=zT) (x:=(hf x,x,b));have eV:KL (zs.map zV) (t.put slot).2 (hf x,.ref b)=(KL zs (t.put slot).2 (hf x,x,b)).map zV:=iW (f:=zV) (x:=(hf x,x,b));have hmem:∀z∈(KL zs (t.put slot).2 (hf x,x,b)).toList,z∈zs.toList\/z=(hf x,x,b):=λz h=>by
     unfold KL at h;simp only[N7,OH,KF,J8]at h;rcases h with(h|h)|h
     ·rw[M8]at h;exact .inl (by rw[OC]at h; exact M9 (L9 h))
     ·exact .inr h
     ·rw[M8]at h;exact .inl (by rw[OC]at h; exact M9 (L9 h))
    rw[eI]at e hok1;rw[Ls]at hok1;obtain⟨g1,g2,g3⟩:=lI hok1;rw[eV];have hfst:∀z1:Ku Ze,MO (λx=>x.fst) (MO zV z1)=MO (λx=>x.fst) (MO zT z1):=λz1=>by
     rw[RY,RY]; rfl
    simp only[Ls]at e ⊢;generalize(t.put slot).1=tt at e hok1 g1 g2 ⊢;generalize KL zs (t.put slot).2 (hf x,x,b)=z1 at e hok1 g1 g3 hmem ⊢;clear eI eV;have k8:x.depth<=8:=J3 hdx (by unfold aG; decide)
    have g1v:tt.fits (MO zV z1).size=true:=by rw[Ls]; exact g1
    have tail:∀h1:KW,LJ a s.heap h1->h1.get? a=ba { o with data:=.set (MO zV z1) (ep+1) tt }->wpAny (model prog w) A (if (!false&&tt.tooFull)=true then do setRelay a (NH (zs.size+1)); pure true else pure true) Q E { s with heap:=h1 }:=by
     intro h1 sb1 q1;cases htf:tt.tooFull with
     | false=>
      rw[htf]at e;simp only[Ks,Li]at e;cases e;simp only[PC,Oo,Ks,Li];exact JT (k true h1 z1 (ep+1) rfl hok1 sb1 q1 hmem)
     | true=>
      rw[htf]at e;simp only[LH]at e;simp only[PC,Nm,LH];split at e
      ·rename_i hle;cases hrel:tt.relaid (MO (λx=>x.fst) (MO zT z1)) (NH (zs.size+1))with
       | none=>rw[hrel]at e; cases e
       | some p=>
        obtain⟨t2,order⟩:=p;rw[hrel]at e;dsimp only at e;rw[filterMap_map,Ls]at e;split at e
        ·rename_i hc;cases e;obtain⟨c1,c2⟩:=hc;obtain⟨d1,d2,d3⟩:=lI c2;unfold setRelay;refine JN (JN (Ln q1 rfl g1v ?_));dsimp only;rw[Kw (Qd.mpr hle)];rw[hfst,hrel];refine JN (Nz (a:=(MO zV (Rg (λx=>z1[x]?) order),t1)) ?_ ?_)
         ·show(if ((Rg (λx=>(MO zV z1)[x]?) order).size != (MO zV z1).size)=true then _ else _)=_
          rw[filterMap_map,Ls,Ls,c1];rw[Kw (by simp)]
         ·dsimp only;refine tj (s:={ s with heap:=h1 }) q1 rfl (by rw[Ls]; exact d3) λh2 sb2 q2=>JT (k true h2 _ (ep+1+1) rfl c2 (sb1.trans sb2) q2 λz hz=>hmem z ?_)
          obtain⟨i,hi,e⟩:=Array.mem_filterMap.mp (M7.mp hz);exact M7.mpr (NN e)
        ·cases e
      ·cases e
    cases hp:tt.plain with
    | false=>
     simp only[Ks,Li];refine JN (JT ?_);simp only[LH];exact JN (tj ho hd (by rw[Ls]; exact g3) λh1 sb1 q1=>tail h1 sb1 q1)
    | true=>
     simp only[LH];refine JN (uE 8 _ _ _ _ _ hnx k8 hx ?_);simp only[LH];exact JN (tj ho hd (by rw[Ls]; exact g3) λh1 sb1 q1=>tail h1 sb1 q1)
   ·cases e
end
noncomputable def gQ (h h':KW):Prop:=∀c o,h.get? c=ba o->o.cls=.type "tuple"->h'.get? c=ba o
mutual
theorem IsT.stay {h h':KW}(k:gQ h h'):∀ {x:T} {v:JP},IsT h x v->IsT h' x v
 | _,_,.int=>.int
 | _,_,.str=>.str
 | _,_,.tup a b c d=>.tup (k _ _ a b) b c (IsTs.stay k d)
theorem IsTs.stay {h h':KW}(k:gQ h h'):∀ {x:JM T} {v:JM JP},IsTs h x v->IsTs h' x v
 | _,_,.nil=>.nil
 | _,_,.cons a b=>.cons (IsT.stay k a) (IsTs.stay k b)
end
theorem ZOk.stay {h h':KW}{zs:Ku Ze}(k:gQ h h')(z:ZOk h zs):ZOk h' zs:=λy hy=>⟨(z y hy).1.stay k,(z y hy).2⟩
section
variable{prog:Kx}{w:KO}{A:KH}{E:JP->JS->Prop}{s:JS}{R:QP->JS->Prop}{I:JX}{fp wr:JM JX}{G:Ku Px->Ku Px->Prop}{n:JW}{P:JW->JP->Prop}{St:JW->JS->Prop}
noncomputable def lJ (w:KO)(zs:Ku Ze)(ep:JW)(t:Lh):LF:={ c9 w with data:=.set (zs.map zV) ep t }
theorem wc (W:WalksS prog w A.in1 I fp wr G n P St){D:JX}(hD:D∉fp)(hwr:∀i s b o,St i s->b∈wr->s.heap.get? b=ba o->o.cls≠.type "tuple"){ks:JM T}{res:Ku (J5×T)×Lh}{Y:T->JX->Prop}(hl:ks.length=n)(hk:∀x∈ks,fT x=true/\x.depth<=aG)(hP:∀i v,P i v->∃x b,ks[i]?=ba x/\v=.ref b/\Y x b)(hu:(bI prog w).room A.in1) :
  ∀(k i:JW) (s:JS) (zs:Ku Ze) (ep:JW) (t:Lh),n - i=k->i<=n->St i s->s.heap.get? D=ba (lJ w zs ep t)->dR t zs.size=true->ZOk s.heap zs->(∀z∈zs.toList,Y z.2.1 z.2.2)->(∀j v x,P j v->ks[j]?=ba x->IsT s.heap x v)->(ks.drop i).foldlM (bT (fq w)) (zs.map zT,t)=ba res->
   (∀s' zs' ep',Moved (D::wr) G s s'->s'.heap.get? D=ba (lJ w zs' ep' res.2)->zs'.map zT=res.1->dR res.2 zs'.size=true->ZOk s'.heap zs'->(∀z∈zs'.toList,Y z.2.1 z.2.2)->R (.ok (.ret .none)) s')->codeAny (model prog w) A (.builtin "set.update.loop" ⟨[.ref D,.ref I],[]⟩) R s:=by
 have hw:D∉wr:=λz=>hD (W.sub _ z)
 have up:∀b∈wr,b∈D::wr:=λb z=>Lm _ z
 intro k
 induction k with
 | zero=>
  intro i s zs ep t hk' hi st ho hok hz hy hT hsim hR;obtain rfl:i=n:=by omega
  refine Le F.entry_set_update_loop ?_;rw[K6 F.plain_set_update_loop _];show wpAny _ A.in1 (pyNext (.ref I) >>= _) _ _ s;refine JN (W.done s _ _ st λs' mv=>?_)
  rw[NJ (by omega)]at hsim
  cases hsim;have ts:gQ s.heap s'.heap:=λc o q hc=>mv.heap c o (λz=>hwr _ _ _ _ st z q hc) q
  exact JT (hR s' zs ep (mv.mono up) (mv.heap D _ hw ho) rfl hok (hz.stay ts) hy)
 | succ k ih=>
  intro i s zs ep t hk' hi st ho hok hz hy hT hsim hR;have hlt:i < n:=by omega
  refine Le F.entry_set_update_loop ?_;rw[K6 F.plain_set_update_loop _];show wpAny _ A.in1 (pyNext (.ref I) >>= _) _ _ s;refine JN (W.item i s _ _ hlt st λv s1 pv st1 mv=>?_)
  obtain⟨x,b,hx,rfl,yx⟩:=hP i v pv;have ts1:gQ s.heap s1.heap:=λc o q hc=>mv.heap c o (λz=>hwr _ _ _ _ st z q hc) q
  obtain⟨hn,hdp⟩:=hk x (Ke hx);have isx:IsT s1.heap x (.ref b):=(hT i _ x pv hx).stay ts1;have o1:s1.heap.get? D=ba (lJ w zs ep t):=mv.heap D _ hw ho;have hd1:ks.drop i=x::ks.drop (i+1):=by
   obtain⟨h1,h2⟩:=J1.mp hx;rw[List.drop_eq_getElem_cons h1,h2]
  rw[hd1,MP]at hsim;cases hs:bT (fq w) (zs.map zT,t) x with
  | none=>rw[hs]at hsim; cases hsim
  | some bw=>
   obtain⟨es1,t1⟩:=bw;rw[hs]at hsim;have hsim:(ks.drop (i+1)).foldlM (bT (fq w)) (es1,t1)=ba res:=hsim;show wpAny _ A.in1 (holding [KI b] (setAdd D (.ref b)) >>= _) _ _ s1;refine JN (K8 ?_);unfold setAdd;refine K8 (JN ((bI prog w).pyHash hu ⟨isx,hdp⟩ ?_));refine Gr (s:={ s1 with toks:=s1.toks+x.draws }) (hf:=fq w) o1 rfl hok (hz.stay ts1) isx hdp hn hu hs λbb h' zs' ep' e1 hok' sb ho' hmem=>?_
   have ts2:gQ s1.heap h':=λc o q hc=>by
    refine sb.extBut c o (λz=>?_) q
    subst z;rw[o1]at q;cases q;exact absurd hc (by show ¬ (LG "set" = LG "tuple"); simp)
   have hz':ZOk h' zs':=λz hzm=>by
    rcases hmem z hzm with h|rfl
    ·exact((hz.stay ts1).stay ts2) z h
    ·exact⟨isx.stay ts2,hdp⟩
   refine JT ⟨LS F.plain_set_update_loop _,ih (i+1) { s1 with heap:=h',toks:=s1.toks+x.draws } zs' ep' t1 (by omega) hlt (W.frame _ s1 _ _ st1 (OX _ _) λc hc u q=>?_) ho' hok' hz' (λz hzm=>by
    rcases hmem z hzm with h|rfl
    ·exact hy z h
    ·exact yx) (λj v y pj hy=>((hT j v y pj hy).stay ts1).stay ts2) (by rw[e1]; exact hsim) λs2 zs2 ep2 mv2 ho2 e2 hok2 hz2 hy2=>?_⟩
   ·rw[sb.2 c λz=>hD (z ▸ hc)]; exact q
   ·refine hR s2 zs2 ep2 (Moved.trans W.gtrans ((mv.mono up).then_heap (OX _ _) λc u hc q=>?_) mv2) ho2 e2 hok2 hz2 hy2
    rw[sb.2 c λz=>hc (z ▸ Lo)]
    exact q
end
section
variable{prog:Kx}{w:KO}{A:KH}{E:JP->JS->Prop}{s:JS}
theorem yw (l:Kt):dR (.fresh 0 0 l) (#[]:Ku Ze).size=true:=by cases l <;> decide
set_option maxHeartbeats 4000000 in
theorem we {l:JX}{its:Ku JP}{ks:JM T}{res:Ku (J5×T)×Lh}{Q:JP->JS->Prop}(hh:A.handled=gV)(hl:s.heap.IsList l its)(hi:IsTs s.heap ks its.toList)(hk:∀x∈ks,fT x=true/\x.depth<=aG)(hrf:∀(i:JW) (v:JP),its[i]?=ba v->∃b,v=.ref b)(hu:(bI prog w).room A.in1.in1.in1)(hsim:ks.foldlM (bT (fq w)) (#[],.fresh 0 0 (!fJ w))=ba res)
  (h:∀(h':KW) (tk:JW) (zs:Ku Ze) (ep:JW),h'.get? s.heap.objs.size=ba (lJ w zs ep res.2)->zs.map zT=res.1->dR res.2 zs.size=true->ZOk h' zs->(∀z∈zs.toList,∃i:JW,ks[i]?=ba z.2.1/\its[i]?=ba (KI z.2.2))->(∀b u,s.heap.get? b=ba u->h'.get? b=ba u)->Q (.ref s.heap.objs.size) { s with heap:=h',toks:=tk }):wpAny (model prog w) A (call (.type "set") [.ref l]) Q E s:=by
 obtain⟨c,tl,hmro⟩:=F.called_set.mro;have hmade:=F.called_set.made;have hsub:=F.called_set.sub;have hn1:=F.called_set.notType;have hn2:=F.called_set.canCreate;have hct:=F.typeCall_set_1 (.ref l);refine wpAny_call (Pf ?_);show wpAny _ _ (callAny (.type "set") _) _ _ _;refine JT ⟨Qe _ (by decide +kernel),Le F.entry_type_call ?_⟩
 rw[Around.under_plain (weight_type_call_type "set" [.ref l] []) rfl]
 repeat (any_goals (first|assumption|wp_step))
 refine NB (yn (w:=w) (.ref l) (E:=E) (Q₁:=λobj s1=>obj=.ref s.heap.objs.size/\s1={ s with heap:=s.heap.push (c9 w) }) ⟨rfl,rfl⟩) λr s1 hr=>?_
 match r,hr with
 | .ok (.ret obj),hr=>
  obtain⟨rfl,rfl⟩:=hr;have oS:(s.heap.push (c9 w)).get? s.heap.objs.size=ba (c9 w):=J9 _ rfl;have tS:Shared.TypeIs { s with heap:=s.heap.push (c9 w) } (.ref s.heap.objs.size) "set":=⟨_,oS,rfl⟩
  have hli:=F.called_set.init.lookup;have hbi:=F.called_set.init.bind (.ref s.heap.objs.size)
  repeat (any_goals (first|assumption|wp_step))
  refine NB (codeAny_call_builtin (R:=wants (λr s2=>r=.none/\∃h' tk zs ep,s2={ s with heap:=h',toks:=tk }/\h'.get? s.heap.objs.size=ba (lJ w zs ep res.2)/\zs.map zT=res.1/\dR res.2 zs.size=true/\ZOk h' zs/\(∀z∈zs.toList,∃i:JW,ks[i]?=ba z.2.1/\its[i]?=ba (KI z.2.2))/\∀b u,s.heap.get? b=ba u->h'.get? b=ba u) E) F.called_set.init.plain F.entry_set_init (check_set_init_1 tS ?_)) λr2 s2 hr2=>?_
  ·obtain⟨⟨oc,od,ot,osl⟩,hol,hcl,nl,hdl⟩:=id hl;simp only at hcl hdl;subst hcl hdl;have hol1:=JQ (c9 w) hol;have l1:(s.heap.push (c9 w)).IsList l its:=⟨_,hol1,rfl,nl,rfl⟩;have e1:=F.sub_list_set;have e2:=F.sub_list_frozenset;have e3:(LG "list" == LG "dict")=false:=by decide
   unfold M0.«set.__init__» noKeywords Rh;generalize hPI:pyIter=PI
   wp_walk
   subst hPI;refine NK l1 (JN (NG ?_));have ls:l < s.heap.objs.size:=Kf hol;have sz:(s.heap.push (c9 w)).objs.size=s.heap.objs.size+1:=MN ..;have ne:l≠(s.heap.push (c9 w)).objs.size:=by rw[sz]; exact Kk (Mz ls)
   have oS':(s.heap.push (c9 w)).get? s.heap.objs.size=ba (lJ w #[] 0 (.fresh 0 0 (!fJ w))):=by
    rw[oS]; unfold lJ c9; simp
   have len:ks.length=its.size:=by rw[hi.length,Kb]
   refine wc ((RC (A:=A.in1.in1.in1) (by simp[hh]) _ l ne its).toS) (D:=s.heap.objs.size) (ks:=ks) (res:=res) (Y:=λx b=>∃i:JW,ks[i]?=ba x/\its[i]?=ba (KI b)) (by rw[sz]; simp only[Kv,Lc,MA,SQ]; exact⟨Kk (Ll _),KC ls⟩) (λi s b o st hb q=>?_) len hk (λi v q=>?_) hu _ 0 _ #[] 0 (.fresh 0 0 (!fJ w)) rfl (LB _)
    ⟨⟨_,J9 _ rfl,rfl,rfl⟩,l1.push _⟩ (JQ _ oS') (yw _) (λz hz=>by simp at hz) (λz hz=>by simp at hz) (λj v x q hx=>?_) (by rw[RD,show MO zT #[]=#[] by simp]; exact hsim) λs3 zs3 ep3 mv ho3 e3 hok3 hz3 hy3=>?_
   ·obtain⟨⟨o',e,hc,_⟩,_⟩:=st;rw[J8.mp hb]at q;rw[q]at e;cases e;rw[hc];simp
   ·obtain⟨b,rfl⟩:=hrf i v q;have hi':i < ks.length:=by rw[len]; exact(LD.mp q).1
    exact⟨ks[i],b,J6 hi',rfl,i,J6 hi',q⟩
   ·have hj:=(J1.mp hx);have q':=(LD.mp q);obtain⟨h1,rfl⟩:=hj;obtain⟨h2,rfl⟩:=q';have:=hi.get j h1 (by rw[Kb]; exact h2)
    rw[NW]at this;exact this.stay λc o q hc=>JQ _ (JQ _ q)
   ·rw[RW mv];refine JT (JT ⟨rfl,s3.heap,s3.toks,zs3,ep3,rfl,ho3,e3,hok3,hz3,hy3,λb u q=>?_⟩)
    have hb:=Kf q;exact mv.heap b u (by rw[sz]; simp only[Kv,Lc,MA,SQ]; exact⟨Kk hb,Kk (Mz hb)⟩) (JQ _ (JQ _ q))
  ·match r2,hr2 with
   | .ok (.ret r),hr2=>
    obtain⟨rfl,h',tk,zs,ep,rfl,g1,g2,g3,g4,g5,g6⟩:=hr2
    repeat (any_goals (first|assumption|wp_step))
    exact h h' tk zs ep g1 g2 g3 g4 g5 g6
   | .ok .next,hr2=>exact hr2.elim
   | .ok .brk,hr2=>exact hr2.elim
   | .ok .cont,hr2=>exact hr2.elim
   | .error e,hr2=>exact hr2
 | .ok .next,hr=>exact hr.elim
 | .ok .brk,hr=>exact hr.elim
 | .ok .cont,hr=>exact hr.elim
 | .error e,hr=>exact hr
end
noncomputable def kn (S:aa)(i:JW):JU (JM (T×W)):=match S[i]? with
 | some (.dic kvs)=>ba kvs
 | some (.frd kvs)=>ba kvs
 | _=>gV
noncomputable def pf (S:aa)(i:JW):JU (JM (T×W)):=match S[i]? with
 | some (.dic kvs)=>ba kvs
 | _=>gV
noncomputable def cy (kvs:JM (T×W))(k:T):JU W:=(kvs.find? λp=>decide (p.1=k)).map (·.2)
noncomputable def fm (kvs:JM (T×W))(k:T)(v:W):JM (T×W):=
 if (kvs.any λp=>decide (p.1=k))=true then kvs.map (λp=>if p.1=k then(p.1,v)else p)else kvs++[(k,v)]
noncomputable def gZ (w:W):JU T:=match W.t w with
 | some k=>if k.isTup=true/\k.depth<=aG then ba k else gV
 | none=>gV
theorem eD {w:W}{k:T}(h:gZ w=ba k):k.w=w/\k.isTup=true/\k.depth<=aG:=by
 unfold gZ at h;split at h
 ·rename_i k' hk;split at h
  ·rename_i hc;cases h;exact⟨W.t_w hk,hc.1,hc.2⟩
  ·cases h
 ·cases h
theorem di (kvs:JM (T×W))(k:T)(v:W):(fm kvs k v).length<=kvs.length+1:=by
 unfold fm;split
 ·rw[JO]; omega
 ·rw[J0,K5,L0]; omega
section
variable{X:Cx}{pins:JM (JX×LF)}{σ:L2.St}{H:Hp}{s:JS}{A:JM JX}{S:aa}
mutual
theorem pg (I:Inv X pins σ H s):∀(k:T) {v:V} {u:JP},Rel X.K A H k.w v->RelV v u->IsT s.heap k u
 | .int i,_,_,r,q=>by
  cases r;obtain⟨t,rfl⟩ : ∃t,_=OV _ t:=q;exact .int
 | .str x,_,_,r,q=>by
  cases r;obtain⟨t,rfl⟩ : ∃t,_=NO _ t:=q;exact .str
 | .tup ks,_,_,r,q=>by
  simp only[T.w]at r;cases r with
  | tup sq rl=>
   obtain⟨its,rv,⟨o,h1,h2,n,h3⟩,hz⟩:=I.tuple sq;obtain rfl:_=KI _:=q;exact .tup h1 h2 h3 (fU I ks rl (by simpa using rv))
theorem fU (I:Inv X pins σ H s):∀(ks:JM T) {vs:JM V} {us:JM JP},RelL X.K A H (T.ws ks) vs->Vals vs us->IsTs s.heap ks us
 | [],_,_,r,q=>by
  simp only[T.ws]at r;cases r; cases q; exact .nil
 | k::ks,_,_,r,q=>by
  simp only[T.ws]at r;cases r with
  | cons r1 r2=>
   cases q with
   | cons q1 q2=>exact .cons (pg I k r1 q1) (fU I ks r2 q2)
end
theorem jy (I:Inv X pins σ H s){k:T}{b:JX}(r:Rel X.K A H k.w (.ref b))(hd:k.depth<=aG):(bI X.prog X.w).is s.heap k b:=⟨pg I k r rfl,hd⟩
theorem iX {w:W}{k:T}{v:V}{u:JP}(hk:gZ w=ba k)(r:Rel X.K A H w v)(q:RelV v u):∃b,v=.ref b/\u=.ref b/\Rel X.K A H k.w (.ref b):=by
 obtain⟨h1,h2,h3⟩:=eD hk;subst h1;cases k with
 | tup ks=>
  simp only[T.w]at r;cases r with
  | tup a b=>exact⟨_,rfl,q,by simp only[T.w]; exact .tup a b⟩
 | _=>cases h2
theorem KRel.is {kvs:JM (T×W)}{xs:JM (T×JX×JP)}(I:Inv X pins σ H s)(r:KRel X.K A H kvs xs):∀x∈xs,(bI X.prog X.w).is s.heap x.1 x.2.1:=by
 unfold KRel at r
 induction r with
 | nil=>intro x hx; exact nomatch hx
 | @cons p q ps qs h t ih=>
  intro x hx;rcases Kv.mp hx with e|hx
  ·subst e;obtain⟨h1,h2,h3,h4,_⟩:=h;rw[h1]at h3 h4;exact jy I h4 h3
  ·exact ih x hx
theorem KRel.length {kvs:JM (T×W)}{xs:JM (T×JX×JP)}(r:KRel X.K A H kvs xs):kvs.length=xs.length:=OO r
theorem KRel.val {kvs:JM (T×W)}{xs:JM (T×JX×JP)}(r:KRel X.K A H kvs xs)(k:T) :
  (∀w,cy kvs k=ba w->∃p v,atKey xs k=ba p/\Rel X.K A H w v/\RelV v p.2)/\(cy kvs k=gV->atKey xs k=gV):=by
 unfold KRel at r
 induction r with
 | nil=>exact⟨λw h=>(nomatch h),λ_=>rfl⟩
 | @cons p q ps qs h t ih=>
  obtain⟨h1,_,_,_,v,h5,h6⟩:=h
  by_cases e:p.1=k
  ·have e':q.1=k:=h1.symm.trans e;have a1:cy (p::ps) k=ba p.2:=by simp[cy,MW,e]
   have a2:atKey (q::qs) k=ba q.2:=by simp[atKey,MW,e']
   rw[a1,a2];exact⟨λw hw=>(by cases hw; exact⟨_,v,rfl,h5,h6⟩),λh=>nomatch h⟩
  ·have e':¬ q.1=k:=λz=>e (h1.trans z)
   have a1:cy (p::ps) k=cy ps k:=by simp[cy,MW,e]
   have a2:atKey (q::qs) k=atKey qs k:=by simp[atKey,MW,e']
   rw[a1,a2];exact ih
theorem KRel.repl {kvs:JM (T×W)}{xs:JM (T×JX×JP)}(r:KRel X.K A H kvs xs)(k:T){w:W}{v:V}{u:JP}(rw':Rel X.K A H w v)(rv:RelV v u) :
  KRel X.K A H (kvs.map λp=>if p.1=k then(p.1,w)else p) (xs.map (putAt k u)):=by
 unfold KRel at r ⊢
 induction r with
 | nil=>exact .nil
 | @cons p q ps qs h t ih=>
  rw[Lp,Lp];refine .cons ?_ ih;obtain⟨h1,h2,h3,h4,h5⟩:=h;unfold putAt
  by_cases e:p.1=k
  ·rw[Ko e,Ko (h1.symm.trans e)]; exact⟨h1,h2,h3,h4,v,rw',rv⟩
  ·rw[Kw e,Kw (λz=>e (h1.trans z))]; exact⟨h1,h2,h3,h4,h5⟩
theorem qO (k:T):∀kvs:JM (T×W),(kvs.any λp=>decide (p.1=k))=(cy kvs k).isSome
 | []=>rfl
 | p::r=>by
  rw[Mm]
  by_cases e:p.1=k
  ·have a1:cy (p::r) k=ba p.2:=by simp[cy,MW,e]
   rw[a1,LX e]; rfl
  ·have a1:cy (p::r) k=cy r k:=by simp[cy,MW,e]
   rw[a1,Kz e,OR]; exact qO k r
theorem KRel.put {kvs:JM (T×W)}{xs:JM (T×JX×JP)}(r:KRel X.K A H kvs xs){k:T}{b:JX}{w:W}{v:V}{u:JP}(h1:k.isTup=true)(h2:k.depth<=aG)(h3:Rel X.K A H k.w (.ref b))(rw':Rel X.K A H w v)(rv:RelV v u) :
  KRel X.K A H (fm kvs k w) (storedH xs k b u):=by
 have e:(kvs.any λp=>decide (p.1=k))=(atKey xs k).isSome:=by
  rw[qO];cases q:cy kvs k with
  | none=>rw[(r.val k).2 q]; rfl
  | some x=>obtain⟨p,_,h,_⟩:=(r.val k).1 x q; rw[h]; rfl
 unfold fm storedH;rw[e]
 by_cases q:(atKey xs k).isSome=true
 ·rw[Ko q,Ko q]; exact r.repl k rw' rv
 ·rw[Kw q,Kw q]; exact Paired.snoc r ⟨rfl,h1,h2,h3,v,rw',rv⟩
theorem DicAt.of {h:KW}{a:JX}{xs:JM (T×JX×JP)}(hz:xs.length<=sizeLine)(hs:(a==sysModules)=false)(d:h.DictOfH (bI X.prog X.w) a xs):DicAt X.w a xs h:=
 let ⟨o,es,ep,h1,h2,h3,h4,_,h6⟩:=d; ⟨hz,hs,h6,o,es,ep,h1,h2,h3,h4⟩
theorem DicAt.stay {wd:KO}{h h':KW}{a:JX}{xs:JM (T×JX×JP)}(d:DicAt wd a xs h)(k:∀o,h.get? a=ba o->h'.get? a=ba o):DicAt wd a xs h':=
 let ⟨h0,hs,hn,o,es,ep,h1,h2⟩:=d; ⟨h0,hs,hn,o,es,ep,k _ h1,h2⟩
theorem DicAt.ok {P:Kx}{h:KW}{wd:KO}{a:JX}{xs:JM (T×JX×JP)}(d:DicAt wd a xs h):ObjOk P wd H h a (eM wd a xs):=
 ⟨d,let ⟨_,_,_,o,_,_,h1,_⟩:=d; ⟨o,h1⟩,λ_ _ p k=>p.stay k⟩
theorem da {a:JX}{xs:JM (T×JX×JP)}(I:Inv X pins σ H s)(e:Rd H a (eM X.w a xs)):DicAt X.w a xs s.heap:=(show ObjOk X.prog X.w H s.heap a (eM X.w a xs)from e.ok I.hok).1
theorem DicAt.dict {kvs:JM (T×W)}{a:JX}{xs:JM (T×JX×JP)}(d:DicAt X.w a xs s.heap)(I:Inv X pins σ H s)(r:KRel X.K A H kvs xs):s.heap.DictOfH (bI X.prog X.w) a xs:=
 let ⟨_,_,hn,o,es,ep,h1,h2,h3,h4⟩:=d; ⟨o,es,ep,h1,h2,h3,h4,r.is I,hn⟩
theorem gv {i:JW}{kvs:JM (T×W)}{a:JX}(so:StoreOk X.w X.K A H S)(e:kn S i=ba kvs)(ea:A[i]?=ba a):∃xs,Rd H a (eM X.w a xs)/\KRel X.K A H kvs xs:=by
 unfold kn at e;split at e
 ·rename_i k h;cases e;obtain⟨xs,q,r⟩:=so.obj i _ a h ea;exact⟨xs,.inl q,r⟩
 ·rename_i k h;cases e;obtain⟨o,xs,q,r⟩:=so.obj i _ a h ea;exact⟨xs,.inr ⟨o,q⟩,r⟩
 ·cases e
theorem iY {i:JW}{kvs:JM (T×W)}(e:pf S i=ba kvs):S[i]?=ba (.dic kvs):=by
 unfold pf at e;split at e
 ·rename_i h; cases e; exact h
 ·cases e
theorem uF {i:JW}{kvs:JM (T×W)}{a:JX}(so:StoreOk X.w X.K A H S)(e:pf S i=ba kvs)(ea:A[i]?=ba a):∃xs,H a=ba (eM X.w a xs)/\KRel X.K A H kvs xs:=
 so.obj i _ a (iY e) ea
theorem qP {B:KH}(hu:B.units+10 < cLine):(bI X.prog X.w).room B.in1:=by
 show B.in1.units+aG < cLine;rw[bo]; unfold aG; omega
noncomputable def sG (x y:W)(S:aa):JU (W×aa):=match x,y with
 | .ref r,.tup ks=>match kn S r,gZ (.tup ks)with
  | some kvs,ba k=>(cy kvs k).map λw=>(w,S)
  | _,_=>gV
 | x,y=>xz x y S
theorem IC (hu:X.A.units+10 < cLine):LIx X sG:=by
 intro value slice pins s σ H A S x y a b u v w S' I so rx ru ry rv e hs
 by_cases hxy:∃r ks,x=.ref r/\y=.tup ks
 ·obtain⟨r,ks,rfl,rfl⟩:=hxy;simp only[sG]at e;split at e
  ·rename_i kvs k hk1 hk2;rw[JR]at e;obtain⟨w',e1,e2⟩:=e;cases e2;cases rx with
   | ref ea=>
    obtain⟨xs,rd,kr⟩:=gv so hk1 ea;have d:=da I rd;have dd:=d.dict I kr;obtain⟨bk,rfl,rfl,rk⟩:=iX hk2 ry rv;obtain⟨p,vv,h1,h2,h3⟩:=(kr.val k).1 _ e1;obtain rfl:u=KI _:=ru;refine ND (x:=p.2) dd.typeIs slot_dict_getitem.lookup
     (wpAny_getItem_heap (Q:=λr s'=>r=p.2/\d7 X pins σ A H S w r s') (qP hu) (jy I rk (eD hk2).2.2) dd h1 ⟨rfl,vv,H,A,I.tok _,h3,.refl,so,h2⟩) hs
  ·cases e
 ·have:sG x y S=xz x y S:=by
   cases x <;> cases y <;> first|rfl|exact absurd ⟨_,_,rfl,rfl⟩ hxy
  rw[this]at e;exact JE hu value slice pins s σ H A S x y a b u v w S' I so rx ru ry rv e hs
noncomputable def iZ (o i v:W)(S:aa):JU aa:=match o,i with
 | .ref r,.tup ks=>match pf S r,gZ (.tup ks)with
  | some kvs,ba k=>if kvs.length < sizeLine then ba (S.set r (.dic (fm kvs k v)))else gV
  | _,_=>gV
 | o,i=>vX o i v S
theorem Gs (hu:X.A.units+10 < cLine):LSet X iZ:=by
 intro pins s σ H A S o i x ao ai ax uo ui ux S' I so ro ruo ri rui rx rux e
 by_cases hxy:∃r ks,o=.ref r/\i=.tup ks
 ·obtain⟨r,ks,rfl,rfl⟩:=hxy;simp only[iZ]at e;split at e
  ·rename_i kvs k hk1 hk2;split at e
   ·rename_i hl;cases e;cases ro with
    | ref ea=>
     obtain⟨xs,hH,kr⟩:=uF so hk1 ea;have d:=da I (.inl hH);have dd:=d.dict I kr;obtain⟨bk,rfl,rfl,rk⟩:=iX hk2 ri rui;obtain⟨q1,q2,q3⟩:=eD hk2;obtain rfl:uo=KI _:=ruo;have hz:xs.length<=sizeLine:=by rw[<- kr.length]; exact LU ‹_›
     refine wpAny_setItem_heap (hsz:=hz) (qP hu) (jy I rk q3) dd λh' dd' hs=>?_
     have kr':=kr.put q2 q3 rk rx rux;have hz':(storedH xs k bk ux).length<=sizeLine:=by
      rw[<- kr'.length];have:=di kvs k x;omega
     have dn:DicAt X.w _ (storedH xs k bk ux) h':=.of hz' d.2.1 dd';obtain⟨so',ex⟩:=so.writeO (iY hk1) rfl ea (u:=eM X.w _ (storedH xs k bk ux)) (n:=.dic (fm kvs k x)) ⟨_,bv,kr'.mono (dM (.ext hH))⟩;exact⟨_,A,o4 I (by rw[hH]; exact NS) hs (let ⟨q,_,_,hq,_⟩:=dd'; ⟨q,hq⟩) dn.ok,ex,so'⟩
   ·cases e
  ·cases e
 ·have:iZ o i x S=vX o i x S:=by
   cases o <;> cases i <;> first|rfl|exact absurd ⟨_,_,rfl,rfl⟩ hxy
  rw[this]at e;exact lset hu pins s σ H A S o i x ao ai ax uo ui ux S' I so ro ruo ri rui rx rux e
noncomputable def uG (x:W)(xs:JM W)(S:aa):JU (W×aa):=match x,xs with
 | .ref r,[y,z]=>match kn S r,gZ y with
  | some kvs,ba k=>ba ((cy kvs k).getD z,S)
  | _,_=>gV
 | _,_=>gV
theorem tm (hu:X.A.units+10 < cLine):LMeth X "dict.get" uG:=by
 intro pins s σ H A S x a u xs vs us w S' I so rx ru rl rv e;cases rx with
 | ref ea=>
  cases rl with
  | nil=>cases e
  | cons r1 t1=>
   cases t1 with
   | nil=>cases e
   | cons r2 t2=>
    cases t2 with
    | cons _ _=>cases e
    | nil=>
     simp only[uG]at e;split at e
     ·rename_i kvs k hk1 hk2;cases e;obtain⟨xs,rd,kr⟩:=gv so hk1 ea;have d:=da I rd;have dd:=d.dict I kr;cases rv with
      | cons v1 rv2=>
       cases rv2 with
       | cons v2 rv3=>
        cases rv3;obtain⟨bk,rfl,rfl,rk⟩:=iX hk2 r1 v1;obtain rfl:u=KI _:=ru;refine call_meetsIn Pq dd.typeIs PySem.F.entry_dict_get (PySem.F.args_dict_get_3 _ _ _) (meetsH_dict_get_default (bI X.prog X.w) _ bk d.2.1 _) ⟨qP hu,k,xs,jy I rk (eD hk2).2.2,dd,?_⟩;cases q:cy kvs k with
        | none=>
         rw[(kr.val k).2 q];exact⟨_,H,A,I.tok _,v2,.refl,so,r2⟩
        | some w'=>
         obtain⟨p,vv,h1,h2,h3⟩:=(kr.val k).1 _ q;rw[h1];exact⟨vv,H,A,I.tok _,h3,.refl,so,h2⟩
     ·cases e
 | _=>cases e
noncomputable def FC (x:W)(i:JW)(S:aa):JU Kt:=match W.t x,iO S i with
 | some k,ba ys=>match W.ts ys with
  | some ks=>if k.depth<=aG/\T.depths ks<=aG then ba (decide (k∈ks))else gV
  | none=>gV
 | _,_=>gV
theorem uH {h:KW}:∀ {ks:JM T} {vs:JM JP},IsTs h ks vs->∀v∈vs,∃k∈ks,IsT h k v
 | _,_,.cons a b,v,hv=>by
  rcases Kv.mp hv with rfl|hv
  ·exact⟨_,.head _,a⟩
  ·obtain⟨k,hk,q⟩:=uH b v hv;exact⟨k,.tail _ hk,q⟩
noncomputable def En (h:KW)(k:T)(v:JP):Kt:=@decide (IsT h k v) (R7 _)
theorem yy {h:KW}{k k':T}{v:JP}(x:IsT h k' v):En h k v=decide (k'=k):=by
 unfold En
 by_cases e:k'=k
 ·subst e; simp[x]
 ·have:¬ IsT h k v:=λy=>e (x.inj y)
  simp[e,this]
theorem uI {h:KW}{k:T}:∀ {ks:JM T} {vs:JM JP},IsTs h ks vs->vs.any (En h k)=decide (k∈ks)
 | _,_,.nil=>by simp
 | _,_,.cons (k:=k') a b=>by
  rw[Mm,yy a,uI b]
  by_cases e:k'=k
  ·simp[e]
  ·have:¬ k=k':=λz=>e z.symm
   simp[e,this]
theorem qQ:∀ {ks:JM T} {k:T},k∈ks->k.depth<=T.depths ks
 | x::ks,k,h=>by
  simp only[T.depths];rcases Kv.mp h with rfl|h
  ·omega
  ·have:=qQ h; omega
theorem yz {x:W}{i:JW}{a b:V}{u v:JP}{c:Kt}(hu:X.A.units+10 < cLine)(I:Inv X pins σ H s)(so:StoreOk X.w X.K A H S)(rx:Rel X.K A H x a)(ru:RelV a u)(ry:Rel X.K A H (.ref i) b)(rv:RelV b v)(e:FC x i S=ba c) :
  ∃l its k ks,v=.ref l/\s.heap.IsList l its/\(∀y,y∈its->Om X.A.in1 s y u (En s.heap k y))/\its.any (En s.heap k)=c/\c=decide (k∈(ks:JM T)):=by
 unfold FC at e;split at e
 ·rename_i k ys h1 h2;split at e
  ·rename_i ks h3;split at e
   ·rename_i h4;cases e;cases ry with
    | ref ea=>
     obtain⟨vs,g1,g2⟩:=cX so h2 ea;obtain⟨its,rv',p,_⟩:=I.list g1;obtain rfl:v=KI _:=rv;have hT:IsTs s.heap ks its:=fU I ks ((W.ts_w h3).symm ▸ g2) rv';have hk:IsT s.heap k u:=pg I k ((W.t_w h1).symm ▸ rx) ru;refine⟨_,its.toArray,k,ks,rfl,p.isList,λy hy=>?_,by rw[List.any_toArray]; exact uI hT,rfl⟩
     obtain⟨k',hk',q⟩:=uH hT y (by simpa using hy)
     rw[yy q];have:=qQ hk';have kl:aG=6:=rfl;exact yt aG k' k _ _ _ _ (by omega) q hk (by rw[bo]; omega) (by rw[bo]; omega)
   ·cases e
  ·cases e
 ·cases e
noncomputable def cg (o:COp)(x y:W)(S:aa):JU (W×aa):=match o,y with
 | .isin,.ref i=>match kn S i with
  | some kvs=>(gZ x).map λk=>(.bl (cy kvs k).isSome,S)
  | none=>match x with
   | .tup xs=>(FC (.tup xs) i S).map λb=>(.bl (b),S)
   | x=>iP .isin x (.ref i) S
 | .notin,.ref i=>match kn S i with
  | some kvs=>(gZ x).map λk=>(.bl (!(cy kvs k).isSome),S)
  | none=>match x with
   | .tup xs=>(FC (.tup xs) i S).map λb=>(.bl (!b),S)
   | x=>iP .notin x (.ref i) S
 | o,y=>iP o x y S
theorem qR (hu:X.A.units+iy < cLine)(o:COp):LOp X (compareOp o.py) (cg o):=by
 intro pins s σ H A S x y a b u v w S' I so rx ru ry rv e;have get:∀ {i:JW} {kvs:JM (T×W)} {k:T},y=.ref i->kn S i=ba kvs->gZ x=ba k->∃d c xs,v=.ref d/\u=.ref c/\(d==sysModules)=false/\(bI X.prog X.w).is s.heap k c/\s.heap.DictOfH (bI X.prog X.w) d xs/\(cy kvs k).isSome=(atKey xs k).isSome:=by
  intro i kvs k hy hk1 hk2;subst hy;cases ry with
  | ref ea=>
   obtain⟨xs,rd,kr⟩:=gv so hk1 ea;have d:=da I rd;obtain⟨bk,rfl,rfl,rk⟩:=iX hk2 rx ru;obtain rfl:v=KI _:=rv;refine⟨_,bk,xs,rfl,rfl,d.2.1,jy I rk (eD hk2).2.2,d.dict I kr,?_⟩;cases q:cy kvs k with
   | none=>rw[(kr.val k).2 q]; rfl
   | some w'=>obtain⟨p,_,h1,_⟩:=(kr.val k).1 _ q; rw[h1]; rfl
 have old:iP o x y S=ba (w,S')->wpAny (model X.prog X.w) X.A (compareOp o.py u v) (d7 X pins σ A H S' w) X.xe s:=λh=>BI hu o pins s σ H A S x y a b u v w S' I so rx ru ry rv h
 have hu':X.A.units+10 < cLine:=by have:iy=20:=rfl; omega
 unfold cg at e;split at e
 ·split at e
  ·rename_i kvs hk1;rw[JR]at e;obtain⟨k,hk2,e2⟩:=e;cases e2;obtain⟨d,c,xs,rfl,rfl,q1,q2,q3,q4⟩:=get rfl hk1 hk2;rw[q4];exact wpAny_in_heap (qP hu') q2 q1 q3 ⟨.bl _,H,A,I.tok _,rfl,.refl,so,.bl⟩
  ·split at e
   ·rw[JR]at e;obtain⟨c,hc,e⟩:=e;cases e;obtain⟨l,its,k,ks,rfl,p1,p2,p3,_⟩:=yz hu' I so rx ru ry rv hc;refine Re (En s.heap k) p1 p2 ?_;rw[p3];exact⟨.bl _,H,A,I,rfl,.refl,so,.bl⟩
   ·exact old e
 ·split at e
  ·rename_i kvs hk1;rw[JR]at e;obtain⟨k,hk2,e2⟩:=e;cases e2;obtain⟨d,c,xs,rfl,rfl,q1,q2,q3,q4⟩:=get rfl hk1 hk2;rw[q4];exact wpAny_notIn_heap (qP hu') q2 q1 q3 ⟨.bl _,H,A,I.tok _,rfl,.refl,so,.bl⟩
  ·split at e
   ·rw[JR]at e;obtain⟨c,hc,e⟩:=e;cases e;obtain⟨l,its,k,ks,rfl,p1,p2,p3,_⟩:=yz hu' I so rx ru ry rv hc;refine P9 (En s.heap k) p1 p2 ?_;rw[p3];exact⟨.bl _,H,A,I,rfl,.refl,so,.bl⟩
   ·exact old e
 ·exact old e
end
noncomputable def RawD (d:JX)(es:Ku Mg)(ep:JW)(h:KW):Prop:=∃o,h.get? d=ba o/\o.ExactDict/\o.data=.dict es ep
theorem RawD.at {d:JX}{es:Ku Mg}{ep:JW}{h h':KW}(x:RawD d es ep h)(e:∀o,h.get? d=ba o->h'.get? d=ba o):RawD d es ep h':=let ⟨o,ho,r⟩:=x; ⟨o,e _ ho,r⟩
theorem RawD.lt {d:JX}{es:Ku Mg}{ep:JW}{h:KW}(x:RawD d es ep h):d < h.objs.size:=let ⟨_,ho,_⟩:=x; Kf ho
theorem RawD.type {d:JX}{es:Ku Mg}{ep:JW}{s:JS}(x:RawD d es ep s.heap):s.TypeIs (.ref d) "dict":=let ⟨o,ho,hc,_⟩:=x; ⟨o,ho,hc.1⟩
section
variable{prog:Kx}{w:KO}{A:KH}{E:JP->JS->Prop}{s:JS}{it d:JX}{i ep:JW}{es:Ku Mg}
theorem qS {Q:JP->JS->Prop}(hd:(d==sysModules)=false)(hm:RawD d es ep s.heap)
  (hQ:Q (.ref s.heap.objs.size) { s with heap:=s.heap.push { cls:=.type "dict_keyiterator",data:=.fields [.ref d,.int 0 0,.int es.size 0,.int ep 0].toArray } }):wpAny (model prog w) A (pyIter (.ref d)) Q E s:=by
 have hT:=hm.type;obtain⟨o,ho,hc,hdat⟩:=id hm;refine OI hT F.slot_dict_iter (Lb F.slot_dict_iter hT F.entry_dict_iter ?_ (F.args_dict_iter_1 _));unfold M0.«dict.__iter__» RK;refine JN (JN (wpAny_notOrdered_dict hT ?_));show wpAny _ _ (pure (KI d)) _ _ s;refine JT ?_;show wpAny _ _ (Pr d >>= _) _ _ s;unfold Pr;rw[Kw (by rw[hd]; exact Kr)]
 refine JN (JT (JN (NL ho hdat (JN (Pi ho hdat ?_)))));refine JN (KQ (JT ⟨_,rfl,"dict_keyiterator",_,⟨_,J9 _ rfl,rfl⟩,F.slot_dict_keyiterator_next.lookup,?_⟩))
 simpa [rawInt]using hQ
theorem qT {Q:JU JP->JS->Prop}(hit:s.heap.IsKeyIter it d i es.size ep)(hm:RawD d es ep s.heap)(hi:i < es.size)
  (hQ:∀h',h'.IsKeyIter it d (i+1) es.size ep->LJ it s.heap h'->Q (ba es[i].key) { s with heap:=h' }):wpAny (model prog w) A (pyNext (.ref it)) Q E s:=by
 obtain⟨o,ho,hc,hd⟩:=id hit;obtain⟨od,hod,hcd,hdd⟩:=id hm;unfold pyNext;refine JN (NU (La (name:=L5 "__next__") hit.typeIs F.slot_dict_keyiterator_next
  (Lb F.slot_dict_keyiterator_next hit.typeIs F.entry_dict_keyiterator_next ?_ (F.args_dict_keyiterator_next_1 _))))
 refine JN (JT (JN (JN ?_)))
 first|refine JN (Ma hit.typeIs (JT ?_))|refine JN (MF hit.typeIs (JT ?_))
 refine JN (Oq ho hd ?_);have hown:N2 "dict_keyiterator" = false:=by decide
 simp only[hown,Ks,Li];show wpAny _ _ (if (KI d==KU)=true then _ else _) _ _ s
 rw[Kw (show ¬ ((KI d==KU)=true)from Kr)]
 refine JN (JT (JN (NL hod hdd ?_)));rw[Kw (by simp)]
 refine JN (JT (JN (Pi hod hdd ?_)));rw[Kw (by simp)]
 refine JT ?_;simp only[show ¬ ((i:J5) < 0)from by omega,Li,Kh,L3 hi]
 refine JN ?_
 first|refine JN (Ma hit.typeIs (JT ?_))|refine JN (MF hit.typeIs (JT ?_))
 refine JN (Ps hit.typeIs ?_);show wpAny _ _ (setField (.ref it) 1 (rawInt ((i:J5)+1)) >>= _) _ _ s;refine JN (Ov ho hd (by simp) ?_)
 have hit':(s.heap.update it (RZ (·.setIfInBounds 1 (rawInt ((i:J5)+1))))).IsKeyIter it d (i+1) es.size ep:=
  ⟨_,Lz _ ho (Pu (Nx hd _)),(QC ..).trans hc,by rw[Nx hd]; simp[rawInt]⟩
 refine JN (K8 ?_);refine JN (Ps (s:={ s with heap:=s.heap.update it (RZ (·.setIfInBounds 1 (rawInt ((i:J5)+1)))) }) hit'.typeIs ?_)
 show wpAny _ _ (pure es[i].key) _ _ _;exact JT (JT ⟨_,rfl,JT (hQ _ hit' (MH ..))⟩)
theorem uJ {Q:JU JP->JS->Prop}(hh:A.handled=gV)(hit:s.heap.IsKeyIter it d i es.size ep)(hm:RawD d es ep s.heap)(hge:es.size<=i)
  (hQ:∀h',PD it s.heap h'->Q gV { s with heap:=h' }):wpAny (model prog w) A (pyNext (.ref it)) Q E s:=by
 obtain⟨o,ho,hc,hd⟩:=id hit;obtain⟨od,hod,hcd,hdd⟩:=id hm;unfold pyNext;refine JN (NU (La (name:=L5 "__next__") hit.typeIs F.slot_dict_keyiterator_next
  (Lb F.slot_dict_keyiterator_next hit.typeIs F.entry_dict_keyiterator_next ?_ (F.args_dict_keyiterator_next_1 _))))
 refine JN (JT (JN (JN ?_)))
 first|refine JN (Ma hit.typeIs (JT ?_))|refine JN (MF hit.typeIs (JT ?_))
 refine JN (Oq ho hd ?_);have hown:N2 "dict_keyiterator" = false:=by decide
 simp only[hown,Ks,Li];show wpAny _ _ (if (KI d==KU)=true then _ else _) _ _ s
 rw[Kw (show ¬ ((KI d==KU)=true)from Kr)]
 refine JN (JT (JN (NL hod hdd ?_)));rw[Kw (by simp)]
 refine JN (JT (JN (Pi hod hdd ?_)));rw[Kw (by simp)]
 refine JT ?_;simp only[show ¬ ((i:J5) < 0)from by omega,Li,Kh,Array.getElem?_eq_none hge]
 refine JN ?_
 first|refine JN (Ma hit.typeIs (JT ?_))|refine JN (MF hit.typeIs (JT ?_))
 show wpAny _ _ (setField (.ref it) 0 .none >>= _) _ _ s;refine JN (Ov ho hd (by simp) ?_)
 show wpAny _ _ (newExc (.type "StopIteration") [] >>= _) _ _ _;refine JN ?_;simp only[newExc,newTuple];refine JN (KQ ?_ (by size_fits))
 refine JN (m:=firstArgMember _ _) (Nz (a:=KU) (by first|rfl|(simp only[firstArgMember]; rfl)) ?_)
 refine KQ ?_ (by size_fits)
 simp only[raiseNew];refine JN (P2 ?_);rw[show A.in1.handled=gV from hh]
 refine JN (JT (Q7 ?_));refine JN (Nd (T:="StopIteration") (b:=true) ⟨_,J9 _ rfl,rfl⟩ Pz ?_);exact JT (hQ _ (((MH ..).extBut.push _).push _))
theorem wg (hh:A.handled=gV)(I d:JX)(hne:d≠I)(es:Ku Mg)(ep:JW) :
  Q8 prog w A I [I,d] [I] es.size (λi v=>∃e,es[i]?=ba e/\e.key=v) (λi h=>h.IsKeyIter I d i es.size ep/\RawD d es ep h) where
 sub:=λb hb=>by simp at hb; simp[hb]
 frame:=λ_ _ _ st hk=>⟨st.1.at λo e=>hk I (by simp) o e,st.2.at λo e=>hk d (by simp) o e⟩
 item:=λi s Q E hi st hQ=>
  qT st.1 st.2 hi λh' hit' hs'=>hQ _ h' s.toks ⟨es[i],by simp[hi],rfl⟩ ⟨hit',st.2.at λo e=>(hs'.2 d hne).trans e⟩ λb o hb e=>hs'.extBut b o (λh=>hb (by simp[h])) e
 done:=λs Q E st hQ=>uJ hh st.1 st.2 (JZ _) λh' he'=>hQ h' s.toks λb o hb e=>he' b o (λh=>hb (by simp[h])) e
 self:=λ_ _ _ _ st hQ=>PF st.1 hQ
theorem uK (lo:(d==sysModules)=false):PH prog w "dict" d d es.size (λi v=>∃e,es[i]?=ba e/\e.key=v) (RawD d es ep) where
 type:=λ_ hm=>hm.type
 there:=λ_ hm=>⟨hm.lt,hm.lt⟩
 keep:=λ_ _ hm hk=>hm.at λo e=>hk d (.inl rfl) o e
 notList:=by decide
 notTuple:=by decide
 hint:=λ_ _ _ _ hm hq=>PySem.W.kdl_hint_dict hm.type hq
 iter:=λ_ _ hh hm=>⟨_,_,(λ_ _ hq=>qS lo hm hq),wg hh _ d (Kk hm.lt) es ep,⟨⟨_,J9 _ rfl,rfl,rfl⟩,hm.at λo e=>JQ _ e⟩⟩
theorem yA {T:Lv}{r d S:JX}{n:JW}{P:JW->JP->Prop}{OK:KW->Prop}{R:QP->JS->Prop}(K:PH prog w T r d n P OK)(hh:A.handled=gV)(hok:OK s.heap)(hn:n<=sizeLine)(hSr:S≠r)(hSd:S≠d)
  (hS:s.heap.get? S=ba { cls:=.type "list",data:=.seq #[] 0 })
  (hR:∀h' tk acc' c',(∀b o,b≠S->s.heap.get? b=ba o->h'.get? b=ba o)->h'.get? S=ba { cls:=.type "list",dict:=gV,data:=.seq acc' c',slots:=#[] }->O8 P acc' n->R (.ok (.ret (.ref S))) { s with heap:=h',toks:=tk }) :
  codeAny (model prog w) A (.builtin "list.__iadd__" ⟨[.ref S,.ref r],[]⟩) R s:=by
 refine Le F.entry_list_iadd ?_;rw[K6 F.plain_list_iadd _];show wpAny _ A.in1 (LA (.ref S) (.ref r) (.ref S)) _ _ _;exact PySem.W.kdl_extend K hh hok S hSr hSd _ 0 hS hR hn
theorem qU {T:Lv}{r d:JX}{n:JW}{P:JW->JP->Prop}{OK:KW->Prop}{Q:JM JP->JS->Prop}(K:PH prog w T r d n P OK)(hh:A.handled=gV)(hok:OK s.heap)(hn:n<=sizeLine)
  (hQ:∀h' tk acc,(∀b o,s.heap.get? b=ba o->h'.get? b=ba o)->s.heap.objs.size<=h'.objs.size->O8 P acc n->Q acc.toList { s with heap:=h',toks:=tk }):wpAny (model prog w) A (collect (.ref r)) Q E s:=by
 unfold collect;refine JN (NG (Le F.entry_proto_collect ?_));rw[K6 F.plain_proto_collect _];show wpAny _ A.in1 (newList [] >>= λl=>again (.builtin "list.__iadd__" ⟨[l,.ref r],[]⟩)) _ _ s
 refine JN (KQ ?_);have hlt:=K.there _ hok;refine JT ⟨LS F.plain_list_iadd _,yA (s:={ s with heap:=s.heap.push { cls:=.type "list",data:=.seq ([]:JM JP).toArray } }) K hh (K.keep _ _ hok λb _ o e=>JQ _ e) hn (KC hlt.1) (KC hlt.2) (J9 _ rfl) λh' tk acc' c' hk hS' hacc=>?_⟩
 show wpAny (model prog w) A (do
   let o <- load s.heap.objs.size
   match o.data with
   | .seq xs _=>pure xs.toList
   | _=>unsupported "internal:collect") Q E { s with heap:=h',toks:=tk }
 refine JN (O4 hS' ?_);exact JT (hQ h' tk acc' (λb o e=>hk b o (Kk (Kf e)) (JQ _ e)) (LU (Kf hS')) hacc)
end
mutual
noncomputable def mW:T->T->JU Kt
 | .int a,.int b=>ba (decide (a < b))
 | .str a,.str b=>ba (decide (a.cps.toList < b.cps.toList))
 | .tup xs,.tup ys=>gk xs ys
 | _,_=>gV
noncomputable def gk:JM T->JM T->JU Kt
 | [],[]=>ba false
 | [],_::_=>ba true
 | _::_,[]=>ba false
 | x::xs,y::ys=>if x=y then gk xs ys else mW x y
end
mutual
theorem IsT.kept {h h':KW}(hk:∀b o,o.cls=.type "tuple"->h.get? b=ba o->h'.get? b=ba o):∀ {x:T} {v:JP},IsT h x v->IsT h' x v
 | _,_,.int=>.int
 | _,_,.str=>.str
 | _,_,.tup a1 c1 d1 t1=>.tup (hk _ _ c1 a1) c1 d1 (IsTs.kept hk t1)
theorem IsTs.kept {h h':KW}(hk:∀b o,o.cls=.type "tuple"->h.get? b=ba o->h'.get? b=ba o):∀ {x:JM T} {v:JM JP},IsTs h x v->IsTs h' x v
 | _,_,.nil=>.nil
 | _,_,.cons a b=>.cons (IsT.kept hk a) (IsTs.kept hk b)
end
theorem Gu {B:KH}{s:JS}{d:JW}(hu:B.units+d < cLine)(hl:∀(x y:T) (u v:JP) (k:Kt),x.depth<=d->y.depth<=d->IsT s.heap x u->IsT s.heap y v->mW x y=ba k->LtAt B s u v k) :
  ∀(xs ys:JM T) (us vs:JM JP) (k:Kt),T.depths xs<=d->T.depths ys<=d->IsTs s.heap xs us->IsTs s.heap ys vs->gk xs ys=ba k->LexR B s us vs k
 | [],[],_,_,k,_,_,h1,h2,e=>by cases h1; cases h2; cases e; exact .nn
 | [],y::ys,_,_,k,_,_,h1,h2,e=>by cases h1; cases h2; cases e; exact .nc
 | x::xs,[],_,_,k,_,_,h1,h2,e=>by cases h1; cases h2; cases e; exact .cn
 | x::xs,y::ys,_,_,k,d1,d2,h1,h2,e=>by
  simp only[T.depths]at d1 d2;cases h1 with
  | cons p1 q1=>
   cases h2 with
   | cons p2 q2=>
    have he:=yt d x y _ _ B s (by omega) p1 p2 hu (by omega)
    simp only[gk]at e
    by_cases hxy:x=y
    ·rw[Ko hxy]at e;rw[LX hxy]at he;exact .eq he (Gu hu hl xs ys _ _ k (by omega) (by omega) q1 q2 e)
    ·rw[Kw hxy]at e;rw[Kz hxy]at he;exact .ne he (hl x y _ _ k (by omega) (by omega) p1 p2 e)
theorem Gv:∀(d:JW) (x y:T) (u v:JP) (B:KH) (s:JS) (k:Kt),x.depth<=d->y.depth<=d->IsT s.heap x u->IsT s.heap y v->B.units+d < cLine->mW x y=ba k->LtAt B s u v k:=by
 intro d
 induction d with
 | zero=>
  intro x y u v B s k d1 d2 h1 h2 hu e;cases h1 with
  | int=>cases h2 with
   | int=>cases e; exact λprog w E Q h=>(PV h:wpAny (model prog w) B (compareOp .Lt _ _) Q E s)
   | _=>cases e
  | str=>cases h2 with
   | str=>cases e; exact λprog w E Q h=>(lt_str h:wpAny (model prog w) B (compareOp .Lt _ _) Q E s)
   | _=>cases e
  | tup _ _ _ _=>simp[T.depth]at d1
 | succ d ih=>
  intro x y u v B s k d1 d2 h1 h2 hu e;cases h1 with
  | int=>cases h2 with
   | int=>cases e; exact λprog w E Q h=>(PV h:wpAny (model prog w) B (compareOp .Lt _ _) Q E s)
   | _=>cases e
  | str=>cases h2 with
   | str=>cases e; exact λprog w E Q h=>(lt_str h:wpAny (model prog w) B (compareOp .Lt _ _) Q E s)
   | _=>cases e
  | tup a1 c1 e1 t1=>cases h2 with
   | tup a2 c2 e2 t2=>
    simp only[T.depth]at d1 d2;have hu1:B.in1.units+d < cLine:=by rw[bo]; omega
    exact LtAt.tuples ⟨_,a1,c1,_,e1⟩ ⟨_,a2,c2,_,e2⟩ (by omega) (Gu hu1 (λx y u v k q1 q2 q3 q4 q5=>ih x y u v B.in1 s k q1 q2 q3 q4 hu1 q5) _ _ _ _ k (by omega) (by omega) t1 t2 e)
   | _=>cases e
section
variable{prog:Kx}{w:KO}{A:KH}{R:QP->JS->Prop}{I S:JX}{fp wr:JM JX}{n:JW}{P:JW->JP->Prop}{St:JW->KW->Prop}{Ok:KW->Prop}{bt:JW->JW->Kt}
noncomputable def yB (prog:Kx)(w:KO)(A:KH)(P:JW->JP->Prop)(Ok:KW->Prop)(bt:JW->JW->Kt):Prop:=
 ∀i j vi vj (s:JS) (Q:JP->JS->Prop) (E:JP->JS->Prop),Ok s.heap->P i vi->P j vj->Q (.bool (bt i j)) s->wpAny (model prog w) A (richCompare .Lt vi vj) Q E s
theorem yC (W:Q8 prog w A.in1 I fp wr n P St)(hcmp:yB prog w A.in1 P Ok bt)(hSf:S∉fp)(hok:∀h h',Ok h->(∀b o,b∉wr->b≠S->h.get? b=ba o->h'.get? b=ba o)->Ok h') :
  ∀(k j:JW) (s:JS) (vb:JP) (c:JW),n - (j+1)=k->j < n->St (j+1) s.heap->P (argBest bt j) vb->Ok s.heap->s.heap.get? S=ba { cls:=.type "list",dict:=gV,data:=.seq [vb,vb].toArray c,slots:=#[] }->
  (∀v h' tk,P (argBest bt (n - 1)) v->(∀b o,b∉wr->b≠S->s.heap.get? b=ba o->h'.get? b=ba o)->R (.ok (.ret v)) { s with heap:=h',toks:=tk })->
  codeAny (model prog w) A (.builtin "min.loop" ⟨[.ref I,.none,.ref S],[]⟩) R s:=by
 have hSw:S∉wr:=λh=>hSf (W.sub _ h)
 have hname:(toString "min" ++ toString ".loop" : Lv) = "min.loop":=by decide
 intro k
 induction k with
 | zero=>
  intro j s vb c hk hj hst hPb hO hS hR;have hin:j+1=n:=by omega
  refine Le F.entry_min_loop ?_;rw[K6 F.plain_min_loop _];show wpAny _ A.in1 (seqItems? (.ref S) >>= _) _ _ s;refine JN (L8 hS rfl ?_);show wpAny _ A.in1 (tryCatch (pyNext (.ref I)) _ >>= _) _ _ s;refine JN (Ow (W.done s _ _ (hin ▸ hst) λh' tk hk'=>?_))
  have hS':=hk' S _ hSw hS;show wpAny _ A.in1 (updateSeq S (λ_=>#[]) >>= _) _ _ _
  refine JN (Nr hS' rfl (JN (NX (JT ?_))));have e:j=n - 1:=by omega
  exact hR vb _ tk (e ▸ hPb) λb o hbw hbS e=>(KS _ _ (Ne.symm hbS)).trans (hk' b o hbw e)
 | succ k ih=>
  intro j s vb c hk hj hst hPb hO hS hR;have hlt:j+1 < n:=by omega
  refine Le F.entry_min_loop ?_;rw[K6 F.plain_min_loop _];show wpAny _ A.in1 (seqItems? (.ref S) >>= _) _ _ s;refine JN (L8 hS rfl ?_);show wpAny _ A.in1 (tryCatch (pyNext (.ref I)) _ >>= _) _ _ s;refine JN (Ow (W.item (j+1) s _ _ hlt hst λv h' tk hP hst' hk'=>?_))
  have hS':=hk' S _ hSw hS;have hO':Ok h':=hok _ _ hO λb o hb _ e=>hk' b o hb e
  show wpAny _ A.in1 (tryCatch (holding [v,v] (richCompare .Lt v vb >>= _)) _ >>= _) _ _ _;refine JN (Ow (K8 (JN (hcmp (j+1) (argBest bt j) v vb _ _ _ hO' hP hPb ?_))));refine JN (K8 (Mc ?_));refine JN (NX (JT ?_));cases hb:bt (j+1) (argBest bt j)with
  | true=>
   simp only[LH];refine JN (Nr hS' rfl (JN (NX ?_)));rw[hname];refine JT ⟨LS F.plain_min_loop _,ih (j+1) _ v _ (by omega) hlt (W.frame _ _ _ hst' λb hbf o e=>?_) (by simp only[argBest,hb,LH]; exact hP) (hok _ _ hO' λb o _ hbS e=>(KS _ _ (Ne.symm hbS)).trans e) (Lz _ hS' rfl)
    λv' h'' tk'' hP' hk''=>?_⟩
   ·exact(KS _ _ (λh:S=b=>hSf (by rw[h]; exact hbf))).trans e
   ·exact hR v' h'' tk'' hP' λb o hbw hbS e=>hk'' b o hbw hbS ((KS _ _ (Ne.symm hbS)).trans (hk' b o hbw e))
  | false=>
   simp only[Ks,Li];refine JN (NX ?_);rw[hname];refine JT ⟨LS F.plain_min_loop _,ih (j+1) _ vb c (by omega) hlt hst' (by simp only[argBest,hb,Ks,Li]; exact hPb) hO' hS' λv' h'' tk'' hP' hk''=>?_⟩
   exact hR v' h'' tk'' hP' λb o hbw hbS e=>hk'' b o hbw hbS (hk' b o hbw e)
theorem wj (W:Q8 prog w A.in1 I fp wr n P St)(hcmp:yB prog w A.in1 P Ok bt)(hSf:S∉fp)(hok:∀h h',Ok h->(∀b o,b∉wr->b≠S->h.get? b=ba o->h'.get? b=ba o)->Ok h')(hn:0 < n){s:JS}{c:JW}(hst:St 0 s.heap)(hO:Ok s.heap)
  (hS:s.heap.get? S=ba { cls:=.type "list",dict:=gV,data:=.seq #[] c,slots:=#[] })
  (hR:∀v h' tk,P (argBest bt (n - 1)) v->(∀b o,b∉wr->b≠S->s.heap.get? b=ba o->h'.get? b=ba o)->R (.ok (.ret v)) { s with heap:=h',toks:=tk }) :
  codeAny (model prog w) A (.builtin "min.loop" ⟨[.ref I,.none,.ref S],[]⟩) R s:=by
 have hSw:S∉wr:=λh=>hSf (W.sub _ h)
 have hname:(toString "min" ++ toString ".loop" : Lv) = "min.loop":=by decide
 refine Le F.entry_min_loop ?_;rw[K6 F.plain_min_loop _];show wpAny _ A.in1 (seqItems? (.ref S) >>= _) _ _ s;refine JN (L8 hS rfl ?_);show wpAny _ A.in1 (tryCatch (pyNext (.ref I)) _ >>= _) _ _ s;refine JN (Ow (W.item 0 s _ _ hn hst λv h' tk hP hst' hk'=>?_))
 have hS':=hk' S _ hSw hS;show wpAny _ A.in1 (updateSeq S (λ_=>[v,v].toArray) >>= _) _ _ _
 refine JN (Nr hS' rfl ?_);rw[hname];have hO':Ok h':=hok _ _ hO λb o hb _ e=>hk' b o hb e
 refine JT ⟨LS F.plain_min_loop _,yC W hcmp hSf hok _ 0 _ v _ rfl hn (W.frame _ _ _ hst' λb hbf o e=>?_) hP (hok _ _ hO' λb o _ hbS e=>(KS _ _ (Ne.symm hbS)).trans e) (Lz _ hS' rfl) λv' h'' tk'' hP' hk''=>?_⟩
 ·exact(KS _ _ (λh:S=b=>hSf (by rw[h]; exact hbf))).trans e
 ·exact hR v' h'' tk'' hP' λb o hbw hbS e=>hk'' b o hbw hbS ((KS _ _ (Ne.symm hbS)).trans (hk' b o hbw e))
end
section
variable{prog:Kx}{w:KO}{A:KH}{E:JP->JS->Prop}{s:JS}
theorem yD {l:JX}{items:Ku JP}{bt:JW->JW->Kt}{Q:JP->JS->Prop}(hh:A.handled=gV)(hl:s.heap.IsList l items)(hn:0 < items.size)
  (hcmp:yB prog w A.in1 (λi v=>items[i]?=ba v) (λh=>∀b o,s.heap.get? b=ba o->h.get? b=ba o) bt)
  (hQ:∀v h' tk,items[argBest bt (items.size - 1)]?=ba v->(∀b o,s.heap.get? b=ba o->h'.get? b=ba o)->Q v { s with heap:=h',toks:=tk }) :
  wpAny (model prog w) A (call (.builtin "min") [.ref l]) Q E s:=by
 have hname:(toString "min" ++ toString ".loop" : Lv) = "min.loop":=by decide
 refine call_function_tree F.kind_min F.plain_min F.entry_min (F.args_min1 _) ?_;show wpAny _ A.in1 (Oc "min" ["key","default"] 0 ⟨[],[]⟩ >>= _) _ _ s;refine JN (Nz (show Oc "min" ["key","default"] 0 ⟨[],[]⟩=pure [gV,gV]from rfl) ?_)
 refine JN (JT ?_);refine JN (NK hl ?_);refine JN (KQ ?_);rw[hname];have hlt:l < s.heap.objs.size:=let ⟨_,ho,_⟩:=hl; Kf ho
 have hne:l≠s.heap.objs.size:=Kk hlt;have W:=RC (prog:=prog) (w:=w) (A:=A.in1) hh s.heap.objs.size l hne items;have hsz:∀o:LF,(s.heap.push o).objs.size=s.heap.objs.size+1:=λo=>by simp[Heap.push]
 refine JT ⟨LS F.plain_min_loop _,wj (A:=A) (Ok:=λh=>∀b o,s.heap.get? b=ba o->h.get? b=ba o) W hcmp (λhm=>?_) (λh h' ho hk b o e=>?_) hn ⟨?_,?_⟩ (λb o e=>JQ _ (JQ _ e)) (J9 _ rfl) λv h' tk hv hk=>?_⟩
 ·rcases Kv.mp hm with e|hm
  ·exact absurd (show(s.heap.push _).objs.size=s.heap.objs.size from e) (by rw[hsz]; exact Nat.succ_ne_self _)
  ·have e:(s.heap.push _).objs.size=l:=J8.mp hm;rw[hsz]at e;exact absurd hlt (by rw[<- e]; exact Qd.mpr (My _))
 ·have hb:=Kf e;refine hk b o (λz=>?_) (λz=>?_) (ho b o e)
  ·rw[J8.mp z]at hb; exact Ly _ hb
  ·have z':b=(s.heap.push _).objs.size:=z;rw[hsz]at z';rw[z']at hb;exact absurd hb (Qd.mpr (My _))
 ·exact⟨_,JQ _ (J9 _ rfl),rfl,rfl⟩
 ·obtain⟨o,ho,hc⟩:=hl;exact⟨o,JQ _ (JQ _ ho),hc⟩
 ·refine hQ v h' tk hv λb o e=>hk b o (λz=>?_) (λz=>?_) (JQ _ (JQ _ e))
  ·have hb:=Kf e;rw[J8.mp z]at hb; exact Ly _ hb
  ·have hb:=Kf e;have z':b=(s.heap.push _).objs.size:=z;rw[hsz]at z';rw[z']at hb;exact absurd hb (Qd.mpr (My _))
end
open PySem.W (KasT kas_sort kas_ask kas_cmp kas_item kas_asc kas_desc kas_tail3 kas_descPart kas_count kas_place kas_bin kas_rev)
noncomputable def cu {α:Type}(lt:JW->JW->Kt):KasT α->α
 | .ret a=>a
 | .ask i j k=>cu lt (k (lt i j))
noncomputable def OkK {α:Type}(n:JW)(P:α->Prop):KasT α->Prop
 | .ret a=>P a
 | .ask i j k=>i < n/\j < n/\∀b,OkK n P (k b)
theorem qV {α:Type}{n:JW}{P:α->Prop}{lt:JW->JW->Kt}:∀(t:KasT α),OkK n P t->P (cu lt t)
 | .ret _,h=>h
 | .ask i j k,h=>qV (k (lt i j)) (h.2.2 _)
theorem ph {α:Type}{n:JW}{P:α->Prop}{lt:JW->JW->Kt}{t:KasT α}(h:OkK n P t):P (cu lt t):=qV t h
theorem OkK.bind {α β:Type}{n:JW}{P:α->Prop}{P':β->Prop}{f:α->KasT β}:∀ {t:KasT α},OkK n P t->(∀a,P a->OkK n P' (f a))->OkK n P' (t.bind f)
 | .ret a,h,hf=>hf a h
 | .ask _ _ _,h,hf=>⟨h.1,h.2.1,λb=>OkK.bind (h.2.2 b) hf⟩
theorem og {α:Type}{n:JW}{P:α->Prop}{lt:JW->JW->Kt}{cmp:JW->JW->(Kt->JS->Prop)->JS->Prop}{Q:α->JS->Prop}{s:JS}(hc:∀i j,i < n->j < n->∀C:Kt->JS->Prop,C (lt i j) s->cmp i j C s) :
  ∀ {t:KasT α},OkK n P t->Q (cu lt t) s->t.kasWp cmp Q s
 | .ret _,_,h=>h
 | .ask i j k,h,hq=>hc i j h.1 h.2.1 _ (og hc (h.2.2 _) hq)
noncomputable def Pm (n:JW)(p:Ku JW):Prop:=p.toList.Perm (Ky n)
theorem Pm.size {n:JW}{p:Ku JW}(h:Pm n p):p.size=n:=by rw[<- Kb,h.length_eq,KJ]
theorem Pm.lt {n:JW}{p:Ku JW}(h:Pm n p)(hn:0 < n)(i:JW):p.getD i 0 < n:=by
 by_cases hi:i < p.size
 ·have e:p.getD i 0=p[i]:=by simp[Nv,hi]
  rw[e];have:p[i]∈p.toList:=by simp
  exact KP.mp (h.mem_iff.mp this)
 ·have e:p.getD i 0=0:=by simp[Nv,hi]
  rw[e]; exact hn
theorem Pm.rev {n:JW}{p:Ku JW}(h:Pm n p)(i j:JW):Pm n (kas_rev p i j):=(Ox.mp (mirror_perm p i j _)).trans h
theorem Pm.bub {n:JW}{p:Ku JW}(h:Pm n p)(i j:JW):Pm n (bubble p i j):=(Ox.mp (bubble_perm p i j)).trans h
section
variable{n:JW}(hn:0 < n)
include hn
theorem tq {p:Ku JW}(h:Pm n p):∀(f m:JW),OkK n (λ_=>Rn) (kas_asc p f m)
 | 0,_=>trivial
 | f+1,m=>⟨h.lt hn _,h.lt hn _,λb=>by
  show OkK n _ (if b=true then _ else _)
  split
  ·trivial
  ·exact tq h f (m+1)⟩
theorem lg:∀(f:JW) (p:Ku JW) (m q:JW),Pm n p->OkK n (λr=>Pm n r.1) (kas_desc f p m q)
 | 0,p,m,q,h=>h
 | f+1,p,m,q,h=>⟨h.lt hn _,h.lt hn _,λb=>by
  show OkK n _ (if b=true then _ else _)
  split
  ·split
   ·exact lg f _ _ _ (h.rev _ _)
   ·exact lg f _ _ _ h
  ·refine⟨h.lt hn _,h.lt hn _,λc=>?_⟩
   show OkK n _ (if c=true then _ else _)
   split
   ·exact h
   ·exact lg f _ _ _ h⟩
theorem uL {p:Ku JW}(h:Pm n p)(m k:JW):OkK n (λr=>Pm n r.2) (kas_tail3 m k p):=by
 unfold kas_tail3;exact OkK.bind (tq hn (h.rev 0 m) _ _) λa _=>h.rev 0 m
theorem ko {p:Ku JW}(h:Pm n p)(m k:JW):OkK n (λr=>Pm n r.2) (kas_descPart m k p):=by
 unfold kas_descPart;refine OkK.bind (lg hn _ _ _ _ h) λr hr=>?_
 split
 ·exact uL hn (hr.rev _ _) _ _
 ·exact uL hn hr _ _
theorem yE {p:Ku JW}(h:Pm n p)(k:JW):OkK n (λr=>Pm n r.2) (kas_count k p):=by
 unfold kas_count;refine OkK.bind (tq hn h _ _) λm _=>?_
 split
 ·exact h
 ·split
  ·refine⟨h.lt hn _,h.lt hn _,λc=>?_⟩
   show OkK n _ (if c=true then _ else _)
   split
   ·exact h
   ·exact ko hn (h.rev _ _) _ _
  ·exact ko hn h _ _
theorem lK {p:Ku JW}(h:Pm n p)(k:JW):∀(f l r:JW),OkK n (λ_=>Rn) (kas_place p k f l r)
 | 0,_,_=>trivial
 | f+1,l,r=>by
  unfold kas_place;split
  ·trivial
  ·refine⟨h.lt hn _,h.lt hn _,λc=>?_⟩
   show OkK n _ (if c=true then _ else _)
   split
   ·exact lK h k f _ _
   ·exact lK h k f _ _
theorem yF:∀(f:JW) (p:Ku JW) (k:JW),Pm n p->OkK n (Pm n) (kas_bin f p k)
 | 0,p,k,h=>h
 | f+1,p,k,h=>by
  unfold kas_bin;exact OkK.bind (lK hn h k _ _ _) λl _=>yF f _ _ (h.bub _ _)
theorem lh:OkK n (Pm n) (kas_sort n):=by
 unfold kas_sort;refine OkK.bind (yE hn (by unfold Pm; simp) _) λr hr=>?_
 split
 ·exact yF hn _ _ _ hr
 ·exact hr
end
section
variable{prog:Kx}{w:KO}{A:KH}{E:JP->JS->Prop}{s:JS}{vs:JM JP}
noncomputable def dS (lt:JW->JW->Kt){β:Type}(d:β)(vs:JM β):JM β:=if vs.length < 2 then vs else(cu lt (kas_sort vs.length)).toList.map λi=>vs.getD i d
theorem qW {lt:JW->JW->Kt}{β:Type}{d:β}{vs:JM β}:(dS lt d vs).length=vs.length:=by
 unfold dS;split
 ·rfl
 ·rw[JO,Kb,(ph (lt:=lt) (lh (n:=vs.length) (by omega))).size]
theorem oh {a:JX}{n:JW}{lt:JW->JW->Kt}{κ:OY}{P:Tb->JS->Prop}(ho:s.heap.get? a=ba (seqObj "list" vs.toArray n))(h64:vs.length < 64)
  (hkind:2<=vs.length->∀h',(∀b o,b≠a->s.heap.get? b=ba o->h'.get? b=ba o)->∀Q:OY->JS->Prop,Q κ { s with heap:=h' }->wpAny (model prog w) A (keyKind' vs.toArray) Q (λ_ _=>Lq) { s with heap:=h' })
  (hlt:2<=vs.length->∀h',(∀b o,b≠a->s.heap.get? b=ba o->h'.get? b=ba o)->∀i j,i < vs.length->j < vs.length->∀Q:Kt->JS->Prop,Q (lt i j) { s with heap:=h' }->
   wpAny (model prog w) A (keyLt' κ (vs.getD i KU) (vs.getD j KU)) Q (λ_ _=>Lq) { s with heap:=h' })
  (h:∀h' c,(∀b o,b≠a->s.heap.get? b=ba o->h'.get? b=ba o)->h'.get? a=ba (seqObj "list" (dS lt KU vs).toArray c)->P (.done (.ret .none)) { s with heap:=h' }) :
  wpAny (model prog w) A (M0.«list.sort» ⟨[.ref a],[]⟩) P E s:=by
 have ha:a < s.heap.objs.size:=Kf ho;obtain⟨e1,ho1⟩ : ∃e1,(s.heap.update a (Lw λ_=>(#[]:Ku JP))).get? a=ba (seqObj "list" #[] e1):=⟨_,Pj ho λ_=>#[]⟩
 have keep:∀b o,b≠a->s.heap.get? b=ba o->(((s.heap.update a (Lw λ_=>(#[]:Ku JP))).push (seqObj "tuple" vs.toArray 0)).push (seqObj "list" #[] 0)).get? b=ba o:=λb o hb e=>
  JQ _ (JQ _ ((Nk _ _ _ _ hb).trans e))
 have ho3:(((s.heap.update a (Lw λ_=>(#[]:Ku JP))).push (seqObj "tuple" vs.toArray 0)).push (seqObj "list" #[] 0)).get? a=ba (seqObj "list" #[] e1):=JQ _ (JQ _ ho1)
 have fin:∀(out:JM JP),out.length=vs.length->out=dS lt KU vs->P (.done (.ret .none)) { s with heap:=(((s.heap.update a (Lw λ_=>(#[]:Ku JP))).push (seqObj "tuple" vs.toArray 0)).push (seqObj "list" #[] 0)).update a (Lw λ_=>out.toArray) }:=λout hl e=>by
  obtain⟨c2,hc2⟩ : ∃c2,((((s.heap.update a (Lw λ_=>(#[]:Ku JP))).push (seqObj "tuple" vs.toArray 0)).push (seqObj "list" #[] 0)).update a (Lw λ_=>out.toArray)).get? a=ba (seqObj "list" out.toArray c2):=⟨_,Pj ho3 λ_=>out.toArray⟩
  exact h _ c2 (λb o hb q=>(Nk _ _ _ _ hb).trans (keep b o hb q)) (e ▸ hc2)
 rw[list_sort_plain];refine JN (QD ho rfl ?_);refine JN (OS ho rfl ?_ (by rw[J7,KZ]; omega) (LB _))
 refine JN (Rb ho1 rfl ?_);refine JN (PB ?_ (by show vs.length<=_; rw[KZ]; omega))
 refine JN (OT ?_ (LB _));refine K8 ?_;show wpAny (model prog w) A _ P E { s with heap:=((s.heap.update a (Lw λ_=>(#[]:Ku JP))).push (seqObj "tuple" vs.toArray 0)).push (seqObj "list" #[] 0) }
 dsimp only
 by_cases h2:vs.length < 2
 ·rw[Ko (by rw[J7]; exact h2),Ko (by rw[J7]; exact h2)]
  refine JN (JT (JN ?_));rw[StateT.run_pure];refine JT ?_;dsimp only;refine JN (Rb ho3 rfl ?_);have hs:((arrOf (SortSt.mk' general' (vs.toArray.zip vs.toArray) #[] 7 gV)).map (·.2))=vs.toArray:=by
   show(vs.toArray.zip vs.toArray).map (·.2)=vs.toArray
   apply Array.toList_inj.mp;rw[OZ,Array.toList_zip];exact List.map_snd_zip (JZ _)
  rw[hs];refine JN (OS ho3 rfl ?_ (LB _) (by rw[J7,KZ]; omega))
  simp only[QE,Ks,Li];exact JT (fin vs rfl (by unfold dS; rw[Ko h2]))
 ·have hn2:¬ vs.toArray.size < 2:=by rw[J7]; exact h2
  have h2':2<=vs.length:=by omega
  rw[Kw hn2,Kw hn2];refine JN (LO (hkind h2' _ keep (λ(k:OY) (s':JS)=>k=κ/\s'={ s with heap:=((s.heap.update a (Lw λ_=>(#[]:Ku JP))).push (seqObj "tuple" vs.toArray 0)).push (seqObj "list" #[] 0) }) ⟨rfl,rfl⟩) ?_ λ_ _ x=>x.elim)
  rintro _ _ ⟨rfl,rfl⟩;refine JN (LO (PySem.W.kat_run (Q:=λst' s'=>∃p:Ku JW,p.size=vs.length/\arrOf st'=p.map (kas_item (vs.toArray.zip vs.toArray))/\failedOf st'=gV/\p=cu lt (kas_sort vs.length)/\s'={ s with heap:=((s.heap.update a (Lw λ_=>(#[]:Ku JP))).push (seqObj "tuple" vs.toArray 0)).push (seqObj "list" #[] 0) })
   (G:=λp s'=>p=cu lt (kas_sort vs.length)/\s'={ s with heap:=((s.heap.update a (Lw λ_=>(#[]:Ku JP))).push (seqObj "tuple" vs.toArray 0)).push (seqObj "list" #[] 0) }) rfl h2' h64 (λp' st' s' a1 a2 a3 a4=>⟨p',a1,a2,a3,a4⟩)
   (og (lt:=lt) (λi j hi hj C hC=>hlt h2' _ keep i j hi hj C hC) (lh (n:=vs.length) (by omega)) ⟨rfl,rfl⟩)) ?_ λ_ _ e=>e)
  rintro⟨⟨⟩,st'⟩ s' ⟨p,hp,har,hf,ep,rfl⟩;dsimp only;have hout:=PySem.W.kat_snds rfl har;have hsz:(p.toList.map λi=>vs.getD i KU).length=vs.length:=by rw[JO,Kb,hp]
  rw[hout];refine JN (Rb ho3 rfl ?_);refine JN (OS ho3 rfl ?_ (LB _) (by rw[J7,hsz,KZ]; omega))
  rw[hf];simp only[QE,Ks,Li];exact JT (fin _ hsz (by unfold dS; rw[Kw h2,ep]))
theorem wl {x:JP}{lt:JW->JW->Kt}{κ:OY}{Q:JP->JS->Prop}(h64:vs.length < 64)
  (hcol:∀Q':JM JP->JS->Prop,(∀h' tk,(∀b o,s.heap.get? b=ba o->h'.get? b=ba o)->s.heap.objs.size<=h'.objs.size->Q' vs { s with heap:=h',toks:=tk })->wpAny (model prog w) A.in1 (collect x) Q' E s)
  (hkind:2<=vs.length->∀h' tk,(∀b o,s.heap.get? b=ba o->h'.get? b=ba o)->∀Q:OY->JS->Prop,Q κ { s with heap:=h',toks:=tk }->wpAny (model prog w) A.in1.in1 (keyKind' vs.toArray) Q (λ_ _=>Lq) { s with heap:=h',toks:=tk })
  (hlt:2<=vs.length->∀h' tk,(∀b o,s.heap.get? b=ba o->h'.get? b=ba o)->∀i j,i < vs.length->j < vs.length->∀Q:Kt->JS->Prop,Q (lt i j) { s with heap:=h',toks:=tk }->
   wpAny (model prog w) A.in1.in1 (keyLt' κ (vs.getD i KU) (vs.getD j KU)) Q (λ_ _=>Lq) { s with heap:=h',toks:=tk })
  (h:∀D h' tk c,(∀b o,s.heap.get? b=ba o->h'.get? b=ba o)->s.heap.objs.size<=D->h'.get? D=ba (seqObj "list" (dS lt KU vs).toArray c)->Q (.ref D) { s with heap:=h',toks:=tk }) :
  wpAny (model prog w) A (call (.builtin "sorted") [x]) Q E s:=by
 refine Nh Sz Se Sg (Sh _) ?_;unfold M0.«sorted»;refine JN (m:=checkCount "sorted" 1 1 _) (JT ?_);refine JN (hcol _ λh1 tk1 hk1 hle=>?_)
 refine JN (OT ?_ (by rw[KZ]; omega))
 have hoL:(h1.push (seqObj "list" vs.toArray 0)).get? h1.objs.size=ba (seqObj "list" vs.toArray 0):=J9 _ rfl;have kp:∀b o,s.heap.get? b=ba o->(h1.push (seqObj "list" vs.toArray 0)).get? b=ba o:=λb o e=>JQ _ (hk1 b o e)
 have hne:∀b o,s.heap.get? b=ba o->b≠h1.objs.size:=λb o e=>Kk (Kq (Kf e) hle)
 show wpAny _ _ _ _ _ { s with heap:=h1.push (seqObj "list" vs.toArray 0),toks:=tk1 }
 refine JN (K8 (Lb RE ⟨_,hoL,rfl⟩ Ri ?_ (RF _)));refine oh (s:={ s with heap:=h1.push (seqObj "list" vs.toArray 0),toks:=tk1 }) (lt:=lt) (κ:=κ) hoL h64 (λh2 h' hk Q hq=>hkind h2 h' tk1 (λb o e=>hk b o (hne b o e) (kp b o e)) Q hq)
  (λh2 h' hk i j hi hj Q hq=>hlt h2 h' tk1 (λb o e=>hk b o (hne b o e) (kp b o e)) i j hi hj Q hq) λh' c hk hD=>?_
 exact⟨_,rfl,JT ⟨_,rfl,h _ h' tk1 c (λb o e=>hk b o (hne b o e) (kp b o e)) hle hD⟩⟩
end
end Mi
namespace Mi
open PySem PySem.Spec PyProof.Rows L2
noncomputable def gj:T->Lv
 | .int _=>"int"|.str _=>"str"|.tup _=>"tuple"
noncomputable def bU:T->JU T
 | .tup (x::_)=>ba x
 | _=>gV
noncomputable def tu (ks:JM T):JU JW:=
 if ks.all (λk=>gj k == "int")then ba 0
 else if ks.all (λk=>gj k == "str")then ba 1
 else if ks.all (λk=>(bU k).any λf=>gj f == "int")then ba 2
 else if ks.all (λk=>(bU k).any λf=>gj f == "str")then ba 3
 else if ks.all (λk=>(bU k).any λf=>gj f == "tuple")then ba 4
 else gV
noncomputable def uM:JW->OY
 | 0=>oneType'|1=>oneType'|2=>tuples' true|3=>tuples' true|_=>tuples' false
noncomputable def ij (ks:JM T):Kt:=ks.all λx=>ks.all λy=>(mW x y).isSome
noncomputable def qX (ks:JM T)(i j:JW):Kt:=(mW (ks.getD i (.int 0)) (ks.getD j (.int 0))).getD false
theorem eN {ks:JM T}(h:ij ks=true){i j:JW}(hi:i < ks.length)(hj:j < ks.length):mW (ks[i]) (ks[j])=ba (qX ks i j):=by
 unfold ij at h;rw[Kj]at h;have h1:=h ks[i] (K7 hi);rw[Kj]at h1;have h2:=h1 ks[j] (K7 hj);unfold qX;rw[show ks.getD i (.int 0)=ks[i] by simp[hi],show ks.getD j (.int 0)=ks[j] by simp[hj]]
 obtain⟨b,hb⟩:=K1.mp h2;rw[hb]; rfl
noncomputable def Js (c:JW)(x y:T):Prop:=match c with|0=>gj x = "int"/\gj y = "int"|1=>gj x = "str"/\gj y = "str"|2=>∃f g,bU x=ba f/\bU y=ba g/\gj f = "int"/\gj g = "int"|3=>∃f g,bU x=ba f/\bU y=ba g/\gj f = "str"/\gj g = "str"|_=>∃f g,bU x=ba f/\bU y=ba g
section
variable{prog:Kx}{w:KO}{A:KH}{E:JP->JS->Prop}{s:JS}
theorem uN {h:KW}{k:T}{v:JP}(x:IsT h k v):R0 (model prog w) h (typeOf v) (.type (gj k)):=by
 cases x with
 | int=>exact .now
 | str=>exact .now
 | tup a c d t=>exact c ▸ ((Tc a).andThen .now:R0 (model prog w) h (typeOf (.ref _)) _)
theorem IsTs.mem {h:KW}:∀ {ks:JM T} {vs:JM JP},IsTs h ks vs->∀v∈vs,∃k∈ks,IsT h k v
 | _,_,.cons a b,v,hv=>by
  rcases Kv.mp hv with rfl|hv
  ·exact⟨_,.head _,a⟩
  ·obtain⟨k,hk,q⟩:=IsTs.mem b v hv;exact⟨k,.tail _ hk,q⟩
theorem ol {h:KW}{p:T->Kt}:∀ {ks:JM T} {vs:JM JP},IsTs h ks vs->ks.all (λk=>(bU k).any p)=true->∃fs,PySem.W.KatTups h vs fs/\fs.length=vs.length/\∀v∈fs,∃k,p k=true/\IsT h k v
 | _,_,.nil,_=>⟨[],.nil,rfl,λv hv=>nomatch hv⟩
 | k::ks,_,.cons a b,hp=>by
  rw[K9,JV]at hp;obtain⟨fs,h1,h2,h3⟩:=ol b hp.2;cases a with
  | int=>simp[bU]at hp
  | str=>simp[bU]at hp
  | @tup kk ad o items n a1 c1 d1 t1=>
   cases kk with
   | nil=>simp[bU]at hp
   | cons x xs=>
    have hx:p x=true:=by simpa [bU]using hp.1
    generalize hit:items.toList=its at t1;cases t1 with
    | @cons _ u _ us q1 q2=>
     refine⟨u::fs,.cons a1 c1 d1 (by rw[<- Lj,hit]; rfl) h1,by simp[h2],λv hv=>?_⟩
     rcases Kv.mp hv with rfl|hv
     ·exact⟨x,hx,q1⟩
     ·exact h3 v hv
theorem yG {ks:JM T}{vs:JM JP}{c:JW}{Q:OY->JS->Prop}(h:IsTs s.heap ks vs)(h2:2<=vs.length)(hc:tu ks=ba c)(hq:Q (uM c) s):wpAny (model prog w) A (keyKind' vs.toArray) Q E s:=by
 have one:∀ty:Lv,(LG ty != LG "tuple")=true->ks.all (λk=>gj k==ty)=true->Q oneType' s->wpAny (model prog w) A (keyKind' vs.toArray) Q E s:=λty hty hall hq=>
  PySem.W.kas_kind (T:=.type ty) h2 (λv hv=>by
   obtain⟨k,hk,x⟩:=h.mem v hv;have:=eq_of_beq (Kj.mp hall k hk);exact this ▸ uN x) hty (by simp) hq
 have tup:∀ty:Lv,ks.all (λk=>(bU k).any λf=>gj f==ty)=true->Q (tuples' (LG ty != LG "tuple")) s->wpAny (model prog w) A (keyKind' vs.toArray) Q E s:=λty hall hq=>by
  obtain⟨fs,h1,h3,h4⟩:=ol h hall;exact PySem.W.kat_kind (T:=.type ty) h1 (by omega) (λv hv=>by
   obtain⟨k,hk,x⟩:=h4 v hv;have:=eq_of_beq hk;exact this ▸ uN x) (by simp) hq
 unfold tu at hc;split at hc
 ·cases hc; exact one "int" (by decide) ‹_› hq
 ·split at hc
  ·cases hc; exact one "str" (by decide) ‹_› hq
  ·split at hc
   ·cases hc; exact tup "int" ‹_› hq
   ·split at hc
    ·cases hc; exact tup "str" ‹_› hq
    ·split at hc
     ·cases hc; exact tup "tuple" ‹_› hq
     ·cases hc
theorem qY {b:Kt}{Q:Kt->JS->Prop}{d:JW}(hu:A.units+d < cLine):∀(xs ys:JM T) (us vs:JM JP) (i:JW) (k:Kt),T.depths xs<=d->T.depths ys<=d->IsTs s.heap xs us->IsTs s.heap ys vs->gk xs ys=ba k->
  (b=true->i=0->∀x y,xs.head?=ba x->ys.head?=ba y->(gj x = "int"/\gj y = "int")\/(gj x = "str"/\gj y = "str"))->Q k s->PySem.W.KatLex prog w A b (decide (us.length < vs.length)) Q (us.zip vs) i s
 | [],[],_,_,i,k,_,_,h1,h2,e,hb,hq=>by cases h1; cases h2; cases e; exact Pk (by simpa using hq)
 | [],y::ys,_,_,i,k,_,_,h1,h2,e,hb,hq=>by cases h1; cases h2; cases e; exact Pk (by simpa using hq)
 | x::xs,[],_,_,i,k,_,_,h1,h2,e,hb,hq=>by cases h1; cases h2; cases e; exact Pk (by simpa using hq)
 | x::xs,y::ys,_,_,i,k,d1,d2,h1,h2,e,hb,hq=>by
  simp only[T.depths]at d1 d2;cases h1 with
  | @cons _ u _ us p1 q1=>
   cases h2 with
   | @cons _ v _ vs p2 q2=>
    have he:=yt d x y _ _ A s (by omega) p1 p2 hu (by omega)
    rw[MT];refine PySem.W.kat_cons (he prog w _ _ ?_);simp only[gk]at e;have hlen:decide ((u::us).length < (v::vs).length)=decide (us.length < vs.length):=by simp
    rw[hlen]
    by_cases hxy:x=y
    ·rw[Ko hxy]at e;rw[LX hxy];exact PySem.W.kat_yes (qY hu xs ys us vs (i+1) k (by omega) (by omega) q1 q2 e (λ_ z=>absurd z (QU _)) hq)
    ·rw[Kw hxy]at e;rw[Kz hxy];refine PySem.W.kat_no ?_
     by_cases hb0:b=true/\i=0
     ·obtain⟨rfl,rfl⟩:=hb0;rcases hb rfl rfl x y rfl rfl with⟨hx,hy⟩|⟨hx,hy⟩
      ·cases p1 with
       | int=>cases p2 with
        | int=>cases e; exact oneLt_int hq
        | _=>exact absurd hy (by simp[gj])
       | _=>exact absurd hx (by simp[gj])
      ·cases p1 with
       | str=>cases p2 with
        | str=>cases e; exact oneLt_str hq
        | _=>exact absurd hy (by simp[gj])
       | _=>exact absurd hx (by simp[gj])
     ·have hf:(b&&i==0)=false:=by
       cases b with
       | false=>rfl
       | true=>
        have:i≠0:=λz=>hb0 ⟨rfl,z⟩
        simpa using this
      rw[hf];exact PySem.W.kat_one _ _ ((Gv d x y _ _ A s k (by omega) (by omega) p1 p2 hu e) prog w _ _ hq)
theorem uO {c d:JW}{x y:T}{u v:JP}{k:Kt}{Q:Kt->JS->Prop}(hu:A.units+d < cLine)(d1:x.depth<=d)(d2:y.depth<=d)(h1:IsT s.heap x u)(h2:IsT s.heap y v)(e:mW x y=ba k)
  (hc:Js c x y)
  (hq:Q k s):wpAny (model prog w) A (keyLt' (uM c) u v) Q E s:=by
 have tup:∀b:Kt,(∃f g,bU x=ba f/\bU y=ba g/\(b=true->(gj f = "int"/\gj g = "int")\/(gj f = "str"/\gj g = "str")))->wpAny (model prog w) A (keyLt' (tuples' b) u v) Q E s:=by
  rintro b ⟨f,g,hf,hg,hb⟩;cases h1 with
  | int=>cases hf
  | str=>cases hf
  | @tup xs a o items n a1 c1 e1 t1=>
   cases h2 with
   | int=>cases hg
   | str=>cases hg
   | @tup ys a' o' items' n' a2 c2 e2 t2=>
    simp only[T.depth]at d1 d2;refine PySem.W.kat_lt a1 e1 a2 e2 ?_;have:=qY (prog:=prog) (w:=w) (b:=b) (Q:=Q) hu xs ys items.toList items'.toList 0 k (by omega) (by omega) t1 t2 e (λhb' _ p q hp hq'=>by
     cases xs with
     | nil=>cases hp
     | cons x0 xs=>cases ys with
      | nil=>cases hq'
      | cons y0 ys=>cases hp; cases hq'; cases hf; cases hg; exact hb hb') hq
    simpa using this
 match c,hc with
 | 0,⟨hx,hy⟩=>
  cases h1 with
  | int=>cases h2 with
   | int=>cases e; exact PySem.W.kat_lt_int hq
   | _=>exact absurd hy (by simp[gj])
  | _=>exact absurd hx (by simp[gj])
 | 1,⟨hx,hy⟩=>
  cases h1 with
  | str=>cases h2 with
   | str=>cases e; exact PySem.W.kas_lt_str hq
   | _=>exact absurd hy (by simp[gj])
  | _=>exact absurd hx (by simp[gj])
 | 2,⟨f,g,h1',h2',h3,h4⟩=>exact tup true ⟨f,g,h1',h2',λ_=>.inl ⟨h3,h4⟩⟩
 | 3,⟨f,g,h1',h2',h3,h4⟩=>exact tup true ⟨f,g,h1',h2',λ_=>.inr ⟨h3,h4⟩⟩
 | n+4,⟨f,g,h1',h2'⟩=>exact tup false ⟨f,g,h1',h2',λz=>nomatch z⟩
end
theorem uP {ks:JM T}{c:JW}(h:tu ks=ba c){x y:T}(hx:x∈ks)(hy:y∈ks) :
  Js c x y:=by
 have one:∀ {ty:Lv},ks.all (λk=>gj k==ty)=true->gj x=ty/\gj y=ty:=λha=>⟨eq_of_beq (Kj.mp ha x hx),eq_of_beq (Kj.mp ha y hy)⟩
 have fst:∀ {ty:Lv},ks.all (λk=>(bU k).any λf=>gj f==ty)=true->∃f g,bU x=ba f/\bU y=ba g/\gj f=ty/\gj g=ty:=λ{ty} ha=>by
  have h1:=Kj.mp ha x hx;have h2:=Kj.mp ha y hy;cases e1:bU x with
  | none=>rw[e1]at h1; cases h1
  | some f=>
   cases e2:bU y with
   | none=>rw[e2]at h2; cases h2
   | some g=>
    rw[e1]at h1; rw[e2]at h2
    exact⟨f,g,rfl,rfl,eq_of_beq (by simpa using h1),eq_of_beq (by simpa using h2)⟩
 unfold tu at h;split at h
 ·cases h; exact one ‹_›
 ·split at h
  ·cases h; exact one ‹_›
  ·split at h
   ·cases h; exact fst ‹_›
   ·split at h
    ·cases h; exact fst ‹_›
    ·split at h
     ·cases h;obtain⟨f,g,h1,h2,_⟩:=fst ‹_›;exact⟨f,g,h1,h2⟩
     ·cases h
noncomputable def eO (S:aa):W->JU (JM W)
 | .tup xs=>ba xs
 | .ref i=>match iO S i with
  | some xs=>ba xs
  | none=>(kn S i).map λkvs=>kvs.map λp=>p.1.w
 | _=>gV
noncomputable def db:JW:=8
noncomputable def iA (ks:JM T):Kt:=decide (ks.length < 64)&&decide (T.depths ks<=db)&&(decide (ks.length < 2)||((tu ks).isSome&&ij ks))
noncomputable def fW (xs:JM W)(S:aa):JU (W×aa):=match xs with
 | [x]=>match eO S x with
  | some ws=>match W.ts ws with
   | some ks=>if iA ks then ba (.ref S.length,S++[.lst (dS (qX ks) .non ws)])else gV
   | none=>gV
  | none=>gV
 | _=>gV
noncomputable def om (xs:JM W)(S:aa):JU (W×aa):=match xs with
 | [.ref i]=>match kn S i with
  | some kvs=>ba (.ref S.length,S++[.lst (kvs.map λp=>p.1.w)])
  | none=>iQ [.ref i] S
 | xs=>iQ xs S
noncomputable def tw (xs:JM W)(S:aa):JU (W×aa):=match xs with
 | [.ref i]=>match kn S i with
  | some kvs=>ba (.int kvs.length,S)
  | none=>sV [.ref i] S
 | xs=>sV xs S
noncomputable def pi (ks:JM T):JW:=argBest (qX ks) (ks.length - 1)
noncomputable def BL (xs:JM W)(S:aa):JU (W×aa):=match xs with
 | [.ref i]=>match iO S i with
  | some ws=>match W.ts ws with
   | some ks=>if T.depths ks<=db/\ij ks=true then(ws[pi ks]?).map λw=>(w,S)else gV
   | none=>gV
  | none=>gV
 | _=>gV
noncomputable def lL:JM W->JU (JM Kt)
 | []=>ba []
 | .bl b::ws=>(lL ws).map (b :: ·)
 | _::_=>gV
noncomputable def Gw (xs:JM W)(S:aa):JU (W×aa):=match xs with
 | [.ref i]=>match iO S i with
  | some ws=>(lL ws).map λbs=>(.bl (bs.all id),S)
  | none=>gV
 | _=>gV
section
variable{X:Cx}{pins:JM (JX×LF)}{σ:L2.St}{H:Hp}{s:JS}{A:JM JX}{S:aa}
theorem RelL.pick {K:J2}{ws:JM W}{vs:JM V}(r:RelL K A H ws vs)(d:W)(d':V):∀(is:JM JW),(∀i∈is,i < ws.length)->RelL K A H (is.map λi=>ws.getD i d) (is.map λi=>vs.getD i d')
 | [],_=>.nil
 | i::is,h=>by
  have hi:=h i (.head _);obtain⟨v,h1,h2⟩:=r.get (J6 hi);refine .cons ?_ (RelL.pick r d d' is λj hj=>h j (.tail _ hj))
  have e1:ws.getD i d=ws[i]:=by simp[hi]
  have e2:vs.getD i d'=v:=by simp[h1]
  show Rel K A H (ws.getD i d) (vs.getD i d');rw[e1,e2]; exact h2
theorem Vals.pick {vs:JM V}{us:JM JP}(r:Vals vs us)(d:V)(d':JP):∀(is:JM JW),(∀i∈is,i < vs.length)->Vals (is.map λi=>vs.getD i d) (is.map λi=>us.getD i d')
 | [],_=>.nil
 | i::is,h=>by
  have hi:=h i (.head _);obtain⟨v,h1,h2⟩:=L2.Vals.get r (J6 hi);refine .cons ?_ (Vals.pick r d d' is λj hj=>h j (.tail _ hj))
  have e1:vs.getD i d=vs[i]:=by simp[hi]
  have e2:us.getD i d'=v:=by simp[h1]
  show L2.RelV (vs.getD i d) (us.getD i d');rw[e1,e2]; exact h2
theorem li {n:JW}{lt:JW->JW->Kt}(hn:0 < n):∀i∈(cu lt (MQ n)).toList,i < n:=λi hi=>KP.mp ((ph (lt:=lt) (lh hn)).mem_iff.mp hi)
theorem yH {K:J2}{lt:JW->JW->Kt}{ws:JM W}{vs:JM V}(r:RelL K A H ws vs):RelL K A H (dS lt .non ws) (dS lt .non vs):=by
 unfold dS;rw[r.length];split
 ·exact r
 ·exact r.pick _ _ _ λi hi=>by rw[r.length]; exact li (by omega) i hi
theorem wn {lt:JW->JW->Kt}{vs:JM V}{us:JM JP}(r:Vals vs us):Vals (dS lt .non vs) (dS lt .none us):=by
 unfold dS;rw[L2.Vals.length r];split
 ·exact r
 ·exact Vals.pick r _ _ _ λi hi=>by rw[L2.Vals.length r]; exact li (by omega) i hi
theorem qZ {prog:Kx}{w:KO}{B:KH}{E:JP->JS->Prop}{l:JX}{vs:JM JP}{Q:JM JP->JS->Prop}(hl:Qk s.heap l vs.toArray)(hsz:vs.length<=sizeLine)
  (h:∀h' tk,(∀b o,s.heap.get? b=ba o->h'.get? b=ba o)->s.heap.objs.size<=h'.objs.size->Q vs { s with heap:=h',toks:=tk }):wpAny (model prog w) B (collect (.ref l)) Q E s:=by
 obtain⟨o,ho,hc,n,hd⟩:=id hl;unfold collect;refine JN (NG (Le entry_proto_collect' ?_));show wpAny _ _ (do again (.builtin "list.__iadd__" ⟨[<- newList [],.ref l],[]⟩)) _ _ s
 refine JN (OT (JT ⟨Qe _ (by decide +kernel),Le entry_list_iadd' ?_⟩))
 show wpAny _ _ (LA (.ref s.heap.objs.size) (.ref l) (.ref s.heap.objs.size)) _ _ { s with heap:=s.heap.push (seqObj "list" #[] 0) }
 unfold LA;have ho':(s.heap.push (seqObj "list" #[] 0)).get? l=ba o:=JQ _ ho;refine JN (MS (T:="tuple") ⟨o,ho',hc⟩ ?_);have ht:(LG "tuple" == LG "tuple")=true:=by rfl
 rw[Ko (by rw[ht]; simp)]
 refine JN (QD ho' hd ?_);refine JN (QD (xs:=#[]) (n:=0) (J9 _ rfl) rfl ?_);rw[Kw (by simp)]
 refine JN (OS (xs:=#[]) (n:=0) (J9 _ rfl) rfl ?_ (LB _) (by show(#[]++vs.toArray).size<=sizeLine+1; simp only[Array.size_append,J7,L0]; omega))
 refine JT ?_;show wpAny (model prog w) B (do
   let o <- load s.heap.objs.size
   match o.data with
   | .seq xs _=>pure xs.toList
   | _=>unsupported "internal:collect") Q E { s with heap:=(s.heap.push (seqObj "list" #[] 0)).update s.heap.objs.size (Lw (· ++ vs.toArray)) }
 refine JN (O4 (Pj (J9 _ rfl) _) ?_);show wpAny _ _ (pure ((#[]:Ku JP)++vs.toArray).toList) Q E _;rw[show((#[]:Ku JP)++vs.toArray).toList=vs by simp]
 refine JT (h _ s.toks (λb o' e=>(Nk _ _ _ _ (Kk (Kf e))).trans (JQ _ e)) ?_)
 rw[QV,size_push'];exact My _
theorem DicAt.raw {wd:KO}{a:JX}{xs:JM (T×JX×JP)}{h:KW}(d:DicAt wd a xs h):∃es ep,RawD a es ep h/\es.toList=xs.map (yb wd):=
 let ⟨_,_,_,o,es,ep,h1,h2,h3,h4⟩:=d; ⟨es,ep,⟨o,h1,h2,h3⟩,h4⟩
theorem KRel.keysL {kvs:JM (T×W)}{xs:JM (T×JX×JP)}(r:KRel X.K A H kvs xs):RelL X.K A H (kvs.map λp=>p.1.w) (xs.map λq=>V.ref q.2.1):=by
 unfold KRel at r
 induction r with
 | nil=>exact .nil
 | cons h t ih=>exact .cons h.2.2.2.1 ih
theorem on (xs:JM (T×JX×JP)):Vals (xs.map λq=>V.ref q.2.1) (xs.map λq=>KI q.2.1):=by
 induction xs with
 | nil=>exact .nil
 | cons x xs ih=>exact .cons rfl ih
theorem lM {wd:KO}{es:Ku Mg}{xs:JM (T×JX×JP)}(he:es.toList=xs.map (yb wd)){acc:Ku JP}(ha:O8 (λi v=>∃e,es[i]?=ba e/\e.key=v) acc es.size):acc.toList=xs.map λq=>KI q.2.1:=by
 have hl:es.size=xs.length:=by rw[<- Kb,he,JO]
 apply NR
 ·rw[Kb,ha.1,JO,hl]
 ·intro i h1 h2;rw[Kb]at h1;obtain⟨e,q1,q2⟩:=ha.2 i acc[i] (by simp[h1])
  rw[<- Lj,he,JY]at q1;rw[JO]at h2;rw[J6 h2]at q1;simp only[KR,KM]at q1;subst q1;rw[QX,NW];exact q2.symm
theorem wo {x:W}{a:V}{u:JP}{ws:JM W}(hh:X.A.handled=gV)(I:Inv X pins σ H s)(so:StoreOk X.w X.K A H S)(rx:Rel X.K A H x a)(ru:RelV a u)(e:eO S x=ba ws):∃vs us,RelL X.K A H ws vs/\Vals vs us/\us.length<=sizeLine/\
  ∀(B:KH) (hB:B.handled=gV) (E:JP->JS->Prop) (Q':JM JP->JS->Prop),(∀h' tk,(∀b o,s.heap.get? b=ba o->h'.get? b=ba o)->s.heap.objs.size<=h'.objs.size->Q' us { s with heap:=h',toks:=tk })->wpAny (model X.prog X.w) B (collect u) Q' E s:=by
 cases rx with
 | tup h1 r1=>
  cases e;obtain⟨its,rv,ht,hz⟩:=I.tuple h1;obtain rfl:u=KI _:=ru;exact⟨_,its,r1,rv,by rw[<- L2.Vals.length rv]; exact hz,λB hB E Q' h=>qZ ht (by rw[<- L2.Vals.length rv]; exact hz) h⟩
 | ref ea=>
  simp only[eO]at e;split at e
  ·rename_i xs hx;cases e;obtain⟨vs,h1,r1⟩:=cX so hx ea;obtain⟨its,rv,p,hz⟩:=I.list h1;obtain rfl:u=KI _:=ru;refine⟨_,its,r1,rv,by rw[<- L2.Vals.length rv]; exact hz,λB hB E Q' h=>collect_list p.isList (h _ s.toks (λb o' e=>(Nk _ _ _ _ (Kk (Kf e))).trans (JQ _ e)) ?_) (by rw[<- L2.Vals.length rv]; exact hz)⟩
   rw[QV,size_push'];exact My _
  ·rw[JR]at e;obtain⟨kvs,hk,rfl⟩:=e;obtain⟨xs,rd,kr⟩:=gv so hk ea;have d:=da I rd;obtain⟨es,ep,raw,he⟩:=d.raw;obtain rfl:u=KI _:=ru;have hl:es.size=xs.length:=by rw[<- Kb,he,JO]
   refine⟨_,_,kr.keysL,on xs,by rw[JO]; exact d.1,λB hB E Q' h=>qU (uK d.2.1) hB raw (by rw[hl]; exact d.1) λh' tk acc hk' hle ha=>?_⟩
   rw[lM he ha];exact h h' tk hk' hle
 | _=>cases e
theorem oo {h':KW}{tk c:JW}{D:JX}{ws:JM W}{vs:JM V}{us:JM JP}(I:Inv X pins σ H s)(so:StoreOk X.w X.K A H S)(r:RelL X.K A H ws vs)(rv:Vals vs us)(hz:us.length<=sizeLine)(hk:∀b o,s.heap.get? b=ba o->h'.get? b=ba o)(hD:s.heap.objs.size<=D)
  (ho:h'.get? D=ba { cls:=.type "list",data:=.seq us.toArray c }):d7 X pins σ A H (S++[.lst ws]) (.ref S.length) (.ref D) { s with heap:=h',toks:=tk }:=by
 have hn:H D=gV:=I.hok.fresh hD;refine⟨.ref D,_,A++[D],I.laid (a:=D) (o:=.lst vs) (t':=tk) hk hD ⟨by rw[L2.Vals.length rv]; exact hz,us,c,rv,ho⟩,rfl,dw hn,so.push hn r,.ref ?_⟩
 rw[<- so.len]; simp
theorem po (hh:X.A.handled=gV)(hu:X.A.units+12 < cLine):LCall X (.builtin "sorted") fW:=by
 intro pins s σ H A S xs vs us w S' I so rl rv e;cases rl with
 | nil=>cases e
 | cons r t=>
  cases t with
  | cons _ _=>cases e
  | nil=>
   cases rv with
   | cons ru rv2=>
    cases rv2;simp only[fW]at e;split at e
    ·rename_i ws hw;split at e
     ·rename_i ks hk;split at e
      ·rename_i hok;cases e;obtain⟨vs',us',r1,rv1,hz,hcol⟩:=wo hh I so r ru hw;simp only[iA,JV,Ki]at hok;obtain⟨⟨h64,hd⟩,hok⟩:=hok;have hws:T.ws ks=ws:=W.ts_w hk;have hT:IsTs s.heap ks us':=fU I ks (hws ▸ r1) rv1;have hl:us'.length=ks.length:=hT.length.symm;have sk:2<=us'.length->(tu ks).isSome=true/\ij ks=true:=λh2=>by
        rcases LM _ _ ▸ hok with h|h
        ·simp only[Ki]at h; omega
        ·simpa using h
       refine wl (vs:=us') (lt:=qX ks) (κ:=uM ((tu ks).getD 0)) (by omega) (λQ' hQ'=>hcol X.A.in1 hh _ Q' hQ') (λh2 h' tk hk' Q hq=>?_) (λh2 h' tk hk' i j hi hj Q hq=>?_) λD h' tk c hk' hD ho=>?_
       ·obtain⟨q1,q2⟩:=sk h2;obtain⟨c,hc⟩:=K1.mp q1;rw[hc]at hq;exact yG (s:={ s with heap:=h',toks:=tk }) (hT.kept λb o _ e=>hk' b o e) h2 hc hq
       ·obtain⟨q1,q2⟩:=sk h2;obtain⟨c,hc⟩:=K1.mp q1;rw[hc];have hi':i < ks.length:=by omega
        have hj':j < ks.length:=by omega
        have g:=(hT.kept (h':=h') λb o _ e=>hk' b o e)
        have e1:us'.getD i KU=us'[i]:=by simp[hi]
        have e2:us'.getD j KU=us'[j]:=by simp[hj]
        rw[e1,e2];have b1:=cZ (ks:=ks) i hi';have b2:=cZ (ks:=ks) j hj';exact uO (s:={ s with heap:=h',toks:=tk }) (d:=db) (c:=c) (by rw[bo,bo]; unfold db; omega) (J3 ‹_› ‹_›) (J3 ‹_› ‹_›) (g.get i hi' hi) (g.get j hj' hj) (eN q2 hi' hj') (uP hc (K7 hi') (K7 hj')) hq
       ·exact oo I so (yH r1) (wn rv1) (by rw[qW]; exact hz) hk' hD ho
      ·cases e
     ·cases e
    ·cases e
theorem q8 (hh:X.A.handled=gV):LCall X (.type "list") om:=by
 intro pins s σ H A S xs vs us w S' I so rl rv e
 by_cases hd:∃i kvs,xs=[.ref i]/\kn S i=ba kvs
 ·obtain⟨i,kvs,rfl,hk⟩:=hd;simp only[om,hk]at e;cases e;cases rl with
  | cons r t=>
   cases t;cases rv with
   | cons ru rv2=>
    cases rv2;cases r with
    | ref ea=>
     obtain⟨xs,rd,kr⟩:=gv so hk ea;have d:=da I rd;obtain⟨es,ep,raw,he⟩:=d.raw;obtain rfl:_=KI _:=ru;have hl:es.size=xs.length:=by rw[<- Kb,he,JO]
     refine PySem.W.kdl_call (uK d.2.1) hh raw (by rw[hl]; exact d.1) λh' tk acc' c' hk' hD ha=>?_
     have ea':=lM he ha;refine oo (us:=acc'.toList) I so kr.keysL (ea' ▸ on xs) (by rw[ea',JO]; exact d.1) hk' (JZ _) (c:=c') ?_
     simpa using hD
 ·have:om xs S=iQ xs S:=by
   unfold om;split
   ·rename_i i;split
    ·rename_i kvs hk;exact absurd ⟨i,kvs,rfl,hk⟩ hd
    ·rfl
   ·rfl
  rw[this]at e;exact iz pins s σ H A S xs vs us w S' I so rl rv e
end
open PySem.W (KasT kas_sort kas_asc kas_desc kas_tail3 kas_descPart kas_count kas_place kas_bin kas_rev)
theorem eE {α β:Type}{lt:JW->JW->Kt}{f:α->KasT β}:∀t:KasT α,cu lt (t.bind f)=cu lt (f (cu lt t))
 | .ret _=>rfl
 | .ask i j k=>eE (k (lt i j))
structure Lin (n:JW)(lt:JW->JW->Kt):Prop where
 tr:∀i j k,i < n->j < n->k < n->lt i j=true->lt j k=true->lt i k=true
 as:∀i j,i < n->j < n->lt i j=true->lt j i=false
 to:∀i j,i < n->j < n->i≠j->lt j i=false->lt i j=true
noncomputable def gt (p:Ku JW)(i:JW):JW:=p.getD i 0
theorem jz {p:Ku JW}{i:JW}:gt p i=(p[i]?).getD 0:=by unfold gt; simp[Array.getD_eq_getD_getElem?]
theorem Pm.inj {n:JW}{p:Ku JW}(h:Pm n p){i j:JW}(hi:i < n)(hj:j < n)(hne:i≠j):gt p i≠gt p j:=by
 have nd:p.toList.Nodup:=h.nodup_iff.mpr List.nodup_range;have hi':i < p.toList.length:=by rw[Kb,h.size]; exact hi
 have hj':j < p.toList.length:=by rw[Kb,h.size]; exact hj
 intro e;have e1:gt p i=p.toList[i]:=by unfold gt; simp[Nv,h.size,hi]
 have e2:gt p j=p.toList[j]:=by unfold gt; simp[Nv,h.size,hj]
 rw[e1,e2]at e;have pw:=Ni.mp nd;rcases Qf hne with h|h
 ·exact pw i j hi' hj' h e
 ·exact pw j i hj' hi' h e.symm
noncomputable def Up (lt:JW->JW->Kt)(p:Ku JW)(m:JW):Prop:=∀i j,i < j->j < m->lt (gt p i) (gt p j)=true
section
variable{n:JW}{lt:JW->JW->Kt}(L:Lin n lt)
include L
theorem Up.more {p:Ku JW}{a:JW}(hp:Pm n p)(ha:1<=a)(han:a < n)(h:Up lt p a)(hl:lt (gt p (a - 1)) (gt p a)=true):Up lt p (a+1):=by
 have hn:0 < n:=by omega
 intro i j hij hj
 by_cases e:j=a
 ·subst e
  by_cases e2:i=j - 1
  ·subst e2; exact hl
  ·exact L.tr _ _ _ (hp.lt hn _) (hp.lt hn _) (hp.lt hn _) (h i (j - 1) (by omega) (by omega)) hl
 ·exact h i j hij (by omega)
theorem tz {p:Ku JW}(hp:Pm n p):∀(f a:JW),1<=a->a+f=n->Up lt p a->Up lt p (cu lt (kas_asc p f a))/\a<=cu lt (kas_asc p f a)/\cu lt (kas_asc p f a)<=n/\(cu lt (kas_asc p f a) < n->lt (gt p (cu lt (kas_asc p f a))) (gt p (cu lt (kas_asc p f a) - 1))=true)
 | 0,a,h1,h2,h=>⟨h,JZ _,by show a<=n; omega,λz=>by have:a < n:=z; omega⟩
 | f+1,a,h1,h2,h=>by
  have hn:0 < n:=by omega
  have e:cu lt (kas_asc p (f+1) a)=cu lt (if lt (gt p a) (gt p (a - 1))=true then .ret a else kas_asc p f (a+1)):=rfl
  rw[e];cases c:lt (gt p a) (gt p (a - 1))with
  | true=>exact⟨h,JZ _,by show a<=n; omega,λ_=>c⟩
  | false=>
   have l:lt (gt p (a - 1)) (gt p a)=true:=L.to _ _ (hp.lt hn (a - 1)) (hp.lt hn a) (hp.inj (by omega) (by omega) (by omega)) c
   obtain⟨q1,q2,q3,q4⟩:=tz hp f (a+1) (by omega) (by omega) (Up.more L hp h1 (by omega) h l)
   exact⟨q1,by show a<=cu lt (kas_asc p f (a+1)); omega,q3,q4⟩
noncomputable def Dn (lt:JW->JW->Kt)(p:Ku JW)(m:JW):Prop:=∀i j,i < j->j < m->lt (gt p j) (gt p i)=true
theorem uQ {p:Ku JW}(hp:Pm n p):∀(f a:JW),1<=a->a+f=n->Dn lt p a->∃m,cu lt (kas_desc f p a 0)=(p,m,0)/\a<=m/\m<=n/\Dn lt p m
 | 0,a,h1,h2,h=>⟨a,rfl,JZ _,by omega,h⟩
 | f+1,a,h1,h2,h=>by
  have hn:0 < n:=by omega
  have e:cu lt (kas_desc (f+1) p a 0)=cu lt (if lt (gt p a) (gt p (a - 1))=true then(if 0 > 0 then kas_desc f (kas_rev p (a - (0+1)) a) (a+1) 0 else kas_desc f p (a+1) 0)else .ask (gt p (a - 1)) (gt p a) λd=>if d=true then .ret (p,a,0)else kas_desc f p (a+1) (0+1)):=rfl
  rw[e];cases c:lt (gt p a) (gt p (a - 1))with
  | true=>
   obtain⟨m,q1,q2,q3,q4⟩:=uQ hp f (a+1) (by omega) (by omega) λi j hij hj=>by
    by_cases e:j=a
    ·subst e
     by_cases e2:i=j - 1
     ·subst e2; exact c
     ·exact L.tr _ _ _ (hp.lt hn _) (hp.lt hn _) (hp.lt hn _) c (h i (j - 1) (by omega) (by omega))
    ·exact h i j hij (by omega)
   exact⟨m,q1,by omega,q3,q4⟩
  | false=>
   have l:lt (gt p (a - 1)) (gt p a)=true:=L.to _ _ (hp.lt hn (a - 1)) (hp.lt hn a) (hp.inj (by omega) (by omega) (by omega)) c
   refine⟨a,?_,JZ _,by omega,h⟩
   show cu lt (if lt (gt p (a - 1)) (gt p a)=true then .ret (p,a,0)else kas_desc f p (a+1) (0+1))=_
   rw[l]; rfl
omit L in
theorem Eo {p:Ku JW}{m:JW}(hp:Pm n p)(hm:m<=n)(h:Dn lt p m):Up lt (kas_rev p 0 m) m:=by
 intro i j hij hj;have g:∀k,k < m->gt (kas_rev p 0 m) k=gt p (m - 1 - k):=λk hk=>by
  rw[jz,jz];show((mirror p 0 m ((m - 0) / 2))[k]?).getD 0=_;rw[getElem?_mirror_all (by rw[hp.size]; exact hm),Ko ⟨LB _,hk⟩,Nat.zero_add]
 rw[g i (by omega),g j hj]
 exact h _ _ (by omega) (by omega)
theorem yI {p:Ku JW}(hp:Pm n p)(hn:1<=n):∃m p',cu lt (kas_count n p)=(m,p')/\Pm n p'/\1<=m/\m<=n/\Up lt p' m:=by
 unfold kas_count;rw[eE];obtain⟨q1,q2,q3,q4⟩:=tz L hp (n - 1) 1 (JZ _) (by omega) λi j hij hj=>by omega
 generalize cu lt (kas_asc p (n - 1) 1)=m at q1 q2 q3 q4
 by_cases hm:m=n
 ·subst hm;rw[Ko (Lk _)];exact⟨m,p,rfl,hp,q2,JZ _,q1⟩
 ·rw[Kw (by simp[hm])]
  by_cases h1:m > 1
  ·rw[Ko h1];have l:=q1 0 (m - 1) (by omega) (by omega)
   refine⟨m,p,?_,hp,q2,q3,q1⟩;show cu lt (if lt (gt p 0) (gt p (m - 1))=true then .ret (m,p)else kas_descPart m n (kas_rev p 0 m))=_
   rw[l]; rfl
  ·rw[Kw h1];obtain rfl:m=1:=by omega
   unfold kas_descPart;rw[eE];have l:=q4 (by omega)
   obtain⟨m,e,r1,r2,r3⟩:=uQ L hp (n - (1+1)) (1+1) (by omega) (by omega) λi j hij hj=>by
    obtain rfl:j=1:=by omega
    obtain rfl:i=0:=by omega
    exact l
   rw[e];dsimp only;rw[Kw (by omega)]
   unfold kas_tail3;rw[eE];have hp':Pm n (kas_rev p 0 m):=hp.rev 0 m;obtain⟨z1,z2,z3,z4⟩:=tz L hp' (n - m) m (by omega) (by omega) (Eo hp r2 r3)
   exact⟨_,_,rfl,hp',by omega,z3,z1⟩
theorem lN {p:Ku JW}{k:JW}(hp:Pm n p)(hk:k < n)(hu:Up lt p k):∀(f l r:JW),l<=r->r<=k->r - l<=f->(∀i,i < l->lt (gt p i) (gt p k)=true)->(∀i,r<=i->i < k->lt (gt p k) (gt p i)=true)->
  ∃m,cu lt (kas_place p k f l r)=m/\m<=k/\(∀i,i < m->lt (gt p i) (gt p k)=true)/\(∀i,m<=i->i < k->lt (gt p k) (gt p i)=true)
 | 0,l,r,h1,h2,h3,ha,hb=>⟨l,rfl,by omega,ha,λi hi=>hb i (by omega)⟩
 | f+1,l,r,h1,h2,h3,ha,hb=>by
  have hn:0 < n:=by omega
  unfold kas_place
  by_cases hge:l>=r
  ·rw[Ko hge];exact⟨l,rfl,by omega,ha,λi hi=>hb i (by omega)⟩
  ·rw[Kw hge];show ∃m,cu lt (if lt (gt p k) (gt p ((l+r) / 2))=true then kas_place p k f l ((l+r) / 2)else kas_place p k f ((l+r) / 2+1) r)=m/\_
   cases c:lt (gt p k) (gt p ((l+r) / 2))with
   | true=>
    rw[Ko rfl];refine lN hp hk hu f l ((l+r) / 2) (by omega) (by omega) (by omega) ha λi hi hik=>?_
    by_cases e:i=(l+r) / 2
    ·rw[e]; exact c
    ·exact L.tr _ _ _ (hp.lt hn _) (hp.lt hn _) (hp.lt hn _) c (hu _ _ (by omega) hik)
   | false=>
    rw[Kw Kr];have l':=L.to _ _ (hp.lt hn ((l+r) / 2)) (hp.lt hn k) (hp.inj (by omega) (by omega) (by omega)) c
    refine lN hp hk hu f ((l+r) / 2+1) r (by omega) h2 (by omega) (λi hi=>?_) hb
    by_cases e:i=(l+r) / 2
    ·rw[e]; exact l'
    ·exact L.tr _ _ _ (hp.lt hn _) (hp.lt hn _) (hp.lt hn _) (hu i ((l+r) / 2) (by omega) (by omega)) l'
theorem yJ:∀(f:JW) (p:Ku JW) (k:JW),Pm n p->k+f=n->Up lt p k->Pm n (cu lt (kas_bin f p k))/\Up lt (cu lt (kas_bin f p k)) n
 | 0,p,k,hp,h,hu=>by
  have:k=n:=by omega
  exact⟨hp,this ▸ hu⟩
 | f+1,p,k,hp,h,hu=>by
  unfold kas_bin;rw[eE];obtain⟨m,e,h1,ha,hb⟩:=lN L hp (by omega) hu k 0 k (LB _) (JZ _) (by omega) (λi hi=>by omega) λi h1 h2=>by omega
  rw[e];refine yJ f _ (k+1) (hp.bub _ _) (by omega) λi j hij hj=>?_
  have g:∀i,gt (bubble p k (k - m)) i=if i=m then gt p k else if m < i/\i<=k then gt p (i - 1)else gt p i:=λi=>by
   rw[jz,jz,jz,jz,getElem?_bubble (by rw[hp.size]; omega) _ (by omega),show k - (k - m)=m by omega]
   split
   ·rfl
   ·split <;> rfl
  rw[g,g]
  repeat' split
  all_goals first
   | (exfalso; omega)
   | exact ha _ (by omega)
   | exact hb _ (by omega) (by omega)
   | exact hu _ _ (by omega) (by omega)
theorem BM (hn:1<=n):Pm n (cu lt (kas_sort n))/\Up lt (cu lt (kas_sort n)) n:=by
 unfold kas_sort;rw[eE];obtain⟨m,p',e,h1,h2,h3,h4⟩:=yI L (p:=(Ky n).toArray) (by unfold Pm; simp) hn
 rw[e];dsimp only
 by_cases hm:m < n
 ·rw[Ko hm];have:max m 1=m:=by omega
  rw[this];exact yJ L _ _ _ h1 (by omega) h4
 ·rw[Kw hm];have:m=n:=by omega
  exact⟨h1,this ▸ h4⟩
end
end Mi
namespace Mi
open PySem PySem.Spec PyProof.Rows L2
mutual
theorem pq:∀x y:T,fT x=true->mW x y=ba true->mW y x=ba false
 | .int a,.int b,_,h=>by
  simp only[mW,KM,Ki]at h;simp only[mW,KM,O0];omega
 | .str _,_,h,_=>by cases h
 | .tup xs,.tup ys,hn,h=>uR xs ys hn h
 | .int _,.str _,_,h|.int _,.tup _,_,h|.tup _,.int _,_,h|.tup _,.str _,_,h=>by cases h
theorem uR:∀xs ys:JM T,dH xs=true->gk xs ys=ba true->gk ys xs=ba false
 | [],[],_,h=>by cases h
 | [],_::_,_,_=>rfl
 | _::_,[],_,h=>by cases h
 | x::xs,y::ys,hn,h=>by
  simp only[dH,JV]at hn;simp only[gk]at h ⊢
  by_cases e:x=y
  ·rw[Ko e]at h;rw[Ko e.symm];exact uR xs ys hn.2 h
  ·rw[Kw e]at h;rw[Kw (Ne.symm e)];exact pq x y hn.1 h
end
mutual
theorem yK:∀x y:T,fT x=true->x≠y->mW y x=ba false->mW x y=ba true
 | .int a,.int b,_,hne,h=>by
  simp only[mW,KM,O0]at h;simp only[mW,KM,Ki];have:a≠b:=λe=>hne (e ▸ rfl)
  omega
 | .str _,_,h,_,_=>by cases h
 | .tup xs,.tup ys,hn,hne,h=>uS xs ys hn (λe=>hne (e ▸ rfl)) h
 | .int _,.str _,_,_,h|.int _,.tup _,_,_,h|.tup _,.int _,_,_,h|.tup _,.str _,_,_,h=>by cases h
theorem uS:∀xs ys:JM T,dH xs=true->xs≠ys->gk ys xs=ba false->gk xs ys=ba true
 | [],[],_,h,_=>absurd rfl h
 | [],_::_,_,_,_=>rfl
 | _::_,[],_,_,h=>by cases h
 | x::xs,y::ys,hn,hne,h=>by
  simp only[dH,JV]at hn;simp only[gk]at h ⊢
  by_cases e:x=y
  ·rw[Ko e.symm]at h;rw[Ko e];exact uS xs ys hn.2 (λz=>hne (by rw[e,z])) h
  ·rw[Kw (Ne.symm e)]at h;rw[Kw e];exact yK x y hn.1 e h
end
mutual
theorem yL:∀x y z:T,fT x=true->fT y=true->mW x y=ba true->mW y z=ba true->mW x z=ba true
 | .int a,.int b,.int c,_,_,h,h'=>by
  simp only[mW,KM,Ki]at h h' ⊢;omega
 | .tup xs,.tup ys,.tup zs,hn,hn',h,h'=>uT xs ys zs hn hn' h h'
 | .str _,_,_,h,_,_,_=>by cases h
 | .int _,.str _,_,_,_,h,_|.int _,.tup _,_,_,_,h,_|.tup _,.int _,_,_,_,h,_|.tup _,.str _,_,_,_,h,_=>by cases h
 | .int _,.int _,.str _,_,_,_,h|.int _,.int _,.tup _,_,_,_,h|.tup _,.tup _,.int _,_,_,_,h|.tup _,.tup _,.str _,_,_,_,h=>by cases h
theorem uT:∀xs ys zs:JM T,dH xs=true->dH ys=true->gk xs ys=ba true->gk ys zs=ba true->gk xs zs=ba true
 | [],[],_,_,_,h,_=>by cases h
 | _::_,[],_,_,_,h,_=>by cases h
 | _,_::_,[],_,_,_,h=>by cases h
 | [],_::_,_::_,_,_,_,_=>rfl
 | x::xs,y::ys,z::zs,hn,hn',h,h'=>by
  simp only[dH,JV]at hn hn';simp only[gk]at h h' ⊢
  by_cases e:x=y
  ·subst e;rw[Ko rfl]at h
   by_cases e':x=z
   ·rw[Ko e']at h' ⊢;exact uT xs ys zs hn.2 hn'.2 h h'
   ·rw[Kw e']at h' ⊢;exact h'
  ·rw[Kw e]at h
   by_cases e':y=z
   ·subst e';rw[Kw e];exact h
   ·rw[Kw e']at h';have t:=yL x y z hn.1 hn'.1 h h';have e2:x≠z:=λe2=>by
     subst e2;have:=pq x x hn.1 t;rw[t]at this; cases this
    rw[Kw e2];exact t
end
noncomputable def HF (ks:JM T):Prop:=ks.Pairwise λx y=>mW x y=ba true
noncomputable def fu (ks:JM T):JM T:=dS (qX ks) (.int 0) ks
structure Nice (ks:JM T):Prop where
 num:∀x∈ks,fT x=true
 lt:ij ks=true
 nd:ks.Nodup
theorem Nice.lin {ks:JM T}(h:Nice ks):Lin ks.length (qX ks):=by
 have nm:∀i (hi:i < ks.length),fT ks[i]=true:=λi hi=>h.num _ (K7 hi)
 refine⟨λi j k hi hj hk a b=>?_,λi j hi hj a=>?_,λi j hi hj hne a=>?_⟩
 ·have e1:=eN h.lt hi hj;have e2:=eN h.lt hj hk;have e3:=eN h.lt hi hk;rw[a]at e1; rw[b]at e2
  rw[yL _ _ _ (nm i hi) (nm j hj) e1 e2]at e3;exact(Ld e3).symm
 ·have e1:=eN h.lt hi hj;have e2:=eN h.lt hj hi;rw[a]at e1;rw[pq _ _ (nm i hi) e1]at e2;exact(Ld e2).symm
 ·have e1:=eN h.lt hj hi;have e2:=eN h.lt hi hj;rw[a]at e1;have hne':ks[i]≠ks[j]:=λe=>by
   have pw:=Ni.mp h.nd;rcases Qf hne with q|q
   ·exact pw i j hi hj q e
   ·exact pw j i hj hi q e.symm
  rw[yK _ _ (nm i hi) hne' e1]at e2;exact(Ld e2).symm
theorem eP {α:Type}{lt:JW->JW->Kt}{d:α}{xs:JM α}:(dS lt d xs).Perm xs:=by
 unfold dS;split
 ·exact .refl _
 ·have p:Pm xs.length (cu lt (MQ xs.length)):=ph (lh (by omega))
  refine(Ts _ p).trans ?_;have:(Ky xs.length).map (λi=>xs.getD i d)=xs:=by
   apply NR
   ·simp
   ·intro k h1 h2; simp[h2]
  rw[this]
theorem i3 {ks:JM T}(h:Nice ks):HF (fu ks):=by
 unfold fu dS HF;split
 ·rename_i hl
  match ks,hl with
  | [],_=>exact .nil
  | [x],_=>simp
  | _::_::_,hl=>simp only[K5]at hl; omega
 ·rename_i hl;obtain⟨p,u⟩:=BM h.lin (by omega)
  rw[Ni];intro i j hi hj hij;rw[JO,Kb,p.size]at hi hj;have hn:0 < ks.length:=by exact QF ‹_›
  have l:=u i j hij hj;have e1:=eN h.lt (p.lt hn i) (p.lt hn j);have g:∀k (hk:k < ks.length),(cu (qX ks) (MQ ks.length)).getD k 0=(cu (qX ks) (MQ ks.length)).toList[k]'(by rw[Kb,p.size]; exact hk):=λk hk=>by simp[Nv,p.size,hk]
  have l':qX ks ((cu (qX ks) (MQ ks.length)).getD i 0) ((cu (qX ks) (MQ ks.length)).getD j 0)=true:=l;rw[l']at e1;have gd:∀k (hk:k < ks.length),ks.getD k (.int 0)=ks[k]:=λk hk=>by simp[hk]
  simp only[QX];rw[<- g i hi,<- g j hj,gd _ (p.lt hn i),gd _ (p.lt hn j)];exact e1
theorem lO:∀ {a b:JM T},(∀x∈a,fT x=true)->a.Perm b->HF a->HF b->a=b
 | [],b,_,p,_,_=>(Td p)
 | x::a,[],_,p,_,_=>absurd p.length_eq (by simp)
 | x::a,y::b,hn,p,h,h'=>by
  have e:x=y:=by
   rcases Kv.mp (p.mem_iff.mp (Lo))with e|e
   ·exact e
   ·rcases Kv.mp (p.mem_iff.mpr (Lo))with e'|e'
    ·exact e'.symm
    ·have l1:=OD h e';have l2:=OD h' e;have:=pq _ _ (hn x (.head _)) l1;rw[l2]at this; cases this
  subst e;rw[lO (λz hz=>hn z (.tail _ hz)) ((List.perm_cons x).mp p) (Qg.mp h).2 (Qg.mp h').2]
theorem Nice.of_sub {ks us:JM T}(h:Nice ks)(hs:∀x∈us,x∈ks)(hd:us.Nodup):Nice us:=by
 refine⟨λx hx=>h.num x (hs x hx),?_,hd⟩
 have:=h.lt;unfold ij at this ⊢;rw[Kj]at this ⊢;intro x hx;have h2:=this x (hs x hx);rw[Kj]at h2 ⊢;exact λy hy=>h2 y (hs y hy)
theorem wp {us ks:JM T}(h:Nice ks)(p:us.Perm ks):fu us=fu ks:=by
 have hu:Nice us:=h.of_sub (λx hx=>p.mem_iff.mp hx) (p.nodup_iff.mpr h.nd)
 have pu:(fu us).Perm us:=eP;have pk:(fu ks).Perm ks:=eP;exact lO (λx hx=>hu.num x (pu.mem_iff.mp hx)) (pu.trans (p.trans pk.symm)) (i3 hu) (i3 h)
theorem yM {us ks:JM T}(h:Nice ks)(p:us.Sublist (fu ks)):fu us=us:=by
 have pk:(fu ks).Perm ks:=eP;have hu:Nice us:=h.of_sub (λx hx=>pk.mem_iff.mp (p.subset hx)) (p.nodup (pk.nodup_iff.mpr h.nd))
 have pu:(fu us).Perm us:=eP;exact lO (λx hx=>hu.num x (pu.mem_iff.mp hx)) pu (i3 hu) ((i3 h).sublist p)
mutual
noncomputable def oq:T->J5
 | .int i=>hashInt i
 | .str _=>0
 | .tup xs=>reduceHash (Ng (pr xs))
noncomputable def pr:JM T->JM J5
 | []=>[]
 | x::xs=>oq x::pr xs
end
mutual
theorem q9 {w:KO}:∀x:T,fT x=true->fq w x=oq x
 | .int _,_=>rfl
 | .str _,h=>by cases h
 | .tup xs,h=>by simp only[fq,oq]; rw[ou xs h]
theorem ou {w:KO}:∀xs:JM T,dH xs=true->iw w xs=pr xs
 | [],_=>rfl
 | x::xs,h=>by
  simp only[dH,JV]at h;simp only[iw,pr];rw[q9 x h.1,ou xs h.2]
end
theorem rc {w:KO}:∀(ks:JM T) (st:Ku (J5×T)×Lh),(∀x∈ks,fT x=true)->ks.foldlM (bT (fq w)) st=ks.foldlM (bT oq) st
 | [],_,_=>rfl
 | x::ks,st,h=>by
  rw[MP,MP];have e:bT (fq w) st x=bT oq st x:=by unfold bT; rw[q9 x (h x (.head _))]
  rw[e];congr 1
  funext st'
  exact rc ks st' λy hy=>h y (.tail _ hy)
noncomputable def re (l:Kt)(ks:JM T):JU (Ku (J5×T)×Lh):=ks.foldlM (bT oq) (#[],.fresh 0 0 l)
noncomputable def kq (ks:JM T):JU (JM T):=match re true ks with
 | some r=>if fS r.2 r.1.size then ba (r.1.toList.map (·.2))else gV
 | none=>gV
noncomputable def gl (b:Kt)(t:Lh):Lh:={ t with led:=b }
theorem tB {b:Kt}{t:Lh}{ha:JW->J5}{h:J5}:∀(f:JW) (p:Os),OL (gl b t) ha h f p=OL t ha h f p
 | 0,_=>rfl
 | f+1,p=>by
  unfold OL;rw[show(gl b t).slot p.j=t.slot p.j from rfl]
  cases t.slot p.j with
  | empty=>rfl
  | dummy=>exact tB f _
  | live i=>
   dsimp only;split
   ·rfl
   ·exact tB f _
theorem kw {b:Kt}{es:Ku (J5×T)}{t:Lh}{x:T}{h:J5}:∀(f:JW) (st:JU Os),ef es (gl b t) x h f st=ef es t x h f st
 | 0,_=>rfl
 | f+1,st=>by
  unfold ef;have e:∀p,(gl b t).probe (λi=>(es[i]?.map (·.1)).getD 0) h p=t.probe (λi=>(es[i]?.map (·.1)).getD 0) h p:=λp=>tB _ _
  rw[show(gl b t).probeStart h=t.probeStart h from rfl,e]
  split
  ·rfl
  ·rfl
  ·rfl
  ·rename_i j i next _;cases es[i]? with
   | none=>rfl
   | some q=>
    dsimp only;split
    ·rfl
    ·rw[show(gl b t).slot j=t.slot j from rfl]
     split
     ·exact kw f _
     ·rfl
theorem tD {b:Kt}{t:Lh}{hs:Ku J5}{n:JW}:(gl b t).relaid hs n=(t.relaid hs n).map λr=>(gl b r.1,r.2):=by
 unfold Th Tt;show(do let owner <- QG (Ou n - 1) hs; _)=_
 cases QG (Ou n - 1) hs <;> rfl
theorem tF {b:Kt}{hf:T->J5}{es:Ku (J5×T)}{t:Lh}{x:T}:bT hf (es,gl b t) x=(bT hf (es,t) x).map λr=>(r.1,gl b r.2):=by
 unfold bT;dsimp only;rw[kw];cases ef es t x (hf x) 100 gV with
 | none=>rfl
 | some f=>
  cases f with
  | there=>rfl
  | free slot=>
   dsimp only;rw[show(gl b t).put slot=(gl b (t.put slot).1,(t.put slot).2)from rfl]
   dsimp only;rw[show ∀n,dR (gl b (t.put slot).1) n=dR (t.put slot).1 n from λ_=>rfl,show(gl b (t.put slot).1).tooFull=(t.put slot).1.tooFull from rfl,tD]
   split
   ·split
    ·split
     ·cases(t.put slot).1.relaid ((KL es (t.put slot).2 (hf x,x)).map (·.1)) (NH (es.size+1))with
      | none=>rfl
      | some q=>
       obtain⟨t2,order⟩:=q;dsimp only[KR];rw[show ∀n,dR (gl b t2) n=dR t2 n from λ_=>rfl]
       split <;> rfl
     ·rfl
    ·rfl
   ·rfl
theorem rf {b:Kt}{hf:T->J5}:∀(ks:JM T) (es:Ku (J5×T)) (t:Lh),ks.foldlM (bT hf) (es,gl b t)=(ks.foldlM (bT hf) (es,t)).map λr=>(r.1,gl b r.2)
 | [],_,_=>rfl
 | x::ks,es,t=>by
  rw[MP,MP,tF];cases bT hf (es,t) x with
  | none=>rfl
  | some r=>exact rf ks r.1 r.2
theorem wq {ks us:JM T}(h:kq ks=ba us)(l:Kt):∃r,re l ks=ba r/\r.1.toList.map (·.2)=us/\r.2.led=l/\(r.2.plain=true->fS r.2 r.1.size=true):=by
 unfold kq at h;have e:re l ks=(re true ks).map λr=>(r.1,gl l r.2):=rf (b:=l) ks #[] (.fresh 0 0 true)
 cases hr:re true ks with
 | none=>rw[hr]at h; cases h
 | some r=>
  rw[hr]at h e;dsimp only at h;split at h
  ·rename_i hok;cases h;exact⟨_,e,rfl,rfl,λ_=>hok⟩
  ·cases h
theorem pz {α:Type}{xs:Ku α}{p:JW}{x y:α}(h:y∈(KL xs p x).toList):y∈xs.toList\/y=x:=by
 unfold KL at h;rw[N7,OH,KF,KF]at h;rcases h with(h|h)|h
 ·rw[M8]at h;refine .inl ?_;simp only[Si]at h;exact M9 (L9 h)
 ·exact .inr (J8.mp h)
 ·rw[M8]at h;refine .inl ?_;simp only[Si]at h;exact M9 (L9 h)
theorem tH {hf:T->J5}{es:Ku (J5×T)}{t:Lh}{x:T}{r:Ku (J5×T)×Lh}(h:bT hf (es,t) x=ba r):∀y∈r.1.toList,y∈es.toList\/y.2=x:=by
 intro y hy;unfold bT at h;dsimp only at h;split at h
 ·cases h
 ·cases h; exact .inl hy
 ·rename_i slot _;have ins:∀y∈(KL es (t.put slot).2 (hf x,x)).toList,y∈es.toList\/y.2=x:=λy hy=>(pz hy).imp id λe=>by rw[e]
  split at h
  ·split at h
   ·split at h
    ·split at h
     ·cases h
     ·rename_i t2 order _;split at h
      ·cases h;refine ins y ?_;simp only[Array.toList_filterMap,Oi]at hy;obtain⟨i,_,hi⟩:=hy;rw[M7];exact NN hi
      ·cases h
    ·cases h
   ·cases h; exact ins y hy
  ·cases h
theorem rg {hf:T->J5}:∀(ks:JM T) (es:Ku (J5×T)) (t:Lh) (r:Ku (J5×T)×Lh),ks.foldlM (bT hf) (es,t)=ba r->∀y∈r.1.toList,y∈es.toList\/y.2∈ks
 | [],_,_,_,h,y,hy=>by cases h; exact .inl hy
 | x::ks,es,t,r,h,y,hy=>by
  rw[MP]at h;cases hs:bT hf (es,t) x with
  | none=>rw[hs]at h; cases h
  | some q=>
   rw[hs]at h;rcases rg ks q.1 q.2 r h y hy with h1|h1
   ·rcases tH hs y h1 with h2|h2
    ·exact .inl h2
    ·exact .inr (h2 ▸ Lo)
   ·exact .inr (.tail _ h1)
theorem yN {ks us:JM T}(h:kq ks=ba us):∀k∈us,k∈ks:=by
 unfold kq at h;split at h
 ·rename_i r hr;split at h
  ·cases h;intro k hk;obtain⟨y,hy,rfl⟩:=Kl.mp hk;rcases rg ks _ _ r hr y hy with h1|h1
   ·simp at h1
   ·exact h1
  ·cases h
 ·cases h
noncomputable def yO (k:T):Kt:=fT k&&k.isTup&&decide (k.depth<=aG)
noncomputable def lP (xs:JM W)(S:aa):JU (W×aa):=match xs with
 | [.ref i]=>match iO S i with
  | some ws=>match W.ts ws with
   | some ks=>if ks.all yO then(kq ks).map λus=>(.ref S.length,S++[.stt us])else gV
   | none=>gV
  | none=>gV
 | _=>gV
noncomputable def FD (S:aa)(i:JW):JU (JM T):=match S[i]? with
 | some (.stt us)=>ba us
 | _=>gV
noncomputable def lQ (us:JM T):Kt:=us.all fT&&ij us&&decide us.Nodup&&iA us
noncomputable def dy (xs:JM W)(S:aa):JU (W×aa):=match xs with
 | [.ref i]=>match FD S i with
  | some us=>if lQ us then ba (.ref S.length,S++[.lst (T.ws (fu us))])else gV
  | none=>gV
 | _=>gV
noncomputable def lR (xs:JM W)(S:aa):JU (W×aa):=match xs with
 | [.ref i]=>match BK S i with
  | some (lo,hi)=>if -(2 ^ 62)<=lo/\lo < 2 ^ 62/\-(2 ^ 62)<=hi/\hi < 2 ^ 62/\(hi - lo).toNat<=sizeLine then ba (.tup (Gq lo (hi - lo).toNat),S)else gV
  | none=>lC [.ref i] S
 | xs=>lC xs S
theorem yP:∀ks:JM T,T.ws ks=ks.map T.w
 | []=>rfl
 | x::xs=>by simp only[T.ws,Lp,yP xs]
theorem wu {h:KW}{us vs:JM JP}(p:us.Perm vs):∀ {ks:JM T},IsTs h ks vs->∃js,IsTs h js us/\js.Perm ks:=by
 induction p with
 | nil=>intro ks i; exact⟨ks,i,.refl _⟩
 | cons x p ih=>
  intro ks i;cases i with
  | cons a b=>obtain⟨js,h1,h2⟩:=ih b; exact⟨_,.cons a h1,h2.cons _⟩
 | swap x y l=>
  intro ks i;cases i with
  | cons a b=>cases b with
   | cons b c=>exact⟨_,.cons b (.cons a c),.swap _ _ _⟩
 | trans p q ih1 ih2=>
  intro ks i;obtain⟨js,h1,h2⟩:=ih2 i;obtain⟨is,h3,h4⟩:=ih1 h1;exact⟨is,h3,h4.trans h2⟩
theorem yQ {p:T->Kt}{js ks:JM T}(h:js.Perm ks):js.all p=ks.all p:=by
 rw[N3,Kj,Kj];exact⟨λq x hx=>q x (h.mem_iff.mpr hx),λq x hx=>q x (h.mem_iff.mp hx)⟩
theorem yR {js ks:JM T}(h:js.Perm ks):tu js=tu ks:=by unfold tu; simp only[yQ h]
theorem i4:∀ {ks:JM T} {d:JW},(∀x∈ks,x.depth<=d)->T.depths ks<=d
 | [],_,_=>LB _
 | x::ks,d,h=>by
  have h1:=h x (.head _);have h2:=i4 λy hy=>h y (.tail _ hy)
  simp only[T.depths]; omega
theorem ow {h:KW}{js:JM T}{us:JM JP}(r:IsTs h js us):∀is:JM JW,(∀i∈is,i < js.length)->IsTs h (is.map λi=>js.getD i (.int 0)) (is.map λi=>us.getD i .none)
 | [],_=>.nil
 | i::is,hl=>by
  have hi:=hl i (.head _);have hi':i < us.length:=by rw[<- r.length]; exact hi
  have e1:js.getD i (.int 0)=js[i]:=by simp[hi]
  have e2:us.getD i .none=us[i]:=by simp[hi']
  have:=r.get i hi hi';refine .cons ?_ (ow r is λj hj=>hl j (.tail _ hj))
  show IsT h (js.getD i (.int 0)) (us.getD i .none);rw[e1,e2]; exact this
theorem ww {h:KW}{lt:JW->JW->Kt}{js:JM T}{us:JM JP}(r:IsTs h js us):IsTs h (dS lt (.int 0) js) (dS lt KU us):=by
 unfold dS;rw[<- r.length];split
 ·exact r
 ·exact ow r _ λi hi=>li (by omega) i hi
section
variable{prog:Kx}{w:KO}{A:KH}{E:JP->JS->Prop}{s:JS}
theorem nb {Q:JM JP->JS->Prop}{r:JX}{a b c:J5}{t u v:Tv}{n:JW}(hh:A.handled=gV)(hr:SX s.heap r a b c t u v)(hsmall:N8 a b c=true)
  (hn:LP a b c=n) (hlen:n<=2 ^ 24)
  (hQ:∀h' tk (acc:Ku JP),(∀b o,s.heap.get? b=ba o->h'.get? b=ba o)->s.heap.objs.size<=h'.objs.size->O8 (λi v=>∃t,v=.int (a+i*c) t) acc n->Q acc.toList { s with heap:=h',toks:=tk }):wpAny (model prog w) A (collect (.ref r)) Q E s:=by
 unfold collect;refine JN (NG (Le F.entry_proto_collect ?_));rw[K6 F.plain_proto_collect _];show wpAny _ A.in1 (newList [] >>= λl=>again (.builtin "list.__iadd__" ⟨[l,.ref r],[]⟩)) _ _ s
 refine JN (KQ ?_);refine JT ⟨LS F.plain_list_iadd _,Le F.entry_list_iadd ?_⟩;rw[K6 F.plain_list_iadd _];show wpAny _ A.in1 (LA (.ref s.heap.objs.size) (.ref r) (.ref s.heap.objs.size)) _ _ _;have hS:(s.heap.push { cls:=.type "list",data:=.seq ([]:JM JP).toArray }).get? s.heap.objs.size=ba { cls:=.type "list",data:=.seq #[] 0 }:=J9 _ rfl;have fin':∀s',(∃h' tk acc c',s'={ s with heap:=h',toks:=tk }/\(∀b o,s.heap.get? b=ba o->h'.get? b=ba o)/\h'.get? s.heap.objs.size=ba { cls:=.type "list",dict:=gV,data:=.seq acc c',slots:=#[] }/\O8 (λi v=>∃t,v=.int (a+i*c) t) acc n)->wpAny (model prog w) A (do
   let o <- load s.heap.objs.size
   match o.data with
   | .seq xs _=>pure xs.toList
   | _=>unsupported "internal:collect") Q E s':=by
  rintro s' ⟨h',tk,acc,c',rfl,hk,hS',hacc⟩;exact JN (O4 hS' (JT (hQ h' tk acc hk (LU (Kf hS')) hacc)))
 refine LO (wpAny_extend_range (A:=A) (s:={ s with heap:=s.heap.push { cls:=.type "list",data:=.seq ([]:JM JP).toArray } }) (R:=λr s'=>r=.ok (.ret (.ref s.heap.objs.size))/\∃h' tk acc c',s'={ s with heap:=h',toks:=tk }/\(∀b o,s.heap.get? b=ba o->h'.get? b=ba o)/\h'.get? s.heap.objs.size=ba { cls:=.type "list",dict:=gV,data:=.seq acc c',slots:=#[] }/\O8 (λi v=>∃t,v=.int (a+i*c) t) acc n) hh (JQ _ hr) hsmall hn hlen _ _ 0 hS λh' tk acc' c' hk hS' hacc=>⟨rfl,h',tk,acc',c',rfl,λb o e=>hk b o (Kk (Kf e)) (JQ _ e),hS',hacc⟩) (λfin s' h=>?_) (λe s' h=>?_)
 ·cases fin with
  | done f=>
   obtain⟨e,h⟩:=h;cases e;exact fin' s' h
  | again c'=>exact⟨h.1,NB h.2 λr s'' hr=>by obtain⟨rfl,hr⟩:=hr; exact fin' s'' hr⟩
 ·exact absurd h.1 (by simp)
theorem jA {Q₁:JP->JS->Prop}{r:JX}{a b c:J5}{t u v:Tv}{n:JW}(hh:A.handled=gV)(hr:SX s.heap r a b c t u v)(hsmall:N8 a b c=true)
  (hn:LP a b c=n) (hlen:n<=2 ^ 24)
  (h:∀(h':KW) (tk:JW) (acc:Ku JP),(∀b o,s.heap.get? b=ba o->h'.get? b=ba o)->s.heap.objs.size<=h'.objs.size->O8 (λi v=>∃t,v=.int (a+i*c) t) acc n->Q₁ (.ref h'.objs.size) { s with heap:=h'.push { cls:=.type "tuple",data:=.seq acc },toks:=tk }) :
  codeAny (model prog w) A (.call (.builtin "tuple.__new__") ⟨[.type "tuple",.ref r],[]⟩) (wants Q₁ E) s:=by
 refine Pf ?_;show wpAny _ A.in1 (do checkBuiltinCall "tuple.__new__" ⟨[.type "tuple",.ref r],[]⟩; again (.builtin "tuple.__new__" ⟨[.type "tuple",.ref r],[]⟩)) _ _ s
 refine JN (Nz (F.newCall_tuple_1 _) (JT ⟨LS F.plain_tuple_new _,Le F.entry_tuple_new ?_⟩));rw[K6 F.plain_tuple_new _];have hsub:=PySem.sub_tuple_self;have hinit:=PySem.init_tuple_lookup;have hmh:=PySem.madeHere_tuple;have hTI:s.TypeIs (.ref r) "range":=⟨_,hr,rfl⟩;have hh1:A.in1.handled=gV:=by simp[hh]
 wp_walk using MS hTI,nb (A:=A.in1) hh1 hr hsmall hn hlen
 intro h' tk acc hk hle hacc;show wpAny _ _ (LI acc.toList.toArray >>= λv=>ret v) _ _ _
 unfold LI;refine JN (KQ ?_ (by show acc.toList.toArray.size<=sizeLine; simp only[Array.toArray_toList]; rw[hacc.1,KZ]; assumption))
 refine JT ?_;have e:acc.toList.toArray=acc:=by simp
 rw[e];exact h h' tk acc hk hle hacc
theorem jB {Q:JP->JS->Prop}{r:JX}{a b c:J5}{t u v:Tv}{n:JW}(hh:A.handled=gV)(hr:SX s.heap r a b c t u v)(hsmall:N8 a b c=true)
  (hn:LP a b c=n) (hlen:n<=2 ^ 24)
  (hQ:∀(h':KW) (tk:JW) (acc:Ku JP),(∀b o,s.heap.get? b=ba o->h'.get? b=ba o)->s.heap.objs.size<=h'.objs.size->O8 (λi v=>∃t,v=.int (a+i*c) t) acc n->Q (.ref h'.objs.size) { s with heap:=h'.push { cls:=.type "tuple",data:=.seq acc },toks:=tk }) :
  wpAny (model prog w) A (call (.type "tuple") [.ref r]) Q E s:=by
 refine callType_codes (Q₁:=λobj s₁=>s₁.TypeIs obj "tuple"/\Q obj s₁) F.called_tuple (F.typeCall_tuple_1 _) F.entry_object_init
  (jA (by simp[hh]) hr hsmall hn hlen λh' tk acc hk hle hacc=>⟨⟨_,J9 _ rfl,rfl⟩,hQ h' tk acc hk hle hacc⟩) λobj s₁ h₁=>?_
 exact⟨h₁.1,F.args_object_init_2 obj _,object_init_meets F.called_tuple.init.lookup F.called_tuple.made (by decide) prog w A.in1 _ s₁ ⟨h₁.1,rfl,h₁.2⟩⟩
theorem rh {a:JX}{o:LF}{es:Ku (J5×JP)}{ep:JW}{t:Lh}{ks:JM T}{Q:JP->JS->Prop}(hh:A.handled=gV)(hu:A.units+12 < cLine)(ho:s.heap.get? a=ba o)(hex:o.ExactSet)(hd:o.data=.set es ep t)(hz:es.size<=sizeLine)(fit:t.fits es.size=true)(led:t.led = !fJ w)(pl:t.plain=true->es.size=0\/fS t es.size=true)
  (hT:IsTs s.heap ks (es.toList.map (·.2))) (hok:lQ ks=true)
  (h:∀D h' tk dr c us,(∀b u,s.heap.get? b=ba u->h'.get? b=ba u)->s.heap.objs.size<=D->h'.get? D=ba (seqObj "list" us.toArray c)->IsTs s.heap (fu ks) us->us.Perm (es.toList.map (·.2))->Q (.ref D) { s with heap:=h',toks:=tk,drawn:=dr }) :
  wpAny (model prog w) A (call (.builtin "sorted") [.ref a]) Q E s:=by
 simp only[lQ,JV,Ki]at hok;obtain⟨⟨⟨hnum,halt⟩,hnd⟩,hok⟩:=hok;have hN:Nice ks:=⟨λx hx=>Kj.mp hnum x hx,halt,hnd⟩
 refine Nh Sz Se Sg (Sh _) ?_;unfold M0.«sorted»;refine JN (m:=checkCount "sorted" 1 1 _) (JT ?_);refine JN (qK (A:=A.in1) (by simp[hh]) ho hex hd hz fit led pl λh1 tk dr us kp hle hP=>?_)
 obtain⟨js,hjs,hperm⟩:=wu hP hT;simp only[iA,JV,Ki]at hok;obtain⟨⟨h64,hdp⟩,hok⟩:=hok;have hl:us.length=ks.length:=by rw[hjs.length.symm,hperm.length_eq]
 have hJ:Nice js:=hN.of_sub (λx hx=>hperm.mem_iff.mp hx) (hperm.nodup_iff.mpr hN.nd)
 have hsk:2<=us.length->(tu js).isSome=true:=λh2=>by
  have h3:(tu ks).isSome=true:=by
   rcases LM _ _ ▸ hok with h|h
   ·simp only[Ki]at h; omega
   ·simp only[JV]at h; exact h.1
  rw[yR hperm]; exact h3
 have hdj:T.depths js<=db:=i4 λx hx=>by
  obtain⟨i,hi,rfl⟩:=M6.mp (hperm.mem_iff.mp hx);exact J3 (cZ i hi) hdp
 refine JN (OT ?_ (by rw[KZ]; omega))
 have hoL:(h1.push (seqObj "list" us.toArray 0)).get? h1.objs.size=ba (seqObj "list" us.toArray 0):=J9 _ rfl;have kp2:∀b o,s.heap.get? b=ba o->(h1.push (seqObj "list" us.toArray 0)).get? b=ba o:=λb o e=>JQ _ (kp b o e)
 have hne:∀b o,s.heap.get? b=ba o->b≠h1.objs.size:=λb o e=>Kk (Kq (Kf e) hle)
 show wpAny _ _ _ _ _ { s with heap:=h1.push (seqObj "list" us.toArray 0),toks:=tk,drawn:=dr }
 refine JN (K8 (Lb RE ⟨_,hoL,rfl⟩ Ri ?_ (RF _)));refine oh (s:={ s with heap:=h1.push (seqObj "list" us.toArray 0),toks:=tk,drawn:=dr }) (lt:=qX js) (κ:=uM ((tu js).getD 0)) hoL (by omega) (λh2 h' hk Q hq=>?_) (λh2 h' hk i j hi hj Q hq=>?_) λh' c hk hD=>?_
 ·obtain⟨c,hc⟩:=K1.mp (hsk h2);rw[hc]at hq;exact yG (s:={ s with heap:=h',toks:=tk,drawn:=dr }) (hjs.kept λb o _ e=>hk b o (hne b o e) (kp2 b o e)) h2 hc hq
 ·obtain⟨c,hc⟩:=K1.mp (hsk h2);rw[hc];have hjl:=hjs.length;have hi':i < js.length:=by omega
  have hj':j < js.length:=by omega
  have g:=(hjs.kept (h':=h') λb o _ e=>hk b o (hne b o e) (kp2 b o e))
  have e1:us.getD i KU=us[i]:=by simp[hi]
  have e2:us.getD j KU=us[j]:=by simp[hj]
  rw[e1,e2];have b1:=cZ (ks:=js) i hi';have b2:=cZ (ks:=js) j hj';exact uO (s:={ s with heap:=h',toks:=tk,drawn:=dr }) (d:=db) (c:=c) (by rw[bo,bo]; unfold db; omega) (J3 ‹_› ‹_›) (J3 ‹_› ‹_›) (g.get i hi' hi) (g.get j hj' hj) (eN hJ.lt hi' hj') (uP hc (K7 hi') (K7 hj')) hq
 ·refine⟨_,rfl,JT ⟨_,rfl,h _ h' tk dr c (dS (qX js) KU us) (λb o e=>hk b o (hne b o e) (kp2 b o e)) hle hD ?_ (eP.trans hP)⟩⟩
  rw[<- wp hN hperm];exact ww hjs
end
section
variable{X:Cx}{pins:JM (JX×LF)}{σ:L2.St}{H:Hp}{s:JS}{A:JM JX}{S:aa}
theorem ox:∀as:JM JX,Vals (as.map V.ref) (as.map KI)
 | []=>.nil
 | _::as=>.cons rfl (ox as)
theorem yS:∀ {ks:JM T} {as:JM JX},RelL X.K A H (T.ws ks) (as.map V.ref)->∀b∈as,∃k∈ks,Rel X.K A H k.w (.ref b)
 | [],[],_,_,h=>nomatch h
 | [],_::_,r,_,_=>nomatch r
 | _::_,[],r,_,_=>nomatch r
 | k::ks,a::as,r,b,h=>by
  cases r with
  | cons r1 r2=>
   rcases Kv.mp h with rfl|h
   ·exact⟨k,.head _,r1⟩
   ·obtain⟨k',h1,h2⟩:=yS r2 b h;exact⟨k',.tail _ h1,h2⟩
theorem yT (I:Inv X pins σ H s):∀ {js:JM T} {us:JM JP},IsTs s.heap js us->(∀u∈us,∃k b,u=KI b/\Rel X.K A H (T.w k) (.ref b))->∃vs,RelL X.K A H (T.ws js) vs/\Vals vs us
 | _,_,.nil,_=>⟨[],.nil,.nil⟩
 | _,_,.cons a b,h=>by
  obtain⟨k,c,rfl,r⟩:=h _ (.head _);obtain⟨vs,h1,h2⟩:=yT I b λu hu=>h u (.tail _ hu)
  have:IsT s.heap k (.ref c):=pg I k r rfl;obtain rfl:=a.inj this;exact⟨.ref c::vs,.cons r h1,.cons rfl h2⟩
theorem rj (hh:X.A.handled=gV)(hu:X.A.units+12 < cLine):LCall X (.builtin "sorted") dy:=by
 intro pins s σ H A S xs vs us w S' I so rl rv e;unfold dy at e;split at e
 ·rename_i i;obtain⟨a,ea,rfl⟩:=lc (xs:=[]) rl rv;split at e
  ·rename_i ks hs;split at e
   ·rename_i hb;cases e;unfold FD at hs;split at hs
    ·rename_i us hx;cases hs;obtain⟨o,φ,as,q,⟨hex,es,ep,t,hd,hz,fit,led,pl,he⟩,r⟩:=so.obj i _ a hx ea;have ho:s.heap.get? a=ba o:=(show ObjOk X.prog X.w H s.heap a (.frz o (.ext φ))from I.hok a _ q).1
     have hT:IsTs s.heap ks (es.toList.map (·.2)):=by rw[he]; exact fU I ks r (ox as)
     refine rh hh hu ho hex hd hz fit led pl hT hb λD h' tk dr c us hk hD oD hU hP=>?_
     obtain⟨vs,h1,h2⟩:=yT I hU λu hu=>by
      have:=hP.mem_iff.mp hu;rw[he]at this;obtain⟨b,hb,rfl⟩:=Kl.mp this;obtain⟨k,_,rk⟩:=yS r b hb;exact⟨k,b,rfl,rk⟩
     have hl:us.length<=sizeLine:=by rw[hP.length_eq,JO,Kb]; exact hz
     exact iV (u:=.lst vs) I so hk hD ⟨by rw[L2.Vals.length h2]; exact hl,us,c,h2,oD⟩ λhn=>⟨_,bv,h1.mono (dw hn)⟩
    ·cases hs
   ·cases e
  ·cases e
 ·cases e
theorem tJ (hh:X.A.handled=gV)(hu:X.A.units+12 < cLine):LCall X (.type "set") lP:=by
 intro pins s σ H A S xs vs us w S' I so rl rv e;unfold lP at e;split at e
 ·rename_i i;obtain⟨a,ea,rfl⟩:=lc (xs:=[]) rl rv;split at e
  ·rename_i ws hw;split at e
   ·rename_i ks hs;split at e
    ·rename_i hb;rw[JR]at e;obtain⟨us,hp,e⟩:=e;cases e;have hkk:∀x∈ks,fT x=true/\x.isTup=true/\x.depth<=aG:=λx hx=>by
      have:=Kj.mp hb x hx;simp only[yO,JV,Ki]at this;exact⟨this.1.1,this.1.2,this.2⟩
     obtain⟨vs',h1,r1⟩:=cX so hw ea;obtain⟨its,rv',p,hzz⟩:=I.list h1;have hws:T.ws ks=ws:=W.ts_w hs;rw[<- hws]at r1;have hT:IsTs s.heap ks its:=fU I ks r1 rv';obtain⟨res,hplay,hkeys,hled,hpl⟩:=wq hp (!fJ X.w);have itm:∀(j:JW) (u:JP),its[j]?=ba u->∃k b,ks[j]?=ba k/\u=KI b/\Rel X.K A H (T.w k) (.ref b):=λj u hj=>by
      have hjl:=(J1.mp hj).1;have hjk:j < ks.length:=by rw[hT.length]; exact hjl
      have hkw:(T.ws ks)[j]?=ba (T.w ks[j]):=by rw[yP,JY,J6 hjk]; rfl
      obtain⟨v,hv,rkv⟩:=r1.get hkw;obtain⟨u',hu',ruv⟩:=L2.Vals.get rv' hv;rw[hj]at hu';cases hu';have ht:=(hkk _ (K7 hjk)).2.1;generalize hk0:ks[j]=k0 at rkv ht;cases k0 with
      | int _=>cases ht
      | str _=>cases ht
      | tup ys=>
       cases rkv with
       | tup q1 q2=>
        obtain rfl:u=KI _:=ruv;exact⟨.tup ys,_,by rw[<- hk0]; exact J6 hjk,rfl,.tup q1 q2⟩
     refine we (ks:=ks) (res:=res) hh p.isList (by simpa using hT) (λx hx=>⟨(hkk x hx).1,(hkk x hx).2.2⟩) (λj v hj=>?_) (by show _+aG < cLine; rw[bo,bo,bo]; unfold aG; omega) (by rw[rc ks _ λx hx=>(hkk x hx).1]; exact hplay) λh' tk zs ep ho ez hok hz hy hk=>?_
     ·obtain⟨k,b,_,hb,_⟩:=itm j v (by simpa using hj)
      exact⟨b,hb⟩
     ·have ezt:zs.toList.map (λz=>z.2.1)=us:=by
       rw[<- hkeys,<- ez,OZ,MB]; rfl
      have hsz:res.1.size=zs.size:=by rw[<- ez,Ls]
      refine iV (dr:=s.drawn) (u:=.frz (lJ X.w zs ep res.2) (.ext λh=>h.get? s.heap.objs.size=ba (lJ X.w zs ep res.2))) I so hk (JZ _) ⟨ho,ho,⟨_,ho⟩,λh1 h2 q k=>k _ q⟩ λhn=>⟨_,_,zs.toList.map λz=>z.2.2,bv,⟨⟨rfl,rfl,rfl⟩,zs.map zV,ep,res.2,rfl,?_,?_,hled,?_,?_⟩,?_⟩
      ·rw[Ls,KZ];simp only[dR,JV,Ki]at hok;have:=hok.2; exact J3 ‹_› (Kc rfl)
      ·rw[Ls];simp only[dR,JV,Ki]at hok;exact hok.1.1
      ·rw[Ls,<- hsz]; exact λz=>.inr (hpl z)
      ·rw[OZ,MB,MB]; rfl
      ·rw[<- ezt];have all:∀z∈zs.toList,Rel X.K (A++[s.heap.objs.size]) (cj H s.heap.objs.size (.frz (lJ X.w zs ep res.2) (.ext λh=>h.get? s.heap.objs.size=ba (lJ X.w zs ep res.2)))) (T.w z.2.1) (.ref z.2.2):=λz hz'=>by
        obtain⟨j,g1,g2⟩:=hy z hz';obtain⟨k,b,g3,g4,g5⟩:=itm j _ (by simpa using g2)
        rw[g1]at g3;cases g3; cases g4
        exact g5.mono (dw hn)
       clear hy ezt;generalize zs.toList=l at all
       induction l with
       | nil=>exact .nil
       | cons z l ih=>exact .cons (all z (.head _)) (ih λy hy=>all y (.tail _ hy))
    ·cases e
   ·cases e
  ·cases e
 ·cases e
theorem pA (hh:X.A.handled=gV):LCall X (.type "tuple") lR:=by
 intro pins s σ H A S xs vs us w S' I so rl rv e;unfold lR at e;split at e
 ·rename_i i;split at e
  ·rename_i lo hi hr;split at e
   ·rename_i hb;cases e;obtain⟨a,ea,rfl⟩:=lc (xs:=[]) rl rv;obtain⟨b1,b2,b3,b4,b5⟩:=hb;have hH:H a=ba (.rng lo hi):=by
     unfold BK at hr;split at hr
     ·rename_i hx; cases hr; exact so.obj i _ a hx ea
     ·cases hr
    obtain⟨t,u,v,ho⟩:=I.hok a _ hH;have hn:LP lo hi 1=((hi - lo).toNat:JW):=by rw[PZ]; split <;> omega
    refine jB hh ho (R5 b1 b2 b3 b4) hn b5 λh' tk acc hk hle hacc=>?_
    have hv:Vals ((Ky (hi - lo).toNat).map λ(k:JW)=>V.int (lo+(k:J5))) acc.toList:=by
     refine pc (by rw[JO,KJ,Kb,hacc.1]) λi v u e1 e2=>?_
     rw[JY,JR]at e1;obtain⟨k,e1,rfl⟩:=e1;obtain⟨hk,rfl⟩:=J1.mp e1;obtain⟨t,rfl⟩:=hacc.2 i u (by rw[<- Lj]; exact e2)
     exact⟨t,by simp⟩
    have hnn:H h'.objs.size=gV:=I.hok.fresh hle;refine⟨.ref h'.objs.size,_,A,I.laid (a:=h'.objs.size) (o:=.tup ((Ky (hi - lo).toNat).map λ(k:JW)=>V.int (lo+(k:J5)))) (t':=tk) (λb o e=>JQ _ (hk b o e)) hle ⟨by simpa using b5,acc.toList,hv,?_⟩,rfl,dM (.inl hnn),so.lay hnn,.tup (.inl (.inl bv)) (pd _)⟩
    exact⟨_,J9 _ rfl,rfl,0,by simp⟩
   ·cases e
  ·exact kj pins s σ H A S _ vs us w S' I so rl rv e
 ·exact kj pins s σ H A S _ vs us w S' I so rl rv e
end
section
variable{X:Cx}{pins:JM (JX×LF)}{σ:L2.St}{H:Hp}{s:JS}{A:JM JX}{S:aa}
theorem wx (hh:X.A.handled=gV)(hu:X.A.units+12 < cLine):LCall X (.builtin "min") BL:=by
 intro pins s σ H A S xs vs us w S' I so rl rv e;cases rl with
 | nil=>cases e
 | cons r t=>
  cases t with
  | cons _ _=>cases r <;> cases e
  | nil=>
   cases rv with
   | cons ru rv2=>
    cases rv2;cases r with
    | ref ea=>
     simp only[BL]at e;split at e
     ·rename_i ws hw;split at e
      ·rename_i ks hk;split at e
       ·rename_i hc;rw[JR]at e;obtain⟨w',e1,e2⟩:=e;cases e2;obtain⟨vs',h1,r1⟩:=cX so hw ea;obtain⟨its,rv1,p,hz⟩:=I.list h1;obtain rfl:_=KI _:=ru;have hws:T.ws ks=ws:=W.ts_w hk;have hT:IsTs s.heap ks its:=fU I ks (hws ▸ r1) rv1;have hl:its.length=ks.length:=hT.length.symm;have hlw:ws.length=ks.length:=by rw[r1.length,L2.Vals.length rv1,hl]
        have hn:0 < ks.length:=by
         have:=(J1.mp e1).1;omega
        refine yD (items:=its.toArray) (bt:=qX ks) hh p.isList (by simpa [hl]using hn) (λi j vi vj s' Q E hk' hi hj hq=>?_) λv h' tk hv hk'=>?_
        ·have hi':i < ks.length:=by
          have:=(LD.mp hi).1
          simpa [hl]using this
         have hj':j < ks.length:=by
          have:=(LD.mp hj).1
          simpa [hl]using this
         have g:=hT.kept (h':=s'.heap) λb o _ e=>hk' b o e
         have e1:vi=its[i]'(by omega):=by
          have:=(LD.mp hi).2
          simpa using this.symm
         have e2:vj=its[j]'(by omega):=by
          have:=(LD.mp hj).2
          simpa using this.symm
         subst e1 e2;have b1:=cZ (ks:=ks) i hi';have b2:=cZ (ks:=ks) j hj';exact Gv db _ _ _ _ X.A.in1 s' _ (by omega) (by omega) (g.get i hi' (by omega)) (g.get j hj' (by omega)) (by rw[bo]; unfold db; omega) (eN hc.2 hi' hj') X.prog X.w _ _ hq
        ·have hv':its[pi ks]?=ba v:=by
          have:its.toArray.size=ks.length:=by simpa using hl
          rw[this]at hv
          simpa [pi]using hv
         obtain⟨v',q1,q2⟩:=r1.get e1;obtain⟨u',q3,q4⟩:=L2.Vals.get rv1 q1;rw[hv']at q3;cases q3;exact⟨v',H,A,I.kept hk',q4,.refl,so,q2⟩
       ·cases e
      ·cases e
     ·cases e
    | _=>cases e
theorem oy:∀ {ws:JM W} {bs:JM Kt},lL ws=ba bs->ws=bs.map W.bl
 | [],bs,h=>by cases h; rfl
 | .bl b::ws,bs,h=>by
  simp only[lL,JR]at h;obtain⟨r,h1,h2⟩:=h;subst h2;rw[oy h1]; rfl
 | .non::_,_,h|.int _::_,_,h|.str _::_,_,h|.tup _::_,_,h|.ref _::_,_,h=>by cases h
theorem tK {bs:JM Kt}{vs:JM V}{us:JM JP}(r:RelL X.K A H (bs.map W.bl) vs)(rv:Vals vs us):us=bs.map M3:=by
 induction bs generalizing vs us with
 | nil=>cases r; cases rv; rfl
 | cons b bs ih=>
  cases r with
  | cons r1 r2=>
   cases rv with
   | cons v1 v2=>
    cases r1;obtain rfl:_=M3 b:=v1;rw[ih r2 v2]; rfl
theorem wy (bs:JM Kt):(Ky bs.length).all (λi=>bs.getD i false)=bs.all id:=by
 induction bs with
 | nil=>rfl
 | cons b bs ih=>simp[O6,Sb,QH]at ih ⊢; rw[ih]
theorem Er {id:Lv}{fb:JM Kt->Kt}{g:JM W->aa->JU (W×aa)}(hg:∀xs S,g xs S=match xs with|[.ref i]=>(match iO S i with|some ws=>(lL ws).map λbs=>(.bl (fb bs),S)|none=>gV)|_=>gV)
  (hcall:∀ {s:JS} {x:JP} {Q:JP->JS->Prop} {E:JP->JS->Prop} {bs:JM Kt},wpAny (model X.prog X.w) X.A.in1 (pyIter x) (λit s₂=>∃I fp wr P St,it=.ref I/\Q8 X.prog X.w X.A.in1 I fp wr bs.length P St/\St 0 s₂.heap/\TruthOf X.prog X.w X.A.in1 P (λi=>bs.getD i false)/\
   ∀h' tk,(∀b o,b∉wr->s₂.heap.get? b=ba o->h'.get? b=ba o)->Q (.bool (fb bs)) { s₂ with heap:=h',toks:=tk }) E s->wpAny (model X.prog X.w) X.A (call (.builtin id) [x]) Q E s)
  (hh:X.A.handled=gV):LCall X (.builtin id) g:=by
 intro pins s σ H A S xs vs us w S' I so rl rv e;rw[hg]at e;cases rl with
 | nil=>cases e
 | cons r t=>
  cases t with
  | cons _ _=>cases r <;> cases e
  | nil=>
   cases rv with
   | cons ru rv2=>
    cases rv2;cases r with
    | @ref ri ad ea=>
     simp only at e;split at e
     ·rename_i ws hw;rw[JR]at e;obtain⟨bs,e1,e2⟩:=e;cases e2;obtain⟨vs',h1,r1⟩:=cX so hw ea;obtain⟨its,rv1,p,hz⟩:=I.list h1;obtain rfl:_=KI _:=ru;rw[oy e1]at r1;have hits:=tK r1 rv1;refine hcall (bs:=bs) ?_;refine NK p.isList ?_;have hlt:ad < s.heap.objs.size:=by obtain⟨_,ho,_⟩:=p.isList; exact Kf ho
      have W:=RC (prog:=X.prog) (w:=X.w) (A:=X.A.in1) hh s.heap.objs.size ad (Kk hlt) its.toArray;have hsz:its.toArray.size=bs.length:=by rw[J7,hits,JO]
      rw[hsz]at W;refine⟨_,_,_,_,_,rfl,W,⟨⟨_,J9 _ rfl,rfl,rfl⟩,?_⟩,λi v s' Q E hi hq=>?_,λh' tk hk=>?_⟩
      ·obtain⟨o,ho,hc⟩:=p.isList;exact⟨o,JQ _ ho,hc⟩
      ·have hb:bs[i]?.map M3=ba v:=by rw[<- JY,<- hits]; simpa using hi
       cases q:bs[i]? with
       | none=>rw[q]at hb; cases hb
       | some b=>
        rw[q]at hb;cases hb;have eb:bs.getD i false=b:=by simp[q]
        have hq:Q (bs.getD i false) s':=hq;rw[eb]at hq;exact Mc hq
      ·refine⟨.bl (fb bs),H,A,I.kept (λb o e=>hk b o (λz=>?_) (JQ _ e)),rfl,.refl,so,.bl⟩
       have hb:=Kf e;rw[J8.mp z]at hb;exact Ly _ hb
     ·cases e
    | _=>cases e
theorem wz (hh:X.A.handled=gV):LCall X (.builtin "all") Gw:=
 Er (fb:=λbs=>bs.all id) (λxs S=>rfl) (λ{s x Q E bs} h=>call_all_walk (LO h (λit s₂ ⟨I,fp,wr,P,St',a,b,c,d,f⟩=>⟨I,fp,wr,_,P,St',_,a,b,c,d,λh' tk hk=>by rw[wy]; exact f h' tk hk⟩) λ_ _ e=>e)) hh
end
noncomputable abbrev FA:=Fm->aa->JU (JM W×aa)
noncomputable abbrev FT:=Fm->aa->JU (Kt×aa)
inductive Out where
 | nx (ρ:Fm)|rt (w:W)|bk (ρ:Fm)|ct (ρ:Fm)
noncomputable abbrev FS:=Fm->aa->JU (Out×aa)
section
variable (X:Cx)
noncomputable def tE (f:FE):TE:=λσ H Q=>∃A ρ S w S',EnvRel X.K A H ρ σ/\StoreOk X.w X.K A H S/\f ρ S=ba (w,S')/\∀v H',EndV X.w X.K A H S' w v H'->Q v H'
noncomputable def EndB (A:JM JX)(H:Hp)(S':aa)(k:Kt):Kt->Hp->Prop:=λb H'=>b=k/\∃A',Ext X.K A H A' H'/\StoreOk X.w X.K A' H' S'
noncomputable def tT (f:FT):TT:=λσ H Q=>∃A ρ S k S',EnvRel X.K A H ρ σ/\StoreOk X.w X.K A H S/\f ρ S=ba (k,S')/\∀b H',EndB X A H S' k b H'->Q b H'
noncomputable def Et (A:JM JX)(H:Hp)(S':aa)(ws:JM W):JM V->Hp->Prop:=λvs H'=>∃A',Ext X.K A H A' H'/\StoreOk X.w X.K A' H' S'/\RelL X.K A' H' ws vs
noncomputable def tA (f:FA):TA:=λσ H Q=>∃A ρ S ws S',EnvRel X.K A H ρ σ/\StoreOk X.w X.K A H S/\f ρ S=ba (ws,S')/\∀vs H',Et X A H S' ws vs H'->Q vs H'
noncomputable def EndS (A:JM JX)(H:Hp)(o:Out)(S':aa):Ends where
 nx:=λσ' H'=>∃ρ' A',o=.nx ρ'/\Ext X.K A H A' H'/\StoreOk X.w X.K A' H' S'/\EnvRel X.K A' H' ρ' σ'
 rt:=λv H'=>∃w A',o=.rt w/\Ext X.K A H A' H'/\StoreOk X.w X.K A' H' S'/\Rel X.K A' H' w v
 bk:=λσ' H'=>∃ρ' A',o=.bk ρ'/\Ext X.K A H A' H'/\StoreOk X.w X.K A' H' S'/\EnvRel X.K A' H' ρ' σ'
 ct:=λσ' H'=>∃ρ' A',o=.ct ρ'/\Ext X.K A H A' H'/\StoreOk X.w X.K A' H' S'/\EnvRel X.K A' H' ρ' σ'
structure Imp (E D:Ends):Prop where
 nx:∀σ H,E.nx σ H->D.nx σ H
 rt:∀v H,E.rt v H->D.rt v H
 bk:∀σ H,E.bk σ H->D.bk σ H
 ct:∀σ H,E.ct σ H->D.ct σ H
noncomputable def tS (f:FS):TS:=λD σ H=>∃A ρ S o S',EnvRel X.K A H ρ σ/\StoreOk X.w X.K A H S/\f ρ S=ba (o,S')/\Imp (EndS X A H o S') D
noncomputable abbrev GE (e:Kn)(f:FE):Prop:=PE X e (tE X f)
noncomputable abbrev GT (e:Kn)(f:FT):Prop:=PT X e (tT X f)
noncomputable abbrev GW (e:Kn)(f:FT):Prop:=PW X e (tT X f)
noncomputable abbrev GA (es:JM Kn)(f:FA):Prop:=PA X es (tA X f)
noncomputable abbrev GS (st:MC)(f:FS):Prop:=PS X st (tS X f)
noncomputable abbrev GSs (sts:JM MC)(f:FS):Prop:=PSs X sts (tS X f)
end
theorem Imp.trans {E D F:Ends}(a:Imp E D)(b:Imp D F):Imp E F:=⟨λ_ _ h=>b.nx _ _ (a.nx _ _ h),λ_ _ h=>b.rt _ _ (a.rt _ _ h),λ_ _ h=>b.bk _ _ (a.bk _ _ h),λ_ _ h=>b.ct _ _ (a.ct _ _ h)⟩
section
variable{X:Cx}
theorem GE.of {e:Kn}{t:TE}{f:FE}(h:PE X e t)(hf:∀(σ:L2.St) (H:Hp) (A:JM JX) (ρ:Fm) (S:aa) (w:W) (S':aa),EnvRel X.K A H ρ σ->StoreOk X.w X.K A H S->f ρ S=ba (w,S')->∀Q:VK,(∀v H',EndV X.w X.K A H S' w v H'->Q v H')->t σ H Q):GE X e f:=
 λpins s σ H Q I ⟨A,ρ,S,w,S',er,so,e1,hq⟩=>h pins s σ H Q I (hf σ H A ρ S w S' er so e1 Q hq)
theorem GT.of {e:Kn}{t:TT}{f:FT}(h:PT X e t)(hf:∀(σ:L2.St) (H:Hp) (A:JM JX) (ρ:Fm) (S:aa) (k:Kt) (S':aa),EnvRel X.K A H ρ σ->StoreOk X.w X.K A H S->f ρ S=ba (k,S')->∀Q:Kt->Hp->Prop,(∀b H',EndB X A H S' k b H'->Q b H')->t σ H Q):GT X e f:=
 λpins s σ H Q I ⟨A,ρ,S,w,S',er,so,e1,hq⟩=>h pins s σ H Q I (hf σ H A ρ S w S' er so e1 Q hq)
theorem GW.of {e:Kn}{t:TT}{f:FT}(h:PW X e t)(hf:∀(σ:L2.St) (H:Hp) (A:JM JX) (ρ:Fm) (S:aa) (k:Kt) (S':aa),EnvRel X.K A H ρ σ->StoreOk X.w X.K A H S->f ρ S=ba (k,S')->∀Q:Kt->Hp->Prop,(∀b H',EndB X A H S' k b H'->Q b H')->t σ H Q):GW X e f:=
 λwh pins s σ H Q I ⟨A,ρ,S,w,S',er,so,e1,hq⟩=>h wh pins s σ H Q I (hf σ H A ρ S w S' er so e1 Q hq)
theorem GA.of {es:JM Kn}{t:TA}{f:FA}(h:PA X es t)(hf:∀(σ:L2.St) (H:Hp) (A:JM JX) (ρ:Fm) (S:aa) (ws:JM W) (S':aa),EnvRel X.K A H ρ σ->StoreOk X.w X.K A H S->f ρ S=ba (ws,S')->∀Q:JM V->Hp->Prop,(∀vs H',Et X A H S' ws vs H'->Q vs H')->t σ H Q):GA X es f:=
 λpos pins s σ H Q I ⟨A,ρ,S,w,S',er,so,e1,hq⟩=>h pos pins s σ H Q I (hf σ H A ρ S w S' er so e1 Q hq)
theorem GS.of {st:MC}{t:TS}{f:FS}(h:PS X st t)(hf:∀(σ:L2.St) (H:Hp) (A:JM JX) (ρ:Fm) (S:aa) (o:Out) (S':aa),EnvRel X.K A H ρ σ->StoreOk X.w X.K A H S->f ρ S=ba (o,S')->∀D:Ends,Imp (EndS X A H o S') D->t D σ H):GS X st f:=
 λpins s σ H D I ⟨A,ρ,S,o,S',er,so,e1,hq⟩=>h pins s σ H D I (hf σ H A ρ S o S' er so e1 D hq)
theorem GSs.of {st:JM MC}{t:TS}{f:FS}(h:PSs X st t)(hf:∀(σ:L2.St) (H:Hp) (A:JM JX) (ρ:Fm) (S:aa) (o:Out) (S':aa),EnvRel X.K A H ρ σ->StoreOk X.w X.K A H S->f ρ S=ba (o,S')->∀D:Ends,Imp (EndS X A H o S') D->t D σ H):GSs X st f:=
 λpins s σ H D I ⟨A,ρ,S,o,S',er,so,e1,hq⟩=>h pins s σ H D I (hf σ H A ρ S o S' er so e1 D hq)
theorem EndV.after {A A1:JM JX}{H H1:Hp}{S':aa}{w:W}{v:V}{H':Hp}(e:Ext X.K A H A1 H1)(h:EndV X.w X.K A1 H1 S' w v H'):EndV X.w X.K A H S' w v H':=by
 obtain⟨A',x,y,z⟩:=h;exact⟨A',e.trans x,y,z⟩
theorem EndB.after {A A1:JM JX}{H H1:Hp}{S':aa}{k b:Kt}{H':Hp}(e:Ext X.K A H A1 H1)(h:EndB X A1 H1 S' k b H'):EndB X A H S' k b H':=by
 obtain⟨h1,A',x,y⟩:=h;exact⟨h1,A',e.trans x,y⟩
theorem EndS.after {A A1:JM JX}{H H1:Hp}{S':aa}{o:Out}(e:Ext X.K A H A1 H1):Imp (EndS X A1 H1 o S') (EndS X A H o S'):=
 ⟨λ_ _ ⟨ρ',A',a,b,c,d⟩=>⟨ρ',A',a,e.trans b,c,d⟩,λ_ _ ⟨ρ',A',a,b,c,d⟩=>⟨ρ',A',a,e.trans b,c,d⟩,λ_ _ ⟨ρ',A',a,b,c,d⟩=>⟨ρ',A',a,e.trans b,c,d⟩,λ_ _ ⟨ρ',A',a,b,c,d⟩=>⟨ρ',A',a,e.trans b,c,d⟩⟩
noncomputable def fC (w:W):FE:=λ_ S=>ba (w,S)
noncomputable def fV (i:JW):FE:=λρ S=>match ρ[i]? with
 | some (ba w)=>ba (w,S)
 | _=>gV
theorem rm {e:Kn}{v:V}{w:W}(h:PE X e (tC v))(r:∀A H,Rel X.K A H w v):GE X e (fC w):=
 GE.of h λσ H A ρ S w' S' er so e Q hq=>by cases e; exact hq _ _ (.here so (r A H))
theorem ID {i:JW}{e:Kn}(h:PE X e (DC i)):GE X e (fV i):=GE.of h λσ H A ρ S w S' er so e Q hq=>by
 unfold fV at e;split at e
 ·rename_i w' hw;cases e;obtain⟨v,h1,h2⟩:=er.2 i _ hw;exact⟨v,h1,hq _ _ (.here so h2)⟩
 ·cases e
noncomputable def BN (g:W->W->aa->JU (W×aa))(fa fb:FE):FE:=λρ S=>match fa ρ S with
 | some (x,S1)=>match fb ρ S1 with
  | some (y,S2)=>g x y S2
  | none=>gV
 | none=>gV
theorem HG {fa fb:FE}{g:W->W->aa->JU (W×aa)}{ρ:Fm}{S:aa}{r:W×aa}(e:BN g fa fb ρ S=ba r):∃x S1 y S2,fa ρ S=ba (x,S1)/\fb ρ S1=ba (y,S2)/\g x y S2=ba r:=by
 unfold BN at e;split at e
 ·rename_i x S1 h1;split at e
  ·rename_i y S2 h2;exact⟨x,S1,y,S2,h1,h2,e⟩
  ·cases e
 ·cases e
theorem i5 {fa fb:FE}{ρ:Fm}{S S1 S2:aa}{x y:W}{σ:L2.St}{H:Hp}{A:JM JX}{R:V->V->Hp->Prop}(er:EnvRel X.K A H ρ σ)(so:StoreOk X.w X.K A H S)(h1:fa ρ S=ba (x,S1))(h2:fb ρ S1=ba (y,S2))
  (h:∀a b H2 A2,Ext X.K A H A2 H2->StoreOk X.w X.K A2 H2 S2->Rel X.K A2 H2 x a->Rel X.K A2 H2 y b->R a b H2):tE X fa σ H λa H1=>tE X fb σ H1 λb H2=>R a b H2:=by
 refine⟨A,ρ,S,x,S1,er,so,h1,λa H1 ⟨A1,e1,o1,r1⟩=>?_⟩
 refine⟨A1,ρ,S1,y,S2,er.mono e1,o1,h2,λb H2 ⟨A2,e2,o2,r2⟩=>?_⟩
 exact h a b H2 A2 (e1.trans e2) o2 (r1.mono e2) r2
theorem LOp.opr {f:JP->JP->Sn JP}{g:W->W->aa->JU (W×aa)}(h:LOp X f g):OpR X f (λa b H Q=>∃A S x y w S',StoreOk X.w X.K A H S/\Rel X.K A H x a/\Rel X.K A H y b/\g x y S=ba (w,S')/\∀v H',EndV X.w X.K A H S' w v H'->Q v H'):=by
 intro pins s σ H a b u v Q I ru rv ⟨A,S,x,y,w,S',so,rx,ry,e,hq⟩;exact b7 (h pins s σ H A S x y a b u v w S' I so rx ru ry rv e) λu' s' ⟨v',H',A',I',r',e1,o1,z1⟩=>⟨v',H',I',r',hq v' H' ⟨A',e1,o1,z1⟩⟩
theorem C9 {a b:Kn}{op:Qo}{pos:Mo}{fa fb:FE}{g:W->W->aa->JU (W×aa)}(ho:LOp X (binaryOp op) g)(ha:GE X a fa)(hb:GE X b fb):GE X (.BinOp a op b pos) (BN g fa fb):=
 GE.of (F6 ho.opr ha hb) λσ H A ρ S w S' er so e Q hq=>by
  obtain⟨x,S1,y,S2,h1,h2,h3⟩:=HG e;exact i5 er so h1 h2 λa b H2 A2 e2 o2 r1 r2=>⟨A2,S2,x,y,w,S',o2,r1,r2,h3,λv H' z=>hq v H' (z.after e2)⟩
noncomputable def yU (fa:FE):FE:=λρ S=>match fa ρ S with
 | some (.int i,S1)=>ba (.int (-i),S1)
 | _=>gV
theorem yV {a:Kn}{pos:Mo}{fa:FE}(ha:GE X a fa):GE X (.UnaryOp .USub a pos) (yU fa):=
 GE.of (F7 D2 ha) λσ H A ρ S w S' er so e Q hq=>by
  unfold yU at e;split at e
  ·rename_i i S1 h1;cases e;refine⟨A,ρ,S,_,_,er,so,h1,λv H1 ⟨A1,e1,o1,r1⟩=>?_⟩
   cases r1;exact⟨_,rfl,hq _ _ ⟨A1,e1,o1,.int⟩⟩
  ·cases e
noncomputable def BO (o:COp)(fa fb:FE):FE:=BN (cg o) fa fb
theorem Eu {a b:Kn}{o:COp}{pos:Mo}{fa fb:FE}(hu:X.A.units+iy < cLine)(ha:GE X a fa)(hb:GE X b fb)(hm:behindInMarks o.py b=false):GE X (.Compare a [o.py] [b] pos) (BO o fa fb):=
 GE.of (Bd (qR hu o).opr ha hb hm) λσ H A ρ S w S' er so e Q hq=>by
  obtain⟨x,S1,y,S2,h1,h2,h3⟩:=HG e;exact i5 er so h1 h2 λa b H2 A2 e2 o2 r1 r2=>⟨A2,S2,x,y,w,S',o2,r1,r2,h3,λv H' z=>hq v H' (z.after e2)⟩
noncomputable def yW (f:FE):FT:=λρ S=>match f ρ S with
 | some (.bl k,S')=>ba (k,S')
 | _=>gV
theorem Ev {a b:Kn}{o:COp}{pos:Mo}{fa fb:FE}(hu:X.A.units+iy < cLine)(ha:GE X a fa)(hb:GE X b fb)(hm:behindInMarks o.py b=false):GT X (.Compare a [o.py] [b] pos) (yW (BO o fa fb)):=
 GT.of (Be (qR hu o).opr ha hb hm) λσ H A ρ S k S' er so e Q hq=>by
  unfold yW at e;split at e
  ·rename_i k' S'' h0;cases e;obtain⟨x,S1,y,S2,h1,h2,h3⟩:=HG h0;refine i5 er so h1 h2 λa b H2 A2 e2 o2 r1 r2=>⟨A2,S2,x,y,_,_,o2,r1,r2,h3,λv H' ⟨A',z1,z2,z3⟩=>?_⟩
   cases z3;exact⟨k,rfl,hq _ _ ⟨rfl,A',e2.trans z1,z2⟩⟩
  ·cases e
noncomputable def g7 (f:FE):FT:=λρ S=>match f ρ S with
 | some (w,S')=>(iT S' w).map λk=>(k,S')
 | none=>gV
theorem dg {e:Kn}{f:FE}(h:GE X e f)(he:∀whole,isTrue e X.env whole=(do let v <- whole; standAt e.pos; holding [v] (truthy v))):GT X e (g7 f):=by
 intro pins s σ H Q I ⟨A,ρ,S,k,S',er,so,e1,hq⟩;unfold g7 at e1;split at e1
 ·rename_i w S1 h1;rw[JR]at e1;obtain⟨k',ek,e2⟩:=e1;cases e2;refine isTrue_plain (b7 (h pins s σ H (EndV X.w X.K A H _ w) I ⟨A,ρ,S,w,_,er,so,h1,λ_ _ z=>z⟩) λv s1 ⟨x,H1,I1,r1,A1,e1,o1,z1⟩=>?_) (he _)
  exact IB I1 o1 z1 r1 ek λs' I'=>⟨H1,I',hq _ _ ⟨rfl,A1,e1,o1⟩⟩
 ·cases e1
noncomputable def yX (f g:FT):FT:=λρ S=>match f ρ S with
 | some (true,S1)=>g ρ S1
 | some (false,S1)=>ba (false,S1)
 | none=>gV
noncomputable def Gx (f g:FT):FT:=λρ S=>match f ρ S with
 | some (true,S1)=>ba (true,S1)
 | some (false,S1)=>g ρ S1
 | none=>gV
noncomputable def BP (f:FT):FT:=λρ S=>match f ρ S with
 | some (k,S1)=>ba (!k,S1)
 | none=>gV
theorem yY {f g:FT}{σ:L2.St}{H:Hp}{A:JM JX}{ρ:Fm}{S:aa}{k:Kt}{S':aa}(er:EnvRel X.K A H ρ σ)(so:StoreOk X.w X.K A H S)(e:yX f g ρ S=ba (k,S'))(Q:Kt->Hp->Prop)(hq:∀b H',EndB X A H S' k b H'->Q b H') :
  FQ (tT X f) (tT X g) σ H Q:=by
 unfold yX at e;split at e
 ·rename_i S1 h1;refine⟨A,ρ,S,true,S1,er,so,h1,λb H1 ⟨z0,A1,z1,z2⟩=>?_⟩
  subst z0;rw[Ko rfl];exact⟨A1,ρ,S1,k,S',er.mono z1,z2,e,λb H' q=>hq b H' (q.after z1)⟩
 ·rename_i S1 h1;cases e;refine⟨A,ρ,S,false,_,er,so,h1,λb H1 ⟨z0,A1,z1,z2⟩=>?_⟩
  subst z0;rw[Kw Kr];exact hq _ _ ⟨rfl,A1,z1,z2⟩
 ·cases e
theorem BQ {f g:FT}{σ:L2.St}{H:Hp}{A:JM JX}{ρ:Fm}{S:aa}{k:Kt}{S':aa}(er:EnvRel X.K A H ρ σ)(so:StoreOk X.w X.K A H S)(e:Gx f g ρ S=ba (k,S'))(Q:Kt->Hp->Prop)(hq:∀b H',EndB X A H S' k b H'->Q b H') :
  Jq (tT X f) (tT X g) σ H Q:=by
 unfold Gx at e;split at e
 ·rename_i S1 h1;cases e;refine⟨A,ρ,S,true,_,er,so,h1,λb H1 ⟨z0,A1,z1,z2⟩=>?_⟩
  subst z0;rw[Ko rfl];exact hq _ _ ⟨rfl,A1,z1,z2⟩
 ·rename_i S1 h1;refine⟨A,ρ,S,false,S1,er,so,h1,λb H1 ⟨z0,A1,z1,z2⟩=>?_⟩
  subst z0;rw[Kw Kr];exact⟨A1,ρ,S1,k,S',er.mono z1,z2,e,λb H' q=>hq b H' (q.after z1)⟩
 ·cases e
theorem BR {a:Kn}{pos:Mo}{f:FT}(h:GT X a f):GW X (.BoolOp .And [a] pos) f:=AW h
theorem Ew {a:Kn}{pos:Mo}{f:FT}(h:GT X a f):GW X (.BoolOp .Or [a] pos) f:=DD h
theorem Ex {a b:Kn}{r:JM Kn}{pos:Mo}{f g:FT}(h:GT X a f)(h2:GW X (.BoolOp .And (b::r) pos) g):GW X (.BoolOp .And (a::b::r) pos) (yX f g):=
 GW.of (DE h h2) λσ H A ρ S k S' er so e Q hq=>yY er so e Q hq
theorem Gy {a b:Kn}{r:JM Kn}{pos:Mo}{f g:FT}(h:GT X a f)(h2:GW X (.BoolOp .Or (b::r) pos) g):GW X (.BoolOp .Or (a::b::r) pos) (Gx f g):=
 GW.of (FR h h2) λσ H A ρ S k S' er so e Q hq=>BQ er so e Q hq
theorem Ey {a:Kn}{pos:Mo}{f:FT}(h:GT X a f):GT X (.UnaryOp .Not a pos) (BP f):=
 GT.of (DF h) λσ H A ρ S k S' er so e Q hq=>by
  unfold BP at e;split at e
  ·rename_i k1 S1 h1;cases e;refine⟨A,ρ,S,k1,_,er,so,h1,λb H1 ⟨z0,A1,z1,z2⟩=>?_⟩
   subst z0;exact hq _ _ ⟨rfl,A1,z1,z2⟩
  ·cases e
noncomputable def uU (f g:FE):FE:=λρ S=>match f ρ S with
 | some (.bl true,S1)=>g ρ S1
 | some (.bl false,S1)=>ba (.bl false,S1)
 | _=>gV
noncomputable def BS (f g:FE):FE:=λρ S=>match f ρ S with
 | some (.bl true,S1)=>ba (.bl true,S1)
 | some (.bl false,S1)=>g ρ S1
 | _=>gV
noncomputable def uV (f:FE):FE:=λρ S=>match f ρ S with
 | some (.bl k,S1)=>ba (.bl (!k),S1)
 | _=>gV
theorem Ez {a:Kn}{op:SR}{pos:Mo}{f:FE}(h:GE X a f):GE X (.BoolOp op [a] pos) f:=DG h
theorem EA {a b:Kn}{r:JM Kn}{pos:Mo}{f g:FE}(h:GE X a f)(h2:GE X (.BoolOp .And (b::r) pos) g):GE X (.BoolOp .And (a::b::r) pos) (uU f g):=
 GE.of (DH h h2) λσ H A ρ S w S' er so e Q hq=>by
  unfold uU at e;split at e
  ·rename_i S1 h1;refine⟨A,ρ,S,_,S1,er,so,h1,λv H1 ⟨A1,z1,z2,z3⟩=>?_⟩
   cases z3;refine⟨true,rfl,?_⟩;rw[Ko rfl];exact⟨A1,ρ,S1,w,S',er.mono z1,z2,e,λb H' q=>hq b H' (q.after z1)⟩
  ·rename_i S1 h1;cases e;refine⟨A,ρ,S,_,_,er,so,h1,λv H1 ⟨A1,z1,z2,z3⟩=>?_⟩
   cases z3;refine⟨false,rfl,?_⟩;rw[Kw Kr];exact hq _ _ ⟨A1,z1,z2,.bl⟩
  ·cases e
theorem Gz {a b:Kn}{r:JM Kn}{pos:Mo}{f g:FE}(h:GE X a f)(h2:GE X (.BoolOp .Or (b::r) pos) g):GE X (.BoolOp .Or (a::b::r) pos) (BS f g):=
 GE.of (FW h h2) λσ H A ρ S w S' er so e Q hq=>by
  unfold BS at e;split at e
  ·rename_i S1 h1;cases e;refine⟨A,ρ,S,_,_,er,so,h1,λv H1 ⟨A1,z1,z2,z3⟩=>?_⟩
   cases z3;refine⟨true,rfl,?_⟩;rw[Ko rfl];exact hq _ _ ⟨A1,z1,z2,.bl⟩
  ·rename_i S1 h1;refine⟨A,ρ,S,_,S1,er,so,h1,λv H1 ⟨A1,z1,z2,z3⟩=>?_⟩
   cases z3;refine⟨false,rfl,?_⟩;rw[Kw Kr];exact⟨A1,ρ,S1,w,S',er.mono z1,z2,e,λb H' q=>hq b H' (q.after z1)⟩
  ·cases e
theorem EB {a:Kn}{pos:Mo}{f:FE}(h:GE X a f):GE X (.UnaryOp .Not a pos) (uV f):=
 GE.of (DI h) λσ H A ρ S w S' er so e Q hq=>by
  unfold uV at e;split at e
  ·rename_i k1 S1 h1;cases e;refine⟨A,ρ,S,_,_,er,so,h1,λb H1 ⟨A1,z1,z2,z3⟩=>?_⟩
   cases z3;exact⟨_,rfl,hq _ _ ⟨A1,z1,z2,.bl⟩⟩
  ·cases e
noncomputable def BU (c:FT)(f g:FE):FE:=λρ S=>match c ρ S with
 | some (true,S1)=>f ρ S1
 | some (false,S1)=>g ρ S1
 | none=>gV
theorem EC {c a b:Kn}{pos:Mo}{fc:FT}{f g:FE}(hc:GT X c fc)(ha:GE X a f)(hb:GE X b g):GE X (.IfExp c a b pos) (BU fc f g):=
 GE.of (xG hc ha hb) λσ H A ρ S w S' er so e Q hq=>by
  unfold BU at e;split at e
  ·rename_i S1 h1;refine⟨A,ρ,S,_,S1,er,so,h1,λb H1 ⟨z0,A1,z1,z2⟩=>?_⟩
   subst z0;rw[Ko rfl];exact⟨A1,ρ,S1,w,S',er.mono z1,z2,e,λb H' q=>hq b H' (q.after z1)⟩
  ·rename_i S1 h1;refine⟨A,ρ,S,_,S1,er,so,h1,λb H1 ⟨z0,A1,z1,z2⟩=>?_⟩
   subst z0;rw[Kw Kr];exact⟨A1,ρ,S1,w,S',er.mono z1,z2,e,λb H' q=>hq b H' (q.after z1)⟩
  ·cases e
noncomputable def jC:FA:=λ_ S=>ba ([],S)
noncomputable def eQ (f:FE)(g:FA):FA:=λρ S=>match f ρ S with
 | some (w,S1)=>match g ρ S1 with
  | some (ws,S2)=>ba (w::ws,S2)
  | none=>gV
 | none=>gV
theorem ED:GA X [] jC:=GA.of xN λσ H A ρ S ws S' er so e Q hq=>by cases e; exact hq _ _ ⟨A,.refl,so,.nil⟩
theorem BV {e:Kn}{es:JM Kn}{f:FE}{g:FA}(h:GE X e f)(h2:GA X es g)(hs:starEach (e::es) X.env=(false,eval e X.env)::starEach es X.env):GA X (e::es) (eQ f g):=
 GA.of (oT h h2 hs) λσ H A ρ S ws S' er so e Q hq=>by
  unfold eQ at e;split at e
  ·rename_i w S1 h1;split at e
   ·rename_i ws2 S2 h2;cases e;refine⟨A,ρ,S,w,S1,er,so,h1,λv H1 ⟨A1,z1,z2,z3⟩=>?_⟩
    refine⟨A1,ρ,S1,ws2,_,er.mono z1,z2,h2,λvs H2 ⟨A2,y1,y2,y3⟩=>?_⟩
    exact hq _ _ ⟨A2,z1.trans y1,y2,.cons (z3.mono y1) y3⟩
   ·cases e
  ·cases e
noncomputable def yZ (f:FA):FE:=λρ S=>match f ρ S with
 | some (ws,S1)=>sS S1 ws
 | none=>gV
noncomputable def y4 (f:FA):FE:=λρ S=>match f ρ S with
 | some (ws,S1)=>mZ S1 ws
 | none=>gV
theorem y6 {es:JM Kn}{k:JW}{pos:Mo}{f:FA}(h:GA X es f):GE X (.Tuple es k pos) (yZ f):=
 GE.of (Eb h) λσ H A ρ S w S' er so e Q hq=>by
  unfold yZ at e;split at e
  ·rename_i ws S1 h1;obtain⟨hl,rfl,rfl⟩:=uu e;refine⟨A,ρ,S,ws,_,er,so,h1,λvs H1 ⟨A1,z1,z2,z3⟩=>⟨by rw[<- z3.length]; exact hl,λp hp=>?_⟩⟩
   exact hq _ _ (EndV.after z1 (.tup z2 z3 hp))
  ·cases e
theorem y8 {es:JM Kn}{pos:Mo}{f:FA}(h:GA X es f):GE X (.List es pos) (y4 f):=
 GE.of (Ec h) λσ H A ρ S w S' er so e Q hq=>by
  unfold y4 at e;split at e
  ·rename_i ws S1 h1;obtain⟨hl,rfl,rfl⟩:=lb e;refine⟨A,ρ,S,ws,_,er,so,h1,λvs H1 ⟨A1,z1,z2,z3⟩=>⟨by rw[<- z3.length]; exact hl,λp hp=>?_⟩⟩
   exact hq _ _ (EndV.after z1 (.lst z2 z3 hp))
  ·cases e
noncomputable def kz (g:JM W->aa->JU (W×aa))(f:FA):FE:=λρ S=>match f ρ S with
 | some (ws,S1)=>g ws S1
 | none=>gV
theorem LCall.callr {v:JP}{g:JM W->aa->JU (W×aa)}(h:LCall X v g):CallR X v (λvs H Q=>∃A S ws w S',StoreOk X.w X.K A H S/\RelL X.K A H ws vs/\g ws S=ba (w,S')/\∀v H',EndV X.w X.K A H S' w v H'->Q v H'):=by
 intro pins s σ H vs us Q I rv ⟨A,S,ws,w,S',so,rl,e,hq⟩;exact b7 (h pins s σ H A S ws vs us w S' I so rl rv e) λu' s' ⟨v',H',A',I',r',e1,o1,z1⟩=>⟨v',H',I',r',hq v' H' ⟨A',e1,o1,z1⟩⟩
theorem oz {g:JM W->aa->JU (W×aa)}{f:FA}{σ:L2.St}{H:Hp}{A:JM JX}{ρ:Fm}{S:aa}{w:W}{S':aa}(er:EnvRel X.K A H ρ σ)(so:StoreOk X.w X.K A H S)(e:kz g f ρ S=ba (w,S'))(Q:VK)(hq:∀v H',EndV X.w X.K A H S' w v H'->Q v H') :
  tA X f σ H λvs H1=>∃A S ws w S',StoreOk X.w X.K A H1 S/\RelL X.K A H1 ws vs/\g ws S=ba (w,S')/\∀v H',EndV X.w X.K A H1 S' w v H'->Q v H':=by
 unfold kz at e;split at e
 ·rename_i ws S1 h1;exact⟨A,ρ,S,ws,S1,er,so,h1,λvs H1 ⟨A1,z1,z2,z3⟩=>⟨A1,S1,ws,w,S',z2,z3,e,λv H' q=>hq v H' (q.after z1)⟩⟩
 ·cases e
theorem uW {id:Lv}{x:Kd}{e:Kn}{es:JM Kn}{p pos:Mo}{f:FA}{g:JM W->aa->JU (W×aa)}(hc:LCall X (.builtin id) g)(hg:Gl X x)(hm:X.mg x=gV)(hv:bootBuiltins x=ba (.builtin id))(ha:GA X (e::es) f)
  (hn:x≠"__name__") (hdb:(x==("__debug__" : Kd))=false) (hs:starEach (e::es) X.env=(false,eval e X.env)::starEach es X.env) (hpl:(backTo pos (starEach es X.env)).any (·.1)=false):GE X (.Call (.Name x p) (e::es) [] pos) (kz g f):=
 GE.of (qv hc.callr hg hm hv ha hn hdb hs hpl) λσ H A ρ S w S' er so e Q hq=>oz er so e Q hq
theorem rn {id:Lv}{x:Kd}{e:Kn}{es:JM Kn}{p pos:Mo}{f:FA}{g:JM W->aa->JU (W×aa)}(hc:LCall X (.type id) g)(hg:Gl X x)(hm:X.mg x=gV)(hv:bootBuiltins x=ba (.type id))(ha:GA X (e::es) f)
  (hn:x≠"__name__") (hdb:(x==("__debug__" : Kd))=false) (hs:starEach (e::es) X.env=(false,eval e X.env)::starEach es X.env) (hpl:(backTo pos (starEach es X.env)).any (·.1)=false):GE X (.Call (.Name x p) (e::es) [] pos) (kz g f):=
 GE.of (vP hc.callr hg hm hv ha hn hdb hs hpl) λσ H A ρ S w S' er so e Q hq=>oz er so e Q hq
end
noncomputable def tyOk (T:Lv)(S:aa):W->Kt
 | .str _=>T == "str"
 | .ref i=>(T == "list" && (iO S i).isSome)||(T == "dict" && (kn S i).isSome)
 | _=>false
noncomputable def FH (T:Lv)(g:W->JM W->aa->JU (W×aa))(fo:FE)(f:FA):FE:=λρ S=>match fo ρ S with
 | some (x,S1)=>if tyOk T S1 x then match f ρ S1 with
  | some (ws,S2)=>g x ws S2
  | none=>gV
  else gV
 | none=>gV
noncomputable def IE (fa fb:FE):FE:=BN sG fa fb
noncomputable abbrev FO:=Fm->aa->JU (JU J5×aa)
noncomputable def EE:FO:=λ_ S=>ba (gV,S)
noncomputable def uX (f:FE):FO:=λρ S=>match f ρ S with
 | some (.int i,S1)=>ba (ba i,S1)
 | _=>gV
noncomputable def GB (fa:FE)(fl fh:FO):FE:=λρ S=>match fa ρ S with
 | some (x,S1)=>match fl ρ S1 with
  | some (lo,S2)=>match fh ρ S2 with
   | some (hi,S3)=>sU x lo hi S3
   | none=>gV
  | none=>gV
 | none=>gV
section
variable{X:Cx}
theorem tyOk.is {pins:JM (JX×LF)}{σ:L2.St}{s:JS}{A:JM JX}{H:Hp}{S:aa}{T:Lv}{x:W}{a:V}{v:JP}(I:Inv X pins σ H s)(so:StoreOk X.w X.K A H S)(r:Rel X.K A H x a)(rv:RelV a v)(h:tyOk T S x=true) :
  s.TypeIs v T/\∀b,v=.ref b->∃ob,s.heap.get? b=ba ob/\ob.dict=gV:=by
 cases r with
 | str=>exact xW I rv (show Ix X.K T (.str _) H from eq_of_beq h)
 | ref ea=>
  simp only[tyOk,LM,JV]at h;rcases h with⟨h1,h2⟩|⟨h1,h2⟩
  ·obtain⟨xs,hx⟩:=K1.mp h2;obtain⟨vs,h3,_⟩:=cX so hx ea;exact xW I rv (show Ix X.K T (.ref _) H from .inl ⟨eq_of_beq h1,vs,h3⟩)
  ·obtain⟨kvs,hx⟩:=K1.mp h2;obtain⟨xs,rd,_⟩:=gv so hx ea;obtain⟨_,_,_,o,es,ep,q1,q2,q3,q4⟩:=da I rd;have e:=eq_of_beq h1;subst e;obtain rfl:v=KI _:=rv;exact⟨⟨o,q1,q2.1⟩,λb e=>by cases e; exact⟨o,q1,q2.2.1⟩⟩
 | _=>cases h
theorem rq {o e:Kn}{es:JM Kn}{name:Kd}{apos cpos:Mo}{T id:Lv}{g:W->JM W->aa->JU (W×aa)}{fo:FE}{f:FA}(pa:PlainAttrs T)(slot:Slot T name id)(hty:typeOf (.builtin id)=pure (.type "method_descriptor"))(hm:LMeth X id g)
  (ho:GE X o fo) (ha:GA X (e::es) f) (hbase:attributeBase o name X.env (eval o X.env)=eval o X.env)
  (hfew:((backTo cpos (starEach (e::es) X.env)).all (λx=>!x.1)&&(backToKw cpos (keywordEach [] X.env)).all (λx=>x.1.isSome)
   && decide ((e::es).length+([]:JM Rl).length+(if ([]:JM Rl).isEmpty then 0 else 1) < 30))=true)
  (hline:(apos.endLine==cpos.line)=true) (hs:starEach (e::es) X.env=(false,eval e X.env)::starEach es X.env) (hplain:(backTo cpos (starEach es X.env)).any (·.1)=false) :
  GE X (.Call (.Attribute o name apos) (e::es) [] cpos) (FH T g fo f):=by
 intro pins s σ H Q I ⟨A,ρ,S,w,S',er,so,e,hq⟩;unfold FH at e;split at e
 ·rename_i x S1 h1;split at e
  ·rename_i ht;split at e
   ·rename_i ws S2 h2;refine wpAny_Call_method_late hbase hfew hline rfl (b7 (ho pins s σ H (EndV X.w X.K A H S1 x) I ⟨A,ρ,S,_,_,er,so,h1,λ_ _ z=>z⟩) λv s1 ⟨a,H1,I1,r1,A1,e1,o1,z1⟩=>?_)
    obtain⟨t1,t2⟩:=tyOk.is I1 o1 z1 r1 ht;refine⟨T,id,pa,slot,hty,t1,t2,?_⟩;have hA:=ha cpos pins s1 σ H1 (Et X A1 H1 S2 ws) I1 ⟨A1,ρ,S1,ws,S2,er.mono e1,o1,h2,λ_ _ z=>z⟩
    rw[hs]at hA ⊢;refine Calls.callWith_builtin (by show(false||(backTo cpos (starEach es X.env)).any (·.1))=false; rw[hplain] <;> rfl) (Calls.evalArgs_plain ?_)
    refine b7 hA λus s2 ⟨vs,H2,I2,r2,A2,e2,o2,z2⟩=>?_
    refine b7 (hm pins s2 σ H2 A2 S2 x a v ws vs us w S' I2 o2 (z1.mono e2) r1 z2 r2 e) λu' s' ⟨v',H',A',I',r',e3,o3,z3⟩=>?_
    exact⟨v',H',I',r',hq v' H' ⟨A',(e1.trans e2).trans e3,o3,z3⟩⟩
   ·cases e
  ·cases e
 ·cases e
theorem LIx.ixr {g:W->W->aa->JU (W×aa)}(h:LIx X g):IxR X (λa b H Q=>∃A S x y w S',StoreOk X.w X.K A H S/\Rel X.K A H x a/\Rel X.K A H y b/\g x y S=ba (w,S')/\∀v H',EndV X.w X.K A H S' w v H'->Q v H'):=by
 intro value slice pins s σ H a b u v Q I ru rv ⟨A,S,x,y,w,S',so,rx,ry,e,hq⟩ hs;exact b7 (h value slice pins s σ H A S x y a b u v w S' I so rx ru ry rv e hs) λu' s' ⟨v',H',A',I',r',e1,o1,z1⟩=>⟨v',H',I',r',hq v' H' ⟨A',e1,o1,z1⟩⟩
theorem GC {a b:Kn}{pos:Mo}{fa fb:FE}(hu:X.A.units+10 < cLine)(ha:GE X a fa)(hb:GE X b fb)(hs:oW b):GE X (.Subscript a b pos) (IE fa fb):=
 GE.of (Gj (IC hu).ixr ha hb hs) λσ H A ρ S w S' er so e Q hq=>by
  obtain⟨x,S1,y,S2,h1,h2,h3⟩:=HG e;exact i5 er so h1 h2 λa b H2 A2 e2 o2 r1 r2=>⟨A2,S2,x,y,w,S',o2,r1,r2,h3,λv H' z=>hq v H' (z.after e2)⟩
noncomputable def tO (X:Cx)(f:FO):TO:=λσ H Q=>∃A ρ S k S',EnvRel X.K A H ρ σ/\StoreOk X.w X.K A H S/\f ρ S=ba (k,S')/\∀H' A',Ext X.K A H A' H'->StoreOk X.w X.K A' H' S'->Q k H'
noncomputable abbrev GO (X:Cx)(e:JU Kn)(f:FO):Prop:=PO X e (tO X f)
theorem BW:GO X gV EE:=λpins s σ H Q I ⟨A,ρ,S,k,S',er,so,e,hq⟩=>by
 cases e;exact Bj pins s σ H Q I (hq H A .refl so)
theorem BX {e:Kn}{f:FE}(h:GE X e f):GO X (ba e) (uX f):=λpins s σ H Q I ⟨A,ρ,S,k,S',er,so,e,hq⟩=>by
 unfold uX at e;split at e
 ·rename_i i S1 h1;cases e;refine Bk h pins s σ H Q I ⟨A,ρ,S,_,_,er,so,h1,λv H1 ⟨A1,z1,z2,z3⟩=>?_⟩
  cases z3;exact⟨i,rfl,hq H1 A1 z1 z2⟩
 ·cases e
theorem LSl.slr {g:W->JU J5->JU J5->aa->JU (W×aa)}(h:LSl X g):Gi X (λa lo hi H Q=>∃A S x w S',StoreOk X.w X.K A H S/\Rel X.K A H x a/\g x lo hi S=ba (w,S')/\∀v H',EndV X.w X.K A H S' w v H'->Q v H'):=by
 intro pins s σ H a v vl vu lo hi sl Q I rv hs pl pu ⟨A,S,x,w,S',so,rx,e,hq⟩;obtain⟨T,id,h1,h2,h3⟩:=h pins s σ H A S x a v vl vu lo hi sl w S' I so rx rv hs pl pu e;exact⟨T,id,h1,h2,b7 h3 λu' s' ⟨v',H',A',I',r',e1,o1,z1⟩=>⟨v',H',I',r',hq v' H' ⟨A',e1,o1,z1⟩⟩⟩
theorem GD {a:Kn}{lo hi:JU Kn}{p2 pos:Mo}{fa:FE}{fl fh:FO}(ha:GE X a fa)(hl:GO X lo fl)(hh:GO X hi fh):GE X (.Subscript a (.Slice lo hi gV p2) pos) (GB fa fl fh):=
 GE.of (xT JF.slr ha hl hh) λσ H A ρ S w S' er so e Q hq=>by
  unfold GB at e;split at e
  ·rename_i x S1 h1;split at e
   ·rename_i l S2 h2;split at e
    ·rename_i h S3 h3;refine⟨A,ρ,S,x,S1,er,so,h1,λv H1 ⟨A1,z1,z2,z3⟩=>?_⟩
     refine⟨A1,ρ,S1,l,S2,er.mono z1,z2,h2,λH2 A2 y1 y2=>?_⟩
     refine⟨A2,ρ,S2,h,S3,er.mono (z1.trans y1),y2,h3,λH3 A3 x1 x2=>?_⟩
     exact⟨A3,S3,x,w,S',x2,(z3.mono y1).mono x1,e,λv H' q=>hq v H' (q.after ((z1.trans y1).trans x1))⟩
    ·cases e
   ·cases e
  ·cases e
noncomputable abbrev FF:=JM W->aa->JU (W×aa)
noncomputable def y9 (wd:KO)(K:J2)(n:JW)(g:FF):Sp:=λvs H Q _=>∃A S ws w S',StoreOk wd K A H S/\RelL K A H ws vs/\ws.length=n/\g ws S=ba (w,S')/\∀v H',EndV wd K A H S' w v H'->Q v H'
noncomputable def rz (n:JW)(g:FF)(f:FA):FE:=λρ S=>match f ρ S with
 | some (ws,S1)=>if ws.length=n then g ws S1 else gV
 | none=>gV
theorem rA {n:JW}{g:FF}{f:FA}{σ:L2.St}{H:Hp}{A:JM JX}{ρ:Fm}{S:aa}{w:W}{S':aa}{E:XK}(er:EnvRel X.K A H ρ σ)(so:StoreOk X.w X.K A H S)(e:rz n g f ρ S=ba (w,S'))(Q:VK)(hq:∀v H',EndV X.w X.K A H S' w v H'->Q v H') :
  xP (y9 X.w X.K n g) [] E (tA X f) σ H Q:=by
 unfold rz at e;split at e
 ·rename_i ws S1 h1;split at e
  ·rename_i hl;refine⟨A,ρ,S,ws,S1,er,so,h1,λvs H1 ⟨A1,z1,z2,z3⟩=>?_⟩
   show y9 X.w X.K n g (vs++[]) H1 Q E;rw[LK];exact⟨A1,S1,ws,w,S',z2,z3,hl,e,λv H' q=>hq v H' (q.after z1)⟩
  ·cases e
 ·cases e
theorem EF {k n:JW}{fa:JX}{fd:Mp}{ps:JM Kd}{g:FF}{x:Kd}{e:Kn}{es:JM Kn}{p pos:Mo}{f:FA}(F:FnOk X.prog X.w X.K X.mg X.base xy k fa fd ps (y9 X.w X.K n g))(hr:Room k X.A)(hg:Gl X x)(hm:X.mg x=ba (.ref fa))(hk:LC X.K (.ref fa)=true)
  (hb:Binds X.K fd ps []) (ha:GA X (e::es) f) (hdb:(x==("__debug__" : Kd))=false) (he:starEach (e::es) X.env=(false,eval e X.env)::starEach es X.env) (hpl:(backTo pos (starEach es X.env)).any (·.1)=false) :
  GE X (.Call (.Name x p) (e::es) [] pos) (rz n g f):=
 GE.of (Bf F hr hg hm hk hb .nil C6 ha hdb he hpl) λσ H A ρ S w S' er so e Q hq=>rA er so e Q hq
theorem BY {k n:JW}{fa:JX}{fd:Mp}{ps:JM Kd}{g:FF}{x:Kd}{p pos:Mo}(F:FnOk X.prog X.w X.K X.mg X.base xy k fa fd ps (y9 X.w X.K n g))(hr:Room k X.A)(hg:Gl X x)(hm:X.mg x=ba (.ref fa))(hk:LC X.K (.ref fa)=true)
  (hb:Binds X.K fd ps []) (hdb:(x==("__debug__" : Kd))=false):GE X (.Call (.Name x p) [] [] pos) (rz n g jC):=
 GE.of (xR F hr hg hm hk hb .nil C6 hdb) λσ H A ρ S w S' er so e Q hq=>by
  obtain⟨A1,S1,ws,w1,S1',a1,a2,a3,a4,a5⟩:=rA (f:=jC) (E:=E0) er so e Q hq |> λ⟨A,ρ,S,ws,S',b1,b2,b3,b4⟩=>b4 [] H (by cases b3; exact⟨A,.refl,b2,.nil⟩)
  exact⟨A1,S1,ws,w1,S1',a1,a2,a3,a4,a5⟩
theorem BZ:GSs X [] (λρ S=>ba (.nx ρ,S)):=GSs.of AX λσ H A ρ S o S' er so e D hd=>by cases e; exact hd.nx _ _ ⟨ρ,A,rfl,.refl,so,er⟩
noncomputable def B0 (f g:FS):FS:=λρ S=>match f ρ S with
 | some (.nx ρ',S1)=>g ρ' S1
 | some (.rt w,S1)=>ba (.rt w,S1)
 | some (.bk ρ',S1)=>ba (.bk ρ',S1)
 | some (.ct ρ',S1)=>ba (.ct ρ',S1)
 | none=>gV
theorem zb {st:MC}{sts:JM MC}{f g:FS}(h:GS X st f)(h2:GSs X sts g):GSs X (st::sts) (B0 f g):=GSs.of (xI h h2) λσ H A ρ S o S' er so e D hd=>by
 unfold B0 at e;split at e
 ·rename_i ρ1 S1 h1;refine⟨A,ρ,S,_,_,er,so,h1,⟨λσ' H' ⟨ρ',A',e1,e2,e3,e4⟩=>?_,λv H' ⟨w,A',e1,_⟩=>(by cases e1),λv H' ⟨w,A',e1,_⟩=>(by cases e1),λv H' ⟨w,A',e1,_⟩=>(by cases e1)⟩⟩
  cases e1;exact⟨A',_,S1,o,S',e4,e3,e,(EndS.after e2).trans hd⟩
 ·rename_i w S1 h1;cases e;exact⟨A,ρ,S,_,_,er,so,h1,⟨λσ' H' ⟨w,A',e1,_⟩=>(by cases e1),hd.rt,hd.bk,hd.ct⟩⟩
 ·rename_i w S1 h1;cases e;exact⟨A,ρ,S,_,_,er,so,h1,⟨λσ' H' ⟨w,A',e1,_⟩=>(by cases e1),hd.rt,hd.bk,hd.ct⟩⟩
 ·rename_i w S1 h1;cases e;exact⟨A,ρ,S,_,_,er,so,h1,⟨λσ' H' ⟨w,A',e1,_⟩=>(by cases e1),hd.rt,hd.bk,hd.ct⟩⟩
 ·cases e
noncomputable def B1 (f:FE):FS:=λρ S=>match f ρ S with
 | some (_,S1)=>ba (.nx ρ,S1)
 | none=>gV
theorem GF {e:Kn}{pos:Mo}{f:FE}(h:GE X e f)(hs:swapsWith e gV pos.line X.env=pure false):GS X (.Expr e pos) (B1 f):=GS.of (AZ h hs) λσ H A ρ S o S' er so e D hd=>by
 unfold B1 at e;split at e
 ·rename_i w S1 h1;cases e;exact⟨A,ρ,S,w,_,er,so,h1,λv H1 ⟨A1,z1,z2,z3⟩=>hd.nx _ _ ⟨ρ,A1,rfl,z1,z2,er.mono z1⟩⟩
 ·cases e
noncomputable def zd:FS:=λρ S=>ba (.nx ρ,S)
theorem EG {x:Kd}{j:JW}{pos pos':Mo}:GS X (.Expr (.Constant (.str x) j pos) pos') zd:=GS.of DK λσ H A ρ S o S' er so e D hd=>by cases e; exact hd.nx _ _ ⟨ρ,A,rfl,.refl,so,er⟩
theorem B2 {pos:Mo}:GS X (.Pass pos) zd:=GS.of AY λσ H A ρ S o S' er so e D hd=>by cases e; exact hd.nx _ _ ⟨ρ,A,rfl,.refl,so,er⟩
theorem ze {pos:Mo}:GS X (.Break pos) (λρ S=>ba (.bk ρ,S)):=GS.of xJ λσ H A ρ S o S' er so e D hd=>by cases e; exact hd.bk _ _ ⟨ρ,A,rfl,.refl,so,er⟩
theorem B3 {pos:Mo}:GS X (.Continue pos) (λρ S=>ba (.ct ρ,S)):=GS.of qr λσ H A ρ S o S' er so e D hd=>by cases e; exact hd.ct _ _ ⟨ρ,A,rfl,.refl,so,er⟩
noncomputable def B4 (f:FE):FS:=λρ S=>match f ρ S with
 | some (w,S1)=>ba (.rt w,S1)
 | none=>gV
theorem EH {e:Kn}{pos:Mo}{f:FE}(h:GE X e f):GS X (.Return (ba e) pos) (B4 f):=GS.of (DL h) λσ H A ρ S o S' er so e D hd=>by
 unfold B4 at e;split at e
 ·rename_i w S1 h1;cases e;exact⟨A,ρ,S,w,_,er,so,h1,λv H1 ⟨A1,z1,z2,z3⟩=>hd.rt _ _ ⟨w,A1,rfl,z1,z2,z3⟩⟩
 ·cases e
theorem B5 {pos:Mo}:GS X (.Return gV pos) (λρ S=>ba (.rt .non,S)):=GS.of A6 λσ H A ρ S o S' er so e D hd=>by cases e; exact hd.rt _ _ ⟨_,A,rfl,.refl,so,.non⟩
noncomputable def B6 (c:FT)(f g:FS):FS:=λρ S=>match c ρ S with
 | some (true,S1)=>f ρ S1
 | some (false,S1)=>g ρ S1
 | none=>gV
theorem GH {c:Kn}{a b:JM MC}{pos:Mo}{fc:FT}{f g:FS}(hc:GT X c fc)(ha:GSs X a f)(hb:GSs X b g):GS X (.If c a b pos) (B6 fc f g):=GS.of (F0 hc ha hb) λσ H A ρ S o S' er so e D hd=>by
 unfold B6 at e;split at e
 ·rename_i S1 h1;refine⟨A,ρ,S,_,S1,er,so,h1,λb H1 ⟨z0,A1,z1,z2⟩=>?_⟩
  subst z0;rw[Ko rfl];exact⟨A1,ρ,S1,o,S',er.mono z1,z2,e,(EndS.after z1).trans hd⟩
 ·rename_i S1 h1;refine⟨A,ρ,S,_,S1,er,so,h1,λb H1 ⟨z0,A1,z1,z2⟩=>?_⟩
  subst z0;rw[Kw Kr];exact⟨A1,ρ,S1,o,S',er.mono z1,z2,e,(EndS.after z1).trans hd⟩
 ·cases e
noncomputable abbrev FG:=W->Fm->aa->JU (Fm×aa)
noncomputable def tG (X:Cx)(f:FG):TG:=λv σ H Q=>∃A ρ S w ρ' S',EnvRel X.K A H ρ σ/\StoreOk X.w X.K A H S/\Rel X.K A H w v/\f w ρ S=ba (ρ',S')/\∀σ' H' A',Ext X.K A H A' H'->StoreOk X.w X.K A' H' S'->EnvRel X.K A' H' ρ' σ'->Q σ' H'
noncomputable abbrev GG (X:Cx)(tg:Kn)(f:FG):Prop:=PG X tg (tG X f)
noncomputable def B7 (i:JW):FG:=λw ρ S=>ba (ρ.set i (ba w),S)
theorem uY {i:JW}{x:Kd}{pos:Mo}(hN:X.N.Nodup)(hi:X.N[i]?=ba x)(hx:AU X.env.scope x)(hf:X.fn x=true\/X.env.scope.names.lookup x=ba .local):GG X (.Name x pos) (B7 i):=by
 intro pins s σ H v u Q I r ⟨A,ρ,S,w,ρ',S',er,so,rw',e,hq⟩;cases e;exact uj hN hi hx hf pins s σ H v u Q I r (hq _ _ A .refl so (er.set rw' i))
noncomputable def eR:JM JW->JM W->Fm->JU Fm
 | [],[],ρ=>ba ρ
 | i::is,w::ws,ρ=>eR is ws (ρ.set i (ba w))
 | _,_,_=>gV
noncomputable def FJ (is:JM JW):FG:=λw ρ S=>match w with
 | .tup ws=>(eR is ws ρ).map λρ'=>(ρ',S)
 | _=>gV
theorem wD:∀ {ts:JM Kn} {is:JM JW},(∀x∈ts,∃y p,x=.Name y p)->O1 (λ(t:Kn) (i:JW)=>∃x p,t=PQ x p/\X.N[i]?=ba x/\AU X.env.scope x/\(X.fn x=true\/X.env.scope.names.lookup x=ba .local)) ts is->X.N.Nodup->
  F1 X ts (λvs σ H Q=>∃A ρ ws ρ' S,EnvRel X.K A H ρ σ/\StoreOk X.w X.K A H S/\RelL X.K A H ws vs/\eR is ws ρ=ba ρ'/\∀σ',EnvRel X.K A H ρ' σ'->Q σ' H):=by
 intro ts
 induction ts with
 | nil=>
  intro is _ h hN;cases h;intro pins s σ H vs us Q I r ⟨A,ρ,ws,ρ',S,er,so,rl,e,hq⟩;cases rl with
  | nil=>cases e; exact A7 pins s σ H [] us Q I r ⟨rfl,hq _ er⟩
  | cons _ _=>cases e
 | cons t ts ih=>
  intro is hs h hN;cases h with
  | cons h1 h2=>
   obtain⟨x,p,rfl,hi,hl,hf⟩:=h1;have:=ih (λy hy=>hs y (Lm _ hy)) h2 hN
   intro pins s σ H vs us Q I r ⟨A,ρ,ws,ρ',S,er,so,rl,e,hq⟩;cases rl with
   | nil=>cases e
   | cons r1 r2=>
    refine xK (uj hN hi hl hf) this rfl pins s σ H _ us Q I r ⟨_,_,rfl,?_⟩;exact⟨A,_,_,ρ',S,er.set r1 _,so,r2,e,hq⟩
theorem EI {ts:JM Kn}{is:JM JW}{k:JW}{pos:Mo}(hc:X.calm=true)(hs:∀x∈ts,∃y p,x=.Name y p)(h:O1 (λ(t:Kn) (i:JW)=>∃x p,t=PQ x p/\X.N[i]?=ba x/\AU X.env.scope x/\(X.fn x=true\/X.env.scope.names.lookup x=ba .local)) ts is)(hN:X.N.Nodup)
  (hn:(assignEach ts X.env).length=ts.length) (hst:(assignEach ts X.env).findIdx? (·.1)=gV):GG X (.Tuple ts k pos) (FJ is):=by
 intro pins s σ H v u Q I r ⟨A,ρ,S,w,ρ',S',er,so,rw',e,hq⟩;unfold FJ at e;split at e
 ·rw[JR]at e;obtain⟨ρ1,e1,e2⟩:=e;cases e2;cases rw' with
  | tup h1 r1=>
   have hl:∀(is:JM JW) (ws:JM W) (ρ ρ':Fm),eR is ws ρ=ba ρ'->is.length=ws.length:=by
    intro is
    induction is with
    | nil=>intro ws ρ ρ' e; cases ws <;> first|rfl|cases e
    | cons i is ih=>intro ws ρ ρ' e; cases ws <;> first|cases e|(simp; exact ih _ _ _ e)
   exact DP hc (wD hs h hN) hn hst pins s σ H _ u Q I r ⟨_,_,rfl,h1,by rw[<- r1.length,<- hl _ _ _ _ e1,<- OO h],A,ρ,_,_,_,er,so,r1,e1,λσ' z=>hq _ _ A .refl so z⟩
 ·cases e
noncomputable def B8 (fo fi:FE):FG:=λw ρ S=>match fo ρ S with
 | some (o,S1)=>match fi ρ S1 with
  | some (i,S2)=>match iZ o i w S2 with
   | some S3=>ba (ρ,S3)
   | none=>gV
  | none=>gV
 | none=>gV
theorem LSet.pset {g:W->W->W->aa->JU aa}(h:LSet X g):DO X (λao ai av H Q=>∃A S o i w S',StoreOk X.w X.K A H S/\Rel X.K A H o ao/\Rel X.K A H i ai/\Rel X.K A H w av/\g o i w S=ba S'/\∀H' A',Ext X.K A H A' H'->StoreOk X.w X.K A' H' S'->Q H'):=by
 intro pins s σ H ao ai av uo ui uv Q I ro ri rv ⟨A,S,o,i,w,S',so,r1,r2,r3,e,hq⟩;exact b7 (h pins s σ H A S o i w ao ai av uo ui uv S' I so r1 ro r2 ri r3 rv e) λ_ s' ⟨H',A',I',e1,o1⟩=>⟨H',I',hq H' A' e1 o1⟩
theorem EJ {o i:Kn}{pos:Mo}{fo fi:FE}(hu:X.A.units+10 < cLine)(ho:GE X o fo)(hi:GE X i fi)(ha:∀v,assign (.Subscript o i pos) X.env v=(do
   let ov <- holding [v] (eval o X.env)
   let iv <- holding [v,ov] (eval i X.env)
   standAt pos
   holding [v,ov,iv] (setItem ov iv v)
   release [v,ov,iv] [])):GG X (.Subscript o i pos) (B8 fo fi):=by
 intro pins s σ H v u Q I r ⟨A,ρ,S,w,ρ',S',er,so,rw',e,hq⟩;unfold B8 at e;split at e
 ·rename_i o' S1 h1;split at e
  ·rename_i i' S2 h2;split at e
   ·rename_i S3 h3;cases e;refine DQ ho hi (Gs hu).pset ha pins s σ H v u Q I r ?_;refine⟨A,ρ,S,o',S1,er,so,h1,λa H1 ⟨A1,e1,o1,r1⟩=>?_⟩
    refine⟨A1,ρ,S1,i',S2,er.mono e1,o1,h2,λb H2 ⟨A2,e2,o2,r2⟩=>?_⟩
    exact⟨A2,S2,o',i',w,_,o2,r1.mono e2,r2,rw'.mono (e1.trans e2),h3,λH' A' z1 z2=>hq σ H' A' ((e1.trans e2).trans z1) z2 (er.mono ((e1.trans e2).trans z1))⟩
   ·cases e
  ·cases e
 ·cases e
noncomputable def lS (f:FE)(g:FG):FS:=λρ S=>match f ρ S with
 | some (w,S1)=>match g w ρ S1 with
  | some (ρ',S2)=>ba (.nx ρ',S2)
  | none=>gV
 | none=>gV
theorem tL {tg e:Kn}{pos:Mo}{f:FE}{g:FG}(h:GE X e f)(hg:GG X tg g)(hs:swapsWithSole [tg] e pos.line X.env=pure false)(hw:swappedStores [tg] e X.env=pure gV)(h1:(assignEach [tg] X.env).map (·.2)=[assign tg X.env]) :
  GS X (.Assign [tg] e pos) (lS f g):=GS.of (DR h hg hs hw h1) λσ H A ρ S o S' er so e D hd=>by
 unfold lS at e;split at e
 ·rename_i w S1 h1;split at e
  ·rename_i ρ1 S2 h2;cases e;refine⟨A,ρ,S,w,S1,er,so,h1,λv H1 ⟨A1,z1,z2,z3⟩=>?_⟩
   exact⟨A1,ρ,S1,w,ρ1,_,er.mono z1,z2,z3,h2,λσ' H' A' y1 y2 y3=>hd.nx _ _ ⟨ρ1,A',rfl,z1.trans y1,y2,y3⟩⟩
  ·cases e
 ·cases e
noncomputable def B9 (i j:JW)(f:FA):FS:=λρ S=>match f ρ S with
 | some ([x,y],S1)=>ba (.nx ((ρ.set i (ba x)).set j (ba y)),S1)
 | _=>gV
theorem EK {i j:JW}{x y:Kd}{a b:Kn}{f:FA}{px py pt pos:Mo}{kt k2:JW}{pt2:Mo}(hc:X.calm=true)(hN:X.N.Nodup)(hi:X.N[i]?=ba x)(hj:X.N[j]?=ba y)(hij:i≠j)
  (hx:X.env.scope.names.lookup x=ba .local) (hy:X.env.scope.names.lookup y=ba .local) (ha:GA X [a,b] f)
  (hw:swappedStores [.Tuple [.Name x px,.Name y py] kt pt] (.Tuple [a,b] k2 pt2) X.env=pure (ba [x,y]))
  (hs:swapsWithSole [.Tuple [.Name x px,.Name y py] kt pt] (.Tuple [a,b] k2 pt2) pos.line X.env=pure false) :
  GS X (.Assign [.Tuple [.Name x px,.Name y py] kt pt] (.Tuple [a,b] k2 pt2) pos) (B9 i j f):=GS.of (DS hc hN hi hj hij hx hy ha hw hs) λσ H A ρ S o S' er so e D hd=>by
 unfold B9 at e;split at e
 ·rename_i x y S1 h1;cases e;refine⟨A,ρ,S,_,_,er,so,h1,λvs H1 ⟨A1,z1,z2,z3⟩=>?_⟩
  cases z3 with
  | cons r1 t=>
   cases t with
   | cons r2 t=>
    cases t;exact⟨_,_,rfl,hd.nx _ _ ⟨_,A1,rfl,z1,z2,((er.mono z1).set r1 i).set r2 j⟩⟩
 ·cases e
noncomputable def pB (c:FT)(b:FS):JW->FS
 | 0,_,_=>gV
 | n+1,ρ,S=>match c ρ S with
  | some (true,S1)=>match b ρ S1 with
   | some (.nx ρ',S2)=>pB c b n ρ' S2
   | some (.ct ρ',S2)=>pB c b n ρ' S2
   | some (.bk ρ',S2)=>ba (.nx ρ',S2)
   | some (.rt w,S2)=>ba (.rt w,S2)
   | none=>gV
  | some (false,S1)=>ba (.nx ρ,S1)
  | none=>gV
theorem zf {c:Kn}{body:JM MC}{pos:Mo}{fc:FT}{fb:FS}(n:JW)(hp:PP (model X.prog X.w) X.A X.env X.xe)(hc:GT X c fc)(hb:GSs X body fb):GS X (.While c body [] pos) (pB fc fb n):=GS.of (xL hp hc hb) λσ H A ρ S o S' er so e D hd=>by
 refine⟨λm σ1 H1=>∃A1 ρ1 S1,Ext X.K A H A1 H1/\EnvRel X.K A1 H1 ρ1 σ1/\StoreOk X.w X.K A1 H1 S1/\pB fc fb m ρ1 S1=ba (o,S'),⟨n,A,ρ,S,.refl,er,so,e⟩,?_⟩
 rintro m σ1 H1 ⟨A1,ρ1,S1,e1,er1,so1,w1⟩;cases m with
 | zero=>cases w1
 | succ m=>
  simp only[pB]at w1;split at w1
  ·rename_i S2 h1;refine⟨A1,ρ1,S1,_,S2,er1,so1,h1,λb H2 ⟨z0,A2,z1,z2⟩=>?_⟩
   subst z0;rw[Ko rfl];refine⟨λσ3 H3=>∃A3 ρ3 S3,Ext X.K A H A3 H3/\EnvRel X.K A3 H3 ρ3 σ3/\StoreOk X.w X.K A3 H3 S3/\pB fc fb m ρ3 S3=ba (o,S'),λσ' H' h=>⟨m,Ll _,h⟩,?_⟩
   split at w1
   ·rename_i ρ3 S3 h3;refine⟨A2,ρ1,S2,_,S3,er1.mono z1,z2,h3,⟨λσ' H' ⟨ρ',A',y0,y1,y2,y3⟩=>?_,λv H' ⟨w,A',y0,_⟩=>(by cases y0),λv H' ⟨w,A',y0,_⟩=>(by cases y0),λv H' ⟨w,A',y0,_⟩=>(by cases y0)⟩⟩
    cases y0;exact⟨A',_,S3,(e1.trans z1).trans y1,y3,y2,w1⟩
   ·rename_i ρ3 S3 h3;refine⟨A2,ρ1,S2,_,S3,er1.mono z1,z2,h3,⟨λv H' ⟨w,A',y0,_⟩=>(by cases y0),λv H' ⟨w,A',y0,_⟩=>(by cases y0),λv H' ⟨w,A',y0,_⟩=>(by cases y0),λσ' H' ⟨ρ',A',y0,y1,y2,y3⟩=>?_⟩⟩
    cases y0;exact⟨A',_,S3,(e1.trans z1).trans y1,y3,y2,w1⟩
   ·rename_i ρ3 S3 h3;cases w1;refine⟨A2,ρ1,S2,_,_,er1.mono z1,z2,h3,⟨λv H' ⟨w,A',y0,_⟩=>(by cases y0),λv H' ⟨w,A',y0,_⟩=>(by cases y0),λσ' H' ⟨ρ',A',y0,y1,y2,y3⟩=>?_,λv H' ⟨w,A',y0,_⟩=>(by cases y0)⟩⟩
    cases y0;exact hd.nx _ _ ⟨_,A',rfl,(e1.trans z1).trans y1,y2,y3⟩
   ·rename_i w3 S3 h3;cases w1;refine⟨A2,ρ1,S2,_,_,er1.mono z1,z2,h3,⟨λv H' ⟨w,A',y0,_⟩=>(by cases y0),λv H' ⟨w,A',y0,y1,y2,y3⟩=>?_,λv H' ⟨w,A',y0,_⟩=>(by cases y0),λv H' ⟨w,A',y0,_⟩=>(by cases y0)⟩⟩
    cases y0;exact hd.rt _ _ ⟨_,A',rfl,(e1.trans z1).trans y1,y2,y3⟩
   ·cases w1
  ·rename_i S2 h1;cases w1;refine⟨A1,ρ1,S1,_,_,er1,so1,h1,λb H2 ⟨z0,A2,z1,z2⟩=>?_⟩
   subst z0;rw[Kw Kr];exact hd.nx _ _ ⟨_,A2,rfl,e1.trans z1,z2,er1.mono z1⟩
  ·cases w1
end
set_option genInjectivity false in
inductive MI where
 | its (ws:JM W)
 | live (r:JW)
noncomputable def MI.at (S:aa)(i:JW):MI->JU (JU W)
 | .its ws=>ba ws[i]?
 | .live r=>match iO S r with
  | some xs=>ba xs[i]?
  | none=>gV
noncomputable def MI.len (S:aa):MI->JU JW
 | .its ws=>ba ws.length
 | .live r=>(iO S r).map (·.length)
noncomputable abbrev FI:=Fm->aa->JU (MI×aa)
structure MIt (wd:KO)(K:J2)(mi:MI)(J:It)(A0:JM JX)(H0:Hp):Prop where
 go:∀A H S i w,Ext K A0 H0 A H->StoreOk wd K A H S->mi.at S i=ba (ba w)->J.go i H/\∀x H',J.yld i H x H'->Ext K A H A H'/\StoreOk wd K A H' S/\Rel K A H' w x
 stop:∀A H S i,Ext K A0 H0 A H->StoreOk wd K A H S->mi.at S i=ba gV->J.stop i H
noncomputable def tI (X:Cx)(f:FI):TI:=λσ H R=>∃A ρ S mi S',EnvRel X.K A H ρ σ/\StoreOk X.w X.K A H S/\f ρ S=ba (mi,S')/\∀J H' A',Ext X.K A H A' H'->StoreOk X.w X.K A' H' S'->MIt X.w X.K mi J A' H'->R J H'
noncomputable abbrev GI (X:Cx)(tg iter:Kn)(f:FI):Prop:=PI X tg iter (tI X f)
noncomputable def Cb (f:FE):FI:=λρ S=>match f ρ S with
 | some (.tup ws,S1)=>ba (.its ws,S1)
 | some (.ref r,S1)=>match iO S1 r with
  | some _=>ba (.live r,S1)
  | none=>gV
 | _=>gV
noncomputable def dE (lo:J5)(n:JW):JM W:=(Ky n).map λ(k:JW)=>.int (lo+(k:J5))
noncomputable def tM (f:FA):FI:=λρ S=>match f ρ S with
 | some ([.int j],S1)=>if -(2 ^ 62)<=j/\j < 2 ^ 62 then ba (.its (dE 0 j.toNat),S1)else gV
 | _=>gV
noncomputable def iRng2 (f:FA):FI:=λρ S=>match f ρ S with
 | some ([.int i,.int j],S1)=>if -(2 ^ 62)<=i/\i < 2 ^ 62/\-(2 ^ 62)<=j/\j < 2 ^ 62 then ba (.its (dE i (j - i).toNat),S1)else gV
 | _=>gV
noncomputable def gw (mi:MI)(g:FG)(b:FS):JW->JW->FS
 | 0,i,ρ,S=>match mi.at S i with
  | some gV=>ba (.nx ρ,S)
  | _=>gV
 | n+1,i,ρ,S=>match mi.at S i with
  | some (ba w)=>match g w ρ S with
   | some (ρ1,S1)=>match b ρ1 S1 with
    | some (.nx ρ2,S2)=>gw mi g b n (i+1) ρ2 S2
    | some (.ct ρ2,S2)=>gw mi g b n (i+1) ρ2 S2
    | some (.bk ρ2,S2)=>ba (.nx ρ2,S2)
    | some (.rt w,S2)=>ba (.rt w,S2)
    | none=>gV
   | none=>gV
  | _=>gV
noncomputable def zh (fi:FI)(g:FG)(b:FS):FS:=λρ S=>match fi ρ S with
 | some (mi,S1)=>match mi.len S1 with
  | some n=>gw mi g b n 0 ρ S1
  | none=>gV
 | none=>gV
section
variable{X:Cx}
theorem Cc {A:JM JX}{H:Hp}{ws:JM W}{a:JX}{vs:JM V}(h:SqT X.K H a vs)(r:RelL X.K A H ws vs):MIt X.w X.K (.its ws) (Fz X.K a) A H:=by
 refine⟨λA' H' S i w e so hi=>?_,λA' H' S i e so hi=>?_⟩
 ·simp only[MI.at,KM]at hi;obtain⟨v,h1,h2⟩:=(r.mono e).get hi;refine⟨⟨vs,v,e.tp _ _ h,h1⟩,λx H2 ⟨z1,z2⟩=>?_⟩
  subst z1;have:=z2 vs (e.tp _ _ h);rw[h1]at this; cases this
  exact⟨.refl,so,h2⟩
 ·simp only[MI.at,KM]at hi;refine⟨vs,e.tp _ _ h,?_⟩;rw[<- r.length];exact Lg.mp hi
theorem Cd {A:JM JX}{H:Hp}{r:JW}{a:JX}(ea:A[r]?=ba a):MIt X.w X.K (.live r) (HZ X.K a) A H:=by
 refine⟨λA' H' S i w e so hi=>?_,λA' H' S i e so hi=>?_⟩
 ·simp only[MI.at]at hi;split at hi
  ·rename_i xs hx;simp only[KM]at hi;obtain⟨vs,h1,r1⟩:=cX so hx (e.ad _ _ ea);obtain⟨v,h2,h3⟩:=r1.get hi;refine⟨⟨vs,v,h1,h2⟩,λx H2 ⟨z1,z2⟩=>?_⟩
   subst z1;have:=z2 vs h1;rw[h2]at this; cases this
   exact⟨.refl,so,h3⟩
  ·cases hi
 ·simp only[MI.at]at hi;split at hi
  ·rename_i xs hx;simp only[KM]at hi;obtain⟨vs,h1,r1⟩:=cX so hx (e.ad _ _ ea);refine⟨vs,h1,?_⟩;rw[<- r1.length];exact Lg.mp hi
  ·cases hi
theorem eS {lo:J5}{n i:JW}:(dE lo n)[i]?=if i < n then ba (.int (lo+i))else gV:=by
 unfold dE;rw[JY]
 by_cases h:i < n
 ·rw[Ko h,Mj h]; rfl
 ·rw[Kw h,Lg.mpr (by simp; omega)]; rfl
theorem uZ {A:JM JX}{H:Hp}{lo:J5}{n:JW}:MIt X.w X.K (.its (dE lo n)) (F4 lo n) A H:=by
 refine⟨λA' H' S i w e so hi=>?_,λA' H' S i e so hi=>?_⟩
 ·simp only[MI.at,KM]at hi;rw[eS]at hi;split at hi
  ·cases hi;refine⟨by assumption,λx H2 ⟨z1,z2⟩=>?_⟩
   subst z1 z2;exact⟨.refl,so,.int⟩
  ·cases hi
 ·simp only[MI.at,KM]at hi;rw[eS]at hi;split at hi
  ·cases hi
  ·show n<=i;omega
theorem rB {tg:Kn}{pins:JM (JX×LF)}{σ:L2.St}{H1:Hp}{s1:JS}{R:It->Hp->Prop}{a:JX}{xs:JM V}{v:JP}(I1:Inv X pins σ H1 s1)(r1:RelV (.ref a) v)(hq:SqL X.K H1 a xs)(q:R (HZ X.K a) H1) :
  wpAny (model X.prog X.w) X.A (pyIter v) (HB X pins σ tg R) X.xe s1:=by
 cases r1;obtain⟨its,rv,p,hz⟩:=I1.list hq;refine NK p.isList ?_;refine⟨s1.heap.objs.size,[s1.heap.objs.size],_,_,H1,rfl,I1.kept (t':=s1.toks) λb o e=>JQ _ e,vK a _,⟨_,J9 _ rfl,rfl,rfl⟩,λb hb=>?_,q⟩
 have e:b=s1.heap.objs.size:=by simpa using hb
 subst e;exact I1.fpOk (JZ _) (I1.hok.fresh (JZ _))
theorem tN {tg:Kn}{pins:JM (JX×LF)}{σ:L2.St}{H1:Hp}{s1:JS}{R:It->Hp->Prop}{a:JX}{xs:JM V}{v:JP}(I1:Inv X pins σ H1 s1)(r1:RelV (.ref a) v)(hq:SqT X.K H1 a xs)(q:R (Fz X.K a) H1) :
  wpAny (model X.prog X.w) X.A (pyIter v) (HB X pins σ tg R) X.xe s1:=by
 cases r1;obtain⟨its,rv,p,hz⟩:=I1.tuple hq;refine Qh (show s1.heap.IsTuple a its.toArray from p) ?_
 refine⟨s1.heap.objs.size,[s1.heap.objs.size],_,_,H1,rfl,I1.kept (t':=s1.toks) λb o e=>JQ _ e,sJ a _,⟨_,J9 _ rfl,rfl,rfl⟩,λb hb=>?_,q⟩
 have e:b=s1.heap.objs.size:=by simpa using hb
 subst e;exact I1.fpOk (JZ _) (I1.hok.fresh (JZ _))
theorem Ce {tg a:Kn}{f:FA}{p pos:Mo}(hg:Gl X "range")(hm:X.mg "range" = gV)(ha:GA X [a] f)(hs:starEach [a] X.env=[(false,eval a X.env)]):GI X tg (.Call (.Name "range" p) [a] [] pos) (tM f):=by
 intro pins s σ H R I ⟨A,ρ,S,mi,S',er,so,e,hq⟩;unfold tM at e;split at e
 ·rename_i j S1 h1;split at e
  ·rename_i hj;cases e;refine vL hg hm ha hs pins s σ H R I ⟨A,ρ,S,_,_,er,so,h1,λvs H1 ⟨A1,z1,z2,z3⟩=>?_⟩
   cases z3 with
   | cons r1 t=>
    cases t;cases r1;exact⟨j,rfl,hj.1,hj.2,hq _ _ A1 z1 z2 uZ⟩
  ·cases e
 ·cases e
theorem Cf {tg a b:Kn}{f:FA}{p pos:Mo}(hg:Gl X "range")(hm:X.mg "range" = gV)(ha:GA X [a,b] f)(hs:starEach [a,b] X.env=[(false,eval a X.env),(false,eval b X.env)])(hs2:starEach [b] X.env=[(false,eval b X.env)]):GI X tg (.Call (.Name "range" p) [a,b] [] pos) (iRng2 f):=by
 intro pins s σ H R I ⟨A,ρ,S,mi,S',er,so,e,hq⟩;unfold iRng2 at e;split at e
 ·rename_i i j S1 h1;split at e
  ·rename_i hj;cases e;refine vM hg hm ha hs hs2 pins s σ H R I ⟨A,ρ,S,_,_,er,so,h1,λvs H1 ⟨A1,z1,z2,z3⟩=>?_⟩
   cases z3 with
   | cons r1 t=>
    cases t with
    | cons r2 t=>
     cases t;cases r1;cases r2;exact⟨i,j,rfl,hj,hq _ _ A1 z1 z2 uZ⟩
  ·cases e
 ·cases e
theorem EL {tg l:Kn}{f:FE}(h:GE X l f):GI X tg l (Cb f):=by
 intro pins s σ H R I ⟨A,ρ,S,mi,S',er,so,e,hq⟩;unfold Cb at e;split at e
 ·rename_i ws S1 h1;cases e;refine b7 (h pins s σ H (EndV X.w X.K A H _ (.tup ws)) I ⟨A,ρ,S,_,_,er,so,h1,λ_ _ z=>z⟩) λv s1 ⟨x,H1,I1,r1,A1,e1,o1,z1⟩=>?_
  cases z1 with
  | tup hq1 rl=>
   refine tN I1 r1 hq1 (hq _ _ A1 e1 o1 (Cc hq1 rl))
 ·rename_i r S1 h1;split at e
  ·rename_i ys hy;cases e;refine b7 (h pins s σ H (EndV X.w X.K A H _ (.ref r)) I ⟨A,ρ,S,_,_,er,so,h1,λ_ _ z=>z⟩) λv s1 ⟨x,H1,I1,r1,A1,e1,o1,z1⟩=>?_
   cases z1 with
   | ref ea=>
    obtain⟨vs,hl,_⟩:=cX o1 hy ea;exact rB I1 r1 hl (hq _ _ A1 e1 o1 (Cd ea))
  ·cases e
 ·cases e
theorem EM {tg iter:Kn}{body:JM MC}{pos:Mo}{fi:FI}{g:FG}{fb:FS}(hp:PP (model X.prog X.w) X.A X.env X.xe)(hc:X.calm=true)(hi:GI X tg iter fi)(hg:GG X tg g)(hb:GSs X body fb)
  (hs:∀x,foldedSetIterable iter X.env x=pure x):GS X (.For tg iter body [] pos) (zh fi g fb):=GS.of (DU hp hc hi hg hb hs) λσ H A ρ S o S' er so e D hd=>by
 unfold zh at e;split at e
 ·rename_i mi S1 h1;split at e
  ·rename_i n hn;refine⟨A,ρ,S,mi,S1,er,so,h1,λJ H1 A1 z1 z2 mit=>?_⟩
   refine⟨λi m σ2 H2=>∃A2 ρ2 S2,Ext X.K A1 H1 A2 H2/\EnvRel X.K A2 H2 ρ2 σ2/\StoreOk X.w X.K A2 H2 S2/\gw mi g fb m i ρ2 S2=ba (o,S'),⟨n,A1,ρ,S1,.refl,er.mono z1,z2,e⟩,?_⟩
   rintro i m σ2 H2 ⟨A2,ρ2,S2,e2,er2,so2,w2⟩;cases m with
   | zero=>
    simp only[gw]at w2;split at w2
    ·rename_i hs;cases w2;exact .inl ⟨mit.stop A2 H2 _ i e2 so2 hs,hd.nx _ _ ⟨_,A2,rfl,z1.trans e2,so2,er2⟩⟩
    ·cases w2
   | succ m=>
    simp only[gw]at w2;split at w2
    ·rename_i w hw;obtain⟨go,yl⟩:=mit.go A2 H2 S2 i w e2 so2 hw;refine .inr ⟨go,λσ3 H3=>∃A3 ρ3 S3,Ext X.K A1 H1 A3 H3/\EnvRel X.K A3 H3 ρ3 σ3/\StoreOk X.w X.K A3 H3 S3/\gw mi g fb m (i+1) ρ3 S3=ba (o,S'),λσ' H' h=>⟨m,Ll _,h⟩,λx H3 hy=>?_⟩
     obtain⟨x1,x2,x3⟩:=yl x H3 hy;split at w2
     ·rename_i ρ3 S3 h3;refine⟨A2,ρ2,S2,w,ρ3,S3,er2.mono x1,x2,x3,h3,λσ4 H4 A4 y1 y2 y3=>?_⟩
      have ex:Ext X.K A1 H1 A4 H4:=(e2.trans x1).trans y1;split at w2
      ·rename_i ρ5 S5 h5;refine⟨A4,ρ3,S3,_,S5,y3,y2,h5,⟨λσ' H' ⟨ρ',A',u0,u1,u2,u3⟩=>?_,λv H' ⟨w,A',y0,_⟩=>(by cases y0),λv H' ⟨w,A',y0,_⟩=>(by cases y0),λv H' ⟨w,A',y0,_⟩=>(by cases y0)⟩⟩
       cases u0;exact⟨A',_,S5,ex.trans u1,u3,u2,w2⟩
      ·rename_i ρ5 S5 h5;refine⟨A4,ρ3,S3,_,S5,y3,y2,h5,⟨λv H' ⟨w,A',y0,_⟩=>(by cases y0),λv H' ⟨w,A',y0,_⟩=>(by cases y0),λv H' ⟨w,A',y0,_⟩=>(by cases y0),λσ' H' ⟨ρ',A',u0,u1,u2,u3⟩=>?_⟩⟩
       cases u0;exact⟨A',_,S5,ex.trans u1,u3,u2,w2⟩
      ·rename_i ρ5 S5 h5;cases w2;refine⟨A4,ρ3,S3,_,_,y3,y2,h5,⟨λv H' ⟨w,A',y0,_⟩=>(by cases y0),λv H' ⟨w,A',y0,_⟩=>(by cases y0),λσ' H' ⟨ρ',A',u0,u1,u2,u3⟩=>?_,λv H' ⟨w,A',y0,_⟩=>(by cases y0)⟩⟩
       cases u0;exact hd.nx _ _ ⟨_,A',rfl,(z1.trans ex).trans u1,u2,u3⟩
      ·rename_i w5 S5 h5;cases w2;refine⟨A4,ρ3,S3,_,_,y3,y2,h5,⟨λv H' ⟨w,A',y0,_⟩=>(by cases y0),λv H' ⟨w,A',u0,u1,u2,u3⟩=>?_,λv H' ⟨w,A',y0,_⟩=>(by cases y0),λv H' ⟨w,A',y0,_⟩=>(by cases y0)⟩⟩
       cases u0;exact hd.rt _ _ ⟨_,A',rfl,(z1.trans ex).trans u1,u2,u3⟩
      ·cases w2
     ·cases w2
    ·cases w2
  ·cases e
 ·cases e
end
section
variable{prog:Kx}{w:KO}{B:KH}{E:JP->JS->Prop}{s:JS}
theorem Cg {d:JX}{es:Ku Mg}{ep:JW}{Q:JP->JS->Prop}(hd:(d==sysModules)=false)(hm:RawD d es ep s.heap)(hfit:(es.size:J5) < 2 ^ 63)
  (h:Q (.int es.size (s.toks+1)) { s with toks:=s.toks+1+1 }):wpAny (model prog w) B (call (.builtin "len") [.ref d]) Q E s:=by
 have hT:=hm.type;obtain⟨o,ho,hc,hdat⟩:=id hm;refine Nh kind_len plain_len entry_len (args_len1 _) ?_;unfold M0.«len»;refine JN (m:=oneArg "len" _) (JT ?_);refine JN (m:=callSpecial? (.ref d) (L5 "__len__")) (La (name:=L5 "__len__") hT F.slot_dict_len (Lb F.slot_dict_len hT F.entry_dict_len ?_ (F.args_dict_len_1 _)));show wpAny _ _ (dictSize d >>= _) _ _ s;unfold dictSize;refine JN (JN (NL ho hdat (JT ?_)));show wpAny _ _ (RL d >>= _) _ _ s;refine JN (wpAny_pendingCount_other hd ?_);refine wpAny_ret_mkInt ?_;rw[Nat.add_zero];show wpAny _ _ _ _ _ { s with toks:=s.toks+1 }
 refine JN (K8 (JT ?_));refine JN (NX ?_);show wpAny _ _ (if ((es.size:JW):J5) < 0 then _ else _) _ _ _
 rw[Kw (by omega)]
 show wpAny _ _ (if ((es.size:JW):J5)>=2 ^ 63 then _ else _) _ _ _
 rw[Kw (by omega)]
 exact JN (Q9 (JT ⟨_,rfl,h⟩))
end
section
variable{X:Cx}{pins:JM (JX×LF)}{σ:L2.St}{H:Hp}{s:JS}{A:JM JX}{S:aa}
theorem tP:LCall X (.builtin "len") tw:=by
 intro pins s σ H A S xs vs us w S' I so rl rv e
 by_cases hd:∃i kvs,xs=[.ref i]/\kn S i=ba kvs
 ·obtain⟨i,kvs,rfl,hk⟩:=hd;simp only[tw,hk]at e;cases e;cases rl with
  | cons r t=>
   cases t;cases rv with
   | cons ru rv2=>
    cases rv2;cases r with
    | ref ea=>
     obtain⟨xs,rd,kr⟩:=gv so hk ea;have d:=da I rd;obtain⟨es,ep,raw,he⟩:=d.raw;obtain rfl:_=KI _:=ru;have hl:es.size=xs.length:=by rw[<- Kb,he,JO]
     have hz:=d.1;have hs:sizeLine=16777216:=KZ;refine Cg d.2.1 raw (by omega) ⟨.int kvs.length,H,A,I.tok _,⟨_,by rw[kr.length,hl]⟩,.refl,so,.int⟩
 ·have:tw xs S=sV xs S:=by
   unfold tw;split
   ·rename_i i;split
    ·rename_i kvs hk;exact absurd ⟨i,kvs,rfl,hk⟩ hd
    ·rfl
   ·rfl
  rw[this]at e;exact vY pins s σ H A S xs vs us w S' I so rl rv e
noncomputable def Jt (S:aa):W->JU Lv
 | .non=>ba "NoneType"|.bl _=>ba "bool"|.int _=>ba "int"|.str _=>ba "str"|.tup _=>ba "tuple"
 | .ref i=>match iO S i with
  | some _=>ba "list"
  | none=>(kn S i).map λ_=>"dict"
noncomputable def u4:JM Lv:=["bool","int","str","tuple","list","dict"]
noncomputable def EN (S:aa)(x:W)(c:Lv):JU Kt:=match Jt S x with
 | some t=>if u4.contains c then ba (t==c||(t == "bool" && c == "int"))else gV
 | none=>gV
theorem iB {K:J2}{t c:Lv}(ht:t∈["NoneType","bool","int","str","tuple","list","dict"])(hc:c∈u4):PySem.W.kitOne K (.type t) (.type c)=ba (t==c||(t == "bool" && c == "int")):=by
 simp only[u4,Kv,Lc,MA]at ht hc;rcases ht with rfl|rfl|rfl|rfl|rfl|rfl|rfl <;> rcases hc with rfl|rfl|rfl|rfl|rfl|rfl <;> rfl
theorem zj:CallR X (.builtin "isinstance") (λvs H Q=>∃A S x v c b,vs=[v,.ty c]/\StoreOk X.w X.K A H S/\Rel X.K A H x v/\EN S x c=ba b/\Q (.bl b) H):=by
 intro pins s σ H vs us Q I rv ⟨A,S,x,v,c,b,e1,so,rx,e2,hq⟩;subst e1;cases rv with
 | cons r1 rv2=>cases rv2 with
  | cons r2 rv3=>
   cases rv3;obtain rfl:_=LG c:=r2;unfold EN at e2;split at e2
   ·rename_i t ht;split at e2
    ·rename_i hc;cases e2;have hc':c∈u4:=by simpa using hc
     have fin:∀tk,EP X pins σ Q (.bool (t==c||(t == "bool" && c == "int"))) { s with toks:=tk }:=λtk=>⟨.bl _,H,I.tok _,rfl,hq⟩
     cases rx with
     | non=>cases ht; cases(show _=KU from r1); exact Mv PySem.W.kitx_none I.kIn NS (iB (by simp) hc') (λz=>nomatch z) fin
     | bl=>cases ht; cases(show _=M3 _ from r1); exact Mv PySem.W.kitx_bool I.kIn NS (iB (by simp) hc') (λz=>nomatch z) fin
     | int=>cases ht; obtain⟨t',q⟩:=(show ∃t,_=OV _ t from r1); cases q; exact Mv PySem.W.kitx_int I.kIn NS (iB (by simp) hc') (λz=>nomatch z) fin
     | str=>cases ht; obtain⟨t',q⟩:=(show ∃t,_=NO _ t from r1); cases q; exact Mv PySem.W.kitx_str I.kIn NS (iB (by simp) hc') (λz=>nomatch z) fin
     | tup h1 r1'=>
      cases ht;obtain⟨its,rv,⟨o,q1,q2,_⟩,hz⟩:=I.tuple h1;cases(show _=KI _ from r1)
      exact Mv PySem.W.kitx_tuple I.kIn ⟨o,q1,q2⟩ (iB (by simp) hc') (λz=>nomatch z) fin
     | ref ea=>
      cases(show _=KI _ from r1)
      simp only[Jt]at ht;split at ht
      ·rename_i ws hw;cases ht;obtain⟨vs,h1,_⟩:=cX so hw ea;obtain⟨its,rv,p,hz⟩:=I.list h1;obtain⟨o,q1,q2,_⟩:=p.isList;exact Mv PySem.W.kitx_list I.kIn ⟨o,q1,q2⟩ (iB (by simp) hc') (λz=>nomatch z) fin
      ·rw[JR]at ht;obtain⟨kvs,hk,rfl⟩:=ht;obtain⟨xs,rd,kr⟩:=gv so hk ea;obtain⟨es,ep,⟨o,q1,q2,_⟩,he⟩:=(da I rd).raw;exact Mv PySem.W.kitx_dict I.kIn ⟨o,q1,q2.1⟩ (iB (by simp) hc') (λz=>nomatch z) fin
    ·cases e2
   ·cases e2
noncomputable def zl (c:Lv)(f:FE):FE:=λρ S=>match f ρ S with
 | some (x,S1)=>(EN S1 x c).map λb=>(.bl b,S1)
 | none=>gV
theorem EO {cn:Kd}{c:Lv}{e:Kn}{p p2 pos:Mo}{f:FE}(hg:Gl X "isinstance")(hm:X.mg "isinstance" = gV)(hg2:Gl X cn)(hm2:X.mg cn=gV)(hv2:bootBuiltins cn=ba (.type c))(hn2:cn≠"__name__")(hd2:(cn==("__debug__" : Kd))=false)
  (he:GE X e f) (hs:starEach [e,.Name cn p2] X.env=(false,eval e X.env)::starEach [.Name cn p2] X.env):GE X (.Call (.Name "isinstance" p) [e,.Name cn p2] [] pos) (zl c f):=
 GE.of (qv (zj) hg hm rfl (oT he (oT (AV (v:=.ty c) hg2 hm2 hv2 rfl hn2 hd2) xN) hs) (by decide) (by decide) hs rfl) λσ H A ρ S w S' er so e Q hq=>by
  unfold zl at e;split at e
  ·rename_i x1 S1 h1;rw[JR]at e;obtain⟨b,e1,e2⟩:=e;cases e2;exact⟨A,ρ,S,x1,_,er,so,h1,λv H1 ⟨A1,z1,z2,z3⟩=>⟨A1,_,x1,v,c,b,rfl,z2,z3,e1,hq _ _ ⟨A1,z1,z2,.bl⟩⟩⟩
  ·cases e
end
noncomputable def d0:JM (T×W)->JM W->JU (JM (T×W))
 | kvs,[]=>ba kvs
 | kvs,k::v::ws=>match gZ k with
  | some t=>d0 (fm kvs t v) ws
  | none=>gV
 | _,[_]=>gV
noncomputable def Da:FE:=λ_ S=>ba (.ref S.length,S++[.dic []])
noncomputable def rC (f:FA):FE:=λρ S=>match f ρ (S++[.dic []])with
 | some (ws,S1)=>match S1[S.length]? with
  | some (.dic [])=>match d0 [] ws with
   | some kvs=>ba (.ref S.length,S1.set S.length (.dic kvs))
   | none=>gV
  | _=>gV
 | none=>gV
section
variable (K:J2) (A:JM JX) (H:Hp)
inductive RelP:JM W->JM (V×V)->Prop
 | nil:RelP [] []
 | cons {k v:W} {a b:V} {ws:JM W} {ps:JM (V×V)}:Rel K A H k a->Rel K A H v b->RelP ws ps->RelP (k::v::ws) ((a,b)::ps)
end
theorem RelP.mono {K:J2}{A A':JM JX}{H H':Hp}(e:Ext K A H A' H'){ws:JM W}{ps:JM (V×V)}(h:RelP K A H ws ps):RelP K A' H' ws ps:=by
 induction h with
 | nil=>exact .nil
 | cons a b c ih=>exact .cons (a.mono e) (b.mono e) ih
section
variable{X:Cx}{pins:JM (JX×LF)}{σ:L2.St}{H:Hp}{s:JS}{A:JM JX}{S:aa}
noncomputable def IF (X:Cx)(A:JM JX)(H:Hp)(S':aa)(ws:JM W):JM (V×V)->Hp->Prop:=λps H'=>∃A',Ext X.K A H A' H'/\StoreOk X.w X.K A' H' S'/\RelP X.K A' H' ws ps
noncomputable def GJ (X:Cx)(pos:Mo)(keys:JM (JU Kn))(values:JM Kn)(f:FA):Prop:=
 ∀(pins:JM (JX×LF)) (s:JS) (σ:L2.St) (H:Hp) (A:JM JX) (ρ:Fm) (S:aa) (ws:JM W) (S':aa),Inv X pins σ H s->EnvRel X.K A H ρ σ->StoreOk X.w X.K A H S->f ρ S=ba (ws,S')->
  wpAny (model X.prog X.w) X.A (evalPairs (pairTrees keys values X.env pos)) (λvs s'=>∃ps H',Inv X pins σ H' s'/\VV ps vs/\IF X A H S' ws ps H') X.xe s
theorem Ch {pos:Mo}:GJ X pos [] [] jC:=λpins s σ H A ρ S ws S' I er so e=>by
 cases e;exact pairTrees_nil_walk ⟨[],H,I,.nil,A,.refl,so,.nil⟩
theorem zm {pos:Mo}{k v:Kn}{ks:JM (JU Kn)}{vs:JM Kn}{fk fv:FE}{f:FA}(hk:GE X k fk)(hv:GE X v fv)(hr:GJ X pos ks vs f):GJ X pos (ba k::ks) (v::vs) (eQ fk (eQ fv f)):=λpins s σ H A ρ S ws S' I er so e=>by
 unfold eQ at e;split at e
 ·rename_i w1 S1 h1;split at e
  ·rename_i w2 S2 h2;cases e;split at h2
   ·rename_i w3 S3 h3;split at h2
    ·rename_i w4 S4 h4;cases h2;refine pairTrees_cons_walk (b7 (hk pins s σ H (EndV X.w X.K A H S1 w1) I ⟨A,ρ,S,_,_,er,so,h1,λ_ _ z=>z⟩) λu s1 ⟨x,H1,I1,r1,A1,e1,o1,z1⟩=>
      b7 (hv pins s1 σ H1 (EndV X.w X.K A1 H1 S3 w3) I1 ⟨A1,ρ,S1,_,_,er.mono e1,o1,h3,λ_ _ z=>z⟩) λu2 s2 ⟨x2,H2,I2,r2,A2,e2,o2,z2⟩=>
      b7 (hr pins s2 σ H2 A2 ρ S3 _ _ I2 (er.mono (e1.trans e2)) o2 h4) λvs' s3 ⟨ps,H3,I3,rel,A3,e3,o3,z3⟩=>?_)
     exact⟨(x,x2)::ps,H3,I3,.cons ⟨r1,r2⟩ rel,A3,e1.trans (e2.trans e3),o3,.cons (z1.mono (e2.trans e3)) (z2.mono e3) z3⟩
    ·cases h2
   ·cases h2
  ·cases e
 ·cases e
theorem oA {r:JW}{d:JX}{E:JP->JS->Prop}(hu:X.A.units+10 < cLine):∀(vs:JM (JP×JP)) (ps:JM (V×V)) (ws:JM W) (kvs kvs':JM (T×W)) (s:JS) (H:Hp) (S:aa) (Q:PUnit->JS->Prop),
  Inv X pins σ H s->StoreOk X.w X.K A H S->pf S r=ba kvs->A[r]?=ba d->RelP X.K A H ws ps->VV ps vs->d0 kvs ws=ba kvs'->kvs.length+vs.length<=30->
  (∀s' H',Inv X pins σ H' s'->Ext X.K A H A H'->StoreOk X.w X.K A H' (S.set r (.dic kvs'))->Q Qc s')->
  wpAny (model X.prog X.w) X.A (forIn vs Qc λ(x:JP×JP) (_:PUnit)=>(do dictSet d x.1 x.2; pure (LN Qc):Sn (ForInStep PUnit))) Q E s
 | [],_,_,kvs,kvs',s,H,S,Q,I,so,hr,ea,rp,vv,e,hl,hq=>by
  cases vv;cases rp;cases e;rw[RG];refine JT (hq s H I .refl ?_);have hS:=iY hr;have:S.set r (.dic kvs)=S:=by
   apply OJ;intro j;rw[LY];split
   ·rename_i e; subst e
    split
    ·exact hS.symm
    ·rename_i h; exact absurd (J1.mp hS).1 h
   ·rfl
  rw[this]; exact so
 | (ku,vu)::vs,_,_,kvs,kvs',s,H,S,Q,I,so,hr,ea,rp,vv,e,hl,hq=>by
  cases vv with
  | cons hv vv2=>
   cases rp with
   | @cons wk wv va vb ws2 ps2 rk rv' rp2=>
    simp only[d0]at e;split at e
    ·rename_i t ht;rw[Ph];obtain⟨xs,hH,kr⟩:=uF so hr ea;have dd0:=da I (.inl hH);have dd:=dd0.dict I kr;obtain⟨bk,e1,e2,rkk⟩:=iX ht rk hv.1;have e2:ku=KI bk:=e2;subst e2;obtain⟨q1,q2,q3⟩:=eD ht;rw[K5]at hl;have hz:xs.length<=sizeLine:=dd0.1;refine JN (JN (wpAny_dictSet_heap (hsz:=hz) (show X.A.units+aG < cLine by unfold aG; omega) (jy I rkk q3) dd λh' dd' hs=>JT ?_))
     have kr':=kr.put q2 q3 rkk rv' hv.2;have hz':(storedH xs t bk vu).length<=sizeLine:=by
      rw[<- kr'.length];have h2:=di kvs t wv;rw[KZ];omega
     have dn:DicAt X.w d (storedH xs t bk vu) h':=.of hz' dd0.2.1 dd';obtain⟨so',ex⟩:=so.writeO (iY hr) rfl ea (u:=eM X.w d (storedH xs t bk vu)) (n:=.dic (fm kvs t wv)) ⟨_,bv,kr'.mono (dM (.ext hH))⟩;have I':Inv X pins σ (cj H d (eM X.w d (storedH xs t bk vu))) { s with heap:=h',toks:=s.toks+(bI X.prog X.w).draws t }:=o4 I (by rw[hH]; exact NS) hs (let ⟨q,_,_,hq,_⟩:=dd'; ⟨q,hq⟩) dn.ok
     have hl':(S.set r (.dic (fm kvs t wv)))[r]?=ba (.dic (fm kvs t wv)):=by
      rw[LY,Ko rfl,Ko (J1.mp (iY hr)).1]
     refine oA hu vs _ _ (fm kvs t wv) kvs' _ _ _ Q I' so' (by unfold pf; rw[hl']) ea (rp2.mono ex) vv2 e (by have:=di kvs t wv; omega) λs' H' I2 ex2 so2=>?_
     rw[List.set_set]at so2;exact hq s' H' I2 (ex.trans ex2) so2
    ·cases e
theorem Ci {pos:Mo}:GE X (.Dict [] [] pos) Da:=λpins s σ H Q I ⟨A,ρ,S,w,S',er,so,e,hq⟩=>by
 cases e;have hn:=I.hok.fresh (JZ s.heap.objs.size);have dn:DicAt X.w s.heap.objs.size [] (s.heap.push { cls:=.type "dict",data:=.dict #[] }):=⟨LB _,N5.mpr (Ne.symm (Kk I.big)),PJ,_,#[],0,J9 _ rfl,⟨rfl,rfl,rfl⟩,rfl,rfl⟩;refine wpAny_Dict_empty ⟨.ref s.heap.objs.size,_,I.laid (a:=s.heap.objs.size) (o:=eM X.w s.heap.objs.size []) (t':=s.toks) (λ_ _ q=>JQ _ q) (JZ _) dn.ok,rfl,hq _ _ ⟨A++[s.heap.objs.size],dw hn,so.pushO hn ⟨[],bv,.nil⟩,.ref ?_⟩⟩
 rw[<- so.len]; simp
theorem Cj {pos:Mo}{keys:JM (JU Kn)}{values:JM Kn}{f:FA}(hu:X.A.units+10 < cLine)(h:GJ X pos keys values f)(hall:keys.all (·.isSome)=true)(hl:keys.length=values.length)(h0:keys≠[])(h15:keys.length<=15):GE X (.Dict keys values pos) (rC f):=by
 intro pins s σ H Q I ⟨A,ρ,S,w,S',er,so,e,hq⟩;unfold rC at e;split at e
 ·rename_i ws S1 h1;split at e
  ·rename_i hS1;split at e
   ·rename_i kvs hp;cases e;have hn:=I.hok.fresh (JZ s.heap.objs.size);have dn:DicAt X.w s.heap.objs.size [] (s.heap.push { cls:=.type "dict",data:=.dict #[] }):=⟨LB _,N5.mpr (Ne.symm (Kk I.big)),PJ,_,#[],0,J9 _ rfl,⟨rfl,rfl,rfl⟩,rfl,rfl⟩;have I1:=I.laid (a:=s.heap.objs.size) (o:=eM X.w s.heap.objs.size []) (h':=s.heap.push { cls:=.type "dict",data:=.dict #[] }) (t':=s.toks) (λ_ _ q=>JQ _ q) (JZ _) dn.ok
    have ex0:Ext X.K A H (A++[s.heap.objs.size]) (cj H s.heap.objs.size (eM X.w s.heap.objs.size [])):=dw hn;have so0:StoreOk X.w X.K (A++[s.heap.objs.size]) (cj H s.heap.objs.size (eM X.w s.heap.objs.size [])) (S++[.dic []]):=so.pushO hn ⟨[],bv,.nil⟩;have hlen:=pairTrees_length keys values X.env pos hall hl;have hne:pairTrees keys values X.env pos≠[]:=λhe=>by
     rw[he]at hlen;exact h0 (Mh.mp hlen.symm)
    rw[arm_eval_Dict,zip_pairTrees keys values X.env pos hall hl,dictDisplay_pairs _ hne (by omega)]
    refine JN (NT (JN ?_));unfold subDict;refine JN (Sy ?_);refine JN (K8 ?_);rw[Ko (by omega)]
    refine JN (LO (wpAny_evalPairs_len (h pins _ σ _ _ ρ _ _ _ I1 (er.mono ex0) so0 h1)) (λvs s₁ h₁=>?_) λ_ _ e=>e)
    obtain⟨hvl,ps,H2,I2,vv,A2,ex2,so2,rp⟩:=h₁;refine K8 ?_;have ea:A2[S.length]?=ba s.heap.objs.size:=ex2.ad _ _ (by rw[<- so.len]; simp)
    refine JN (oA hu vs ps ws [] kvs s₁ H2 S1 _ I2 so2 (by unfold pf; rw[hS1]) ea rp vv hp (by rw[L0]; omega) λs' H' I3 ex3 so3=>?_)
    exact JT (JT (JT ⟨.ref s.heap.objs.size,H',I3,rfl,hq _ _ ⟨A2,ex0.trans (ex2.trans ex3),so3,.ref ea⟩⟩))
   ·cases e
  ·cases e
 ·cases e
end
noncomputable def Ju (wd:KO)(a:JX)(o:LF)(xs:JM (T×JX×JP)):It:=
 ⟨λi H=>H a=ba (.frz o (eM wd a xs))/\i < xs.length,λi H x H'=>H'=H/\∃q,xs[i]?=ba q/\x=.ref q.2.1,λi H=>H a=ba (.frz o (eM wd a xs))/\xs.length<=i⟩
theorem wF {P:Kx}{w:KO}{K:J2}{tg:Kn}(a it:JX){o:LF}{es:Ku Mg}{ep:JW}{xs:JM (T×JX×JP)}(hx:o.ExactDict)(hd:o.data=.dict es ep)(he:es.toList=xs.map (yb w)) :
  Turn P w K tg (Ju w a o xs) [it] it (λi h=>h.IsKeyIter it a i es.size ep) where
 mem:=by simp
 obj:=λi h st b hb=>by
  have e:b=it:=by simpa using hb
  subst e;obtain⟨o,e,c,d⟩:=st;exact⟨o,e,λv z=>by rw[d]at z; cases z⟩
 keep:=λi h h' st k=>st.at λo e=>k it (by simp) o e
 item:=by
  intro X hP hw hK hc i pins s σ H E I hf st hg;subst hP hw hK;obtain⟨hH,hi⟩:=hg;have ho:s.heap.get? a=ba o:=(show ObjOk X.prog X.w H s.heap a (.frz o (eM X.w a xs))from I.hok a _ hH).1
  have hl:es.size=xs.length:=by rw[<- Kb,he,JO]
  have hi':i < es.size:=by omega
  obtain⟨f0,f1,f2,f3,f4,f5⟩:=hf it (by simp)
  have hk:es[i].key=.ref (xs[i]).2.1:=by
   have:es.toList[i]?=ba (yb X.w xs[i]):=by rw[he,JY,J6 hi]; rfl
   rw[Lj,L3 hi']at this;have:=Ld this;rw[this]; rfl
  refine qT st ⟨o,ho,hx,hd⟩ hi' λh' st' sb=>?_
  have I1:Inv X pins σ H { s with heap:=h' }:=I.turned (t':=s.toks) (λb o hb e=>(sb.2 b hb).trans e) f0 f1 f3 f4 f5
  obtain⟨o',e,c,d⟩:=id st';exact⟨_,rfl,uk (s:={ s with heap:=h' }) e c d (by decide) ⟨.ref (xs[i]).2.1,H,I1,hk,⟨rfl,xs[i],J6 hi,rfl⟩,st',λb hb=>(hf b hb).1⟩⟩
 done:=by
  intro X hP hw hK hc i pins s σ H E I hf st hg;subst hP hw hK;obtain⟨hH,hi⟩:=hg;have ho:s.heap.get? a=ba o:=(show ObjOk X.prog X.w H s.heap a (.frz o (eM X.w a xs))from I.hok a _ hH).1
  have hl:es.size=xs.length:=by rw[<- Kb,he,JO]
  obtain⟨f0,f1,f2,f3,f4,f5⟩:=hf it (by simp)
  exact uJ (I.ok.hd hc) st ⟨o,ho,hx,hd⟩ (by omega) λh' eb=>⟨rfl,I.turned (t':=s.toks) (λb o hb e=>eb b o hb e) f0 f1 f3 f4 f5⟩
 self:=λ_ _ _ _ _ st h=>PF st h
noncomputable def fK (f:FE):FI:=λρ S=>match f ρ S with
 | some (.tup ws,S1)=>ba (.its ws,S1)
 | some (.ref r,S1)=>match iO S1 r with
  | some _=>ba (.live r,S1)
  | none=>match kn S1 r with
   | some kvs=>ba (.its (kvs.map λp=>p.1.w),S1.set r (.frd kvs))
   | none=>gV
 | _=>gV
section
variable{X:Cx}{pins:JM (JX×LF)}{σ:L2.St}{H:Hp}{s:JS}{A:JM JX}{S:aa}
theorem zn {a:JX}{o:LF}{kvs:JM (T×W)}{xs:JM (T×JX×JP)}(hH:H a=ba (.frz o (eM X.w a xs)))(kr:KRel X.K A H kvs xs):MIt X.w X.K (.its (kvs.map λp=>p.1.w)) (Ju X.w a o xs) A H:=by
 refine⟨λA' H' S i w e so hi=>?_,λA' H' S i e so hi=>?_⟩
 ·simp only[MI.at,KM]at hi;obtain⟨v,h1,h2⟩:=((kr.mono e).keysL).get hi;rw[JY,JR]at h1;obtain⟨q,q1,q2⟩:=h1;refine⟨⟨e.fz _ _ _ hH,(J1.mp q1).1⟩,λx H2 ⟨z1,q',z2,z3⟩=>?_⟩
  subst z1 z3;rw[q1]at z2; cases z2
  exact⟨.refl,so,by rw[q2]; exact h2⟩
 ·simp only[MI.at,KM]at hi;refine⟨e.fz _ _ _ hH,?_⟩;have:=Lg.mp hi;rw[JO,kr.length]at this;exact this
theorem Ck {tg l:Kn}{f:FE}(h:GE X l f):GI X tg l (fK f):=by
 intro pins s σ H R I ⟨A,ρ,S,mi,S',er,so,e,hq⟩
 by_cases hd:∃r S1 kvs,f ρ S=ba (.ref r,S1)/\iO S1 r=gV/\kn S1 r=ba kvs
 ·obtain⟨r,S1,kvs,h1,h2,h3⟩:=hd;simp only[fK,h1,h2,h3]at e;cases e;refine b7 (h pins s σ H (EndV X.w X.K A H S1 (.ref r)) I ⟨A,ρ,S,_,_,er,so,h1,λ_ _ z=>z⟩) λv s1 ⟨x,H1,I1,r1,A1,e1,o1,z1⟩=>?_
  cases z1 with
  | @ref _ a ea=>
   obtain rfl:v=KI a:=r1;have fz:∃o xs H2,Inv X pins σ H2 s1/\Ext X.K A1 H1 A1 H2/\StoreOk X.w X.K A1 H2 (S1.set r (.frd kvs))/\H2 a=ba (.frz o (eM X.w a xs))/\KRel X.K A1 H2 kvs xs:=by
    unfold kn at h3;split at h3
    ·rename_i k hk;cases h3;obtain⟨xs,hH,kr⟩:=o1.obj r _ a hk ea;have d:=da I1 (.inl hH);obtain⟨_,_,_,o,es,ep,q1,q2,q3,q4⟩:=id d;obtain⟨so',ex⟩:=o1.writeO hk rfl ea (u:=.frz o (eM X.w a xs)) (n:=.frd kvs) ⟨o,xs,bv,kr.mono (dM (.ext hH))⟩;exact⟨o,xs,_,o4 (h':=s1.heap) (t':=s1.toks) (ob:=.frz o (eM X.w a xs)) I1 (by rw[hH]; exact NS) (QA _ _) ⟨o,q1⟩ ⟨q1,d.ok⟩,ex,so',bv,kr.mono ex⟩
    ·rename_i k hk;cases h3;obtain⟨o,xs,hH,kr⟩:=o1.obj r _ a hk ea;have:S1.set r (.frd kvs)=S1:=by
      apply OJ;intro j;rw[LY];split
      ·rename_i e; subst e
       split
       ·exact hk.symm
       ·rename_i h; exact absurd (J1.mp hk).1 h
      ·rfl
     rw[this];exact⟨o,xs,H1,I1,.refl,o1,hH,kr⟩
    ·cases h3
   obtain⟨o,xs,H2,I2,ex,so2,hH,kr⟩:=fz;have d:=da I2 (.inr ⟨o,hH⟩);have ho:s1.heap.get? a=ba o:=(show ObjOk X.prog X.w H2 s1.heap a (.frz o (eM X.w a xs))from I2.hok a _ hH).1
   obtain⟨_,hsm,_,o',es,ep,q1,q2,q3,q4⟩:=id d;rw[ho]at q1;cases q1;refine qS hsm ⟨o,ho,q2,q3⟩ ?_;refine⟨s1.heap.objs.size,[s1.heap.objs.size],_,_,H2,rfl,I2.kept (t':=s1.toks) λb o e=>JQ _ e,wF a _ q2 q3 q4,⟨_,J9 _ rfl,rfl,rfl⟩,λb hb=>?_,hq _ _ A1 (e1.trans ex) so2 (zn hH kr)⟩
   have e:b=s1.heap.objs.size:=by simpa using hb
   subst e;exact I2.fpOk (JZ _) (I2.hok.fresh (JZ _))
 ·have:fK f ρ S=Cb f ρ S:=by
   unfold fK Cb;cases hf:f ρ S with
   | none=>rfl
   | some p=>
    obtain⟨w,S1⟩:=p;cases w with
    | ref r=>
     cases h2:iO S1 r with
     | some _=>simp only[h2]
     | none=>
      cases h3:kn S1 r with
      | none=>simp only[h2,h3]
      | some kvs=>exact absurd ⟨r,S1,kvs,hf,h2,h3⟩ hd
    | _=>rfl
  rw[this]at e;exact EL h pins s σ H R I ⟨A,ρ,S,mi,S',er,so,e,hq⟩
end
noncomputable def cb (mi:MI)(g:FG)(c:FT)(f:FE):JW->JW->Fm->aa->JU (JM W×aa)
 | 0,i,_,S=>match mi.at S i with
  | some gV=>ba ([],S)
  | _=>gV
 | n+1,i,ρ,S=>match mi.at S i with
  | some (ba w)=>match g w ρ S with
   | some (ρ1,S1)=>match c ρ1 S1 with
    | some (true,S2)=>match f ρ1 S2 with
     | some (y,S3)=>match cb mi g c f n (i+1) ρ1 S3 with
      | some (ys,S4)=>ba (y::ys,S4)
      | none=>gV
     | none=>gV
    | some (false,S2)=>cb mi g c f n (i+1) ρ1 S2
    | none=>gV
   | none=>gV
  | _=>gV
noncomputable def fX (cap:JM (JU JW))(ρ:Fm):Fm:=cap.map λo=>match o with
 | some j=>(ρ[j]?).join
 | none=>gV
noncomputable def lT (fi:FI)(g:FG)(c:FT)(f:FE)(cap:JM (JU JW)):FE:=λρ S=>match fi ρ S with
 | some (mi,S1)=>match mi.len S1 with
  | some n=>match cb mi g c f n 0 (fX cap ρ) S1 with
   | some (ys,S2)=>mZ S2 ys
   | none=>gV
  | none=>gV
 | none=>gV
noncomputable def Db:FT:=λ_ S=>ba (true,S)
noncomputable def mX (X:Cx)(scope:MZ)(cl:JM (Kd×JX))(C:JX)(N:JM Kd)(s0:JS)(H0:Hp)(ex:JM JX):Cx:=
 { X with env:=compEnvC scope cl C X.env,N:=N,s₀:=s0,H₀:=H0,outer:=X.stack,stack:=X.stack,ex:=ex,fn:=λ_=>false,pn:=[],xe:=λ_ _=>Lq }
structure CompOk (X:Cx)(scope:MZ)(cl:JM (Kd×JX))(N:JM Kd)(cap:JM (JU JW)):Prop where
 clos:closureFor scope X.env=pure cl
 kind:scope.kind=.function
 names:∀y∈scope.names,y.2=.local->scope.names.lookup y.1=ba .local
 nocell:∀y∈scope.names,y.2≠.cell
 sub:∀x c,cl.lookup x=ba c->X.env.cells.lookup x=ba c
 has:∀x,((relabel scope X.env).names.lookup x=ba .cell\/(relabel scope X.env).names.lookup x=ba .free)->∃c,cl.lookup x=ba c
 len:cap.length=N.length
 cap:∀(i j:JW) (x:Kd),cap[i]?=ba (ba j)->N[i]?=ba x->X.N[j]?=ba x/\(X.env.kindOf x=ba .cell\/X.env.kindOf x=ba .free)/\((relabel scope X.env).names.lookup x=ba .cell\/(relabel scope X.env).names.lookup x=ba .free)
theorem g8 {prog:Kx}{w:KO}{A:KH}{R:QP->JS->Prop}{s:JS}{elt target iter:Kn}{ifs:JM Kn}{scope:MZ}{pos:Mo}{it acc:JP}{env:Ql}(I:JW->JS->Prop)
    (turn:∀n s,I n s->wpAny (model prog w) A (pyNext it) (λr s₁=>match r with
      | none=>R (.ok .next) s₁
      | some v=>wpAny (model prog w) A (letOwnedTupleGo target it v) (λ_ s₁=>wpAny (model prog w) A (assign target env v) (λ_ s₂=>
          wpAny (model prog w) A (forIn ifs true λc r=>if r=true then do let ok <- isTrue c env (eval c env); pure (LN ok)else pure (LN r)) (λok s₃=>
            if ok=true then wpAny (model prog w) A (eval elt env) (λx s₄=>
              wpAny (model prog w) A (call (.builtin "list.append") [acc,x]) (λ_ s₅=>∃m,m < n/\I m s₅) (λ_ _=>Lq) s₄) (λ_ _=>Lq) s₃
            else ∃m,m < n/\I m s₃) (λ_ _=>Lq) s₂) (λ_ _=>Lq) s₁) (λ_ _=>Lq) s₁) (λ_ _=>Lq) s)
    (n:JW) (h:I n s) :
    codeAny (model prog w) A (.compLoop (.ListComp elt [⟨target,iter,ifs,0⟩] scope pos) 0 it acc env) R s:=by
  refine codeAny_loop rfl I (λn s hI=>?_) n h
  show wpAny _ A ((compTurn (.ListComp elt [⟨target,iter,ifs,0⟩] scope pos) 0 it acc env).onRaise (λx=>do noteFrame x env; theTreesLotGoes x)) _ _ s
  refine wpAny_noted ?_;rw[compTurn_list];refine JN (NT (JN (LO (turn n s hI) (λr s₁ h₁=>?_) λ_ _ h'=>h'.elim)))
  cases r with
  | none=>exact JT h₁
  | some v=>
    refine JN (LO h₁ (λ_ s₁ h₁=>?_) λ_ _ h'=>h'.elim)
    refine JN (LO h₁ (λ_ s₂ h₂=>JN (LO h₂ (λok s₃ h₃=>?_) λ_ _ h'=>h'.elim)) λ_ _ h'=>h'.elim)
    cases ok with
    | false=>exact JT ⟨rfl,h₃⟩
    | true=>
      exact JN (JN (LO h₃ (λx s₄ h₄=>JN (LO h₄ (λ_ s₅ h₅=>JT (JT ⟨rfl,h₅⟩)) λ_ _ h'=>h'.elim)) λ_ _ h'=>h'.elim))
section
variable{X:Cx}{pins:JM (JX×LF)}{σ:L2.St}{H:Hp}{s:JS}
theorem Inv.adopt {D:JX}{o:HO}(I:Inv X pins σ H s)(hn:H D=gV)(h1:D∈X.ex\/X.s₀.heap.objs.size<=D)(hL:D≠X.env.locals)(h2:∀x c,X.env.cells.lookup x=ba c->c≠D)(h3:∀p∈X.pn++pins,p.1≠D)
  (new:ObjOk X.prog X.w (cj H D o) s.heap D o):Inv X pins σ (cj H D o) s:=by
 have nit:∀b u,H b=ba u->b≠D:=λb u e z=>by rw[z,hn]at e; cases e
 have key:Inv X pins σ (cj H D o) { s with heap:=s.heap,gens:=s.gens,drawn:=s.drawn,toks:=s.toks }:=by
  refine I.step (g':=s.gens) (d':=s.drawn) (t':=s.toks) (h':=s.heap) (ch:=[D]) (λb hb=>?_) (λb o _ _ hc e _=>e) (λb o _ _ hc e _=>⟨o.slots,e⟩) (λb o hc e n=>?_)
   (λb o hc e=>⟨o,e⟩) (λb xs e=>?_) (λb o xs e=>?_) (λb ps e=>⟨#[],?_⟩) (λm hm=>hm) (λb u e=>?_) I.bare
  ·have e:b=D:=by simpa using hb
   subst e;exact⟨h1,hL,h2,h3⟩
  ·rw[aN (λz=>hc (by simp[z]))]; exact n
  ·rw[aN (nit b _ e)]; exact e
  ·rw[aN (nit b _ e)]; exact e
  ·rw[aN (nit b _ e),e]; simp
  ·by_cases hb:b=D
   ·subst hb; rw[bv]at e; cases e; exact new
   ·rw[aN hb]at e;refine(I.hok b u e).stay (λc v hc q=>q) (λc q=>?_) λc xs q=>?_
    ·rw[aN (nit c _ q)]; exact q
    ·rw[aN (nit c _ q)]; exact q
 exact key
theorem EQ {scope:MZ}{cl:JM (Kd×JX)}{N:JM Kd}{cap:JM (JU JW)}{C:JX}{s0:JS}{ex:JM JX}(I:Inv X pins σ H s)(ck:CompOk X scope cl N cap)(hs:s.heap.objs.size<=s0.heap.objs.size)(hC:s0.heap.objs.size<=C)
  (hk:∀b o,s.heap.get? b=ba o->s0.heap.get? b=ba o) (hex:∀b∈ex,(b≠C)/\(∀x c,X.env.cells.lookup x=ba c->c≠b)/\(∀o,X.base.get? b≠ba o)/\b∉sI X.stack) :
  (mX X scope cl C N s0 H ex).Ok where
 mod:=I.ok.mod
 kind:=ck.kind
 glob:=I.ok.glob
 blt:=I.ok.blt
 above:=hC
 inj:=λx y c h1 h2=>I.ok.inj x y c (ck.sub x c h1) (ck.sub y c h2)
 has:=λx h=>ck.has x h
 cab:=λx c h=>by cases h
 hd:=I.ok.hd
 frames:=I.ok.frames
 stk:=.inl rfl
 exf:=λb hb=>⟨(hex b hb).1,λx c h=>(hex b hb).2.1 x c (ck.sub x c h)⟩
 bs:=λb o e=>⟨hk b o (I.bk b o e),(I.bs b o e).2⟩
 bsz:=J3 (J3 I.ok.bsz I.sz) hs
 noex:=λb o e hb=>(hex b hb).2.2.1 o e
 exfs:=λb hb=>(hex b hb).2.2.2
 funs:=I.stack.of_keeps λb o e _=>⟨o,hk b o e,rfl⟩
 frf:=I.stkFree
structure BlockOk (X:Cx)(scope:MZ)(cl:JM (Kd×JX))(N:JM Kd)(tg elt:Kn)(ifs:JM Kn)(g:FG)(c:FT)(f:FE):Prop where
 tgt:∀C s0 H0 ex,GG (mX X scope cl C N s0 H0 ex) tg g
 tst:∀C s0 H0 ex pins s σ H Q,Inv (mX X scope cl C N s0 H0 ex) pins σ H s->tT (mX X scope cl C N s0 H0 ex) c σ H Q->
  wpAny (model X.prog X.w) X.A (forIn ifs true λc r=>if r=true then do let ok <- isTrue c (compEnvC scope cl C X.env) (eval c (compEnvC scope cl C X.env)); pure (LN ok)else pure (LN r)) (TP (mX X scope cl C N s0 H0 ex) pins σ Q) (λ_ _=>Lq) s
 elt:∀C s0 H0 ex,GE (mX X scope cl C N s0 H0 ex) elt f
theorem pE {prog:Kx}{w:KO}{B:KH}{s:JS}{E:JP->JS->Prop}{Q:JP->JS->Prop}{D:JX}{its:JM JP}{n:JW}{u:JP}(e:s.heap.get? D=ba { cls:=.type "list",data:=.seq its.toArray n })(hz:its.length < sizeLine)
  (h:∀h' n',h'.get? D=ba { cls:=.type "list",data:=.seq (its++[u]).toArray n' }->(∀b o,b≠D->s.heap.get? b=ba o->h'.get? b=ba o)->Q .none { s with heap:=h' }) :
  wpAny (model prog w) B (call (.builtin "list.append") [.ref D,u]) Q E s:=by
 refine On F.slot_list_append ⟨_,e,rfl⟩ F.entry_list_append (F.args_list_append_2 _ _) (Qt D its.toArray n u (by rw[J7]; exact LU ‹_›)) ⟨e,?_⟩
 have q:=QS e (λa=>a.push u)
 have e2:its.toArray.push u=(its++[u]).toArray:=by simp
 rw[e2]at q;exact h _ _ q (λb o hb ho=>(KS s.heap (Lw λa=>a.push u) (Ne.symm hb)).trans ho)
theorem oB {scope:MZ}{cl:JM (Kd×JX)}{N:JM Kd}{cap:JM (JU JW)}{tg elt iter:Kn}{ifs:JM Kn}{g:FG}{c:FT}{f:FE}{pos:Mo}{A:JM JX}{ρ:Fm}{S S':aa}{mi:MI}{n:JW}{ws:JM W}{E:JP->JS->Prop}
  {it:JX} {fp:JM JX} {tn:JW->KW->Prop} {J:It} {RR:JP->JX->QP->JS->Prop}
  (I:Inv X pins σ H s) (hc:X.calm=true) (er:EnvRel X.K A H ρ σ) (so:StoreOk X.w X.K A H S) (ck:CompOk X scope cl N cap) (bk:BlockOk X scope cl N tg elt ifs g c f)
  (T:Turn X.prog X.w X.K tg J fp it tn) (t0:tn 0 s.heap) (hfp:∀b∈fp,jt X pins H b) (mit:MIt X.w X.K mi J A H) (e:cb mi g c f n 0 (fX cap ρ) S=ba (ws,S')) (hz:ws.length<=sizeLine)
  (fin:∀D C s' H' A' vs m,s'.heap.Ns C m->H' D=gV->D≠C->C≠X.env.locals->C∉X.fs->H' C=gV->X.s₀.heap.objs.size<=C->(∀x c,X.env.cells.lookup x=ba c->c≠C)->(∀p∈X.pn++pins,p.1≠C)->
   Inv X pins σ (cj H' D (.lst vs)) s'->Ext X.K A H A' H'->StoreOk X.w X.K A' H' S'->RelL X.K A' H' ws vs->RR (.ref D) C (.ok .next) s') :
  wpAny (model X.prog X.w) X.A (newList []) (λacc s₃=>wpAny (model X.prog X.w) X.A (newFunctionEnv scope X.env.globals cl [] X.env.qual gV .none (ba X.env)) (λcenv s₄=>
   codeAny (model X.prog X.w) X.A (.compStart (.ListComp elt [⟨tg,iter,ifs,0⟩] scope pos) 0 (.ref it) acc { cenv with scope:=relabel scope X.env }) (RR acc cenv.locals) s₄) E s₃) E s:=by
 refine KQ (wpAny_newFunctionEnv ck.nocell (by intro y hy; simp at hy) (λh₁ hns₁ hsb₁=>?_) ck.kind)
 dsimp only at hns₁ hsb₁ ⊢;generalize hH2:s.heap.push { cls:=.type "list",dict:=gV,data:=.seq ([]:JM JP).toArray }=h2 at hns₁ hsb₁ ⊢;have hCs:h2.objs.size=s.heap.objs.size+1:=by rw[<- hH2,MN]
 have k2:∀b o,s.heap.get? b=ba o->h2.get? b=ba o:=λb o z=>hH2 ▸ JQ _ z
 have lt2:∀b o,h2.get? b=ba o->b < h2.objs.size:=λb o z=>Kf z
 have k1:∀b o,h2.get? b=ba o->h₁.get? b=ba o:=λb o z=>hsb₁.extBut b o (Kk (lt2 b o z)) (JQ _ z)
 have hD2:h2.get? s.heap.objs.size=ba { cls:=.type "list",data:=.seq ([]:JM JP).toArray }:=hH2 ▸ J9 _ rfl;have hDC:s.heap.objs.size≠h2.objs.size:=by rw[hCs]; omega
 have fresh:∀a,s.heap.objs.size<=a->H a=gV:=λa ha=>I.hok.fresh ha
 have cellLt:∀x c,X.env.cells.lookup x=ba c->c < s.heap.objs.size:=λx c z=>let ⟨_,q⟩:=I.cell x c z; q.lt
 have fpLt:∀b∈fp,b < s.heap.objs.size:=λb hb=>let ⟨_,q,_⟩:=T.obj 0 s.heap t0 b hb; Kf q
 have stkLt:∀b∈sI X.stack,b < s.heap.objs.size:=λb hb=>let ⟨_,o,q,_⟩:=I.stack.mem hb; Kf q
 have baseLt:∀b o,X.base.get? b=ba o->b < s.heap.objs.size:=λb o z=>Kf (I.bk b o z)
 have fpStk:∀b∈fp,b∉sI X.stack:=λb hb z=>by
  rcases Kv.mp (I.stkSub b z)with q|q
  ·exact(hfp b hb).2.1 q
  ·exact(hfp b hb).2.2.1 q
 have fpBase:∀b∈fp,∀o,X.base.get? b≠ba o:=λb hb o z=>by
  rcases(hfp b hb).2.2.2.1 with q|q
  ·exact I.ok.noex b o z q
  ·exact absurd (Kq (Kf (I.ok.bs b o z).1) q) (Ly _)
 have ltC:∀ {b:JX},b < s.heap.objs.size->b≠h2.objs.size:=λhb=>by rw[hCs]; exact Kk (Mz hb)
 let s3:JS:={ s with heap:=h2 }
 have ok':(mX X scope cl h2.objs.size N s3 H (fp++[s.heap.objs.size])).Ok:=by
  refine EQ I ck (show s.heap.objs.size<=h2.objs.size by rw[hCs]; omega) (JZ _) k2 λb hb=>?_
  rcases KF.mp hb with hb|hb
  ·exact⟨ltC (fpLt b hb),(hfp b hb).2.2.2.2.1,fpBase b hb,fpStk b hb⟩
  ·have eb:b=s.heap.objs.size:=by simpa using hb
   subst eb;exact⟨hDC,λx c z=>Kk (cellLt x c z),λo z=>Ly _ (baseLt _ o z),λz=>Ly _ (stkLt _ z)⟩
 obtain⟨m0,hn0,hl0⟩:=I.loc;have I0:Inv (mX X scope cl h2.objs.size N s3 H (fp++[s.heap.objs.size])) [] (cap.map λo=>match o with|some j=>(σ[j]?).join|none=>gV) H { s3 with heap:=h₁,toks:=s3.toks+([]:JM (Kd×JP)).length }:=by
  refine⟨ok',rfl,I.bare,Un.kept k1,⟨_,hns₁,λi x v e1 e2 e3=>?_⟩,λx cc z=>?_,fresh _ (show s.heap.objs.size<=h2.objs.size by rw[hCs]; exact My _),λx cc z=>I.freeC x cc (ck.sub x cc z),λp hp=>absurd hp (by simp[mX]),(I.hok.kept k2).kept k1,by rw[JO]; exact ck.len⟩
  ·rw[JY]at e2;cases q:cap[i]? with
   | none=>rw[q]at e2; cases e2
   | some oj=>
    rw[q]at e2;cases oj with
    | none=>cases e2
    | some j=>
     obtain⟨z1,z2,z3⟩:=ck.cap i j x q e1;have e2':(σ[j]?).join=ba v:=by simpa using e2
     have e2'':σ[j]?=ba (ba v):=by
      cases r:σ[j]? with
      | none=>rw[r]at e2'; cases e2'
      | some y=>rw[r]at e2'; exact congrArg ba e2'
     obtain⟨u,ru,lk⟩:=hl0 j x v z1 e2'' (by
      rcases z2 with z|z
      ·exact .inr (.inl z)
      ·exact .inr (.inr z))
     refine⟨u,ru,?_⟩;rcases lk with⟨zk,_⟩|⟨_,cc,zc,zi⟩
     ·rcases z2 with z|z <;> (rw[zk]at z; cases z)
     ·obtain⟨c2,hc2⟩:=ck.has x z3;have:=ck.sub x c2 hc2;rw[zc]at this; cases this
      refine .inr ⟨z3,cc,hc2,?_⟩;obtain⟨o,ho,hd⟩:=zi;exact⟨o,k1 _ _ (k2 _ _ ho),hd⟩
  ·obtain⟨v,o,ho,hd⟩:=I.cell x cc (ck.sub x cc z);exact⟨v,o,k1 _ _ (k2 _ _ ho),hd⟩
 have er0:EnvRel X.K A H (fX cap ρ) (cap.map λo=>match o with|some j=>(σ[j]?).join|none=>gV):=by
  refine⟨by simp[fX],λi w q=>?_⟩
  unfold fX at q;rw[JY]at q ⊢;cases r:cap[i]? with
  | none=>rw[r]at q; cases q
  | some oj=>
   rw[r]at q;cases oj with
   | none=>cases q
   | some j=>
    have q':(ρ[j]?).join=ba w:=by simpa using q
    have q'':ρ[j]?=ba (ba w):=by
     cases z:ρ[j]? with
     | none=>rw[z]at q'; cases q'
     | some y=>rw[z]at q'; exact congrArg ba q'
    obtain⟨v,z1,z2⟩:=er.2 j w q'';exact⟨v,by simp[z1],z2⟩
 have t1:tn 0 h₁:=T.keep 0 s.heap h₁ t0 λb hb o z=>k1 b o (k2 b o z)
 have fpOk':∀ {H':Hp} {pp:JM (JX×LF)},(∀b∈fp,H' b=gV)->(∀p∈pp,p.1=s.heap.objs.size)->∀b∈fp,jt (mX X scope cl h2.objs.size N s3 H (fp++[s.heap.objs.size])) pp H' b:=λhn hp b hb=>
  ⟨hn b hb,ltC (fpLt b hb),fpStk b hb,.inl (L6 _ hb),λx cc z=>(hfp b hb).2.2.2.2.1 x cc (ck.sub x cc z),λp hpp=>by
   rw[hp p (by simpa [mX]using hpp)]
   exact(Kk (fpLt b hb)).symm⟩
 have DinEx:s.heap.objs.size∈fp++[s.heap.objs.size]:=KG _ (by simp)
 have cellD:∀x c,cl.lookup x=ba c->c≠s.heap.objs.size:=λx cc z=>Kk (cellLt x cc (ck.sub x cc z))
 have fpD:∀b∈fp,b≠s.heap.objs.size:=λb hb=>Kk (fpLt b hb)
 have theEnd:∀s' σ' H' A' vs its nn,Inv (mX X scope cl h2.objs.size N s3 H (fp++[s.heap.objs.size])) [] σ' H' s'->s'.heap.get? s.heap.objs.size=ba { cls:=.type "list",data:=.seq its nn }->∀(hits:∃l:JM JP,its=l.toArray/\Vals vs l),H' s.heap.objs.size=gV->Ext X.K A H A' H'->StoreOk X.w X.K A' H' S'->RelL X.K A' H' ws vs->
   RR (.ref s.heap.objs.size) h2.objs.size (.ok .next) s':=by
  intro s' σ' H' A' vs its nn I' hD hits hDn ex so' rl;obtain⟨l,rfl,rv⟩:=hits;obtain⟨m,hn,_⟩:=id I'.loc;have un:Un (sI X.stack) (fp++[s.heap.objs.size]) H H' s.heap s'.heap:=(Un.kept k2).trans I'.base;have hch:∀b∈fp++[s.heap.objs.size],(b∈X.ex\/X.s₀.heap.objs.size<=b)/\b≠X.env.locals/\(∀x c,X.env.cells.lookup x=ba c->c≠b)/\∀p∈X.pn++pins,p.1≠b:=λb hb=>by
   rcases KF.mp hb with hb|hb
   ·exact⟨(hfp b hb).2.2.2.1,(hfp b hb).2.1,(hfp b hb).2.2.2.2.1,(hfp b hb).2.2.2.2.2⟩
   ·have eb:b=s.heap.objs.size:=by simpa using hb
    subst eb;exact⟨.inr I.sz,(Kk I.lt).symm,λx cc z=>Kk (cellLt x cc z),λp hp=>Kk (Kf (I.pin p hp).1)⟩
  have I2:Inv X pins σ H' s':=I.call' (show s'.os=s.os from I'.os) un I'.hok I'.bare hch
  have I3:Inv X pins σ (cj H' s.heap.objs.size (.lst vs)) s':=Inv.adopt I2 hDn (hch _ DinEx).1 (hch _ DinEx).2.1 (hch _ DinEx).2.2.1 (hch _ DinEx).2.2.2 ⟨by rw[<- rl.length]; exact hz,l,nn,rv,hD⟩
  have hCle:s.heap.objs.size<=h2.objs.size:=by rw[hCs]; exact My _
  exact fin _ _ s' H' A' vs m hn hDn hDC (KC (Kq I.lt hCle)) (I.nofs hCle) I'.free (J3 I.sz hCle) (λx cc z=>Kk (Kq (cellLt x cc z) hCle))
   (λp hp=>Kk (Kq (Kf (I.pin p hp).1) hCle)) I3 ex so' rl
 have loop:∀s4:JS,s4={ s3 with heap:=h₁,toks:=s3.toks+([]:JM (Kd×JP)).length }->
   codeAny (model X.prog X.w) X.A (.compLoop (.ListComp elt [⟨tg,iter,ifs,0⟩] scope pos) 0 (.ref it) (.ref s.heap.objs.size) (compEnvC scope cl h2.objs.size X.env)) (RR (.ref s.heap.objs.size) h2.objs.size) s4:=by
  rintro s4 rfl;refine g8 (λk s5=>∃i σ5 H5 A5 ρ5 S5 done its nn vs ys,Inv (mX X scope cl h2.objs.size N s3 H (fp++[s.heap.objs.size])) [] σ5 H5 s5/\tn i s5.heap/\(∀b∈fp,H5 b=gV)/\s5.heap.get? s.heap.objs.size=ba { cls:=.type "list",data:=.seq (its:JM JP).toArray nn }/\H5 s.heap.objs.size=gV/\Vals vs its/\
   Ext X.K A H A5 H5/\EnvRel X.K A5 H5 ρ5 σ5/\StoreOk X.w X.K A5 H5 S5/\RelL X.K A5 H5 done vs/\ws=done++ys/\cb mi g c f k i ρ5 S5=ba (ys,S')) ?_ n
   ⟨0,_,H,A,_,S,[],[],0,[],ws,I0,t1,λb hb=>(hfp b hb).1,k1 _ _ hD2,fresh _ (JZ _),.nil,.refl,er0,so,.nil,rfl,e⟩
  rintro k s5 ⟨i,σ5,H5,A5,ρ5,S5,done,its,nn,vs,ys,I5,t5,f5,d5,n5,v5,e5,er5,so5,rl5,hw5,w5⟩;have pinD:Inv (mX X scope cl h2.objs.size N s3 H (fp++[s.heap.objs.size])) [(s.heap.objs.size,{ cls:=.type "list",data:=.seq its.toArray nn })] σ5 H5 s5:=I5.pins_of λp hp=>by
   have hp':p=(s.heap.objs.size,{ cls:=.type "list",data:=.seq its.toArray nn }):=by simpa using hp
   subst hp';exact⟨d5,n5,hDC,λz=>Ly _ (stkLt _ z),λv z=>by cases z⟩
  have oneD:∀p∈[(s.heap.objs.size,({ cls:=.type "list",data:=.seq its.toArray nn }:LF))],p.1=s.heap.objs.size:=λp hp=>by
   have hp':p=(s.heap.objs.size,{ cls:=.type "list",data:=.seq its.toArray nn }):=by simpa using hp
   rw[hp']
  cases k with
  | zero=>
   simp only[cb]at w5;split at w5
   ·rename_i hst;cases w5;rw[LK]at hw5;subst hw5;refine b7 (T.done (mX X scope cl h2.objs.size N s3 H (fp++[s.heap.objs.size])) rfl rfl rfl hc i _ s5 σ5 H5 _ pinD (fpOk' f5 oneD) t5 (mit.stop A5 H5 _ i e5 so5 hst)) λr s6 ⟨hr,I6⟩=>?_
    subst hr;have p6:=I6.pin _ (KG _ (J8.mpr rfl));exact theEnd s6 σ5 H5 A5 vs _ nn (I6.pins_of λp hp=>absurd hp (by simp)) p6.1 ⟨its,rfl,v5⟩ n5 e5 so5 rl5
   ·cases w5
  | succ k=>
   simp only[cb]at w5;split at w5
   ·rename_i w hw;obtain⟨go,yl⟩:=mit.go A5 H5 S5 i w e5 so5 hw;refine b7 (T.item (mX X scope cl h2.objs.size N s3 H (fp++[s.heap.objs.size])) rfl rfl rfl hc i _ s5 σ5 H5 _ pinD (fpOk' f5 oneD) t5 go) λr s6 ⟨u,hr,h6⟩=>?_
    subst hr;refine b7 h6 λ_ s7 ⟨x,H7,I7,r7,y7,t7,f7⟩=>?_
    obtain⟨x1,x2,x3⟩:=yl x H7 y7;have I7':=I7.pinned (fpOk' f7 oneD) (T.obj _ _ t7);split at w5
    ·rename_i ρ8 S8 h8;refine b7 (bk.tgt _ _ _ _ _ s7 σ5 H7 x u (λσ' H'=>∃A',Ext X.K A5 H5 A' H'/\StoreOk X.w X.K A' H' S8/\EnvRel X.K A' H' ρ8 σ') I7' r7 ⟨A5,ρ5,S5,w,ρ8,S8,er5.mono x1,x2,x3,h8,λσ' H' A' q1 q2 q3=>⟨A',x1.trans q1,q2,q3⟩⟩) λ_ s8 ⟨σ8,H8,I8,A8,e58,so8,er8⟩=>?_
     have e8:Ext X.K A H A8 H8:=e5.trans e58;have pD:∀ {σ':L2.St} {H':Hp} {s':JS},Inv (mX X scope cl h2.objs.size N s3 H (fp++[s.heap.objs.size])) ([(s.heap.objs.size,{ cls:=.type "list",data:=.seq its.toArray nn })]++ju fp s7.heap) σ' H' s'->s'.heap.get? s.heap.objs.size=ba { cls:=.type "list",data:=.seq its.toArray nn }/\H' s.heap.objs.size=gV:=λI'=>
      let q:=I'.pin _ (KG _ (L6 _ (J8.mpr rfl)))
      ⟨q.1,q.2.1⟩
     have pF:∀ {σ':L2.St} {H':Hp} {s':JS},Inv (mX X scope cl h2.objs.size N s3 H (fp++[s.heap.objs.size])) ([(s.heap.objs.size,{ cls:=.type "list",data:=.seq its.toArray nn })]++ju fp s7.heap) σ' H' s'->(∀b∈fp,H' b=gV)/\∀b∈fp,∀o,s7.heap.get? b=ba o->s'.heap.get? b=ba o:=λI'=>
      ⟨λb hb=>by
       obtain⟨o,eo,_⟩:=T.obj _ _ t7 b hb;exact(I'.pin (b,o) (KG _ (KG _ (fR hb eo)))).2.1,
       λb hb o eo=>(I'.pin (b,o) (KG _ (KG _ (fR hb eo)))).1⟩
     split at w5
     ·rename_i S9 h9;refine b7 (bk.tst _ _ _ _ _ s8 σ8 H8 (λb H'=>b=true/\∃A',Ext X.K A8 H8 A' H'/\StoreOk X.w X.K A' H' S9) I8 ⟨A8,ρ8,S8,true,S9,er8,so8,h9,λb H' ⟨z0,A',z1,z2⟩=>⟨z0,A',z1,z2⟩⟩) λb s9 ⟨H9,I9,z0,A9,e9,so9⟩=>?_
      subst z0;rw[Ko rfl];split at w5
      ·rename_i y S10 h10;split at w5
       ·rename_i ys' S4 h11;cases w5;refine b7 (bk.elt _ _ _ _ _ s9 σ8 H9 (EndV X.w X.K A9 H9 S10 y) I9 ⟨A9,ρ8,S9,y,S10,er8.mono e9,so9,h10,λ_ _ z=>z⟩) λu10 s10 ⟨v10,H10,I10,r10,A10,e10,so10,rl10⟩=>?_
        obtain⟨d10,n10⟩:=pD I10;obtain⟨f10,k10⟩:=pF I10;have hlen:its.length < sizeLine:=by
         have l1:=v5.length;have l2:=rl5.length;rw[hw5,J0,K5]at hz;omega
        refine pE d10 hlen λh' n' hd' hk'=>?_
        have Ib:Inv (mX X scope cl h2.objs.size N s3 H (fp++[s.heap.objs.size])) [] σ8 H10 { s10 with heap:=h' }:=by
         have Ia:Inv (mX X scope cl h2.objs.size N s3 H (fp++[s.heap.objs.size])) [] σ8 H10 s10:=I10.pins_of λp hp=>absurd hp (by simp)
         exact Ia.turned (t':=s10.toks) (it:=s.heap.objs.size) hk' n10 hDC (.inl DinEx) cellD (λp hp=>absurd hp (by simp[mX]))
        refine⟨k,Ll k,i+1,σ8,H10,A10,ρ8,S10,done++[y],its++[u10],n',vs++[v10],ys',Ib,?_,f10,hd',n10,v5.append (.cons r10 .nil),(e8.trans e9).trans e10,(er8.mono e9).mono e10,so10,?_,?_,h11⟩
        ·exact T.keep (i+1) s7.heap h' t7 λb hb o eo=>hk' b o (fpD b hb) (k10 b hb o eo)
        ·exact(rl5.mono ((e58.trans e9).trans e10)).append (.cons rl10 .nil)
        ·rw[hw5,LW]; rfl
       ·cases w5
      ·cases w5
     ·rename_i S9 h9;refine b7 (bk.tst _ _ _ _ _ s8 σ8 H8 (λb H'=>b=false/\∃A',Ext X.K A8 H8 A' H'/\StoreOk X.w X.K A' H' S9) I8 ⟨A8,ρ8,S8,false,S9,er8,so8,h9,λb H' ⟨z0,A',z1,z2⟩=>⟨z0,A',z1,z2⟩⟩) λb s9 ⟨H9,I9,z0,A9,e9,so9⟩=>?_
      subst z0;rw[Kw Kr];obtain⟨d9,n9⟩:=pD I9;obtain⟨f9,k9⟩:=pF I9;refine⟨k,Ll k,i+1,σ8,H9,A9,ρ8,S9,done,its,nn,vs,ys,I9.pins_of λp hp=>absurd hp (by simp),T.keep (i+1) s7.heap _ t7 k9,f9,d9,n9,v5,e8.trans e9,er8.mono e9,so9,rl5.mono (e58.trans e9),hw5,w5⟩
     ·cases w5
    ·cases w5
   ·cases w5
 exact codeAny_compStart_list (loop _ rfl) (T.self X.A 0 _ _ _ t1 (loop _ rfl))
theorem rD {fi:FI}{g:FG}{c:FT}{f:FE}{cap:JM (JU JW)}{ρ:Fm}{S:aa}{w:W}{S':aa}(e:lT fi g c f cap ρ S=ba (w,S')) :
  ∃mi S1 n ys S2,fi ρ S=ba (mi,S1)/\mi.len S1=ba n/\cb mi g c f n 0 (fX cap ρ) S1=ba (ys,S2)/\ys.length<=sizeLine/\w=.ref S2.length/\S'=S2++[.lst ys]:=by
 unfold lT at e;split at e
 ·rename_i mi S1 h1;split at e
  ·rename_i n h2;split at e
   ·rename_i ys S2 h3;obtain⟨h4,h5,h6⟩:=lb e;exact⟨mi,S1,n,ys,S2,h1,h2,h3,h4,h5,h6⟩
   ·cases e
  ·cases e
 ·cases e
theorem Cm {scope:MZ}{N:JM Kd}{cap:JM (JU JW)}{tg elt iter:Kn}{ifs:JM Kn}{fi:FI}{g:FG}{c:FT}{f:FE}{pos:Mo}(hc:X.calm=true)(hi:GI X tg iter fi)(hck:X.Ok->∃cl,CompOk X scope cl N cap/\BlockOk X scope cl N tg elt ifs g c f)
  (hs:∀x,foldedSetIterable iter X.env x=pure x):GE X (.ListComp elt [⟨tg,iter,ifs,0⟩] scope pos) (lT fi g c f cap):=by
 intro pins s σ H Q I ⟨A,ρ,S,w,S',er,so,e,hq⟩;obtain⟨mi,S1,n,ys,S2,h1,h2,h3,h4,rfl,rfl⟩:=rD e;obtain⟨cl,ck,bk⟩:=hck I.ok;rw[eval_ListComp];refine OU (use:=gV) rfl hs ck.clos ck.kind ck.names (b7 (hi pins s σ H (λJ H'=>∃A',Ext X.K A H A' H'/\StoreOk X.w X.K A' H' S1/\MIt X.w X.K mi J A' H') I ⟨A,ρ,S,mi,S1,er,so,h1,λJ H' A' z1 z2 z3=>⟨A',z1,z2,z3⟩⟩) λv s1 q1=>b7 q1 λitv s2 q2=>?_)
 obtain⟨it,fp,tn,J,H2,rfl,I2,T,t0,hfp,A2,e2,so2,mit⟩:=q2;refine oB (RR:=λacc C=>compPost (model X.prog X.w) X.A X.xe gV (EP X pins σ Q) acc C) I2 hc (er.mono e2) so2 ck bk T t0 hfp mit h3 h4 ?_
 intro D C s' H' A' vs m hn hDn hDC hCL hCf hCn hCs hCc hCp I3 ex so3 rl;refine⟨m,hn,λh' hs'=>?_⟩
 have I4:Inv X pins σ (cj H' D (.lst vs)) { s' with heap:=h' }:=I3.turned (t':=s'.toks) (it:=C) (λb o hb eo=>hs'.extBut b o hb eo) (by rw[aN (Ne.symm hDC)]; exact hCn) hCL (.inr hCs) hCc hCp
 exact⟨.ref D,_,I4,rfl,hq _ _ (EndV.after (e2.trans ex) (.lst so3 rl hDn))⟩
theorem tQ {scope:MZ}{N:JM Kd}{cap:JM (JU JW)}{tg elt iter:Kn}{ifs:JM Kn}{fi:FI}{g:FG}{c:FT}{f:FE}{pos py spos:Mo}{y:Kd}{i:JW}(hc:X.calm=true)(hi:GI X tg iter fi)(hck:X.Ok->∃cl,CompOk X scope cl N cap/\BlockOk X scope cl N tg elt ifs g c f)
  (hs:∀x,foldedSetIterable iter X.env x=pure x) (hsw:swapsWith (.ListComp elt [⟨tg,iter,ifs,0⟩] scope pos) (ba (.Name y py)) spos.line X.env=pure true) (hN:X.N.Nodup) (hy:X.N[i]?=ba y) (hl:X.env.scope.names.lookup y=ba .local) :
  GS X (.Assign [.Name y py] (.ListComp elt [⟨tg,iter,ifs,0⟩] scope pos) spos) (lS (lT fi g c f cap) (B7 i)):=by
 intro pins s σ H Dd I ⟨A,ρ,S,o,S',er,so,e,hd⟩;unfold lS at e;split at e
 ·rename_i w S0 h0;simp only[B7]at e;cases e;obtain⟨mi,S1,n,ys,S2,h1,h2,h3,h4,rfl,rfl⟩:=rD h0;obtain⟨cl,ck,bk⟩:=hck I.ok;rw[exec_Assign_Name_used _ _ _ _ hsw];refine JN (NT (JN ?_));show wpAny _ X.A (do let _ <- comprehension (.ListComp elt [⟨tg,iter,ifs,0⟩] scope pos) scope X.env _ (newList []) false (eval iter X.env) (ba (assign (.Name y py) X.env))) _ _ s
  refine JN (LO (OU (use:=ba (assign (.Name y py) X.env)) (Q:=λ_ s'=>SP X pins Dd .next s') rfl hs ck.clos ck.kind ck.names
   (b7 (hi pins s σ H (λJ H'=>∃A',Ext X.K A H A' H'/\StoreOk X.w X.K A' H' S1/\MIt X.w X.K mi J A' H') I ⟨A,ρ,S,mi,S1,er,so,h1,λJ H' A' z1 z2 z3=>⟨A',z1,z2,z3⟩⟩) λv s1 q1=>b7 q1 λitv s2 q2=>?_)) (λ_ s' hq=>JT (JT hq)) λ_ _ e=>e)
  obtain⟨it,fp,tn,J,H2,rfl,I2,T,t0,hfp,A2,e2,so2,mit⟩:=q2;refine oB (RR:=λacc C=>compPost (model X.prog X.w) X.A X.xe (ba (assign (.Name y py) X.env)) (λ_ s'=>SP X pins Dd .next s') acc C) I2 hc (er.mono e2) so2 ck bk T t0 hfp mit h3 h4 ?_
  intro D C s' H' A' vs m hn hDn hDC hCL hCf hCn hCs hCc hCp I3 ex so3 rl;obtain⟨oC,esC,epC,hoC,hdC,hrC⟩:=id hn;have I3':Inv X (pins++[(C,oC)]) σ (cj H' D (.lst vs)) s':=I3.pins_of λp hp=>by
   rcases KF.mp hp with hp|hp
   ·exact I3.pin p (KG _ hp)
   ·have hp':p=(C,oC):=by simpa using hp
    subst hp';exact⟨hoC,by rw[aN (Ne.symm hDC)]; exact hCn,hCL,hCf,λv z=>by rw[hdC]at z; cases z⟩
  show wpAny _ X.A (assign (.Name y py) X.env (.ref D)) _ _ _;refine Qm (iL I3' hN hy (.inl hl) (v:=.ref D) rfl (λs4 I4=>?_) (.inr hl))
  have pC:=I4.pin (C,oC) (KG _ (KG _ (J8.mpr rfl)));refine⟨m,⟨oC,esC,epC,pC.1,hdC,hrC⟩,λh' hs'=>?_⟩
  have I5:Inv X pins (σ.set i (ba (.ref D))) (cj H' D (.lst vs)) s4:=I4.pins_of λp hp=>I4.pin p (KG _ (L6 _ hp))
  have I6:Inv X pins (σ.set i (ba (.ref D))) (cj H' D (.lst vs)) { s4 with heap:=h' }:=I5.turned (t':=s4.toks) (it:=C) (λb o hb eo=>hs'.extBut b o hb eo) (by rw[aN (Ne.symm hDC)]; exact hCn) hCL (.inr hCs) hCc hCp
  obtain⟨Af,f1,f2,f3⟩:=EndV.after (e2.trans ex) (EndV.lst so3 rl hDn);exact⟨_,_,I6,hd.nx _ _ ⟨_,Af,rfl,f1,f2,(er.mono f1).set f3 i⟩⟩
 ·cases e
end
open PySem.Builtin.SmallTypes (nextOf)
section
variable{prog:Kx}{w:KO}
structure Zit (prog:Kx)(w:KO)(it:JX)(T:JW->KW->Prop)(C:KW->Prop)(i:JW)(U:JU (JP->Prop)):Prop where
 keep:∀j h h',T j h->(∀o,h.get? it=ba o->h'.get? it=ba o)->T j h'
 next:∀V,U=ba V->∀(B:KH) (s:JS) (Q:JP->JS->Prop) (E:JP->JS->Prop),T i s.heap->C s.heap->(∀u h' tk,V u->T (i+1) h'->LJ it s.heap h'->Q u { s with heap:=h',toks:=tk })->wpAny (model prog w) B (nextOf (.ref it)) Q E s
 stop:U=gV->∀(B:KH) (s:JS) (Q:JP->JS->Prop) (E:JP->JS->Prop),B.handled=gV->T i s.heap->C s.heap->(∀h' e,PD it s.heap h'->(∃o,h'.get? e=ba o/\o.cls=.type "StopIteration")->E (.ref e) { s with heap:=h' })->wpAny (model prog w) B (nextOf (.ref it)) Q E s
variable{B:KH}{E:JP->JS->Prop}{s:JS}{z p q i1 i2:JX}{T1 T2:JW->KW->Prop}{C1 C2:KW->Prop}{i:JW}{a b:JP}
noncomputable def Zc (z q i1 i2:JX)(C:KW->Prop):Prop:=∀h h',C h->(∀c o,c≠z->c≠q->c≠i1->c≠i2->h.get? c=ba o->h'.get? c=ba o)->C h'
end
end Mi
namespace Mi
open PySem PySem.Spec PyProof.Rows L2
open PySem.Builtin.SmallTypes (nextOf)
noncomputable def tR (prog:Kx)(w:KO)(v:JP)(o:LF)(C:KW->Prop):Prop:=∀(B:KH) (s:JS) (Q:JP->JS->Prop) (E:JP->JS->Prop),C s.heap->Q (.ref s.heap.objs.size) { s with heap:=s.heap.push o }->wpAny (model prog w) B (pyIter v) Q E s
end Mi
namespace Mi
open PySem PySem.Spec PyProof.Rows L2
open PySem.Builtin.SmallTypes (nextOf)
section
variable{prog:Kx}{w:KO}{A:KH}{E:JP->JS->Prop}{s:JS}
theorem GK {it t:JX}{i:JW}{items:Ku JP}{x:JP}{Q:JP->JS->Prop}(hit:s.heap.IsTupleIter it t i)(ht:s.heap.IsTuple t items)(hx:items[i]?=ba x)
  (hQ:∀h',h'.IsTupleIter it t (i+1)->LJ it s.heap h'->Q x { s with heap:=h' }):wpAny (model prog w) A (nextOf (.ref it)) Q E s:=by
 obtain⟨o,ho,hc,hd⟩:=id hit;obtain⟨ot,hot,_,nt,hdt⟩:=ht;unfold OE;refine JN (La (name:=L5 "__next__") hit.typeIs F.slot_tuple_iterator_next (Lb F.slot_tuple_iterator_next hit.typeIs F.entry_tuple_iterator_next ?_ (F.args_tuple_iterator_next_1 _)));show wpAny _ _ (field (.ref it) 0 >>= _) _ _ s;refine JN (L7 ho hd (x:=.ref t) rfl ?_);show wpAny _ _ (if (KI t==KU)=true then _ else _) _ _ s
 rw[Kw (show ¬ ((KI t==KU)=true)from Kr)]
 show wpAny _ _ (field (.ref it) 1 >>= _) _ _ s;refine JN (L7 ho hd (x:=.int i 0) rfl (JN (L8 hot hdt ?_)));simp only[Kh,hx];refine JN (Ov ho hd (by simp) (JT ⟨x,rfl,JT (hQ _ ⟨_,Lz _ ho (Pu (Nx hd _)),(QC ..).trans hc,?_⟩ (MH ..))⟩))
 rw[Nx hd]; simp[rawInt]
theorem GL {it t:JX}{i:JW}{items:Ku JP}{Q:JP->JS->Prop}(hh:A.handled=gV)(hit:s.heap.IsTupleIter it t i)(ht:s.heap.IsTuple t items)(hx:items[i]?=gV)
  (hE:∀h' e,PD it s.heap h'->(∃o,h'.get? e=ba o/\o.cls=.type "StopIteration")->E (.ref e) { s with heap:=h' }):wpAny (model prog w) A (nextOf (.ref it)) Q E s:=by
 obtain⟨o,ho,hc,hd⟩:=id hit;obtain⟨ot,hot,_,nt,hdt⟩:=ht;unfold OE;refine JN (La (name:=L5 "__next__") hit.typeIs F.slot_tuple_iterator_next (Lb F.slot_tuple_iterator_next hit.typeIs F.entry_tuple_iterator_next ?_ (F.args_tuple_iterator_next_1 _)));show wpAny _ _ (field (.ref it) 0 >>= _) _ _ s;refine JN (L7 ho hd (x:=.ref t) rfl ?_);show wpAny _ _ (if (KI t==KU)=true then _ else _) _ _ s
 rw[Kw (show ¬ ((KI t==KU)=true)from Kr)]
 show wpAny _ _ (field (.ref it) 1 >>= _) _ _ s;refine JN (L7 ho hd (x:=.int i 0) rfl (JN (L8 hot hdt ?_)));simp only[Kh,hx];refine JN (O3 (JN (Ov ho hd (by simp) ?_)))
 show wpAny _ _ (newExc (.type "StopIteration") [] >>= _) _ _ _;refine JN ?_;simp only[newExc,newTuple];refine JN (KQ ?_ (by size_fits))
 refine JN (m:=firstArgMember _ _) (Nz (a:=KU) (by first|rfl|(simp only[firstArgMember]; rfl)) (KQ ?_ (by size_fits)))
 simp only[raiseNew];refine JN (P2 ?_)
 first|rw[show A.in1.handled=gV from hh]|rw[hh]
 exact JN (JT (Q7 (hE _ _ (((MH ..).extBut.push _).push _) ⟨_,J9 _ rfl,rfl⟩)))
end
set_option genInjectivity false in
inductive Zs where|tup (a:JX)|lst (a:JX)|txt (x:Kd)
noncomputable def Zs.T (it:JX):Zs->JW->KW->Prop
 | .tup a,i,h=>h.IsTupleIter it a i
 | .lst a,i,h=>h.IsListIter it a i
 | .txt x,i,h=>∃t,h.IsStrIter it "str_ascii_iterator" x t i\/h.IsStrIter it "str_iterator" x t i
noncomputable def Zs.at (K:J2)(H:Hp)(i:JW)(v:V):Zs->Prop
 | .tup a=>∃xs,SqT K H a xs/\xs[i]?=ba v
 | .lst a=>∃xs,SqL K H a xs/\xs[i]?=ba v
 | .txt x=>∃c,x.cps[i]?=ba c/\v=.str ⟨[c].toArray⟩
noncomputable def Zs.out (K:J2)(H:Hp)(i:JW):Zs->Prop
 | .tup a=>∃xs,SqT K H a xs/\xs.length<=i
 | .lst a=>∃xs,SqL K H a xs/\xs.length<=i
 | .txt x=>x.cps.size<=i
theorem Zs.keep {S:Zs}{it:JX}{j:JW}{h h':KW}(t:S.T it j h)(k:∀o,h.get? it=ba o->h'.get? it=ba o):S.T it j h':=by
 cases S with
 | tup a=>exact t.at k
 | lst a=>exact t.at k
 | txt x=>
  obtain⟨tk,t⟩:=t;exact⟨tk,t.imp (λ⟨o,e,r⟩=>⟨o,k _ e,r⟩) λ⟨o,e,r⟩=>⟨o,k _ e,r⟩⟩
section
variable{X:Cx}{pins:JM (JX×LF)}{σ:L2.St}{H:Hp}{s:JS}
theorem zo (I:Inv X pins σ H s){a b:JX}{o:LF}(h:X.K.lookup a=ba o)(f:jt X pins H b):a≠b:=λz=>by
 subst z;have hb:=I.ok.mod.kin a o h;rcases f.2.2.2.1 with q|q
 ·exact I.ok.noex a o hb q
 ·exact absurd (Kq (Kf (I.ok.bs a o hb).1) q) (Ly _)
end
end Mi
namespace Mi
open PySem PySem.Spec PyProof.Rows L2
open PySem.Builtin.SmallTypes (nextOf)
section
variable{X:Cx}{pins:JM (JX×LF)}{σ:L2.St}{H:Hp}{s:JS}{h':KW}
theorem zp {a b:JX}{u:HO}(h:Rd H a u)(f:H b=gV):a≠b:=λz=>by
 subst z;rcases h with h|⟨o,h⟩ <;> (rw[f]at h; cases h)
theorem Inv.turnedL {t':JW}{ch:JM JX}(I:Inv X pins σ H s)(k:∀b o,b∉ch->s.heap.get? b=ba o->h'.get? b=ba o)(hf:∀b∈ch,jt X pins H b):Inv X pins σ H { s with heap:=h',toks:=t' }:=by
 have nit:∀b u,H b=ba u->b∉ch:=λb u e z=>by have:=(hf b z).1; rw[e]at this; cases this
 refine I.step (g':=s.gens) (d':=s.drawn) (ch:=ch) (λb hb=>?_) (λb o _ _ hc e _=>k b o hc e) (λb o _ _ hc e _=>⟨o.slots,k b o hc e⟩) (λ_ _ _ _ n=>n) (λb o hc e=>⟨o,k b o hc e⟩) (λ_ _ e=>e) (λ_ _ _ e=>e) (λb ps e=>⟨#[],by rw[e]; simp⟩) (λm hm=>?_) (λb u e=>?_) I.bare
 ·obtain⟨_,f1,_,f3,f4,f5⟩:=hf b hb;exact⟨f3,f1,f4,f5⟩
 ·obtain⟨o,es,ep,ho,r⟩:=hm;exact⟨o,es,ep,k _ o (λz=>(hf _ z).2.1 rfl) ho,r⟩
 ·refine(I.hok b u e).stay (λc v hc q=>k c v ?_ q) (λ_ q=>q) λ_ _ q=>q
  rcases hc with z|z
  ·rw[z]; exact nit b u e
  ·exact nit c _ z
theorem Zs.zit {S:Zs}{it z q i1 i2:JX}{i:JW}{U:JU V}(I:Inv X pins σ H s)(hf:∀b∈[z,q,i1,i2],jt X pins H b)(g:match U with|some v=>S.at X.K H i v|none=>S.out X.K H i) :
  ∃C,Zit X.prog X.w it (S.T it) C i (U.map λv u=>RelV v u)/\C s.heap/\Zc z q i1 i2 C:=by
 have zc:∀(a:JX) (P:KW->Prop),(∀h h',P h->(∀o,h.get? a=ba o->h'.get? a=ba o)->P h')->(∀b∈[z,q,i1,i2],a≠b)->Zc z q i1 i2 P:=λa P hP hn h h' p k=>
  hP h h' p λo e=>k a o (hn z (by simp)) (hn q (by simp)) (hn i1 (by simp)) (hn i2 (by simp)) e
 have sep:∀ {a:JX} {u:HO} {o:LF} {b:JX},(Rd H a u\/X.K.lookup a=ba o)->b∈[z,q,i1,i2]->a≠b:=λh hb=>h.elim (λr=>zp r (hf _ hb).1) λr=>zo I r (hf _ hb)
 cases S with
 | tup a=>
  obtain⟨xs,hq,hx⟩ : ∃xs,SqT X.K H a xs/\(match U with|some v=>xs[i]?=ba v|none=>xs.length<=i):=by
   cases U <;> exact g
  obtain⟨its,rv,p,_⟩:=I.tuple hq;have hne:∀b∈[z,q,i1,i2],a≠b:=λb hb=>by
   rcases hq with r|⟨o,_,_,r,_⟩
   ·exact zp r (hf b hb).1
   ·exact zo I r (hf b hb)
  refine⟨λh=>h.IsTuple a its.toArray,⟨λj h h' t k=>Zs.keep (S:=.tup a) t k,λV hV B s2 Q E t c hQ=>?_,λhU B s2 Q E hh t c hE=>?_⟩,p,zc a _ (λh h' ⟨o,e,r⟩ k=>⟨o,k _ e,r⟩) hne⟩
  ·cases U with
   | none=>cases hV
   | some v=>
    cases hV;obtain⟨u,hu,ru⟩:=rv.get hx;exact GK t c (x:=u) (by simpa using hu) λh' t' sb=>hQ u h' s2.toks ru t' sb
  ·cases U with
   | some v=>cases hU
   | none=>
    have:=L2.Vals.length rv;have hx':xs.length<=i:=hx;exact GL hh t c (by simp; omega) hE
 | lst a=>
  obtain⟨xs,hq,hx⟩ : ∃xs,SqL X.K H a xs/\(match U with|some v=>xs[i]?=ba v|none=>xs.length<=i):=by
   cases U <;> exact g
  obtain⟨its,rv,p,_⟩:=I.list hq;have hne:∀b∈[z,q,i1,i2],a≠b:=λb hb=>by
   rcases hq with r|⟨o,_,_,r,_⟩
   ·exact zp r (hf b hb).1
   ·exact zo I r (hf b hb)
  refine⟨λh=>h.IsList a its.toArray,⟨λj h h' t k=>Zs.keep (S:=.lst a) t k,λV hV B s2 Q E t c hQ=>?_,λhU B s2 Q E hh t c hE=>?_⟩,p.isList,zc a _ (λh h' ⟨o,e,r⟩ k=>⟨o,k _ e,r⟩) hne⟩
  ·cases U with
   | none=>cases hV
   | some v=>
    cases hV;obtain⟨u,hu,ru⟩:=rv.get hx;exact wpAny_nextOf_list_item t c (x:=u) (by simpa using hu) λh' t' sb=>hQ u h' s2.toks ru t' sb
  ·cases U with
   | some v=>cases hU
   | none=>
    have:=L2.Vals.length rv;have hx':xs.length<=i:=hx;exact wpAny_nextOf_list_end hh t c (by simp; omega) hE
 | txt x=>
  refine⟨λ_=>Rn,⟨λj h h' t k=>Zs.keep (S:=.txt x) t k,λV hV B s2 Q E t _ hQ=>?_,λhU B s2 Q E hh t _ hE=>?_⟩,trivial,λ_ _ _ _=>trivial⟩
  ·cases U with
   | none=>cases hV
   | some v=>
    cases hV;obtain⟨c,hc,rfl⟩ : ∃c,x.cps[i]?=ba c/\v=.str ⟨[c].toArray⟩:=g;obtain⟨tk,t|t⟩:=t
    ·exact wpAny_nextOf_ascii_item t hc λh' t' sb=>hQ _ h' _ ⟨_,rfl⟩ ⟨tk,.inl t'⟩ sb
    ·exact wpAny_nextOf_wide_item t hc λh' t' sb=>hQ _ h' _ ⟨_,rfl⟩ ⟨tk,.inr t'⟩ sb
  ·cases U with
   | some v=>cases hU
   | none=>
    have hx:x.cps[i]?=gV:=by simpa using(show x.cps.size<=i from g)
    obtain⟨tk,t|t⟩:=t
    ·exact wpAny_nextOf_ascii_end hh t hx hE
    ·exact wpAny_nextOf_wide_end hh t hx hE
end
noncomputable def Zs.is (K:J2)(H:Hp)(i:JW)(v:V):Zs->Prop
 | .tup a=>∀xs,SqT K H a xs->xs[i]?=ba v
 | .lst a=>∀xs,SqL K H a xs->xs[i]?=ba v
 | .txt x=>∃c,x.cps[i]?=ba c/\v=.str ⟨[c].toArray⟩
theorem Zs.at_is {S:Zs}{X:Cx}{pins:JM (JX×LF)}{σ:L2.St}{H:Hp}{s:JS}{i:JW}{v:V}(I:Inv X pins σ H s)(h:S.at X.K H i v):S.is X.K H i v:=by
 cases S with
 | tup a=>obtain⟨xs,hq,hx⟩:=h; exact λys hy=>by rw[I.tuple_inj hy hq]; exact hx
 | lst a=>obtain⟨xs,hq,hx⟩:=h; exact λys hy=>by rw[I.list_inj hy hq]; exact hx
 | txt x=>exact h
end Mi
namespace Mi
open PySem PySem.Spec PyProof.Rows L2
noncomputable def IG:W->JU (JM W)
 | .tup xs=>ba xs
 | .str x=>ba (x.cps.toList.map λc=>.str ⟨[c].toArray⟩)
 | _=>gV
section
variable{X:Cx}{pins:JM (JX×LF)}{σ:L2.St}{H:Hp}{s:JS}{A:JM JX}
noncomputable def ZRel (K:J2)(A:JM JX)(H:Hp)(xs:JM W):Zs->Prop
 | .tup a=>∃vs,SqT K H a vs/\RelL K A H xs vs
 | .lst a=>Lq
 | .txt x=>xs=x.cps.toList.map λc=>.str ⟨[c].toArray⟩
theorem ZRel.mono {K:J2}{A A':JM JX}{H H':Hp}{xs:JM W}{S:Zs}(e:Ext K A H A' H')(h:ZRel K A H xs S):ZRel K A' H' xs S:=by
 cases S with
 | tup a=>obtain⟨vs,h1,h2⟩:=h; exact⟨vs,e.tp _ _ h1,h2.mono e⟩
 | lst a=>exact h
 | txt x=>exact h
theorem ZRel.at {K:J2}{xs:JM W}{S:Zs}{i:JW}{w:W}(h:ZRel K A H xs S)(hi:xs[i]?=ba w):∃v,S.at K H i v/\Rel K A H w v:=by
 cases S with
 | tup a=>obtain⟨vs,h1,h2⟩:=h; obtain⟨v,h3,h4⟩:=h2.get hi; exact⟨v,⟨vs,h1,h3⟩,h4⟩
 | lst a=>exact h.elim
 | txt x=>
  have h:xs=x.cps.toList.map λc=>.str ⟨[c].toArray⟩:=h
  subst h;rw[JY,JR]at hi;obtain⟨c,hc,rfl⟩:=hi;exact⟨.str ⟨[c].toArray⟩,⟨c,by rw[<- Lj]; exact hc,rfl⟩,.str⟩
theorem ZRel.is {K:J2}{xs:JM W}{S:Zs}{i:JW}{w:W}{v:V}(h:ZRel K A H xs S)(hi:xs[i]?=ba w)(z:S.is K H i v):Rel K A H w v:=by
 obtain⟨v',h1,h2⟩:=h.at hi;cases S with
 | tup a=>
  obtain⟨vs,q,e⟩:=h1;have:=z vs q;rw[e]at this; cases this
  exact h2
 | lst a=>exact h.elim
 | txt x=>
  obtain⟨c,e,rfl⟩:=h1;obtain⟨c',e',rfl⟩:=z;rw[e]at e'; cases e'
  exact h2
theorem ZRel.out {K:J2}{xs:JM W}{S:Zs}{i:JW}(h:ZRel K A H xs S)(hi:xs.length<=i):S.out K H i:=by
 cases S with
 | tup a=>obtain⟨vs,h1,h2⟩:=h; exact⟨vs,h1,by rw[<- h2.length]; exact hi⟩
 | lst a=>exact h.elim
 | txt x=>
  have h:xs=x.cps.toList.map λc=>.str ⟨[c].toArray⟩:=h
  subst h;show x.cps.size<=i
  simpa using hi
theorem Cn {x:W}{v:V}{u:JP}{xs:JM W}(I:Inv X pins σ H s)(r:Rel X.K A H x v)(ru:RelV v u)(e:IG x=ba xs) :
  ∃(S:Zs) (o:LF) (C:KW->Prop),ZRel X.K A H xs S/\tR X.prog X.w u o C/\C s.heap/\(∀h o,C h->C (h.push o))/\o.isFreed=false/\∀it h,h.get? it=ba o->S.T it 0 h:=by
 cases r with
 | @tup ws a vs hq rl=>
  cases e;obtain⟨its,rv,p,_⟩:=I.tuple hq;obtain rfl:u=KI a:=ru;exact⟨.tup a,{ cls:=.type "tuple_iterator",data:=.fields [.ref a,.int 0 0].toArray },λh=>h.IsTuple a its.toArray,⟨vs,hq,rl⟩,λB s Q E c hQ=>Qh c hQ,p,λh o ⟨ot,e,r⟩=>⟨ot,JQ _ e,r⟩,rfl,λit h e=>⟨_,e,rfl,rfl⟩⟩
 | @str x=>
  cases e;obtain⟨t,rfl⟩:=ru;cases ha:x.cps.all (· < 128)with
  | false=>exact⟨.txt x,{ cls:=.type "str_iterator",data:=.fields [.str x t,.int 0 0].toArray },λ_=>Rn,rfl,λB s Q E _ hQ=>wpAny_pyIter_wide ha hQ,trivial,λ_ _ _=>trivial,rfl,λit h e=>⟨t,.inr ⟨_,e,rfl,rfl⟩⟩⟩
  | true=>exact⟨.txt x,{ cls:=.type "str_ascii_iterator",data:=.fields [.str x t,.int 0 0].toArray },λ_=>Rn,rfl,λB s Q E _ hQ=>wpAny_pyIter_ascii ha hQ,trivial,λ_ _ _=>trivial,rfl,λit h e=>⟨t,.inl ⟨_,e,rfl,rfl⟩⟩⟩
 | _=>cases e
end
open PySem.Builtin.SmallTypes (nextOf)
section
variable{prog:Kx}{w:KO}{B:KH}{E:JP->JS->Prop}{s:JS}{e it:JX}{T:JW->KW->Prop}{C:KW->Prop}{i:JW}{old:JP}
structure EnAt (h0 h:KW)(e it:JX)(fs:Ku JP)(T:KW->Prop):Prop where
 here:h.get? e=ba { cls:=.type "enumerate",dict:=gV,data:=.fields fs,slots:=#[] }
 turn:T h
 kept:∀b o,b≠e->b≠it->h0.get? b=ba o->h.get? b=ba o
theorem EnAt.put {h0:KW}{fs:Ku JP}{T:KW->Prop}{k:JW}{v:JP}{Q:Tn->JS->Prop}(x:EnAt h0 s.heap e it fs T)(hne:e≠it)(kT:∀h h',T h->(∀o,h.get? it=ba o->h'.get? it=ba o)->T h')(hk:k < fs.size)
  (q:∀h',EnAt h0 h' e it (fs.setIfInBounds k v) T->LJ e s.heap h'->Q () { s with heap:=h' }):wpAny (model prog w) B (setField (.ref e) k v) Q E s:=
 Qb x.here hk λh' y sb=>q h' ⟨y,kT _ _ x.turn λo z=>sb.extBut _ _ (Ne.symm hne) z,λb o h1 h2 z=>sb.extBut b o h1 (x.kept b o h1 h2 z)⟩ sb
theorem oE {U:JU (JP->Prop)}{Q:JP->JS->Prop}(Z:Zit prog w it T C i U)(hh:B.handled=gV)(he:SS s.heap e it (i:J5) old)(t:T i s.heap)(c:C s.heap)(hne:e≠it)
  (hI:∀V,U=ba V->∀u h' tk tk0,V u->IsEnumOut h' e it ((i:J5)+1) u s.heap.objs.size->T (i+1) h'->h'.get? s.heap.objs.size=ba { cls:=.type "tuple",data:=.seq [.int i tk0,u].toArray }->
   (∀b o,b≠e->b≠it->s.heap.get? b=ba o->h'.get? b=ba o)->Q (.ref s.heap.objs.size) { s with heap:=h',toks:=tk })
  (hE:U=gV->∀h' x,PD it s.heap h'->(∃o,h'.get? x=ba o/\o.cls=.type "StopIteration")->E (.ref x) { s with heap:=h' }) :
  wpAny (model prog w) B (M0.«enumerate.__next__» ⟨[.ref e],[]⟩) (λfin s'=>∃v,fin=.done (.ret v)/\Q v s') E s:=by
 obtain⟨hp,g,d,tk,os⟩:=s;show wpAny _ _ (field (.ref e) 2 >>= _) _ _ _;refine JN (L7 he rfl (x:=.ref it) rfl (JN ?_));cases U with
 | none=>exact Z.stop rfl _ _ _ _ hh t c λh' x a b=>hE rfl h' x a b
 | some V=>
  refine Z.next V rfl _ _ _ _ t c λu ha tka hu ta sba=>?_
  have kT:=Z.keep (i+1);have xa:EnAt hp ha e it [.none,.bool false,.ref it,rawInt i,.none,old].toArray (T (i+1)):=⟨(sba.2 e hne).trans he,ta,λb o _ h2 z=>sba.extBut b o h2 z⟩
  have za:ha.objs.size=hp.objs.size:=sba.1;clear sba ta;show wpAny _ _ (field (.ref e) 3 >>= _) _ _ ⟨ha,g,d,tka,os⟩;refine JN (L7 xa.here rfl (x:=rawInt i) rfl ?_);show wpAny _ _ (field (.ref e) 4 >>= _) _ _ ⟨ha,g,d,tka,os⟩;refine JN (L7 xa.here rfl (x:=.none) rfl ?_);show wpAny _ _ (mkInt i >>= _) _ _ ⟨ha,g,d,tka,os⟩;refine JN (Q9 (JN (xa.put (s:=⟨ha,g,d,tka+1,os⟩) hne kT (by simp) λhb xb sb1=>JN (xb.put (s:=⟨hb,g,d,tka+1,os⟩) hne kT (by simp) λhc xc sb2=>JN (PB ?_)))))
  have zc:hc.objs.size=hp.objs.size:=by rw[sb2.1,<- za]; exact sb1.1
  have hel:hp.objs.size≠e:=KC (Kf he);have new:=J9 hc (o:={ cls:=.type "tuple",data:=.seq [.int i tka,u].toArray }) rfl;have xd:EnAt hp (hc.push { cls:=.type "tuple",data:=.seq [.int i tka,u].toArray }) e it [.none,.bool false,.ref it,rawInt ((i:J5)+1),.none,old].toArray (T (i+1)):=⟨JQ _ xc.here,kT _ _ xc.turn λo z=>JQ _ z,λb o h1 h2 z=>JQ _ (xc.kept b o h1 h2 z)⟩
  rw[zc]at new;show wpAny _ _ (Nn (.ref e) >>= _) _ _ ⟨hc.push _,g,d,tka+1,os⟩;rw[zc];generalize hc.push { cls:=.type "tuple",data:=.seq [.int i tka,u].toArray }=hd at new xd ⊢;clear zc sb2 xc sb1 xb hb xa za;refine JN ?_;unfold Nn;refine JN (L7 xd.here rfl (x:=.none) rfl (JT ?_));simp only[LH];refine JN (O3 (JN (L7 xd.here rfl (x:=old) rfl (JN (xd.put (s:=⟨hd,g,d,tka+1,os⟩) hne kT (by simp) λh1 x1 s1=>JN ?_)))))
  unfold PX;refine JN (x1.put (s:=⟨h1,g,d,tka+1,os⟩) hne kT (by simp) λh2 x2 s2=>x2.put (s:=⟨h2,g,d,tka+1,os⟩) hne kT (by simp) λh3 x3 s3=>JN (NX (JT ⟨_,rfl,hI V rfl u h3 (tka+1) tka hu x3.here x3.turn ?_ x3.kept⟩)))
  exact s3.extBut _ _ hel (s2.extBut _ _ hel (s1.extBut _ _ hel new))
variable{v:JP}{o:LF}
theorem rE (h1:tR prog w v o C) :
  MeetsIn prog w (M0.«enumerate.__new__» ⟨[.type "enumerate",v],[]⟩) (λ_ R s=>C s.heap/\R (.ok (.ret (.ref (s.heap.push o).objs.size))) { s with heap:=(s.heap.push o).push { cls:=.type "enumerate",data:=.fields [.none,.bool false,.ref s.heap.objs.size,rawInt 0,.none,.none].toArray } }):=
 .of_wp λA R s h=>by
  obtain⟨hp,g,d,tk,os⟩:=s;obtain⟨c,h⟩:=h;have hsub:=sub_enumerate;have d1:∀(B:KH) (Q:JP->JS->Prop) (E:JP->JS->Prop),Q (.ref hp.objs.size) ⟨hp.push o,g,d,tk,os⟩->wpAny (model prog w) B (pyIter v) Q E ⟨hp,g,d,tk,os⟩:=λB Q E q=>h1 B ⟨hp,g,d,tk,os⟩ Q E c q
  wp_walk
  refine wpAny_stack_any λst=>JT ?_
  split
  ·rename_i c _ _ _ _ _;cases(c==LG "enumerate")
   ·wp_walk using d1 _ _ _
    exact⟨_,rfl,h⟩
   ·wp_walk using d1 _ _ _
    exact⟨_,rfl,h⟩
  ·wp_walk using d1 _ _ _
   exact⟨_,rfl,h⟩
theorem wH {Q:JP->JS->Prop}(h1:tR prog w v o C)(c:C s.heap)(n1:o.isFreed=false)
  (h:∀h',SS h' (s.heap.objs.size+1) s.heap.objs.size 0 .none->h'.get? s.heap.objs.size=ba o->(∀b o,s.heap.get? b=ba o->h'.get? b=ba o)->Q (.ref (s.heap.objs.size+1)) { s with heap:=h' }) :
  wpAny (model prog w) B (call (.type "enumerate") [v]) Q E s:=by
 refine callType_newIn F.called_enumerate (by decide) (F.typeCall_enumerate_1 _) (F.newCall_enumerate_1 _) (λobj=>F.args_object_init_2 obj _) F.entry_enumerate_new (rE h1) ⟨c,?_⟩
 have hz:(s.heap.push o).objs.size=s.heap.objs.size+1:=MN ..;show _/\_;rw[hz];have he:SS ((s.heap.push o).push { cls:=.type "enumerate",data:=.fields [.none,.bool false,.ref s.heap.objs.size,rawInt 0,.none,.none].toArray }) (s.heap.objs.size+1) s.heap.objs.size 0 .none:=by
  have:=J9 (s.heap.push o) (o:={ cls:=.type "enumerate",data:=.fields [.none,.bool false,.ref s.heap.objs.size,rawInt 0,.none,.none].toArray }) rfl;rw[hz]at this; exact this
 exact⟨⟨_,he,rfl⟩,h _ he (JQ _ (J9 _ n1)) λb o x=>JQ _ (JQ _ x)⟩
end
noncomputable def Jv (K:J2)(S1:Zs):It:=
 ⟨λi H=>∃x,S1.at K H i x,λi H v H'=>∃p x,S1.is K H i x/\v=.ref p/\H p=gV/\H'=cj H p (.tup [.int i,x]),λi H=>S1.out K H i⟩
theorem wI {P:Kx}{w:KO}{K:J2}{els:JM Kn}{k0:JW}{tp:Mo}{S1:Zs}{z i1:JX}(D:z≠i1) :
  Turn P w K (.Tuple els k0 tp) (Jv K S1) [z,i1] z (λi h=>(∃old,SS h z i1 i old)/\S1.T i1 i h) where
 mem:=by simp
 obj:=λi h ⟨⟨old,a⟩,d⟩ b' hb=>by
  have it:∀ {S:Zs} {it:JX},S.T it i h->∃o,h.get? it=ba o/\∀v,o.data≠.cell v:=λ{S it} t=>by
   cases S with
   | tup a=>obtain⟨o,e,_,d⟩:=t; exact⟨o,e,λv z=>by rw[d]at z; cases z⟩
   | lst a=>obtain⟨o,e,_,d⟩:=t; exact⟨o,e,λv z=>by rw[d]at z; cases z⟩
   | txt x=>obtain⟨tk,⟨o,e,_,d⟩|⟨o,e,_,d⟩⟩:=t <;> exact⟨o,e,λv z=>by rw[d]at z; cases z⟩
  simp only[Kv,Lc,MA]at hb;rcases hb with rfl|rfl
  ·exact⟨_,a,λv z=>by cases z⟩
  ·exact it d
 keep:=λi h h' ⟨⟨old,a⟩,d⟩ k=>⟨⟨old,k z (by simp) _ a⟩,Zs.keep d (k i1 (by simp))⟩
 item:=by
  intro X hP hw hK hc i pins s σ H E I hf st hg;subst hP hw hK;obtain⟨x,g1⟩:=hg;obtain⟨⟨old,a⟩,d⟩:=st;have hf4:∀b∈[z,z,i1,i1],jt X pins H b:=λb hb=>hf b (by simp only[Kv,Lc,MA]at hb ⊢; rcases hb with h|h|h|h <;> simp[h])
  obtain⟨C1,Z1,c1,k1⟩:=Zs.zit (it:=i1) (U:=ba x) I hf4 g1;have hT:s.TypeIs (.ref z) "enumerate":=⟨_,a,rfl⟩;unfold pyNext;refine JN (NU (La (name:=L5 "__next__") hT F.slot_enumerate_next (Lb F.slot_enumerate_next hT F.entry_enumerate_next ?_ (F.args_enumerate_next_1 _))));refine oE Z1 (I.ok.hd hc) a d c1 D (λV e1 u g tk tk0 r1 zg t1 ng kp=>?_) (λz=>by cases z)
  cases e1;refine JT ⟨_,rfl,?_⟩;refine wpAny_letOwnedTupleGo_enum (s:={ s with heap:=g,toks:=tk }) zg λg' zg' sb=>?_
  have N0:H s.heap.objs.size=gV:=I.hok.fresh (JZ _);have lt:∀ {b:JX},b∈[z,i1]->s.heap.objs.size≠b:=λ{b} hb=>by
   have:∃o,s.heap.get? b=ba o:=by
    have it:∀ {S:Zs} {it:JX},S.T it i s.heap->∃o,s.heap.get? it=ba o:=λ{S it} t=>by
     cases S with
     | tup a=>obtain⟨o,e,_⟩:=t; exact⟨o,e⟩
     | lst a=>obtain⟨o,e,_⟩:=t; exact⟨o,e⟩
     | txt x=>obtain⟨tk,⟨o,e,_⟩|⟨o,e,_⟩⟩:=t <;> exact⟨o,e⟩
    simp only[Kv,Lc,MA]at hb;rcases hb with rfl|rfl
    ·exact⟨_,a⟩
    ·exact it d
   obtain⟨o,e⟩:=this;exact KC (Kf e)
  have up:∀b o,b∉[z,i1]->s.heap.get? b=ba o->g'.get? b=ba o:=λb o hb e=>by
   simp only[Kv,Lc,MA,SQ]at hb;exact sb.extBut _ _ hb.1 (kp b o hb.1 hb.2 e)
  have I1:Inv X pins σ H { s with heap:=g',toks:=tk }:=Mi.Inv.turnedL I up hf
  have ng':g'.get? s.heap.objs.size=ba { cls:=.type "tuple",data:=.seq [.int i tk0,u].toArray }:=sb.extBut _ _ (lt (by simp)) ng
  have I2:Inv X pins σ (cj H s.heap.objs.size (.tup [.int i,x])) { s with heap:=g',toks:=tk }:=by
   refine Mi.Inv.adopt I1 N0 (.inr I.sz) (KC I.lt) (λw c e=>?_) (λp hp=>?_) ⟨by show 2<=sizeLine; decide,[.int i tk0,u],.cons ⟨_,rfl⟩ (.cons r1 .nil),⟨_,ng',rfl,0,rfl⟩⟩
   ·obtain⟨v,q⟩:=I.cell w c e;exact Kk q.lt
   ·exact Kk (Kf (I.pin p hp).1)
  refine⟨.ref s.heap.objs.size,_,I2,rfl,⟨s.heap.objs.size,x,Zs.at_is I g1,rfl,N0,rfl⟩,⟨⟨_,zg'⟩,Zs.keep t1 λo e=>sb.extBut _ _ (Ne.symm D) e⟩,λb hb=>?_⟩
  rw[aN (Ne.symm (lt hb))];exact(hf b hb).1
 done:=by
  intro X hP hw hK hc i pins s σ H E I hf st hg;subst hP hw hK;obtain⟨⟨old,a⟩,d⟩:=st;have hf4:∀b∈[z,z,i1,i1],jt X pins H b:=λb hb=>hf b (by simp only[Kv,Lc,MA]at hb ⊢; rcases hb with h|h|h|h <;> simp[h])
  obtain⟨C1,Z1,c1,k1⟩:=Zs.zit (it:=i1) (U:=gV) I hf4 hg;have hT:s.TypeIs (.ref z) "enumerate":=⟨_,a,rfl⟩;unfold pyNext;refine JN (NU (La (name:=L5 "__next__") hT F.slot_enumerate_next (Lb F.slot_enumerate_next hT F.entry_enumerate_next ?_ (F.args_enumerate_next_1 _))));refine oE Z1 (I.ok.hd hc) a d c1 D (λV e1=>by cases e1) λ_ h' e k ⟨o,ho,hc⟩=>?_
  exact JN (Nd (T:="StopIteration") (b:=true) ⟨o,ho,hc⟩ Pz (JT ⟨rfl,Mi.Inv.turnedL (t':=s.toks) I (λb o hb e=>by
    simp only[Kv,Lc,MA,SQ]at hb;exact k b o hb.2 e) hf⟩))
 self:=λ_ _ _ _ _ st h=>by obtain⟨⟨old,a⟩,_⟩:=st; exact QI a h
noncomputable def pG (xs:JM W):JM W:=xs.zipIdx.map λp=>.tup [.int (p.2:JW),p.1]
theorem rF {xs:JM W}{i:JW}{w:W}(h:(pG xs)[i]?=ba w):∃x,xs[i]?=ba x/\w=.tup [.int i,x]:=by
 unfold pG at h;rw[JY,List.getElem?_zipIdx,RB,JR]at h;obtain⟨x,h1,rfl⟩:=h;exact⟨x,h1,by simp⟩
noncomputable def Co (f:FA):FI:=λρ S=>match f ρ S with
 | some ([x],S1)=>match IG x with
  | some xs=>ba (.its (pG xs),S1)
  | none=>gV
 | _=>gV
section
variable{X:Cx}{pins:JM (JX×LF)}{σ:L2.St}{H:Hp}{s:JS}{A:JM JX}
theorem zq {S1:Zs}{xs:JM W}(z1:ZRel X.K A H xs S1):MIt X.w X.K (.its (pG xs)) (Jv X.K S1) A H:=by
 refine⟨λA' H' S i w e so hi=>?_,λA' H' S i e so hi=>?_⟩
 ·simp only[MI.at,KM]at hi;obtain⟨x,e1,rfl⟩:=rF hi;obtain⟨v,g1,r1⟩:=(z1.mono e).at e1;refine⟨⟨v,g1⟩,λp H2 ⟨a,v',q1,hp,hn,hH⟩=>?_⟩
  subst hp hH;have ex:Ext X.K A' H' A' (cj H' a (.tup [.int i,v'])):=dM (.inl hn);exact⟨ex,so.lay hn,.tup (.of bv) (.cons .int (.cons (((z1.mono e).is e1 q1).mono ex) .nil))⟩
 ·simp only[MI.at,KM,Lg,pG,JO,List.length_zipIdx]at hi;exact(z1.mono e).out hi
theorem wJ:bootBuiltins "enumerate" = ba (.type "enumerate"):=rfl
theorem Cp {els:JM Kn}{k0:JW}{tp:Mo}{a:Kn}{f:FA}{p pos:Mo}(hg:Gl X "enumerate")(hm:X.mg "enumerate" = gV)(ha:GA X [a] f)(hs:starEach [a] X.env=[(false,eval a X.env)]) :
  GI X (.Tuple els k0 tp) (.Call (.Name "enumerate" p) [a] [] pos) (Co f):=by
 intro pins s σ H R I ⟨A,ρ,S,mi,S',er,so,e,hq⟩;unfold Co at e;split at e
 ·rename_i x S1 h1;split at e
  ·rename_i xs e1;cases e;refine Call_ (jr I hg hm wJ (Ml (b7 (ha pos pins s σ H _ I ⟨A,ρ,S,_,_,er,so,h1,λ_ _ z=>z⟩) λus s1 ⟨vs,H1,I1,r1,A1,z1,z2,z3⟩=>?_) (by rw[hs]; rfl) (by rfl)))
   cases z3 with
   | cons ra t=>
    cases t;cases r1 with
    | cons ua t=>
     cases t;obtain⟨Sa,oa,Ca,za,ia,ca,ka,na,ta⟩:=Cn I1 ra ua e1;refine wH ia ca na λh' hz g1 kp=>?_
     have I2:Inv X pins σ H1 { s1 with heap:=h' }:=I1.kept (t':=s1.toks) kp
     refine QI (s:={ s1 with heap:=h' }) hz ?_
     refine⟨s1.heap.objs.size+1,_,_,_,H1,rfl,I2,wI (S1:=Sa) (i1:=s1.heap.objs.size) (by simp),⟨⟨_,hz⟩,ta _ _ g1⟩,λb hb=>?_,hq _ _ A1 z1 z2 (zq za)⟩
     have hb':s1.heap.objs.size<=b:=by
      simp only[Kv,Lc,MA]at hb;rcases hb with rfl|rfl
      ·exact OX _ _
      ·exact JZ _
     exact I1.fpOk hb' (I1.hok.fresh hb')
  ·cases e
 ·cases e
end
end Mi
namespace Mi
open PySem PySem.Spec PyProof.Rows L2
noncomputable def Dc (g1 g2:JM W->aa->JU (W×aa))(xs:JM W)(S:aa):JU (W×aa):=match g1 xs S with
 | some r=>ba r
 | none=>g2 xs S
theorem rG {X:Cx}{f:JP}{g1 g2:JM W->aa->JU (W×aa)}(h1:LCall X f g1)(h2:LCall X f g2):LCall X f (Dc g1 g2):=by
 intro pins s σ H A S xs vs us w S' I so rl rv e;unfold Dc at e;split at e
 ·rename_i r hr;cases e;exact h1 pins s σ H A S xs vs us w S' I so rl rv hr
 ·exact h2 pins s σ H A S xs vs us w S' I so rl rv e
inductive Bi where|len|list|tuple|int|set|sorted|range|all|min
 deriving M2
noncomputable def Bi.fn:Bi->JM W->aa->JU (W×aa)
 | .len=>tw|.list=>Dc n0 om|.tuple=>lR|.int=>Go|.set=>lP|.sorted=>Dc dy fW|.range=>sZ|.all=>Gw|.min=>BL
noncomputable def Bi.name:Bi->Kd
 | .len=>"len"|.list=>"list"|.tuple=>"tuple"|.int=>"int"|.set=>"set"|.sorted=>"sorted"|.range=>"range"|.all=>"all"|.min=>"min"
inductive Me where|append|extend|join|pop|get
 deriving M2
noncomputable def Me.fn:Me->W->JM W->aa->JU (W×aa)
 | .append=>iR|.extend=>iS|.join=>uC|.pop=>Em|.get=>uG
noncomputable def Me.name:Me->Kd
 | .append=>"append"|.extend=>"extend"|.join=>"join"|.pop=>"pop"|.get=>"get"
noncomputable def Me.ty:Me->Lv
 | .append=>"list"|.extend=>"list"|.join=>"str"|.pop=>"list"|.get=>"dict"
set_option genInjectivity false in
inductive Tg where
 | nm (i:JW)|tp (is:JM JW)
set_option genSizeOf false in
set_option genInjectivity false in
mutual
inductive E where
 | c (w:W)|v (i:JW)
 | op (o:BOp) (a b:E)
 | cmp (o:COp) (a b:E)
 | and (a b:E)|or (a b:E)|not (a:E)
 | own (f:Kd) (n:JW) (es:Es)|bi (b:Bi) (es:Es)|me (m:Me) (o:E) (es:Es)
 | ix (a b:E)|sl (a:E) (lo hi:Ep)|tup (es:Es)|lst (es:Es)
 | isi (c:Lv) (a:E)
 | neg (a:E)|dnew|disp (es:Es)|ite (t a b:E)
 | comp (elt:E) (tg:Tg) (it:Ie) (cs:Es) (cap:JM (JU JW))
inductive Es where
 | nil|cons (e:E) (es:Es)
inductive Ep where
 | no|yes (e:E)
inductive Ie where
 | seq (e:E)|rng (es:Es)|rng2 (es:Es)|enu (es:Es)
end
set_option genSizeOf false in
set_option genInjectivity false in
mutual
inductive Sm where
 | set (i:JW) (e:E)|asg (is:JM JW) (e:E)|par (i j:JW) (es:Es)|put (o k e:E)
 | ex (e:E)|ret (e:E)|retN|pass|brk|cont|bad
 | ite (t:E) (a b:Ss)|whl (t:E) (b:Ss)|loop (tg:Tg) (it:Ie) (b:Ss)
inductive Ss where
 | nil|cons (s:Sm) (ss:Ss)
end
noncomputable def gm:Tg->FG
 | .nm i=>B7 i
 | .tp is=>FJ is
section
variable (Φ:Kd->FF)
mutual
noncomputable def aH:E->FE
 | .c w=>fC w
 | .v i=>fV i
 | .op o a b=>BN (gq o) (aH a) (aH b)
 | .cmp o a b=>BO o (aH a) (aH b)
 | .and a b=>uU (aH a) (aH b)
 | .or a b=>BS (aH a) (aH b)
 | .not a=>uV (aH a)
 | .own f n es=>rz n (Φ f) (dI es)
 | .bi b es=>kz b.fn (dI es)
 | .me m o es=>FH m.ty m.fn (aH o) (dI es)
 | .ix a b=>IE (aH a) (aH b)
 | .sl a lo hi=>GB (aH a) (u5 lo) (u5 hi)
 | .tup es=>yZ (dI es)
 | .lst es=>y4 (dI es)
 | .isi c a=>zl c (aH a)
 | .neg a=>yU (aH a)
 | .dnew=>Da
 | .disp es=>rC (dI es)
 | .ite t a b=>BU (dF t) (aH a) (aH b)
 | .comp elt tg it cs cap=>lT (ll it) (gm tg) (Cq cs) (aH elt) cap
noncomputable def dF:E->FT
 | .cmp o a b=>yW (BO o (aH a) (aH b))
 | .and a b=>yX (dF a) (dF b)
 | .or a b=>Gx (dF a) (dF b)
 | .not a=>BP (dF a)
 | .c w=>g7 (fC w)
 | .v i=>g7 (fV i)
 | .op o a b=>g7 (BN (gq o) (aH a) (aH b))
 | .own f n es=>g7 (rz n (Φ f) (dI es))
 | .bi b es=>g7 (kz b.fn (dI es))
 | .me m o es=>g7 (FH m.ty m.fn (aH o) (dI es))
 | .ix a b=>g7 (IE (aH a) (aH b))
 | .sl a lo hi=>g7 (GB (aH a) (u5 lo) (u5 hi))
 | .tup es=>g7 (yZ (dI es))
 | .lst es=>g7 (y4 (dI es))
 | .isi c a=>g7 (zl c (aH a))
 | .neg a=>g7 (yU (aH a))
 | .dnew=>λ_ _=>gV
 | .disp _=>λ_ _=>gV
 | .ite _ _ _=>λ_ _=>gV
 | .comp _ _ _ _ _=>λ_ _=>gV
noncomputable def dI:Es->FA
 | .nil=>jC
 | .cons e es=>eQ (aH e) (dI es)
noncomputable def Cq:Es->FT
 | .nil=>Db
 | .cons e .nil=>dF e
 | .cons _ (.cons _ _)=>λ_ _=>gV
noncomputable def u5:Ep->FO
 | .no=>EE
 | .yes e=>uX (aH e)
noncomputable def ll:Ie->FI
 | .seq e=>fK (aH e)
 | .rng es=>tM (dI es)
 | .rng2 es=>iRng2 (dI es)
 | .enu es=>Co (dI es)
end
variable (fuel:JW)
mutual
noncomputable def gx:Sm->FS
 | .set i e=>lS (aH Φ e) (B7 i)
 | .asg is e=>lS (aH Φ e) (FJ is)
 | .par i j es=>B9 i j (dI Φ es)
 | .put o k e=>lS (aH Φ e) (B8 (aH Φ o) (aH Φ k))
 | .ex e=>B1 (aH Φ e)
 | .ret e=>B4 (aH Φ e)
 | .retN=>λ_ S=>ba (.rt .non,S)
 | .pass=>zd
 | .brk=>λρ S=>ba (.bk ρ,S)
 | .cont=>λρ S=>ba (.ct ρ,S)
 | .bad=>λ_ _=>gV
 | .ite t a b=>B6 (dF Φ t) (gy a) (gy b)
 | .whl t b=>pB (dF Φ t) (gy b) fuel
 | .loop tg it b=>zh (ll Φ it) (gm tg) (gy b)
noncomputable def gy:Ss->FS
 | .nil=>λρ S=>ba (.nx ρ,S)
 | .cons s ss=>B0 (gx s) (gy ss)
end
end
set_option genInjectivity false in
structure Gam where
 sc:JM (Kd×LQ)
 N:JM Kd
 fns:JM (Kd×JW)
 blt:JM Kd
 dfn:Kt
noncomputable def ER:JU LQ->Kt
 | some .local=>true|some .cell=>true|some .free=>true|_=>false
noncomputable def Cr:JU LQ->Kt
 | some .cell=>true|some .free=>true|_=>false
noncomputable def gz (names outer:JM (Kd×LQ)):JM (Kd×LQ):=names.map λ(n,k)=>if (k==.free&&outer.lookup n==ba .cell)then(n,.cell)else(n,k)
noncomputable def slot (Γ:Gam)(x:Kd):JU JW:=if ER (Γ.sc.lookup x) && !(x==("__debug__" : Kd)) && !(x==("__classdict__" : Kd))then Γ.N.findIdx? (· == x)else gV
noncomputable def u6:Qo->JU BOp
 | .Add=>ba .add|.Sub=>ba .sub|.Mult=>ba .mul|.FloorDiv=>ba .fdiv|.Mod=>ba .mod|.Pow=>ba .pow|_=>gV
noncomputable def u7:R6->JU COp
 | .Eq=>ba .eq|.NotEq=>ba .ne|.Lt=>ba .lt|.LtE=>ba .le|.Gt=>ba .gt|.GtE=>ba .ge|.In=>ba .isin|.NotIn=>ba .notin|.Is=>ba .is|.IsNot=>ba .isnot
noncomputable def Cs (x:Kd):JU Bi:=[Bi.len,.list,.tuple,.int,.set,.sorted,.range,.all,.min].find? λb=>b.name==x
noncomputable def Ct (x:Kd):JU Me:=[Me.append,.extend,.join,.pop,.get].find? λb=>b.name==x
noncomputable def GM (Γ:Gam)(x:Kd):Kt:=Γ.sc.lookup x==ba .globalImplicit && !(x==("__debug__" : Kd))
noncomputable def zr (x:Kd):JU Lv:=if x==("bool" : Kd)then ba "bool" else if x==("int" : Kd)then ba "int" else if x==("str" : Kd)then ba "str" else if x==("tuple" : Kd)then ba "tuple" else if x==("list" : Kd)then ba "list" else if x==("dict" : Kd)then ba "dict" else gV
noncomputable def u8:JM (JU Kn)->JM Kn->JM Kn
 | some k::ks,v::vs=>k::v::u8 ks vs
 | _,_=>[]
noncomputable def Cu (Γ:Gam)(f:Kn->JU E):JM Kn->JU E
 | [a,.Name c _]=>if GM Γ c&&Γ.blt.contains c then match zr c,f a with
  | some cs,ba a'=>ba (.isi cs a')
  | _,_=>gV
  else gV
 | _=>gV
noncomputable def gR:Kn->Kt
 | .Name _ _=>true|.Constant _ _ _=>true|.Subscript _ _ _=>true|_=>false
noncomputable def nh (Γ:Gam)(x:Kd):Kt:=Γ.sc.lookup x==ba .globalImplicit && !(x==("__debug__" : Kd))
noncomputable def dJ (Γ:Gam)(x:Kd):JU JW:=if (Γ.sc.lookup x==ba .local)||(Γ.dfn&&Γ.sc.lookup x==ba .cell)then Γ.N.findIdx? (· == x)else gV
noncomputable def cA (f:Kn->JU E)(es:JM Kn):JU Es:=es.foldr (λe acc=>match f e,acc with|some e',ba es'=>ba (.cons e' es')|_,_=>gV) (ba .nil)
noncomputable def cB (f:Kn->JU E)(op:SR):JM Kn->JU E
 | []=>gV
 | [a]=>f a
 | a::b::b8=>match f a,cB f op (b::b8)with
  | some a',ba b'=>ba (match op with|.And=>.and a' b'|.Or=>.or a' b')
  | _,_=>gV
noncomputable def cP (f:Kn->JU E):JU Kn->JU Ep
 | none=>ba .no
 | some e=>(f e).map .yes
noncomputable def isTup:Kn->Kt
 | .Tuple _ _ _=>true
 | _=>false
noncomputable def cI (Γ:Gam)(f:Kn->JU E)(tg:Kn):Kn->JU Ie
 | .Call (.Name x p) [a] [] q=>if x==("range" : Kd)&&nh Γ x&&Γ.blt.contains x then(cA f [a]).map .rng else if x==("enumerate" : Kd)&&nh Γ x&&Γ.blt.contains x&&isTup tg then(cA f [a]).map .enu else(f (.Call (.Name x p) [a] [] q)).map .seq
 | .Call (.Name x p) [a,b] [] q=>if x==("range" : Kd)&&nh Γ x&&Γ.blt.contains x then(cA f [a,b]).map .rng2 else(f (.Call (.Name x p) [a,b] [] q)).map .seq
 | e=>(f e).map .seq
noncomputable def FK (Γ:Gam):JM Kn->JU (JM JW)
 | []=>ba []
 | .Name x _::ts=>match dJ Γ x,FK Γ ts with
  | some i,ba is=>ba (i::is)
  | _,_=>gV
 | _::_=>gV
noncomputable def cT (Γ:Gam):Kn->JU Tg
 | .Name x _=>(dJ Γ x).map .nm
 | .Tuple ts _ _=>(FK Γ ts).map .tp
 | _=>gV
noncomputable def ik (names:JM (Kd×LQ)):JM Kd:=(names.filter λp=>p.2==.local||p.2==.free).map (·.1)
noncomputable def gS (Γ:Gam)(names:JM (Kd×LQ)):JM (JU JW):=(ik names).map λx=>if names.lookup x==ba .local then gV else Γ.N.findIdx? (· == x)
noncomputable def zt (Γ:Gam)(scope:MZ):Kt:=
 (scope.kind==.function)&&scope.names.all (λy=>!(y.2==.local)||scope.names.lookup y.1==ba .local)&&scope.names.all (λy=>!(y.2==.cell)) &&
 scope.names.all (λy=>!(y.2==.free)||(Cr (Γ.sc.lookup y.1)&&scope.names.lookup y.1==ba .free&&(Γ.N.findIdx? (· == y.1)).isSome))&&decide (ik scope.names).Nodup
noncomputable def im (Γ:Gam)(scope:MZ):Gam:={ Γ with sc:=gz scope.names Γ.sc,N:=ik scope.names,dfn:=false }
noncomputable def zu (f:Kn->JU E)(keys:JM (JU Kn))(values:JM Kn):JU E:=
 if keys.isEmpty&&values.isEmpty then ba .dnew
 else if keys.all (·.isSome)&&decide (keys.length=values.length)&&decide (keys.length<=15)then(cA f (u8 keys values)).map .disp else gV
noncomputable def cE:JW->Gam->Kn->JU E
 | 0,_,_=>gV
 | n+1,Γ,e=>match e with
  | .Constant (.int i) _ _=>ba (.c (.int i))
  | .Constant (.str x) _ _=>ba (.c (.str x))
  | .Constant (.bool b) _ _=>ba (.c (.bl b))
  | .Constant .none _ _=>ba (.c .non)
  | .Name x _=>match slot Γ x with
   | some i=>ba (.v i)
   | none=>gV
  | .BinOp a op b _=>match u6 op,cE n Γ a,cE n Γ b with
   | some o,ba a',ba b'=>ba (.op o a' b')
   | _,_,_=>gV
  | .UnaryOp .Not a _=>(cE n Γ a).map .not
  | .UnaryOp .USub a _=>(cE n Γ a).map .neg
  | .BoolOp op vs _=>cB (cE n Γ) op vs
  | .Compare a [op] [b] _=>match u7 op,cE n Γ a,cE n Γ b with
   | some o,ba a',ba b'=>ba (.cmp o a' b')
   | _,_,_=>gV
  | .IfExp t a b _=>match cE n Γ t,cE n Γ a,cE n Γ b with
   | some t',ba a',ba b'=>ba (.ite t' a' b')
   | _,_,_=>gV
  | .Call (.Name f _) args [] _=>if nh Γ f then match Γ.fns.lookup f with
    | some k=>(cA (cE n Γ) args).map (.own f k)
    | none=>if f==("isinstance" : Kd)then(if Γ.blt.contains f then Cu Γ (cE n Γ) args else gV)else match Cs f,args with
     | some b,a::as=>if Γ.blt.contains f then(cA (cE n Γ) (a::as)).map (.bi b)else gV
     | _,_=>gV
   else gV
  | .Call (.Attribute o m apos) (a::as) [] cpos=>match Ct m,cE n Γ o,cA (cE n Γ) (a::as)with
   | some m',ba o',ba es=>if gR o&&(apos.endLine==cpos.line)&&decide ((a::as).length < 29)then ba (.me m' o' es)else gV
   | _,_,_=>gV
  | .Subscript a (.Slice lo hi gV _) _=>match cE n Γ a,cP (cE n Γ) lo,cP (cE n Γ) hi with
   | some a',ba lo',ba hi'=>ba (.sl a' lo' hi')
   | _,_,_=>gV
  | .Subscript a b _=>match cE n Γ a,cE n Γ b with
   | some a',ba b'=>ba (.ix a' b')
   | _,_=>gV
  | .Tuple es _ _=>(cA (cE n Γ) es).map .tup
  | .List es _=>(cA (cE n Γ) es).map .lst
  | .Dict keys values _=>zu (cE n Γ) keys values
  | .ListComp elt [⟨tg,iter,ifs,asy⟩] scope _=>if (asy==0)&&(zt Γ scope&&decide (ifs.length<=1))then
    match cI Γ (cE n Γ) tg iter,cT (im Γ scope) tg,cA (cE n (im Γ scope)) ifs,cE n (im Γ scope) elt with
    | some it,ba t,ba cs,ba el=>ba (.comp el t it cs (gS Γ scope.names))
    | _,_,_,_=>gV
   else gV
  | _=>gV
structure CtxOk (Φ:Kd->FF)(X:Cx)(Γ:Gam):Prop where
 names:X.env.scope.names=Γ.sc
 kind:X.env.scope.kind=.function
 N:X.N=Γ.N
 nd:Γ.N.Nodup
 calm:X.calm=true
 xe:X.xe=λ_ _=>Lq
 un:X.A.units+iy < cLine
 dfn:Γ.dfn=true->∀x,X.fn x=true
 blt:∀x∈Γ.blt,X.mg x=gV
 fns:∀f n,Γ.fns.lookup f=ba n->∃k fa fd ps,FnOk X.prog X.w X.K X.mg X.base xy k fa fd ps (y9 X.w X.K n (Φ f))/\Room k X.A/\X.mg f=ba (.ref fa)/\LC X.K (.ref fa)=true/\Binds X.K fd ps []
theorem aZ {α:Type}{x:α}{P:Prop}(h:(gV:JU α)=ba x):P:=nomatch h
noncomputable def iC:Kn->Kt
 | .Starred _ _=>false
 | _=>true
theorem aA {e:Kn}{es:JM Kn}{env:Ql}(h:iC e=true):starEach (e::es) env=(false,eval e env)::starEach es env:=by
 cases e <;> first|rfl|cases h
theorem bJ {env:Ql}{pos:Mo}:∀ {es:JM Kn},es.all iC=true->(backTo pos (starEach es env)).any (·.1)=false
 | [],_=>rfl
 | e::es,h=>by
  rw[K9,JV]at h;rw[aA h.1];show(false||(backTo pos (starEach es env)).any (·.1))=false
  rw[bJ h.2];rfl
theorem rH {env:Ql}{pos:Mo}:∀ {es:JM Kn},es.all iC=true->(backTo pos (starEach es env)).all (λx=>!x.1)=true
 | [],_=>rfl
 | e::es,h=>by
  rw[K9,JV]at h;rw[aA h.1];show(true&&(backTo pos (starEach es env)).all (λx=>!x.1))=true
  rw[rH h.2];rfl
theorem jD {n:JW}{Γ:Gam}{e:Kn}{e':E}(h:cE n Γ e=ba e'):iC e=true:=by
 cases n with
 | zero=>cases h
 | succ n=>cases e <;> first|rfl|(exact aZ h)
theorem i6 {f:Kn->JU E}{e:Kn}{es:JM Kn}{r:Es}(h:cA f (e::es)=ba r):∃e' es',f e=ba e'/\cA f es=ba es'/\r=.cons e' es':=by
 simp only[cA,Rj]at h;split at h
 ·rename_i e' es' h1 h2;cases h;exact⟨e',es',h1,h2,rfl⟩
 ·cases h
theorem dj {n:JW}{Γ:Gam}:∀ {es:JM Kn} {r:Es},cA (cE n Γ) es=ba r->es.all iC=true
 | [],_,_=>rfl
 | e::es,r,h=>by
  obtain⟨e',es',h1,h2,_⟩:=i6 h;rw[K9,jD h1,dj h2];rfl
theorem dU {N:JM Kd}{x:Kd}{i:JW}(h:N.findIdx? (· == x)=ba i):N[i]?=ba x:=by
 obtain⟨hl,h1,_⟩:=List.findIdx?_eq_some_iff_getElem.mp h;rw[J6 hl];exact congrArg ba (eq_of_beq h1)
section
variable{Φ:Kd->FF}{X:Cx}{Γ:Gam}
theorem ln {e:Kn}:GT X e (λ_ _=>gV):=λpins s σ H Q I ⟨A,ρ,S,k,S',er,so,e1,hq⟩=>by cases e1
theorem zv {x:Kd}(h:ER (X.env.scope.names.lookup x)=true):HA X.env.scope x:=by
 unfold ER at h;split at h
 ·exact .inl ‹_›
 ·exact .inr (.inl ‹_›)
 ·exact .inr (.inr ‹_›)
 ·cases h
theorem zw (K:CtxOk Φ X Γ){x:Kd}{pos:Mo}{i:JW}(h:slot Γ x=ba i):GE X (.Name x pos) (fV i):=by
 unfold slot at h;split at h
 ·rename_i hc;rw[JV,JV]at hc;obtain⟨⟨h1,h2⟩,h3⟩:=hc;refine ID (xC (by rw[K.N]; exact dU h) (zv (by rw[K.names]; exact h1)) (by simpa using h2) (by simpa using h3))
 ·cases h
theorem lU (K:CtxOk Φ X Γ){x:Kd}(h:nh Γ x=true):Gl X x/\(x==("__debug__" : Kd))=false:=by
 unfold nh at h;rw[JV]at h;refine⟨?_,by simpa using h.2⟩
 show X.env.scope.names.lookup x=_;rw[K.names];exact eq_of_beq h.1
theorem zx {o:R6}{c:COp}(h:u7 o=ba c):c.py=o:=by
 cases o <;> (simp only[u7,KM]at h; subst h; rfl)
theorem zy {o:Qo}{c:BOp}(h:u6 o=ba c):c.py=o:=by
 cases o <;> simp only[u6,KM]at h <;> first|(subst h; rfl)|cases h
theorem wK {x:Kd}{b:Bi}(h:Cs x=ba b):b.name=x:=by
 have:=Pl h;exact eq_of_beq this
theorem wL {x:Kd}{b:Me}(h:Ct x=ba b):b.name=x:=by
 have:=Pl h;exact eq_of_beq this
theorem d4 {n:JW}(ih:∀ {e:Kn} {e':E},cE n Γ e=ba e'->GE X e (aH Φ e')):∀ {es:JM Kn} {r:Es},cA (cE n Γ) es=ba r->GA X es (dI Φ r)
 | [],r,h=>by cases h; exact ED
 | e::es,r,h=>by
  obtain⟨e',es',h1,h2,rfl⟩:=i6 h;exact BV (ih h1) (d4 ih h2) (aA (jD h1))
theorem GN (K:CtxOk Φ X Γ){n:JW}{f:Kd}{p pos:Mo}{args:JM Kn}{k:JW}{r:Es}(hg:nh Γ f=true)(hf:Γ.fns.lookup f=ba k)(ha:cA (cE n Γ) args=ba r)(h:GA X args (dI Φ r)):GE X (.Call (.Name f p) args [] pos) (rz k (Φ f) (dI Φ r)):=by
 obtain⟨d,fa,fd,ps,F,hr,hm,hk,hb⟩:=K.fns f k hf;obtain⟨g1,g2⟩:=lU K hg;cases args with
 | nil=>cases ha; exact BY F hr g1 hm hk hb g2
 | cons a as=>
  have ns:=dj ha;rw[K9,JV]at ns;exact EF F hr g1 hm hk hb h g2 (aA ns.1) (bJ ns.2)
theorem IH (K:CtxOk Φ X Γ){n:JW}{f:Kd}{p pos:Mo}{a:Kn}{as:JM Kn}{b:Bi}{r:Es}(hg:nh Γ f=true)(hb:Cs f=ba b)(hc:Γ.blt.contains f=true)(ha:cA (cE n Γ) (a::as)=ba r)(h:GA X (a::as) (dI Φ r)):GE X (.Call (.Name f p) (a::as) [] pos) (kz b.fn (dI Φ r)):=by
 obtain⟨g1,g2⟩:=lU K hg;have hm:X.mg f=gV:=K.blt f (by simpa using hc)
 have ns:=dj ha;rw[K9,JV]at ns;have e:=wK hb;subst e;have hu:X.A.units+12 < cLine:=by have:=K.un; have:iy=20:=rfl; omega
 have calm:∀ {f:JP} {g:JM W->aa->JU (W×aa)},(X.A.handled=gV->LCall X f g)->LCall X f g:=λh pins s σ H A S xs vs us w S' I=>h (I.ok.hd K.calm) pins s σ H A S xs vs us w S' I
 cases b with
 | len=>exact uW tP g1 hm PySem.boot_len h (by decide) g2 (aA ns.1) (bJ ns.2)
 | list=>exact rn (calm λhh=>rG (qM hh) (q8 hh)) g1 hm rfl h (by decide) g2 (aA ns.1) (bJ ns.2)
 | tuple=>exact rn (calm pA) g1 hm rfl h (by decide) g2 (aA ns.1) (bJ ns.2)
 | int=>exact rn vZ g1 hm rfl h (by decide) g2 (aA ns.1) (bJ ns.2)
 | set=>exact rn (calm λhh=>tJ hh hu) g1 hm rfl h (by decide) g2 (aA ns.1) (bJ ns.2)
 | sorted=>exact uW (calm λhh=>rG (rj hh hu) (po hh hu)) g1 hm rfl h (by decide) g2 (aA ns.1) (bJ ns.2)
 | range=>exact rn qL g1 hm rfl h (by decide) g2 (aA ns.1) (bJ ns.2)
 | all=>exact uW (calm wz) g1 hm rfl h (by decide) g2 (aA ns.1) (bJ ns.2)
 | min=>exact uW (calm λhh=>wx hh hu) g1 hm rfl h (by decide) g2 (aA ns.1) (bJ ns.2)
theorem zz {x:Kd}{c:Lv}(h:zr x=ba c):bootBuiltins x=ba (.type c)/\x≠"__name__":=by
 unfold zr at h;split at h
 ·rename_i e; cases h; rw[eq_of_beq e]; exact⟨rfl,by decide⟩
 ·split at h
  ·rename_i e; cases h; rw[eq_of_beq e]; exact⟨rfl,by decide⟩
  ·split at h
   ·rename_i e; cases h; rw[eq_of_beq e]; exact⟨rfl,by decide⟩
   ·split at h
    ·rename_i e; cases h; rw[eq_of_beq e]; exact⟨rfl,by decide⟩
    ·split at h
     ·rename_i e; cases h; rw[eq_of_beq e]; exact⟨rfl,by decide⟩
     ·split at h
      ·rename_i e; cases h; rw[eq_of_beq e]; exact⟨rfl,by decide⟩
      ·cases h
theorem GP (K:CtxOk Φ X Γ){n:JW}{f:Kd}{p pos:Mo}{args:JM Kn}{r:E}(hg:nh Γ f=true)(hb:(f==("isinstance" : Kd))=true)(hc:Γ.blt.contains f=true)(ih:∀ {e:Kn} {e':E},cE n Γ e=ba e'->GE X e (aH Φ e'))(h:Cu Γ (cE n Γ) args=ba r) :
  GE X (.Call (.Name f p) args [] pos) (aH Φ r)/\∃a c,r=.isi c a:=by
 obtain⟨g1,g2⟩:=lU K hg;have hm:X.mg f=gV:=K.blt f (by simpa using hc)
 have e:=eq_of_beq hb;subst e;unfold Cu at h;split at h
 ·rename_i a c q;split at h
  ·rename_i hcc;rw[JV]at hcc;obtain⟨g3,g4⟩:=lU K (x:=c) hcc.1;have hm2:X.mg c=gV:=K.blt c (by simpa using hcc.2)
   split at h
   ·rename_i cs a' h1 h2;cases h;obtain⟨b1,b2⟩:=zz h1;exact⟨EO g1 hm g3 hm2 b1 b2 g4 (ih h2) (aA (jD h2)),a',cs,rfl⟩
   ·cases h
  ·cases h
 ·cases h
theorem fL {o:Kn}{name:Kd}{env:Ql}(h:gR o=true):attributeBase o name env (eval o env)=eval o env:=by
 cases o <;> first|rfl|cases h
theorem u9 {n:JW}{pos:Mo}(ih:∀ {e:Kn} {e':E},cE n Γ e=ba e'->GE X e (aH Φ e')):∀(keys:JM (JU Kn)) (values:JM Kn) {r:Es},keys.all (·.isSome)=true->keys.length=values.length->cA (cE n Γ) (u8 keys values)=ba r->GJ X pos keys values (dI Φ r)
 | [],[],r,_,_,h=>by cases h; exact Ch
 | [],_::_,r,_,hl,_=>by cases hl
 | _::_,[],r,_,hl,_=>by cases hl
 | none::_,_::_,r,ha,_,_=>by cases ha
 | some k::ks,v::vs,r,ha,hl,h=>by
  simp only[u8]at h;obtain⟨e1,es1,h1,h2,rfl⟩:=i6 h;obtain⟨e2,es2,h3,h4,rfl⟩:=i6 h2;rw[K9,JV]at ha;exact zm (ih h1) (ih h3) (u9 ih ks vs ha.2 (by simpa using hl) h4)
theorem II (K:CtxOk Φ X Γ){n:JW}{m:Kd}{apos cpos:Mo}{o a:Kn}{as:JM Kn}{b:Me}{o':E}{r:Es}(hm:Ct m=ba b)(hr:gR o=true)(hl:(apos.endLine==cpos.line)=true)(hn:(a::as).length < 29)(ho:GE X o (aH Φ o'))(ha:cA (cE n Γ) (a::as)=ba r)(h:GA X (a::as) (dI Φ r)) :
  GE X (.Call (.Attribute o m apos) (a::as) [] cpos) (FH b.ty b.fn (aH Φ o') (dI Φ r)):=by
 have ns:=dj ha;have ns':=ns;rw[K9,JV]at ns;have lp:((backTo cpos (starEach (a::as) X.env)).all (λx=>!x.1)&&(backToKw cpos (keywordEach [] X.env)).all (λx=>x.1.isSome)&&decide ((a::as).length+([]:JM Rl).length+(if ([]:JM Rl).isEmpty then 0 else 1) < 30))=true:=by
  rw[rH ns',No,JV];exact⟨rfl,LX (by simp only[L0,List.isEmpty_nil,LH]; omega)⟩
 have e:=wL hm;subst e;cases b with
 | append=>exact rq NA PySem.F.slot_list_append PySem.F.type_list_append o9 ho h (fL hr) lp hl (aA ns.1) (bJ ns.2)
 | extend=>exact rq NA PySem.F.slot_list_extend PySem.F.type_list_extend pb ho h (fL hr) lp hl (aA ns.1) (bJ ns.2)
 | join=>exact rq PySem.F.plainAttrs_str PySem.F.slot_str_join PySem.F.type_str_join sW ho h (fL hr) lp hl (aA ns.1) (bJ ns.2)
 | pop=>exact rq NA PySem.F.slot_list_pop PySem.F.type_list_pop v4 ho h (fL hr) lp hl (aA ns.1) (bJ ns.2)
 | get=>exact rq PySem.F.plainAttrs_dict Pq PySem.F.type_dict_get (tm (by have:=K.un; have:iy=20:=rfl; omega)) ho h (fL hr) lp hl (aA ns.1) (bJ ns.2)
theorem rJ {n:JW}{Γ:Gam}{e:Kn}{e':E}{op:R6}(h:cE n Γ e=ba e'):behindInMarks op e=false:=by
 cases n with
 | zero=>cases h
 | succ n=>cases e <;> first|rfl|(exact aZ h)
theorem tU {n:JW}{Γ:Gam}{e:Kn}{e':E}(h:cE n Γ e=ba e'):oW e:=by
 cases n with
 | zero=>cases h
 | succ n=>cases e <;> first|(intro o i; rfl)|(exact aZ h)
theorem pH {n:JW}{Γ:Gam}{f:Kn->JU E}{e:Kn}{i:Ie}{env:Ql}{tg:Kn}(hf:∀el k p,f (.Set el k p)=gV)(h:cI Γ f tg e=ba i):∀x,foldedSetIterable e env x=pure x:=by
 intro x;cases e <;> first|rfl|(simp[cI,hf]at h)
theorem pI {n:JW}{op:SR}{pos:Mo}(ih:∀ {e:Kn} {e':E},cE n Γ e=ba e'->GE X e (aH Φ e')):∀ {vs:JM Kn} {r:E},cB (cE n Γ) op vs=ba r->GE X (.BoolOp op vs pos) (aH Φ r)
 | [],r,h=>by cases h
 | [a],r,h=>Ez (ih h)
 | a::b::b8,r,h=>by
  simp only[cB]at h;split at h
  ·rename_i a' b' h1 h2;cases h;cases op with
   | And=>exact EA (ih h1) (pI ih h2)
   | Or=>exact Gz (ih h1) (pI ih h2)
  ·cases h
theorem pJ {n:JW}{op:SR}{pos:Mo}(ih:∀ {e:Kn} {e':E},cE n Γ e=ba e'->GT X e (dF Φ e')):∀ {vs:JM Kn} {r:E},cB (cE n Γ) op vs=ba r->GW X (.BoolOp op vs pos) (dF Φ r)
 | [],r,h=>by cases h
 | [a],r,h=>by
  cases op with
  | And=>exact BR (ih h)
  | Or=>exact Ew (ih h)
 | a::b::b8,r,h=>by
  simp only[cB]at h;split at h
  ·rename_i a' b' h1 h2;cases h;cases op with
   | And=>exact Ex (ih h1) (pJ ih h2)
   | Or=>exact Gy (ih h1) (pJ ih h2)
  ·cases h
theorem zA {n:JW}(ih:∀ {e:Kn} {e':E},cE n Γ e=ba e'->GE X e (aH Φ e')){o:JU Kn}{p:Ep}(h:cP (cE n Γ) o=ba p):GO X o (u5 Φ p):=by
 cases o with
 | none=>cases h; exact BW
 | some e=>
  simp only[cP,JR]at h;obtain⟨e',h1,rfl⟩:=h;exact BX (ih h1)
theorem tV (K:CtxOk Φ X Γ){n:JW}(ih:∀ {e:Kn} {e':E},cE n Γ e=ba e'->GE X e (aH Φ e')){tg e:Kn}{i:Ie}(h:cI Γ (cE n Γ) tg e=ba i):GI X tg e (ll Φ i):=by
 have gen:(cE n Γ e).map Ie.seq=ba i->GI X tg e (ll Φ i):=λh=>by
  rw[JR]at h;obtain⟨e',h1,rfl⟩:=h;exact Ck (ih h1)
 unfold cI at h;split at h
 ·rename_i x p a pos;split at h
  ·rename_i hc;rw[JV,JV]at hc;obtain⟨⟨h1,h2⟩,h3⟩:=hc;have hx:=eq_of_beq h1;subst hx;rw[JR]at h;obtain⟨r,hr,rfl⟩:=h;have ns:=dj hr;rw[K9,JV]at ns;exact Ce (lU K h2).1 (K.blt _ (by simpa using h3)) (d4 ih hr) (aA ns.1)
  ·split at h
   ·rename_i hc;rw[JV,JV,JV]at hc;obtain⟨⟨⟨h1,h2⟩,h3⟩,h4⟩:=hc;have hx:=eq_of_beq h1;subst hx;rw[JR]at h;obtain⟨r,hr,rfl⟩:=h;have ns:=dj hr;rw[K9,JV]at ns;cases tg with
    | Tuple els k0 tp=>exact Cp (lU K h2).1 (K.blt _ (by simpa using h3)) (d4 ih hr) (aA ns.1)
    | _=>cases h4
   ·exact gen h
 ·rename_i x p a b pos;split at h
  ·rename_i hc;rw[JV,JV]at hc;obtain⟨⟨h1,h2⟩,h3⟩:=hc;have hx:=eq_of_beq h1;subst hx;rw[JR]at h;obtain⟨r,hr,rfl⟩:=h;have ns:=dj hr;rw[K9,K9,JV,JV]at ns;exact Cf (lU K h2).1 (K.blt _ (by simpa using h3)) (d4 ih hr) (by rw[aA ns.1,aA ns.2.1]; rfl) (aA ns.2.1)
  ·exact gen h
 ·exact gen h
theorem pK (K:CtxOk Φ X Γ){x:Kd}{i:JW}(h:dJ Γ x=ba i):X.N[i]?=ba x/\AU X.env.scope x/\(X.fn x=true\/X.env.scope.names.lookup x=ba .local):=by
 unfold dJ at h;split at h
 ·rename_i hc;refine⟨by rw[K.N]; exact dU h,?_⟩
  unfold L2.AU;rw[K.names];rw[LM,JV]at hc;rcases hc with hc|⟨hd,hc⟩
  ·have:=eq_of_beq hc;exact⟨.inl this,.inr this⟩
  ·exact⟨.inr (eq_of_beq hc),.inl (K.dfn hd x)⟩
 ·cases h
theorem rK (K:CtxOk Φ X Γ):∀ {ts:JM Kn} {is:JM JW},FK Γ ts=ba is->(∀x∈ts,∃y p,x=PQ y p)/\O1 (λ(t:Kn) (i:JW)=>∃x p,t=PQ x p/\X.N[i]?=ba x/\AU X.env.scope x/\(X.fn x=true\/X.env.scope.names.lookup x=ba .local)) ts is
 | [],is,h=>by cases h; exact⟨λx hx=>by simp at hx,.nil⟩
 | t::ts,is,h=>by
  cases t with
  | Name x p=>
   simp only[FK]at h;split at h
   ·rename_i i is' h1 h2;cases h;obtain⟨a,b⟩:=rK K h2;exact⟨λy hy=>(Kv.mp hy).elim (λe=>⟨x,p,e⟩) (a y),.cons ⟨x,p,rfl,pK K h1⟩ b⟩
   ·cases h
  | _=>cases h
theorem iD {env:Ql}:∀ {ts:JM Kn},(∀x∈ts,∃y p,x=PQ y p)->(assignEach ts env).length=ts.length/\(assignEach ts env).findIdx? (·.1)=gV
 | [],_=>⟨rfl,rfl⟩
 | t::ts,h=>by
  obtain⟨y,p,rfl⟩:=h t Lo;obtain⟨a,b⟩:=iD (env:=env) λx hx=>h x (Lm _ hx)
  refine⟨by show(assignEach ts env).length+1=ts.length+1; rw[a],?_⟩
  show List.findIdx? (·.1) ((false,assign (.Name y p) env)::assignEach ts env)=gV
  rw[List.findIdx?_cons,b];rfl
theorem vc (K:CtxOk Φ X Γ){tg:Kn}{t:Tg}(h:cT Γ tg=ba t):GG X tg (gm t):=by
 have hN:X.N.Nodup:=by rw[K.N]; exact K.nd
 cases tg with
 | Name x p=>
  simp only[cT,JR]at h;obtain⟨i,h1,rfl⟩:=h;obtain⟨a,b,c⟩:=pK K h1;exact uY hN a b c
 | Tuple ts k p=>
  simp only[cT,JR]at h;obtain⟨is,h1,rfl⟩:=h;obtain⟨a,b⟩:=rK K h1;exact EI K.calm a b hN (iD a).1 (iD a).2
 | _=>cases h
end
noncomputable def fF (env:Ql):JM (Kd×LQ)->JM (Kd×JX)->JM (Kd×JX)
 | [],cs=>cs
 | (n,k)::r,cs=>fF env r (if k==.free then(n,(env.cells.lookup n).getD 0)::cs else cs)
theorem jE {env:Ql}:∀(names:JM (Kd×LQ)) (cs:JM (Kd×JX)),(∀y∈names,y.2=.free->(env.cells.lookup y.1).isSome=true)->
  (forIn names cs λx r=>match x with|(name,kind)=>if (kind==Np)=true then do let a <- cellOf env name; pure (LN ((name,a)::r))else pure (LN r):Sn (JM (Kd×JX)))=pure (fF env names cs)
 | [],cs,_=>by rw[RG]; rfl
 | (n,k)::r,cs,h=>by
  rw[Ph];have hr:=λy hy=>h y (Lm _ hy)
  by_cases hk:(k==Np)=true
  ·obtain⟨c,hc⟩:=K1.mp (h (n,k) Lo (eq_of_beq hk));have e1:cellOf env n=pure c:=by unfold cellOf; rw[hc]
   simp only[hk,LH,e1,pure_bind];rw[jE r _ hr];simp only[fF,hk,LH,hc,QY]
  ·have hk':(k==Np)=false:=by simpa using hk
   simp only[hk',Ks,Li,pure_bind];rw[jE r _ hr];simp only[fF,hk',Ks,Li]
theorem kG {scope:MZ}{env:Ql}(h:∀y∈scope.names,y.2=.free->(env.cells.lookup y.1).isSome=true):closureFor scope env=pure (fF env scope.names []):=by
 have:=jE scope.names [] h;unfold closureFor;simp only[this,pure_bind]
theorem lV {env:Ql}:∀(names:JM (Kd×LQ)) (cs:JM (Kd×JX)),(∀y∈names,y.2=.free->(env.cells.lookup y.1).isSome=true)->(∀x c,cs.lookup x=ba c->env.cells.lookup x=ba c)->
  ∀x c,(fF env names cs).lookup x=ba c->env.cells.lookup x=ba c
 | [],cs,_,h,x,c,e=>h x c e
 | (n,k)::r,cs,hn,h,x,c,e=>by
  refine lV r _ (λy hy=>hn y (Lm _ hy)) (λx c e=>?_) x c e
  split at e
  ·rename_i hk;rw[LR]at e;split at e
   ·rename_i hx;cases e;have:=eq_of_beq hx;subst this;obtain⟨c,hc⟩:=K1.mp (hn (x,k) Lo (eq_of_beq hk));rw[hc]; rfl
   ·exact h x c e
  ·exact h x c e
theorem kA {env:Ql}{x:Kd}:∀(names:JM (Kd×LQ)) (cs:JM (Kd×JX)),(∃c,cs.lookup x=ba c)->∃c,(fF env names cs).lookup x=ba c
 | [],cs,h=>h
 | (n,k)::r,cs,h=>by
  refine kA r _ ?_;split
  ·rw[LR];split
   ·exact⟨_,rfl⟩
   ·exact h
  ·exact h
theorem lW {env:Ql}{x:Kd}:∀(names:JM (Kd×LQ)) (cs:JM (Kd×JX)),(x,Np)∈names->∃c,(fF env names cs).lookup x=ba c
 | [],cs,h=>by simp at h
 | (n,k)::r,cs,h=>by
  rcases Kv.mp h with e|h
  ·cases e;refine kA r _ ?_;simp[LR]
  ·exact lW r _ h
theorem lX {x:Kd}{k:LQ}:∀ {l:JM (Kd×LQ)},l.lookup x=ba k->(x,k)∈l
 | [],h=>by simp at h
 | (n,j)::r,h=>by
  rw[LR]at h;split at h
  ·rename_i hx;cases h;have:=eq_of_beq hx;subst this;exact Lo
  ·exact Lm _ (lX h)
theorem fG {X:Cx}{Φ:Kd->FF}{Γ:Gam}(K:CtxOk Φ X Γ)(scope:MZ):(relabel scope X.env).names=gz scope.names Γ.sc:=by
 unfold relabel gz O9;rw[K.kind,K.names];refine MJ λ⟨n,k⟩ _=>?_
 have e:(Qi==Qi)=true:=rfl;simp only[e,Nm]
theorem eT {outer:JM (Kd×LQ)}{x:Kd}:∀ {names:JM (Kd×LQ)},(gz names outer).lookup x=(names.lookup x).map λk=>if (k==.free&&outer.lookup x==ba .cell)then .cell else k
 | []=>rfl
 | (n,k)::r=>by
  have ih:=eT (outer:=outer) (x:=x) (names:=r);show List.lookup x ((if (k==Np&&outer.lookup n==ba .cell)=true then(n,Tu)else(n,k))::gz r outer)=_
  cases hx:x==n with
  | true=>
   have:=eq_of_beq hx;subst this;simp only[LR,Lk,KR];split <;> simp[LR]
  | false=>
   simp only[LR,hx];split <;> (simp only[LR,hx]; exact ih)
section
variable{Φ:Kd->FF}{X:Cx}{Γ:Gam}
structure ScOk (Γ:Gam)(scope:MZ):Prop where
 kind:scope.kind=.function
 names:∀y∈scope.names,y.2=.local->scope.names.lookup y.1=ba .local
 nocell:∀y∈scope.names,y.2≠.cell
 free:∀y∈scope.names,y.2=.free->Cr (Γ.sc.lookup y.1)=true/\scope.names.lookup y.1=ba .free/\(Γ.N.findIdx? (· == y.1)).isSome=true
 nd:(ik scope.names).Nodup
theorem vd {scope:MZ}(h:zt Γ scope=true):ScOk Γ scope:=by
 unfold zt at h;rw[JV,JV,JV,JV]at h;obtain⟨⟨⟨⟨h1,h2⟩,h3⟩,h4⟩,h5⟩:=h;refine⟨eq_of_beq h1,λy hy e=>?_,λy hy e=>?_,λy hy e=>?_,K4 h5⟩
 ·have:=Kj.mp h2 y hy;rw[e]at this
  simpa using this
 ·have:=Kj.mp h3 y hy;rw[e]at this;simp at this
 ·have:=Kj.mp h4 y hy;rw[e]at this;simp only[Lk,ME,OR,JV]at this;exact⟨this.1.1,eq_of_beq this.1.2,this.2⟩
theorem ve {o:JU LQ}(h:Cr o=true):o=ba .cell\/o=ba .free:=by
 unfold Cr at h;split at h
 ·exact .inl rfl
 ·exact .inr rfl
 ·cases h
theorem oF (K:CtxOk Φ X Γ)(ok:X.Ok){scope:MZ}(sc:ScOk Γ scope):CompOk X scope (fF X.env scope.names []) (ik scope.names) (gS Γ scope.names):=by
 have cells:∀y∈scope.names,y.2=.free->(X.env.cells.lookup y.1).isSome=true:=λy hy e=>by
  have hk:=ve (sc.free y hy e).1;obtain⟨c,hc⟩:=ok.has y.1 (by unfold O9; rw[K.names]; exact hk)
  rw[hc]; rfl
 have relab:∀x,((relabel scope X.env).names.lookup x=ba .cell\/(relabel scope X.env).names.lookup x=ba .free)->(x,Np)∈scope.names:=λx h=>by
  rw[fG K,eT]at h;cases q:scope.names.lookup x with
  | none=>rw[q]at h; rcases h with h|h <;> cases h
  | some k=>
   rw[q]at h;have hm:=lX q;cases k with
   | free=>exact hm
   | cell=>exact absurd rfl (sc.nocell _ hm)
   | _=>rcases h with h|h <;> simp at h
 refine⟨kG cells,sc.kind,sc.names,sc.nocell,lV _ _ cells (λx c e=>by cases e),λx h=>lW _ _ (relab x h),by simp[gS],λi j x hi hx=>?_⟩
 unfold gS at hi;rw[JY,hx]at hi;simp only[KR,KM]at hi;split at hi
 ·cases hi
 ·rename_i hl;have hx2:x∈ik scope.names:=Ke hx;unfold ik at hx2;obtain⟨⟨x',k⟩,hf,e⟩:=Kl.mp hx2;obtain⟨hm,hk⟩:=Nq.mp hf;have e':x'=x:=e;subst e';have hkf:k=.free:=by
   simp only[LM]at hk;rcases hk with hk|hk
   ·have:k=.local:=eq_of_beq hk;subst this;have:=sc.names (x',.local) hm rfl;rw[this]at hl;simp at hl
   ·exact eq_of_beq hk
  subst hkf;obtain⟨f1,f2,f3⟩:=sc.free _ hm rfl;refine⟨by rw[K.N]; exact dU hi,by unfold O9; rw[K.names]; exact ve f1,?_⟩
  rw[fG K,eT,f2];simp only[KR,KM,Lk,No];split
  ·exact .inl rfl
  ·exact .inr rfl
theorem fM (K:CtxOk Φ X Γ){scope:MZ}(sc:ScOk Γ scope)(C:JX)(s0:JS)(H0:Hp)(ex:JM JX):CtxOk Φ (mX X scope (fF X.env scope.names []) C (ik scope.names) s0 H0 ex) (im Γ scope) where
 names:=fG K scope
 kind:=sc.kind
 N:=rfl
 nd:=sc.nd
 calm:=K.calm
 xe:=rfl
 un:=K.un
 dfn:=λh=>by cases h
 blt:=K.blt
 fns:=K.fns
theorem rL {cs:Es}{n:JW}{ifs:JM Kn}{Γ:Gam}(hl:ifs.length<=1)(hc:cA (cE n Γ) ifs=ba cs){Y:Cx}(ih:∀ {e:Kn} {e':E},cE n Γ e=ba e'->GT Y e (dF Φ e'))(hx:Y.xe=λ_ _=>Lq) :
  ∀pins s σ H Q,Inv Y pins σ H s->tT Y (Cq Φ cs) σ H Q->
  wpAny (model Y.prog Y.w) Y.A (forIn ifs true λc r=>if r=true then do let ok <- isTrue c Y.env (eval c Y.env); pure (LN ok)else pure (LN r)) (TP Y pins σ Q) (λ_ _=>Lq) s:=by
 intro pins s σ H Q I h
 match ifs,hl,hc with
 | [],_,hc=>
  cases hc;obtain⟨A,ρ,S,k,S',er,so,e,hq⟩:=h;cases e;exact wpAny_tests_nil ⟨H,I,hq _ _ ⟨rfl,A,.refl,so⟩⟩
 | [c],_,hc=>
  obtain⟨e',es',h1,h2,rfl⟩:=i6 hc;cases h2;have:=ih h1 pins s σ H Q I h;rw[hx]at this;exact wpAny_tests_one this
theorem cz:∀(n:JW) {Γ:Gam} {X:Cx} {e:Kn} {e':E},CtxOk Φ X Γ->cE n Γ e=ba e'->GE X e (aH Φ e')/\GT X e (dF Φ e'):=by
 intro n
 induction n with
 | zero=>intro Γ X e e' K h; cases h
 | succ n ih=>
  intro Γ X e e' K h;have ihE:∀ {e:Kn} {e':E},cE n Γ e=ba e'->GE X e (aH Φ e'):=λq=>(ih K q).1
  have ihT:∀ {e:Kn} {e':E},cE n Γ e=ba e'->GT X e (dF Φ e'):=λq=>(ih K q).2
  have hu10:X.A.units+10 < cLine:=by have:=K.un; have:iy=20:=rfl; omega
  cases e with
  | Constant c k p=>
   cases c <;> cases h
   all_goals first
    | exact⟨rm xE (λ_ _=>.non),dg (rm xE (λ_ _=>.non)) λ_=>rfl⟩
    | exact⟨rm C4 (λ_ _=>.bl),dg (rm C4 (λ_ _=>.bl)) λ_=>rfl⟩
    | exact⟨rm xD (λ_ _=>.int),dg (rm xD (λ_ _=>.int)) λ_=>rfl⟩
    | exact⟨rm xF (λ_ _=>.str),dg (rm xF (λ_ _=>.str)) λ_=>rfl⟩
  | Name x p=>
   replace h:(match slot Γ x with|some i=>ba (E.v i)|none=>gV)=ba e':=h
   split at h
   ·rename_i i h1;cases h;exact⟨zw K h1,dg (zw K h1) λ_=>rfl⟩
   ·cases h
  | BinOp a op b p=>
   replace h:(match u6 op,cE n Γ a,cE n Γ b with|some o,ba a',ba b'=>ba (E.op o a' b')|_,_,_=>gV)=ba e':=h
   split at h
   ·rename_i o a' b' h1 h2 h3;cases h;have e:=zy h1;subst e;exact⟨C9 (uw o) (ihE h2) (ihE h3),dg (C9 (uw o) (ihE h2) (ihE h3)) λ_=>rfl⟩
   ·cases h
  | UnaryOp op a p=>
   cases op with
   | Not=>
    replace h:(cE n Γ a).map E.not=ba e':=h;rw[JR]at h;obtain⟨a',h1,rfl⟩:=h;exact⟨EB (ihE h1),Ey (ihT h1)⟩
   | USub=>
    replace h:(cE n Γ a).map E.neg=ba e':=h;rw[JR]at h;obtain⟨a',h1,rfl⟩:=h;exact⟨yV (ihE h1),dg (yV (ihE h1)) λ_=>rfl⟩
   | _=>exact aZ h
  | BoolOp op vs p=>
   replace h:cB (cE n Γ) op vs=ba e':=h;exact⟨pI ihE h,(pJ ihT h).pt⟩
  | Compare a ops cs p=>
   match ops,cs,h with
   | [op],[b],h=>
    replace h:(match u7 op,cE n Γ a,cE n Γ b with|some o,ba a',ba b'=>ba (E.cmp o a' b')|_,_,_=>gV)=ba e':=h
    split at h
    ·rename_i o a' b' h1 h2 h3;cases h;have e:=zx h1;subst e;exact⟨Eu K.un (ihE h2) (ihE h3) (rJ h3),Ev K.un (ihE h2) (ihE h3) (rJ h3)⟩
    ·cases h
   | [],_,h=>exact aZ h
   | [_],[],h=>exact aZ h
   | [_],_::_::_,h=>exact aZ h
   | _::_::_,_,h=>exact aZ h
  | IfExp t a b p=>
   replace h:(match cE n Γ t,cE n Γ a,cE n Γ b with|some t',ba a',ba b'=>ba (E.ite t' a' b')|_,_,_=>gV)=ba e':=h
   split at h
   ·rename_i t' a' b' h1 h2 h3;cases h;exact⟨EC (ihT h1) (ihE h2) (ihE h3),ln⟩
   ·cases h
  | Call f args kws p=>
   cases kws with
   | cons _ _=>cases f <;> first|(exact aZ h)|(cases args <;> (exact aZ h))
   | nil=>
    cases f with
    | Name x q=>
     replace h:(if nh Γ x then match Γ.fns.lookup x with|some k=>(cA (cE n Γ) args).map (E.own x k)|none=>if x==("isinstance" : Kd)then(if Γ.blt.contains x then Cu Γ (cE n Γ) args else gV)else match (generalizing:=false) Cs x,args with|some b,a::as=>if Γ.blt.contains x then(cA (cE n Γ) (a::as)).map (E.bi b)else gV|_,_=>gV else gV)=ba e':=h
     split at h
     ·rename_i hg;split at h
      ·rename_i k hk;rw[JR]at h;obtain⟨r,hr,rfl⟩:=h;have g:=GN (pos:=p) (p:=q) K hg hk hr (d4 ihE hr);exact⟨g,dg g λ_=>rfl⟩
      ·split at h
       ·rename_i his;split at h
        ·rename_i hc;obtain⟨g,a',c',rfl⟩:=GP (pos:=p) (p:=q) K hg his hc ihE h;exact⟨g,dg g λ_=>rfl⟩
        ·cases h
       ·split at h
        ·rename_i bb a as hb;split at h
         ·rename_i hc;rw[JR]at h;obtain⟨r,hr,rfl⟩:=h;have g:=IH (pos:=p) (p:=q) K hg hb hc hr (d4 ihE hr);exact⟨g,dg g λ_=>rfl⟩
         ·cases h
        ·cases h
     ·cases h
    | Attribute o m q=>
     cases args with
     | nil=>exact aZ h
     | cons a as=>
      replace h:(match Ct m,cE n Γ o,cA (cE n Γ) (a::as)with|some m',ba o',ba es=>if gR o&&(q.endLine==p.line)&&decide ((a::as).length < 29)then ba (E.me m' o' es)else gV|_,_,_=>gV)=ba e':=h
      split at h
      ·rename_i m' o' es h1 h2 h3;split at h
       ·rename_i hc;rw[JV,JV,Ki]at hc;cases h;have g:=II K (cpos:=p) (apos:=q) h1 hc.1.1 hc.1.2 hc.2 (ihE h2) h3 (d4 ihE h3);exact⟨g,dg g λ_=>rfl⟩
       ·cases h
      ·cases h
    | _=>exact aZ h
  | Subscript a b p=>
   have plain:(match cE n Γ a,cE n Γ b with|some a',ba b'=>ba (E.ix a' b')|_,_=>gV)=ba e'->GE X (.Subscript a b p) (aH Φ e')/\GT X (.Subscript a b p) (dF Φ e'):=λh=>by
    split at h
    ·rename_i a' b' h1 h2;cases h;have g:=GC (pos:=p) hu10 (ihE h1) (ihE h2) (tU h2);exact⟨g,dg g λ_=>rfl⟩
    ·cases h
   cases b with
   | Slice lo hi st q=>
    cases st with
    | none=>
     replace h:(match cE n Γ a,cP (cE n Γ) lo,cP (cE n Γ) hi with|some a',ba lo',ba hi'=>ba (E.sl a' lo' hi')|_,_,_=>gV)=ba e':=h
     split at h
     ·rename_i a' lo' hi' h1 h2 h3;cases h;have g:=GD (pos:=p) (p2:=q) (ihE h1) (zA ihE h2) (zA ihE h3);exact⟨g,dg g λ_=>rfl⟩
     ·cases h
    | some z=>exact plain h
   | _=>exact plain h
  | Tuple es k p=>
   replace h:(cA (cE n Γ) es).map E.tup=ba e':=h;rw[JR]at h;obtain⟨r,h1,rfl⟩:=h;exact⟨y6 (d4 ihE h1),dg (y6 (d4 ihE h1)) λ_=>rfl⟩
  | List es p=>
   replace h:(cA (cE n Γ) es).map E.lst=ba e':=h;rw[JR]at h;obtain⟨r,h1,rfl⟩:=h;exact⟨y8 (d4 ihE h1),dg (y8 (d4 ihE h1)) λ_=>rfl⟩
  | Dict keys values p=>
   replace h:zu (cE n Γ) keys values=ba e':=h;unfold zu at h;split at h
   ·rename_i hc;cases h;rw[JV]at hc;have k0:keys=[]:=QZ.mp hc.1;have v0:values=[]:=QZ.mp hc.2;subst k0 v0;exact⟨Ci,ln⟩
   ·rename_i hc0;split at h
    ·rename_i hc;rw[JV,JV,Ki,Ki]at hc;rw[JR]at h;obtain⟨r,hr,rfl⟩:=h;have h0:keys≠[]:=λz=>by
      subst z;have v0:values=[]:=Mh.mp hc.1.2.symm;subst v0;exact hc0 rfl
     exact⟨Cj (pos:=p) hu10 (u9 ihE keys values hc.1.1 hc.1.2 hr) hc.1.1 hc.1.2 h0 hc.2,ln⟩
    ·cases h
  | ListComp elt gens scope p=>
   match gens,h with
   | [⟨tg,iter,ifs,asy⟩],h=>
    replace h:(if (asy==0)&&(zt Γ scope&&decide (ifs.length<=1))then match cI Γ (cE n Γ) tg iter,cT (im Γ scope) tg,cA (cE n (im Γ scope)) ifs,cE n (im Γ scope) elt with|some it,ba t,ba cs,ba el=>ba (E.comp el t it cs (gS Γ scope.names))|_,_,_,_=>gV else gV)=ba e':=h
    split at h
    ·rename_i hc;rw[JV,JV,Ki]at hc;have e0:asy=0:=eq_of_beq hc.1;subst e0;replace hc:=hc.2;split at h
     ·rename_i it t cs el h1 h2 h3 h4;cases h;have sc:=vd hc.1;refine⟨Cm K.calm (tV K ihE h1) (λok=>⟨_,oF K ok sc,?_⟩) (pH (n:=n) (λel k p=>by cases n <;> rfl) h1),ln⟩
      refine⟨λC s0 H0 ex=>vc (fM K sc C s0 H0 ex) h2,λC s0 H0 ex pins s σ H Q I q=>?_,λC s0 H0 ex=>(ih (fM K sc C s0 H0 ex) h4).1⟩
      exact rL hc.2 h3 (λz=>(ih (fM K sc C s0 H0 ex) z).2) rfl pins s σ H Q I q
     ·cases h
    ·cases h
   | [],h=>exact aZ h
   | ⟨_,_,_,_⟩::_::_,h=>exact aZ h
  | _=>exact aZ h
end
noncomputable abbrev cC:JW:=30
noncomputable def De:Kn->Kt
 | .Constant (.str _) _ _=>true
 | _=>false
noncomputable def jF:Kn->Kt
 | .ListComp _ _ _ _=>true
 | _=>false
noncomputable def vf:Kn->Kt
 | .Slice _ _ _ _=>true
 | _=>false
noncomputable def wM (f:MC->JU Sm)(ss:JM MC):JU Ss:=ss.foldr (λs acc=>match f s,acc with|some s',ba ss'=>ba (.cons s' ss')|_,_=>gV) (ba .nil)
noncomputable def ES (Γ:Gam):JM Kn->Kn->JU Sm
 | [.Name x px,.Name y py],.Tuple [a,b] _ _=>match Γ.N.findIdx? (· == x),Γ.N.findIdx? (· == y),cA (cE cC Γ) [a,b]with
  | some i,ba j,ba es=>if !(i==j)&&(Γ.sc.lookup x==ba .local)&&(Γ.sc.lookup y==ba .local)&&(py.line==px.line) && !([a,b].all (foldedForSure 8)) && !([a,b].all (constantsAlone 8))then ba (.par i j es)else gV
  | _,_,_=>gV
 | _,_=>gV
noncomputable def cS:JW->Gam->MC->JU Sm
 | 0,_,_=>gV
 | n+1,Γ,st=>match st with
  | .Assign [.Name x _] e _=>match dJ Γ x,cE cC Γ e with
   | some i,ba e'=>ba (.set i e')
   | _,_=>gV
  | .Assign [.Tuple ts _ _] e _=>if isTup e then ES Γ ts e else if jF e then gV else match FK Γ ts,cE cC Γ e with
   | some is,ba e'=>ba (.asg is e')
   | _,_=>gV
  | .Assign [.Subscript o k _] e _=>if vf k then gV else match cE cC Γ o,cE cC Γ k,cE cC Γ e with
   | some o',ba k',ba e'=>ba (.put o' k' e')
   | _,_,_=>gV
  | .Expr e _=>if De e then ba .pass else if jF e then gV else(cE cC Γ e).map .ex
  | .Return (ba e) _=>(cE cC Γ e).map .ret
  | .Return gV _=>ba .retN
  | .Pass _=>ba .pass
  | .Raise _ _ _=>ba .bad
  | .Break _=>ba .brk
  | .Continue _=>ba .cont
  | .If t a b _=>match cE cC Γ t,wM (cS n Γ) a,wM (cS n Γ) b with
   | some t',ba a',ba b'=>ba (.ite t' a' b')
   | _,_,_=>gV
  | .While t b [] _=>match cE cC Γ t,wM (cS n Γ) b with
   | some t',ba b'=>ba (.whl t' b')
   | _,_=>gV
  | .For tg it b [] _=>match cT Γ tg,cI Γ (cE cC Γ) tg it,wM (cS n Γ) b with
   | some t,ba i,ba b'=>ba (.loop t i b')
   | _,_,_=>gV
  | _=>gV
section
variable{Φ:Kd->FF}{X:Cx}{Γ:Gam}{fuel:JW}
theorem zB {f:MC->JU Sm}{s:MC}{ss:JM MC}{r:Ss}(h:wM f (s::ss)=ba r):∃s' ss',f s=ba s'/\wM f ss=ba ss'/\r=.cons s' ss':=by
 simp only[wM,Rj]at h;split at h
 ·rename_i e' es' h1 h2;cases h;exact⟨e',es',h1,h2,rfl⟩
 ·cases h
theorem gT {n:JW}(ih:∀ {st:MC} {s':Sm},cS n Γ st=ba s'->GS X st (gx Φ fuel s')):∀ {ss:JM MC} {r:Ss},wM (cS n Γ) ss=ba r->GSs X ss (gy Φ fuel r)
 | [],r,h=>by cases h; exact BZ
 | s::ss,r,h=>by
  obtain⟨s',ss',h1,h2,rfl⟩:=zB h;exact zb (ih h1) (gT ih h2)
theorem lY {e:Kn}{t:JU Kn}{l:JW}{env:Ql}(h:jF e=false)(n:JW){Γ:Gam}{e':E}(hc:cE n Γ e=ba e'):swapsWith e t l env=pure false:=by
 cases n with
 | zero=>cases hc
 | succ n=>cases e <;> first|(exfalso; exact aZ hc)|rfl|cases h
theorem tW (K:CtxOk Φ X Γ){n:JW}{elt:Kn}{gens:JM Comprehension}{scope:MZ}{p:Mo}{e':E}(h:cE (n+1) Γ (.ListComp elt gens scope p)=ba e') :
  ∃tg iter ifs fi g c f cap,gens=[⟨tg,iter,ifs,0⟩]/\aH Φ e'=lT fi g c f cap/\GI X tg iter fi/\(X.Ok->∃cl,CompOk X scope cl (ik scope.names) cap/\BlockOk X scope cl (ik scope.names) tg elt ifs g c f)/\∀x,foldedSetIterable iter X.env x=pure x:=by
 match gens,h with
 | [⟨tg,iter,ifs,asy⟩],h=>
  replace h:(if (asy==0)&&(zt Γ scope&&decide (ifs.length<=1))then match cI Γ (cE n Γ) tg iter,cT (im Γ scope) tg,cA (cE n (im Γ scope)) ifs,cE n (im Γ scope) elt with|some it,ba t,ba cs,ba el=>ba (E.comp el t it cs (gS Γ scope.names))|_,_,_,_=>gV else gV)=ba e':=h
  split at h
  ·rename_i hc;rw[JV,JV,Ki]at hc;have e0:asy=0:=eq_of_beq hc.1;subst e0;replace hc:=hc.2;split at h
   ·rename_i it t cs el h1 h2 h3 h4;cases h;have sc:=vd hc.1;refine⟨tg,iter,ifs,_,_,_,_,_,rfl,rfl,tV K (λz=>(cz n K z).1) h1,λok=>⟨_,oF K ok sc,?_⟩,pH (n:=n) (λel k p=>by cases n <;> rfl) h1⟩
    refine⟨λC s0 H0 ex=>vc (fM K sc C s0 H0 ex) h2,λC s0 H0 ex pins s σ H Q I q=>?_,λC s0 H0 ex=>(cz n (fM K sc C s0 H0 ex) h4).1⟩
    exact rL hc.2 h3 (λz=>(cz n (fM K sc C s0 H0 ex) z).2) rfl pins s σ H Q I q
   ·cases h
  ·cases h
 | [],h=>exact aZ h
 | ⟨_,_,_,_⟩::_::_,h=>exact aZ h
theorem GQ (K:CtxOk Φ X Γ){x:Kd}{px pos:Mo}{e:Kn}{i:JW}{e':E}(hi:dJ Γ x=ba i)(he:cE cC Γ e=ba e'):GS X (.Assign [.Name x px] e pos) (lS (aH Φ e') (B7 i)):=by
 obtain⟨a,b,c⟩:=pK K hi;have hN:X.N.Nodup:=by rw[K.N]; exact K.nd
 have plain:swapsWith e (ba (.Name x px)) pos.line X.env=pure false->GS X (.Assign [.Name x px] e pos) (lS (aH Φ e') (B7 i)):=λhs=>tL (cz _ K he).1 (uY hN a b c) hs (by cases e <;> rfl) rfl
 cases hc:jF e with
 | false=>exact plain (lY hc _ he)
 | true=>
  cases e with
  | ListComp elt gens scope p=>
   cases hsw:(X.env.blockKind==.function&&X.env.kindOf x==ba .local&&px.line==p.line && !(scope.names.any λ(n,k)=>n==x&&(k==.local||k==.cell)))with
   | false=>
    refine plain ?_;show(pure (X.env.blockKind==.function&&X.env.kindOf x==ba .local&&px.line==p.line && !(scope.names.any λ(n,k)=>n==x&&(k==.local||k==.cell))):Sn Kt)=pure false
    rw[hsw]
   | true=>
    have hsw':swapsWith (.ListComp elt gens scope p) (ba (.Name x px)) pos.line X.env=pure true:=by
     show(pure (X.env.blockKind==.function&&X.env.kindOf x==ba .local&&px.line==p.line && !(scope.names.any λ(n,k)=>n==x&&(k==.local||k==.cell))):Sn Kt)=pure true
     rw[hsw]
    rw[JV,JV,JV]at hsw;have hl:X.env.scope.names.lookup x=ba .local:=eq_of_beq hsw.1.1.2;obtain⟨tg,iter,ifs,fi,g,c',f,cap,rfl,e2,gi,hck,hs⟩:=tW K he;rw[e2];exact tQ K.calm gi hck hs hsw' hN a hl
  | _=>cases hc
theorem rM (K:CtxOk Φ X Γ){x y:Kd}{px py pt pt2:Mo}{kt k2:JW}{a b:Kn}(hxy:x≠y)(hx:Γ.sc.lookup x=ba .local)(hy:Γ.sc.lookup y=ba .local)(hl:(py.line==px.line)=true)(h1:[a,b].all (foldedForSure 8)=false)(h2:[a,b].all (constantsAlone 8)=false)(hs:iC a=true)(hs2:iC b=true) :
  swappedStores [.Tuple [.Name x px,.Name y py] kt pt] (.Tuple [a,b] k2 pt2) X.env=pure (ba [x,y]):=by
 have kx:(X.env.kindOf x==ba .local)=true:=by unfold O9; rw[K.names,hx]; rfl
 have ky:(X.env.kindOf y==ba .local)=true:=by unfold O9; rw[K.names,hy]; rfl
 have bk:(X.env.blockKind != .function)=false:=by
  unfold Env.blockKind;rw[K.kind];rfl
 have hp:(px.line==px.line)=true:=by simp
 have ed:([x,y].eraseDups.length != [x,y].length)=false:=by
  have:(y==x)=false:=by simpa using Ne.symm hxy
  simp[PY,this]
 have kx':X.env.kindOf x=ba .local:=eq_of_beq kx;have ky':X.env.kindOf y=ba .local:=eq_of_beq ky;have hl':py.line=px.line:=eq_of_beq hl;have bk':X.env.blockKind=.function:=by simpa using bk
 have yx:(y==x)=false:=by simpa using Ne.symm hxy
 have h1':(foldedForSure 8 a&&foldedForSure 8 b)=false:=by simpa using h1
 have h2':(constantsAlone 8 a&&constantsAlone 8 b)=false:=by simpa using h2
 unfold swappedStores;simp only[Mm,List.any_nil,P1,Nj,List.filterMap_nil,kx',ky',bk',List.head?_cons,KR,QY,K5,L0,K9,List.all_nil,Nm,h1',h2'];refine Eq.trans (Kw ?_) (Eq.trans (Kw ?_) ?_)
 ·decide
 ·rw[LM];rintro(hh|hh)
  ·clear h1 h2 h1' h2';cases a <;> first|(cases hh; done)|(cases hs; done)
  ·clear h1 h2 h1' h2';cases b <;> first|(cases hh; done)|(cases hs2; done)
 ·simp[Expr.pos,hl',yx,PY]
theorem Cv (fuel:JW)(K:CtxOk Φ X Γ):∀(n:JW) {st:MC} {s':Sm},cS n Γ st=ba s'->GS X st (gx Φ fuel s'):=by
 have hN:X.N.Nodup:=by rw[K.N]; exact K.nd
 have own:PP (model X.prog X.w) X.A X.env X.xe:=by rw[K.xe]; exact Ti
 intro n
 induction n with
 | zero=>intro st s' h; cases h
 | succ n ih=>
  intro st s' h;cases st with
  | Expr e p=>
   replace h:(if De e then ba Sm.pass else if jF e then gV else(cE cC Γ e).map Sm.ex)=ba s':=h
   split at h
   ·rename_i hd;cases h;cases e with
    | Constant c k q=>
     cases c with
     | str x=>exact EG
     | _=>cases hd
    | _=>cases hd
   ·split at h
    ·cases h
    ·rename_i hd hc;rw[JR]at h;obtain⟨e',h1,rfl⟩:=h;exact GF (cz _ K h1).1 (lY (by simpa using hc) _ h1)
  | Return o p=>
   cases o with
   | none=>cases h; exact B5
   | some e=>
    replace h:(cE cC Γ e).map Sm.ret=ba s':=h;rw[JR]at h;obtain⟨e',h1,rfl⟩:=h;exact EH (cz _ K h1).1
  | Pass p=>cases h; exact B2
  | Raise exc cause pos=>cases h; exact λpins s D σ H I ⟨A,ρ,S,o,S',er,so,e,hq⟩=>nomatch e
  | Break p=>cases h; exact ze
  | Continue p=>cases h; exact B3
  | If t a b p=>
   replace h:(match cE cC Γ t,wM (cS n Γ) a,wM (cS n Γ) b with|some t',ba a',ba b'=>ba (Sm.ite t' a' b')|_,_,_=>gV)=ba s':=h
   split at h
   ·rename_i t' a' b' h1 h2 h3;cases h;exact GH (cz _ K h1).2 (gT ih h2) (gT ih h3)
   ·cases h
  | While t b o p=>
   cases o with
   | cons _ _=>exact aZ h
   | nil=>
    replace h:(match cE cC Γ t,wM (cS n Γ) b with|some t',ba b'=>ba (Sm.whl t' b')|_,_=>gV)=ba s':=h
    split at h
    ·rename_i t' b' h1 h2;cases h;exact zf fuel own (cz _ K h1).2 (gT ih h2)
    ·cases h
  | For tg it b o p=>
   cases o with
   | cons _ _=>exact aZ h
   | nil=>
    replace h:(match cT Γ tg,cI Γ (cE cC Γ) tg it,wM (cS n Γ) b with|some t,ba i,ba b'=>ba (Sm.loop t i b')|_,_,_=>gV)=ba s':=h
    split at h
    ·rename_i t i b' h1 h2 h3;cases h;exact EM own K.calm (tV K (λz=>(cz _ K z).1) h2) (vc K h1) (gT ih h3) (pH (n:=cC) (λel k p=>rfl) h2)
    ·cases h
  | Assign ts e p=>
   match ts,h with
   | [],h=>exact aZ h
   | a::_::_,h=>cases a <;> exact aZ h
   | [t],h=>
    cases t with
    | Name x px=>
     replace h:(match dJ Γ x,cE cC Γ e with|some i,ba e'=>ba (Sm.set i e')|_,_=>gV)=ba s':=h
     split at h
     ·rename_i i e' h1 h2;cases h;exact GQ K h1 h2
     ·cases h
    | Subscript o k q=>
     replace h:(if vf k then gV else match cE cC Γ o,cE cC Γ k,cE cC Γ e with|some o',ba k',ba e'=>ba (Sm.put o' k' e')|_,_,_=>gV)=ba s':=h
     split at h
     ·cases h
     ·rename_i hc;split at h
      ·rename_i o' k' e' h1 h2 h3;cases h;refine tL (cz _ K h3).1 (EJ (by have:=K.un; have:iy=20:=rfl; omega) (cz _ K h1).1 (cz _ K h2).1 ?_) (by cases e <;> rfl) (by cases e <;> rfl) rfl
       intro v;cases k <;> first|rfl|exact absurd rfl hc
      ·cases h
    | Tuple ts' k q=>
     have par:∀ {x y:Kd} {px py:Mo} {a b:PySem.Expr} {k2:JW} {q2:Mo},(match Γ.N.findIdx? (· == x),Γ.N.findIdx? (· == y),cA (cE cC Γ) [a,b]with
       | some i,ba j,ba es=>if !(i==j)&&(Γ.sc.lookup x==ba .local)&&(Γ.sc.lookup y==ba .local)&&(py.line==px.line) && !([a,b].all (foldedForSure 8)) && !([a,b].all (constantsAlone 8))then ba (Sm.par i j es)else gV
       | _,_,_=>gV)=ba s'->GS X (.Assign [.Tuple [.Name x px,.Name y py] k q] (.Tuple [a,b] k2 q2) p) (gx Φ fuel s'):=λ{x y px py a b k2 q2} h=>by
      split at h
      ·rename_i i j es h1 h2 h3;split at h
       ·rename_i hc;cases h;rw[JV,JV,JV,JV,JV]at hc;obtain⟨⟨⟨⟨⟨c1,c2⟩,c3⟩,c4⟩,c5⟩,c6⟩:=hc;have hij:i≠j:=by simpa using c1
        have ns:=dj h3;rw[K9,K9,JV,JV]at ns;have hi:X.N[i]?=ba x:=by rw[K.N]; exact dU h1
        have hj:X.N[j]?=ba y:=by rw[K.N]; exact dU h2
        refine EK K.calm hN hi hj hij (by rw[K.names]; exact eq_of_beq c2) (by rw[K.names]; exact eq_of_beq c3) (d4 (λz=>(cz _ K z).1) h3) (rM K ?_ (eq_of_beq c2) (eq_of_beq c3) c4 (by rw[<- NI]; exact c5) (by rw[<- NI]; exact c6) ns.1 ns.2.1) rfl
        rintro rfl;rw[h1]at h2;cases h2;exact hij rfl
       ·cases h
      ·cases h
     replace h:(if isTup e then ES Γ ts' e else if jF e then gV else match FK Γ ts',cE cC Γ e with|some is,ba e'=>ba (Sm.asg is e')|_,_=>gV)=ba s':=h
     split at h
     ·unfold ES at h;split at h
      ·exact par h
      ·cases h
     ·split at h
      ·cases h
      ·rename_i hc1 hc2;split at h
       ·rename_i is e' h1 h2;cases h;refine tL (cz _ K h2).1 (vc (tg:=.Tuple ts' k q) (t:=.tp is) K (by simp[cT,h1])) (lY (t:=ba (.Tuple ts' k q)) (l:=p.line) (env:=X.env) (by simpa using hc2) _ h2) ?_ rfl
        cases e <;> first|rfl|exact absurd rfl hc1
       ·cases h
    | _=>exact aZ h
  | _=>exact aZ h
end
set_option genInjectivity false in
structure Df where
 ps:JM Kd
 N:JM Kd
 body:Ss
noncomputable def fY (N:JM Kd)(ws:JM W):Fm:=ws.map ba++K2 (N.length - ws.length) gV
noncomputable def aq (defs:JM (Kd×Df))(fuel:JW):JW->Kd->FF
 | 0,_,_,_=>gV
 | d+1,f,ws,S=>match defs.lookup f with
  | some df=>if ws.length=df.ps.length then match gy (aq defs fuel d) fuel df.body (fY df.N ws) S with
    | some (.rt w,S')=>ba (w,S')
    | some (.nx _,S')=>ba (.non,S')
    | _=>gV
   else gV
  | none=>gV
set_option genInjectivity false in
structure Md where
 fns:JM (Kd×JW)
 blt:JM Kd
noncomputable def Dg (M:Md)(st:MC)(N:JM Kd):Gam:={ sc:=(ag st).names,N:=N,fns:=M.fns,blt:=M.blt,dfn:=true }
noncomputable def bV (M:Md)(st:MC)(df:Df):Prop:=wM (cS 20 (Dg M st df.N)) (dv st)=ba df.body
theorem oG {K:J2}{A:JM JX}{H:Hp}{ws:JM W}{vs:JM V}{N:JM Kd}(r:RelL K A H ws vs):EnvRel K A H (fY N ws) (gn N vs):=by
 refine⟨by simp[fY,L2.gn,r.length],λi w h=>?_⟩
 unfold fY at h;unfold L2.gn
 by_cases hi:i < ws.length
 ·rw[KT (by simpa using hi),JY]at h
  rw[KT (by rw[JO,<- r.length]; exact hi),JY]
  cases q:ws[i]? with
  | none=>rw[q]at h; cases h
  | some w'=>
   rw[q]at h;simp only[KR,KM]at h;subst h;obtain⟨v,h1,h2⟩:=r.get q;exact⟨v,by rw[h1]; rfl,h2⟩
 ·rw[LV (by simpa using hi)]at h
  have:=Ke h;simp at this
section
variable{P:Kx}{w:KO}{K:J2}{mg:Kd->JU JP}{base:KW}
noncomputable def Dh (P:Kx)(w:KO)(K:J2)(mg:Kd->JU JP)(base:KW)(M:Md)(defs:JM (Kd×Df))(fuel d:JW):Prop:=
 ∀f n,M.fns.lookup f=ba n->∃fa fd ps,FnOk P w K mg base xy d fa fd ps (y9 w K n (aq defs fuel d f))/\mg f=ba (.ref fa)/\LC K (.ref fa)=true/\Binds K fd ps []
structure MdOk (w:KO)(K:J2)(mg:Kd->JU JP)(M:Md):Prop where
 blt:∀y∈M.blt,mg y=gV
theorem Di {M:Md}{defs:JM (Kd×Df)}{fuel d:JW}{x qual:Kd}{st:MC}{f:JX}{fd:Mp}{df:Df}(F:Fun K x qual st f fd)(S:FnScope df.N df.ps (ag st))(hd:defs.lookup x=ba df)(hc:bV M st df)
  (hb:MdOk w K mg M) (prev:Dh P w K mg base M defs fuel d):FnOk P w K mg base xy (d+1) f fd df.ps (y9 w K df.ps.length (aq defs fuel (d+1) x)):=by
 refine F.ok S (λvs H Q E h=>?_) (λcdv A outer s H vs Q E hr h=>?_)
 ·obtain⟨A,S,ws,w',S',_,rl,hl,_⟩:=h;rw[<- rl.length]; exact hl
 ·obtain⟨A',St,ws,w',S',so,rl,hl,e,hq⟩:=h;have K':CtxOk (aq defs fuel d) (sN xy P w K mg base df.N qual (ag st) f cdv A outer s H E).nox (Dg M st df.N):=by
   refine⟨rfl,S.kind,rfl,S.nd,rfl,rfl,?_,λ_ _=>rfl,hb.blt,λg n hg=>?_⟩
   ·have:=hr.un;show(A.deeper _).units+20 < cLine;omega
   ·obtain⟨fa,fd',ps',h1,h2,h3,h4⟩:=prev g n hg;exact⟨d,fa,fd',ps',h1,hr,h2,h3,h4⟩
  refine⟨tS _ (gy (aq defs fuel d) fuel df.body),gT (λz=>Cv fuel K' 20 z) hc,?_⟩
  simp only[aq,hd]at e;rw[Ko hl]at e;split at e
  ·rename_i w1 S1 h1;cases e;refine⟨A',fY df.N ws,St,_,_,oG rl,so,h1,⟨λσ' H' ⟨_,_,z,_⟩=>(by cases z),λv H' ⟨w2,A2,z0,z1,z2,z3⟩=>?_,λσ' H' ⟨_,_,z,_⟩=>(by cases z),λσ' H' ⟨_,_,z,_⟩=>(by cases z)⟩⟩
   cases z0;exact hq v H' ⟨A2,z1,z2,z3⟩
  ·rename_i ρ1 S1 h1;cases e;refine⟨A',fY df.N ws,St,_,_,oG rl,so,h1,⟨λσ' H' ⟨w2,A2,z0,z1,z2,z3⟩=>?_,λσ' H' ⟨_,_,z,_⟩=>(by cases z),λσ' H' ⟨_,_,z,_⟩=>(by cases z),λσ' H' ⟨_,_,z,_⟩=>(by cases z)⟩⟩
   exact hq _ H' ⟨A2,z1,z2,.non⟩
  ·cases e
theorem wQ {H:Hp}{a:JX}{ns:JM J5}(hO:xY H)(hS:SqL K H a (ns.map V.int)):StoreOk w K [a] H [.fro (ns.map W.int)]/\RelL K [a] H [.ref 0] [.ref a]:=by
 have rl:∀ns:JM J5,RelL K [a] H (ns.map W.int) (ns.map V.int):=by
  intro ns
  induction ns with
  | nil=>exact .nil
  | cons n ns ih=>exact .cons .int ih
 have fr:FroL K H a (ns.map V.int):=by
  rcases hS with(h|⟨o,h⟩)|h
  ·rcases hO a with z|⟨o,xs,z⟩ <;> (rw[z]at h; cases h)
  ·exact .inl ⟨o,h⟩
  ·exact .inr h
 refine⟨⟨rfl,λi j b o u e1 m1 e2 m2 _ _=>?_,λi o b e1 e2=>?_⟩,.cons (.ref rfl) .nil⟩
 ·cases i with
  | zero=>simp at e1; subst e1; cases m1
  | succ i=>simp at e1
 ·cases i with
  | zero=>
   simp at e1 e2;subst e1 e2;exact⟨_,fr,rl ns⟩
  | succ i=>simp at e1
theorem ET {g:FF}{H:Hp}{a:JX}{ns:JM J5}(h:∃S',g [.ref 0] [.fro (ns.map W.int)]=ba (.bl true,S'))(hO:xY H)(hS:SqL K H a (ns.map V.int)):y9 w K 1 g [.ref a] H (λv _=>v=.bl true) λ_ _ _=>Lq:=by
 obtain⟨S',e⟩:=h;obtain⟨so,rl⟩:=wQ hO hS;exact⟨[a],_,_,_,S',so,rl,rfl,e,λv H' ⟨A',z1,z2,z3⟩=>by cases z3; rfl⟩
end
noncomputable def Wp {α:Type}(o:JU α)(Q:α->Prop):Prop:=∃a,o=ba a/\Q a
theorem ab {α:Type}{a:α}{Q:α->Prop}:Wp (ba a) Q↔Q a:=⟨λ⟨b,e,h⟩=>(by cases e; exact h),λh=>⟨a,rfl,h⟩⟩
theorem ac {α:Type}{Q:α->Prop}:Wp (gV:JU α) Q↔Lq:=⟨λ⟨b,e,h⟩=>(by cases e),λh=>h.elim⟩
theorem Wp.mono {α:Type}{o:JU α}{Q Q':α->Prop}(h:Wp o Q)(k:∀a,Q a->Q' a):Wp o Q':=let ⟨a,e,q⟩:=h; ⟨a,e,k a q⟩
section
variable{Φ:Kd->FF}{fuel:JW}{ρ:Fm}{S:aa}
noncomputable abbrev QW:=W×aa->Prop
theorem JG {w:W}{Q:QW}:Wp (aH Φ (.c w) ρ S) Q↔Q (w,S):=by simp[aH,fC,ab,ac]
theorem Jw {i:JW}{Q:QW}:Wp (aH Φ (.v i) ρ S) Q↔∃w,ρ[i]?=ba (ba w)/\Q (w,S):=by
 simp only[aH,fV];rcases h:ρ[i]? with _|_|w <;> simp[ab,ac]
theorem zC {g:W->W->aa->JU (W×aa)}{a b:FE}{Q:QW}:Wp (BN g a b ρ S) Q↔Wp (a ρ S) λp=>Wp (b ρ p.2) λq=>Wp (g p.1 q.1 q.2) Q:=by
 unfold BN;rcases h:a ρ S with _|⟨x,S1⟩
 ·simp[ab,ac]
 ·rcases h2:b ρ S1 with _|⟨y,S2⟩ <;> simp[ab,ac,h2]
theorem IK {o:BOp}{a b:E}{Q:QW}:Wp (aH Φ (.op o a b) ρ S) Q↔Wp (aH Φ a ρ S) λp=>Wp (aH Φ b ρ p.2) λq=>Wp (gq o p.1 q.1 q.2) Q:=by rw[aH]; exact zC
theorem Dj {o:COp}{a b:E}{Q:QW}:Wp (aH Φ (.cmp o a b) ρ S) Q↔Wp (aH Φ a ρ S) λp=>Wp (aH Φ b ρ p.2) λq=>Wp (cg o p.1 q.1 q.2) Q:=by rw[aH]; exact zC
theorem IL {a b:E}{Q:QW}:Wp (aH Φ (.ix a b) ρ S) Q↔Wp (aH Φ a ρ S) λp=>Wp (aH Φ b ρ p.2) λq=>Wp (sG p.1 q.1 q.2) Q:=by rw[aH]; exact zC
theorem GR {a b:E}{Q:QW}:Wp (aH Φ (.and a b) ρ S) Q↔Wp (aH Φ a ρ S) λp=>∃k,p.1=.bl k/\(k=true->Wp (aH Φ b ρ p.2) Q)/\(k=false->Q (.bl false,p.2)):=by
 simp only[aH,uU];rcases h:aH Φ a ρ S with _|⟨x,S1⟩
 ·simp[ab,ac]
 ·cases x <;> simp[ab,ac]
  rename_i b; cases b <;> simp[ab,ac]
theorem IM {a b:E}{Q:QW}:Wp (aH Φ (.or a b) ρ S) Q↔Wp (aH Φ a ρ S) λp=>∃k,p.1=.bl k/\(k=true->Q (.bl true,p.2))/\(k=false->Wp (aH Φ b ρ p.2) Q):=by
 simp only[aH,BS];rcases h:aH Φ a ρ S with _|⟨x,S1⟩
 ·simp[ab,ac]
 ·cases x <;> simp[ab,ac]
  rename_i b; cases b <;> simp[ab,ac]
theorem GU {a:E}{Q:QW}:Wp (aH Φ (.not a) ρ S) Q↔Wp (aH Φ a ρ S) λp=>∃k,p.1=.bl k/\Q (.bl (!k),p.2):=by
 simp only[aH,uV];rcases h:aH Φ a ρ S with _|⟨x,S1⟩
 ·simp[ab,ac]
 ·cases x <;> simp[ab,ac]
  rename_i k; cases k <;> simp
theorem GV {t a b:E}{Q:QW}:Wp (aH Φ (.ite t a b) ρ S) Q↔Wp (dF Φ t ρ S) λp=>(p.1=true->Wp (aH Φ a ρ p.2) Q)/\(p.1=false->Wp (aH Φ b ρ p.2) Q):=by
 simp only[aH,BU];rcases h:dF Φ t ρ S with _|⟨x,S1⟩
 ·simp[ab,ac]
 ·cases x <;> simp[ab,ac]
theorem Dk {f:Kd}{n:JW}{es:Es}{Q:QW}:Wp (aH Φ (.own f n es) ρ S) Q↔Wp (dI Φ es ρ S) λp=>p.1.length=n/\Wp (Φ f p.1 p.2) Q:=by
 simp only[aH,rz];rcases h:dI Φ es ρ S with _|⟨x,S1⟩
 ·simp[ab,ac]
 ·by_cases hl:x.length=n <;> simp[ab,ac,hl]
theorem GX {b:Bi}{es:Es}{Q:QW}:Wp (aH Φ (.bi b es) ρ S) Q↔Wp (dI Φ es ρ S) λp=>Wp (b.fn p.1 p.2) Q:=by
 simp only[aH,kz];rcases h:dI Φ es ρ S with _|⟨x,S1⟩ <;> simp[ab,ac]
theorem IN {m:Me}{o:E}{es:Es}{Q:QW}:Wp (aH Φ (.me m o es) ρ S) Q↔Wp (aH Φ o ρ S) λp=>tyOk m.ty p.2 p.1=true/\Wp (dI Φ es ρ p.2) λq=>Wp (m.fn p.1 q.1 q.2) Q:=by
 simp only[aH,FH];rcases h:aH Φ o ρ S with _|⟨x,S1⟩
 ·simp[ab,ac]
 ·by_cases ht:tyOk m.ty S1 x=true
  ·rcases h2:dI Φ es ρ S1 with _|⟨y,S2⟩ <;> simp[ab,ac,ht,h2]
  ·simp[ab,ac,ht]
theorem IP {a:E}{lo hi:Ep}{Q:QW}:Wp (aH Φ (.sl a lo hi) ρ S) Q↔Wp (aH Φ a ρ S) λp=>Wp (u5 Φ lo ρ p.2) λq=>Wp (u5 Φ hi ρ q.2) λr=>Wp (sU p.1 q.1 r.1 r.2) Q:=by
 simp only[aH,GB];rcases h:aH Φ a ρ S with _|⟨x,S1⟩
 ·simp[ab,ac]
 ·rcases h2:u5 Φ lo ρ S1 with _|⟨y,S2⟩
  ·simp[ab,ac,h2]
  ·rcases h3:u5 Φ hi ρ S2 with _|⟨z,S3⟩ <;> simp[ab,ac,h2,h3]
theorem IQ {Q:JU J5×aa->Prop}:Wp (u5 Φ .no ρ S) Q↔Q (gV,S):=by simp[u5,EE,ab,ac]
theorem GY {a:E}{Q:JU J5×aa->Prop}:Wp (u5 Φ (.yes a) ρ S) Q↔Wp (aH Φ a ρ S) λp=>∃i,p.1=.int i/\Q (ba i,p.2):=by
 simp only[u5,uX];rcases h:aH Φ a ρ S with _|⟨x,S1⟩
 ·simp[ab,ac]
 ·cases x <;> simp[ab,ac]
theorem GZ {es:Es}{Q:QW}:Wp (aH Φ (.tup es) ρ S) Q↔Wp (dI Φ es ρ S) λp=>p.1.length<=sizeLine/\Q (.tup p.1,p.2):=by
 simp only[aH,yZ,sS];rcases h:dI Φ es ρ S with _|⟨x,S1⟩
 ·simp[ab,ac]
 ·by_cases hl:x.length<=sizeLine <;> simp[ab,ac,hl]
theorem G0 {es:Es}{Q:QW}:Wp (aH Φ (.lst es) ρ S) Q↔Wp (dI Φ es ρ S) λp=>p.1.length<=sizeLine/\Q (.ref p.2.length,p.2++[.lst p.1]):=by
 simp only[aH,y4,mZ];rcases h:dI Φ es ρ S with _|⟨x,S1⟩
 ·simp[ab,ac]
 ·by_cases hl:x.length<=sizeLine <;> simp[ab,ac,hl]
theorem Dl {c:Lv}{a:E}{Q:QW}:Wp (aH Φ (.isi c a) ρ S) Q↔Wp (aH Φ a ρ S) λp=>∃k,EN p.2 p.1 c=ba k/\Q (.bl k,p.2):=by
 simp only[aH,zl];rcases h:aH Φ a ρ S with _|⟨x,S1⟩
 ·simp[ab,ac]
 ·cases h2:EN S1 x c <;> simp[ab,ac,h2]
  rename_i k; cases k <;> simp
theorem G1 {a:E}{Q:QW}:Wp (aH Φ (.neg a) ρ S) Q↔Wp (aH Φ a ρ S) λp=>∃i,p.1=.int i/\Q (.int (-i),p.2):=by
 simp only[aH,yU];rcases h:aH Φ a ρ S with _|⟨x,S1⟩
 ·simp[ab,ac]
 ·cases x <;> simp[ab,ac]
theorem EU {es:Es}{Q:QW}:Wp (aH Φ (.disp es) ρ S) Q↔Wp (dI Φ es ρ (S++[.dic []])) λp=>p.2[S.length]?=ba (.dic [])/\∃kvs,d0 [] p.1=ba kvs/\Q (.ref S.length,p.2.set S.length (.dic kvs)):=by
 have e:aH Φ (.disp es) ρ S=rC (dI Φ es) ρ S:=by rw[aH]
 rw[e];unfold rC;cases dI Φ es ρ (S++[.dic []])with
 | none=>simp[ac]
 | some p=>
  obtain⟨x,S1⟩:=p;simp only[ab];cases h2:S1[S.length]? with
  | none=>simp[ac]
  | some o=>
   cases o with
   | lst _=>simp[ac]
   | fro _=>simp[ac]
   | frd _=>simp[ac]
   | stt _=>simp[ac]
   | rng _ _=>simp[ac]
   | dic kvs=>
    cases kvs with
    | nil=>cases h3:d0 [] x <;> simp[ab,ac]
    | cons a b=>simp[ac]
theorem G2 {Q:JM W×aa->Prop}:Wp (dI Φ .nil ρ S) Q↔Q ([],S):=by simp[dI,jC,ab,ac]
theorem EV {e:E}{es:Es}{Q:JM W×aa->Prop}:Wp (dI Φ (.cons e es) ρ S) Q↔Wp (aH Φ e ρ S) λp=>Wp (dI Φ es ρ p.2) λq=>Q (p.1::q.1,q.2):=by
 simp only[dI,eQ];rcases h:aH Φ e ρ S with _|⟨x,S1⟩
 ·simp[ab,ac]
 ·rcases h2:dI Φ es ρ S1 with _|⟨y,S2⟩ <;> simp[ab,ac,h2]
noncomputable abbrev QB:=Kt×aa->Prop
theorem G3 {f:FE}{Q:QB}:Wp (yW f ρ S) Q↔Wp (f ρ S) λp=>∃k,p.1=.bl k/\Q (k,p.2):=by
 unfold yW;rcases h:f ρ S with _|⟨x,S1⟩
 ·simp[ab,ac]
 ·cases x <;> simp[ab,ac]
  rename_i k; cases k <;> simp
theorem vg {f:FE}{Q:QB}:Wp (g7 f ρ S) Q↔Wp (f ρ S) λp=>∃k,iT p.2 p.1=ba k/\Q (k,p.2):=by
 unfold g7;rcases h:f ρ S with _|⟨x,S1⟩
 ·simp[ab,ac]
 ·cases h2:iT S1 x <;> simp[ab,ac,h2]
  rename_i k; cases k <;> simp
theorem G4 {o:COp}{a b:E}{Q:QB}:Wp (dF Φ (.cmp o a b) ρ S) Q↔Wp (aH Φ (.cmp o a b) ρ S) λp=>∃k,p.1=.bl k/\Q (k,p.2):=by rw[dF,aH]; exact G3
theorem G5 {a b:E}{Q:QB}:Wp (dF Φ (.and a b) ρ S) Q↔Wp (dF Φ a ρ S) λp=>(p.1=true->Wp (dF Φ b ρ p.2) Q)/\(p.1=false->Q (false,p.2)):=by
 simp only[dF,yX];rcases h:dF Φ a ρ S with _|⟨x,S1⟩
 ·simp[ab,ac]
 ·cases x <;> simp[ab,ac]
theorem IR {a b:E}{Q:QB}:Wp (dF Φ (.or a b) ρ S) Q↔Wp (dF Φ a ρ S) λp=>(p.1=true->Q (true,p.2))/\(p.1=false->Wp (dF Φ b ρ p.2) Q):=by
 simp only[dF,Gx];rcases h:dF Φ a ρ S with _|⟨x,S1⟩
 ·simp[ab,ac]
 ·cases x <;> simp[ab,ac]
theorem G6 {a:E}{Q:QB}:Wp (dF Φ (.not a) ρ S) Q↔Wp (dF Φ a ρ S) λp=>Q (!p.1,p.2):=by
 simp only[dF,BP];rcases h:dF Φ a ρ S with _|⟨x,S1⟩ <;> simp[ab,ac]
theorem JH {i:JW}{Q:QB}:Wp (dF Φ (.v i) ρ S) Q↔Wp (aH Φ (.v i) ρ S) λp=>∃k,iT p.2 p.1=ba k/\Q (k,p.2):=by rw[dF,aH]; exact vg
theorem G7 {f:Kd}{n:JW}{es:Es}{Q:QB}:Wp (dF Φ (.own f n es) ρ S) Q↔Wp (aH Φ (.own f n es) ρ S) λp=>∃k,iT p.2 p.1=ba k/\Q (k,p.2):=by rw[dF,aH]; exact vg
theorem IS {b:Bi}{es:Es}{Q:QB}:Wp (dF Φ (.bi b es) ρ S) Q↔Wp (aH Φ (.bi b es) ρ S) λp=>∃k,iT p.2 p.1=ba k/\Q (k,p.2):=by rw[dF,aH]; exact vg
theorem G8 {c:Lv}{a:E}{Q:QB}:Wp (dF Φ (.isi c a) ρ S) Q↔Wp (aH Φ (.isi c a) ρ S) λp=>∃k,iT p.2 p.1=ba k/\Q (k,p.2):=by rw[dF,aH]; exact vg
noncomputable abbrev QO:=Out×aa->Prop
theorem G9 {Q:QO}:Wp (gy Φ fuel .nil ρ S) Q↔Q (.nx ρ,S):=by simp[gy,ab,ac]
theorem EW {s:Sm}{ss:Ss}{Q:QO}:Wp (gy Φ fuel (.cons s ss) ρ S) Q↔Wp (gx Φ fuel s ρ S) λp=>(∀ρ',p.1=.nx ρ'->Wp (gy Φ fuel ss ρ' p.2) Q)/\((∀ρ',p.1≠.nx ρ')->Q p):=by
 simp only[gy,B0];rcases h:gx Φ fuel s ρ S with _|⟨o,S1⟩
 ·simp[ab,ac]
 ·cases o <;> simp[ab,ac]
theorem zD {f:FE}{g:FG}{Q:QO}:Wp (lS f g ρ S) Q↔Wp (f ρ S) λp=>Wp (g p.1 ρ p.2) λq=>Q (.nx q.1,q.2):=by
 unfold lS;rcases h:f ρ S with _|⟨x,S1⟩
 ·simp[ab,ac]
 ·rcases h2:g x ρ S1 with _|⟨y,S2⟩ <;> simp[ab,ac,h2]
theorem EX {i:JW}{e:E}{Q:QO}:Wp (gx Φ fuel (.set i e) ρ S) Q↔Wp (aH Φ e ρ S) λp=>Q (.nx (ρ.set i (ba p.1)),p.2):=by
 rw[gx,zD]; simp[B7,ab,ac]
theorem EY {is:JM JW}{e:E}{Q:QO}:Wp (gx Φ fuel (.asg is e) ρ S) Q↔Wp (aH Φ e ρ S) λp=>∃ws ρ',p.1=.tup ws/\eR is ws ρ=ba ρ'/\Q (.nx ρ',p.2):=by
 rw[gx,zD];constructor
 ·refine λh=>h.mono λp hp=>?_
  obtain⟨w,S1⟩:=p;obtain⟨q,h1,h2⟩:=hp;cases w with
  | tup ws=>
   simp only[FJ,JR]at h1;obtain⟨ρ',h3,rfl⟩:=h1;exact⟨ws,ρ',rfl,h3,h2⟩
  | _=>cases h1
 ·refine λh=>h.mono λp hp=>?_
  obtain⟨w,S1⟩:=p;obtain⟨ws,ρ',h0,h1,h2⟩:=hp;subst h0;exact⟨(ρ',S1),by simp[FJ,h1],h2⟩
theorem EZ {i j:JW}{es:Es}{Q:QO}:Wp (gx Φ fuel (.par i j es) ρ S) Q↔Wp (dI Φ es ρ S) λp=>∃x y,p.1=[x,y]/\Q (.nx ((ρ.set i (ba x)).set j (ba y)),p.2):=by
 simp only[gx,B9];rcases h:dI Φ es ρ S with _|⟨x,S1⟩
 ·simp[ac]
 ·match x with
  | []=>simp[ab,ac]
  | [_]=>simp[ab,ac]
  | [a,b]=>
   simp only[ab];exact⟨λh=>⟨a,b,rfl,h⟩,λ⟨x,y,e,h⟩=>by cases e; exact h⟩
  | _::_::_::_=>simp[ab,ac]
theorem E1 {o k e:E}{Q:QO}:Wp (gx Φ fuel (.put o k e) ρ S) Q↔Wp (aH Φ e ρ S) λp=>Wp (aH Φ o ρ p.2) λq=>Wp (aH Φ k ρ q.2) λr=>∃S',iZ q.1 r.1 p.1 r.2=ba S'/\Q (.nx ρ,S'):=by
 rw[gx,zD];rcases h:aH Φ e ρ S with _|⟨x,S1⟩
 ·simp[ab,ac]
 ·simp only[ab];unfold B8;rcases h2:aH Φ o ρ S1 with _|⟨y,S2⟩
  ·simp[ab,ac]
  ·rcases h3:aH Φ k ρ S2 with _|⟨z,S3⟩
   ·simp[ab,ac,h3]
   ·cases h4:iZ y z x S3 <;> simp[ab,ac,h3,h4]
theorem Ha {e:E}{Q:QO}:Wp (gx Φ fuel (.ex e) ρ S) Q↔Wp (aH Φ e ρ S) λp=>Q (.nx ρ,p.2):=by
 simp only[gx,B1];rcases h:aH Φ e ρ S with _|⟨x,S1⟩ <;> simp[ab,ac]
theorem E2 {e:E}{Q:QO}:Wp (gx Φ fuel (.ret e) ρ S) Q↔Wp (aH Φ e ρ S) λp=>Q (.rt p.1,p.2):=by
 simp only[gx,B4];rcases h:aH Φ e ρ S with _|⟨x,S1⟩ <;> simp[ab,ac]
theorem E3 {t:E}{a b:Ss}{Q:QO}:Wp (gx Φ fuel (.ite t a b) ρ S) Q↔Wp (dF Φ t ρ S) λp=>(p.1=true->Wp (gy Φ fuel a ρ p.2) Q)/\(p.1=false->Wp (gy Φ fuel b ρ p.2) Q):=by
 simp only[gx,B6];rcases h:dF Φ t ρ S with _|⟨x,S1⟩
 ·simp[ab,ac]
 ·cases x <;> simp[ab,ac]
end
section
variable{Φ:Kd->FF}{fuel:JW}{ρ:Fm}{S:aa}
noncomputable def zE (I:Fm->aa->Prop)(Q:QO)(o:Out×aa):Prop:=match o.1 with
 | .nx ρ'=>I ρ' o.2
 | .ct ρ'=>I ρ' o.2
 | .bk ρ'=>Q (.nx ρ',o.2)
 | .rt w=>Q (.rt w,o.2)
theorem jG {mi:MI}{g:FG}{b:FS}{xs:JM W}{Q:QO}(I:JW->Fm->aa->Prop)(hat:∀i ρ S,I i ρ S->mi.at S i=ba xs[i]?)
  (hstep:∀i w ρ S,xs[i]?=ba w->I i ρ S->Wp (g w ρ S) λq=>Wp (b q.1 q.2) (zE (I (i+1)) Q)) (hend:∀ρ S,I xs.length ρ S->Q (.nx ρ,S)):∀(n i:JW) (ρ:Fm) (S:aa),i+n=xs.length->I i ρ S->Wp (gw mi g b n i ρ S) Q
 | 0,i,ρ,S,hl,hI=>by
  have e:mi.at S i=ba gV:=by rw[hat i ρ S hI,MX (by omega)]
  simp only[gw,e];have hi:i=xs.length:=by omega
  exact ab.mpr (hend ρ S (hi ▸ hI))
 | n+1,i,ρ,S,hl,hI=>by
  have hi:i < xs.length:=by omega
  have e:mi.at S i=ba (ba xs[i]):=by rw[hat i ρ S hI,J6 hi]
  obtain⟨⟨ρ1,S1⟩,h1,⟨o,S2⟩,h2,h3⟩:=hstep i xs[i] ρ S (J6 hi) hI;simp only[gw,e,h1,h2];cases o with
  | nx ρ2=>exact jG I hat hstep hend n (i+1) ρ2 S2 (by omega) h3
  | ct ρ2=>exact jG I hat hstep hend n (i+1) ρ2 S2 (by omega) h3
  | bk ρ2=>exact ab.mpr h3
  | rt w=>exact ab.mpr h3
theorem Hb {fi:FI}{g:FG}{b:FS}{Q:QO}:Wp (zh fi g b ρ S) Q↔Wp (fi ρ S) λp=>∃n,p.1.len p.2=ba n/\Wp (gw p.1 g b n 0 ρ p.2) Q:=by
 unfold zh;rcases h:fi ρ S with _|⟨mi,S1⟩
 ·simp[ac]
 ·cases h2:mi.len S1 <;> simp[ab,ac,h2]
theorem eh {mi:MI}{g:FG}{c:FT}{f:FE}{xs:JM W}{Q:JM W×aa->Prop}(I:JW->JM W->Fm->aa->Prop)(hat:∀i ys ρ S,I i ys ρ S->mi.at S i=ba xs[i]?)
  (hstep:∀i w ys ρ S,xs[i]?=ba w->I i ys ρ S->Wp (g w ρ S) λq=>Wp (c q.1 q.2) λk=>(k.1=true->Wp (f q.1 k.2) λy=>I (i+1) (ys++[y.1]) q.1 y.2)/\(k.1=false->I (i+1) ys q.1 k.2))
  (hend:∀ys ρ S,I xs.length ys ρ S->Q (ys,S)):∀(n i:JW) (ys:JM W) (ρ:Fm) (S:aa),i+n=xs.length->I i ys ρ S->Wp (cb mi g c f n i ρ S) λp=>Q (ys++p.1,p.2)
 | 0,i,ys,ρ,S,hl,hI=>by
  have e:mi.at S i=ba gV:=by rw[hat i ys ρ S hI,MX (by omega)]
  simp only[cb,e];refine ab.mpr ?_;have:i=xs.length:=by omega
  simpa using hend ys ρ S (this ▸ hI)
 | n+1,i,ys,ρ,S,hl,hI=>by
  have hi:i < xs.length:=by omega
  have e:mi.at S i=ba (ba xs[i]):=by rw[hat i ys ρ S hI,J6 hi]
  obtain⟨⟨ρ1,S1⟩,h1,⟨k,S2⟩,h2,h3,h4⟩:=hstep i xs[i] ys ρ S (J6 hi) hI;simp only[cb,e,h1,h2];cases k with
  | true=>
   obtain⟨⟨y,S3⟩,h5,h6⟩:=h3 rfl;simp only[h5];obtain⟨⟨zs,S4⟩,h7,h8⟩:=eh I hat hstep hend n (i+1) (ys++[y]) ρ1 S3 (by omega) h6
   simp only[h7];exact ab.mpr (by simpa using h8)
  | false=>exact eh I hat hstep hend n (i+1) ys ρ1 S2 (by omega) (h4 rfl)
theorem zF {elt:E}{tg:Tg}{it:Ie}{cs:Es}{cap:JM (JU JW)}{Q:QW}:Wp (aH Φ (.comp elt tg it cs cap) ρ S) Q↔Wp (ll Φ it ρ S) λp=>∃n,p.1.len p.2=ba n/\Wp (cb p.1 (gm tg) (Cq Φ cs) (aH Φ elt) n 0 (fX cap ρ) p.2) λq=>q.1.length<=sizeLine/\Q (.ref q.2.length,q.2++[.lst q.1]):=by
 simp only[aH,lT,mZ];rcases h:ll Φ it ρ S with _|⟨mi,S1⟩
 ·simp[ac]
 ·rcases h2:mi.len S1 with _|n
  ·simp[ab,ac,h2]
  ·rcases h3:cb mi (gm tg) (Cq Φ cs) (aH Φ elt) n 0 (fX cap ρ) S1 with _|⟨ys,S2⟩
   ·simp[ab,ac,h2,h3]
   ·by_cases hl:ys.length<=sizeLine <;> simp[ab,ac,h2,h3,hl]
theorem Hc {Q:QB}:Wp (Cq Φ .nil ρ S) Q↔Q (true,S):=by simp[Cq,Db,ab]
theorem Hd {e:E}{Q:QB}:Wp (Cq Φ (.cons e .nil) ρ S) Q↔Wp (dF Φ e ρ S) Q:=by rw[Cq]
theorem IT {i:JW}{w:W}{Q:Fm×aa->Prop}:Wp (gm (.nm i) w ρ S) Q↔Q (ρ.set i (ba w),S):=by simp[gm,B7,ab]
theorem lZ {c:FT}{b:FS}{Q:QO}(I:JW->Fm->aa->Prop)(hstep:∀m ρ S,I m ρ S->Wp (c ρ S) λk=>(k.1=true->∃m',m=m'+1/\Wp (b ρ k.2) (zE (I m') Q))/\(k.1=false->Q (.nx ρ,k.2))) :
  ∀(n m:JW) (ρ:Fm) (S:aa),m < n->I m ρ S->Wp (pB c b n ρ S) Q
 | 0,m,ρ,S,h,_=>by omega
 | n+1,m,ρ,S,h,hI=>by
  obtain⟨⟨k,S1⟩,h1,h2,h3⟩:=hstep m ρ S hI;simp only[pB,h1];cases k with
  | false=>exact ab.mpr (h3 rfl)
  | true=>
   obtain⟨m',rfl,⟨o,S2⟩,h5,h6⟩:=h2 rfl;simp only[h5];cases o with
   | nx ρ2=>exact lZ I hstep n m' ρ2 S2 (by omega) h6
   | ct ρ2=>exact lZ I hstep n m' ρ2 S2 (by omega) h6
   | bk ρ2=>exact ab.mpr h6
   | rt w=>exact ab.mpr h6
theorem wR {defs:JM (Kd×Df)}{d:JW}{f:Kd}{ws:JM W}{df:Df}{Q:QW}(h:defs.lookup f=ba df)(hl:ws.length=df.ps.length)
  (hb:Wp (gy (aq defs fuel d) fuel df.body (fY df.N ws) S) λp=>match p.1 with|.rt w=>Q (w,p.2)|.nx _=>Q (.non,p.2)|_=>Lq):Wp (aq defs fuel (d+1) f ws S) Q:=by
 obtain⟨⟨o,S1⟩,h1,h2⟩:=hb;simp only[aq,h,Ko hl,h1];cases o with
 | rt w=>exact ab.mpr h2
 | nx ρ=>exact ab.mpr h2
 | bk _=>exact h2.elim
 | ct _=>exact h2.elim
end
section
variable{S:aa}{Q:QW}
theorem dk {a b:J5}:gq .add (.int a) (.int b) S=ba (.int (a+b),S):=rfl
theorem rN {a b:J5}:gq .sub (.int a) (.int b) S=ba (.int (a - b),S):=rfl
theorem pL {c:J5->J5->Kt}{f:J5->J5->J5}{i j:J5}(h:c i j=true):AQ c f (.int i) (.int j) S=ba (.int (f i j),S):=by
 unfold AQ;dsimp only;rw[Ko h]
theorem rO {a b:J5}(h : -(2 ^ 64) < b)(h2:b < 2 ^ 64):gq .mul (.int a) (.int b) S=ba (.int (a*b),S):=pL (c:=vV) (f:=(· * ·)) (by
 unfold vV;simp only[LM,JV,Ki];exact .inr ⟨h,h2⟩)
theorem i7 {a b:J5}(h:0 < b):gq .mod (.int a) (.int b) S=ba (.int (a % b),S):=pL (c:=λ_ j=>decide (0 < j)) (f:=(· % ·)) (LX h)
theorem iE {a b:J5}(h:0 < b)(h2:b < 1073741824):gq .fdiv (.int a) (.int b) S=ba (.int (a / b),S):=pL (c:=λ_ j=>Bt j) (f:=(· / ·)) (by
 unfold Bt;simp only[JV,Ki];exact⟨h,h2⟩)
theorem E4:gq .pow (.int 10) (.int 18) S=ba (.int 1000000000000000000,S):=rfl
theorem E5 {x y:Kd}(h:x.length+y.length<=sizeLine):gq .add (.str x) (.str y) S=ba (.str (x++y),S):=by simp only[gq,vW]; rw[Ko h]
theorem gA {xs ys:JM W}(h:(xs++ys).length<=sizeLine):gq .add (.tup xs) (.tup ys) S=ba (.tup (xs++ys),S):=by simp only[gq,vW,sS]; rw[Ko h]
theorem zG {i j:JW}{xs ys:JM W}(h1:S[i]?=ba (.lst xs))(h2:S[j]?=ba (.lst ys))(h:(xs++ys).length<=sizeLine):gq .add (.ref i) (.ref j) S=ba (.ref S.length,S++[.lst (xs++ys)]):=by
 simp only[gq,vW,qm,h1,h2,mZ]; rw[Ko h]
theorem kH {a b:J5}:cg .eq (.int a) (.int b) S=ba (.bl (a==b),S):=rfl
theorem IU {a b:J5}:cg .ne (.int a) (.int b) S=ba (.bl (!(a==b)),S):=rfl
theorem Cw {a b:J5}:cg .lt (.int a) (.int b) S=ba (.bl (decide (a < b)),S):=rfl
theorem E6 {a b:J5}:cg .gt (.int a) (.int b) S=ba (.bl (decide (a > b)),S):=rfl
theorem IV {a b:J5}:cg .ge (.int a) (.int b) S=ba (.bl (decide (a>=b)),S):=rfl
theorem He {a b:Kd}:cg .ne (.str a) (.str b) S=ba (.bl (!(a==b)),S):=rfl
theorem aM {r:JW}{xs:JM W}(h:S[r]?=ba (.lst xs)):iO S r=ba xs:=by simp[iO,h]
theorem Cy {r:JW}{xs:JM W}(h:S[r]?=ba (.fro xs)):iO S r=ba xs:=by simp[iO,h]
theorem eu {r:JW}{xs:JM W}(h:S[r]?=ba (.lst xs)):qm S r=ba xs:=by simp[qm,h]
theorem i8 {r:JW}{xs:JM W}(h:S[r]?=ba (.lst xs)):kn S r=gV:=by simp[kn,h]
theorem cO {r:JW}{kvs:JM (T×W)}(h:S[r]?=ba (.dic kvs)):kn S r=ba kvs:=by simp[kn,h]
theorem pM {r:JW}{kvs:JM (T×W)}(h:S[r]?=ba (.dic kvs)):iO S r=gV:=by simp[iO,h]
theorem Cz {r:JW}{kvs:JM (T×W)}(h:S[r]?=ba (.frd kvs)):kn S r=ba kvs:=by simp[kn,h]
theorem atI_nat {α:Type}{xs:JM α}{j:JW}{w:α}(h:xs[j]?=ba w):sF xs (j:J5)=ba w:=by
 have hl:=(J1.mp h).1;unfold sF xx;rw[Ko (Kg j),Ko (by exact_mod_cast hl)]
 simpa using h
theorem pN {α:Type}{xs:JM α}{i:J5}{w:α}(h0:0<=i)(h:xs[i.toNat]?=ba w):sF xs i=ba w:=by
 have:=atI_nat h
 rwa [PU h0]at this
theorem zH {r:JW}{xs:JM W}{i:J5}{w:W}(h:S[r]?=ba (.lst xs))(h0:0<=i)(hw:xs[i.toNat]?=ba w):sG (.ref r) (.int i) S=ba (w,S):=by
 show xz (.ref r) (.int i) S=_;simp[xz,aM h,pN h0 hw]
theorem Hf {xs:JM W}{i:J5}{w:W}(h0:0<=i)(hw:xs[i.toNat]?=ba w):sG (.tup xs) (.int i) S=ba (w,S):=by
 show xz (.tup xs) (.int i) S=_;simp[xz,pN h0 hw]
theorem Dm {x:Kd}{i:J5}{c:JW}(hz:x.length<=sizeLine)(h0:0<=i)(hw:x.cps.toList[i.toNat]?=ba c):sG (.str x) (.int i) S=ba (.str ⟨[c].toArray⟩,S):=by
 show xz (.str x) (.int i) S=_;simp[xz,hz,pN h0 hw]
theorem Do {r:JW}{xs:JM W}{i:J5}{w:W}(h:S[r]?=ba (.lst xs))(h0:0<=i)(hi:i.toNat < xs.length):iZ (.ref r) (.int i) w S=ba (S.set r (.lst (xs.set i.toNat w))):=by
 show vX (.ref r) (.int i) w S=_;have:xx xs.length i=ba i.toNat:=by
  unfold xx;rw[Ko h0,Ko (by omega)]
 simp[vX,eu h,this]
theorem Dp {r:JW}{xs:JM W}(h:S[r]?=ba (.lst xs)):tw [.ref r] S=ba (.int xs.length,S):=by
 simp[tw,i8 h,sV,aM h]
theorem zI {r:JW}{xs:JM W}{y:W}(h:S[r]?=ba (.lst xs))(hl:xs.length < sizeLine):iR (.ref r) [y] S=ba (.non,S.set r (.lst (xs++[y]))):=by
 simp[iR,eu h,hl]
theorem Hg {r:JW}{xs:JM W}(h:S[r]?=ba (.lst xs)):lR [.ref r] S=ba (.tup xs,S):=by
 simp[lR,BK,h,lC,aM h]
theorem dL {r:JW}{xs:JM W}(h:S[r]?=ba (.lst xs)):tyOk "list" S (.ref r)=true:=by simp[tyOk,aM h]
theorem bW {r:JW}{o o':O}(h:S[r]?=ba o):(S.set r o')[r]?=ba o':=by
 rw[LY,Ko rfl,Ko (J1.mp h).1]
theorem ce {r j:JW}{o':O}(h:r≠j):(S.set r o')[j]?=S[j]?:=by rw[LY,Kw h]
theorem aj {o:O}:(S++[o])[S.length]?=ba o:=by simp
theorem ap {j:JW}{o u:O}(h:S[j]?=ba o):(S++[u])[j]?=ba o:=by rw[KT (J1.mp h).1]; exact h
theorem cU {j:JW}{o:O}(h:S[j]?=ba o):j < S.length:=(J1.mp h).1
structure Kp (r:JW)(S S':aa):Prop where
 get:∀j o,j≠r->S[j]?=ba o->S'[j]?=ba o
 len:S.length<=S'.length
theorem Kp.refl {r:JW}{S:aa}:Kp r S S:=⟨λ_ _ _ h=>h,JZ _⟩
theorem Kp.trans {r:JW}{S S' S'':aa}(a:Kp r S S')(b:Kp r S' S''):Kp r S S'':=⟨λj o n h=>b.get j o n (a.get j o n h),J3 a.len b.len⟩
theorem Kp.set {r:JW}{S:aa}{o:O}:Kp r S (S.set r o):=⟨λj u n h=>by rw[ce (Ne.symm n)]; exact h,by simp⟩
theorem Kp.push {r:JW}{S:aa}{o:O}:Kp r S (S++[o]):=⟨λj u n h=>ap h,by simp⟩
theorem Kp.late {r t:JW}{S0 S:aa}{o:O}(a:Kp r S0 S)(h:S0.length<=t):Kp r S0 (S.set t o):=
 ⟨λj u n e=>by
  have:=cU e;rw[ce (by omega)]; exact a.get j u n e,by simpa using a.len⟩
end
noncomputable def wO {α:Type}(o:JU α)(Q:α->Prop):Prop:=match o with
 | some a=>Q a
 | none=>Lq
theorem c7 {α:Type}{o:JU α}{Q:α->Prop}(h:wO o Q):Wp o Q:=by
 cases o with
 | none=>exact h.elim
 | some a=>exact⟨a,rfl,h⟩
theorem Hh {α:Type}{o:JU α}{Q:α->Prop}(h:Wp o Q):wO o Q:=by
 obtain⟨a,rfl,q⟩:=h;exact q
theorem ae {α:Type}{o:JU α}{a:α}{Q:α->Prop}(e:o=ba a)(h:Q a):wO o Q:=by subst e; exact h
noncomputable def wB:W->(Kt->Prop)->Prop
 | .bl k,Q=>Q k
 | _,_=>Lq
noncomputable def wN:W->(J5->Prop)->Prop
 | .int k,Q=>Q k
 | _,_=>Lq
noncomputable def wU:W->(JM W->Prop)->Prop
 | .tup k,Q=>Q k
 | _,_=>Lq
theorem vh {w:W}{Q:Kt->Prop}(h:wB w Q):∃k,w=.bl k/\Q k:=by cases w <;> first|exact h.elim|exact⟨_,rfl,h⟩
theorem Dq {w:W}{Q:J5->Prop}(h:wN w Q):∃k,w=.int k/\Q k:=by cases w <;> first|exact h.elim|exact⟨_,rfl,h⟩
theorem Hi {w:W}{Q:JM W->Prop}(h:wU w Q):∃k,w=.tup k/\Q k:=by cases w <;> first|exact h.elim|exact⟨_,rfl,h⟩
noncomputable def w2:JM W->(W->W->Prop)->Prop
 | [x,y],Q=>Q x y
 | _,_=>Lq
theorem Hj {xs:JM W}{Q:W->W->Prop}(h:w2 xs Q):∃x y,xs=[x,y]/\Q x y:=by
 match xs,h with
 | [x,y],h=>exact⟨x,y,rfl,h⟩
noncomputable def wG:JU W->(W->Prop)->Prop
 | some w,Q=>Q w
 | none,_=>Lq
noncomputable def wV:Fm->JW->(W->Prop)->Prop
 | [],_,_=>Lq
 | o::_,0,Q=>wG o Q
 | _::ρ,n+1,Q=>wV ρ n Q
theorem zJ {Q:W->Prop}:∀ {ρ:Fm} {i:JW},wV ρ i Q->∃w,ρ[i]?=ba (ba w)/\Q w
 | [],i,h=>h.elim
 | some w::ρ,0,h=>⟨w,rfl,h⟩
 | none::ρ,0,h=>h.elim
 | x::ρ,n+1,h=>by
  obtain⟨w,e2,q⟩:=zJ (ρ:=ρ) (i:=n) h;exact⟨w,e2,q⟩
noncomputable def bF (Φ:Kd->FF)(f:Kd)(n:JW)(ws:JM W)(S:aa):JU (W×aa):=if ws.length=n then Φ f ws S else gV
section
variable (Φ:Kd->FF) (fuel:JW)
mutual
noncomputable def wE:E->Fm->aa->QW->Prop
 | .c w,_,S,Q=>Q (w,S)
 | .v i,ρ,S,Q=>wV ρ i λw=>Q (w,S)
 | .op o a b,ρ,S,Q=>wE a ρ S λp=>wE b ρ p.2 λq=>wO (gq o p.1 q.1 q.2) Q
 | .cmp o a b,ρ,S,Q=>wE a ρ S λp=>wE b ρ p.2 λq=>wO (cg o p.1 q.1 q.2) Q
 | .and a b,ρ,S,Q=>wE a ρ S λp=>wB p.1 λk=>(k=true->wE b ρ p.2 Q)/\(k=false->Q (.bl false,p.2))
 | .or a b,ρ,S,Q=>wE a ρ S λp=>wB p.1 λk=>(k=true->Q (.bl true,p.2))/\(k=false->wE b ρ p.2 Q)
 | .not a,ρ,S,Q=>wE a ρ S λp=>wB p.1 λk=>Q (.bl (!k),p.2)
 | .own f n es,ρ,S,Q=>wA es ρ S λp=>wO (bF Φ f n p.1 p.2) Q
 | .bi b es,ρ,S,Q=>wA es ρ S λp=>wO (b.fn p.1 p.2) Q
 | .me m o es,ρ,S,Q=>wE o ρ S λp=>tyOk m.ty p.2 p.1=true/\wA es ρ p.2 λq=>wO (m.fn p.1 q.1 q.2) Q
 | .ix a b,ρ,S,Q=>wE a ρ S λp=>wE b ρ p.2 λq=>wO (sG p.1 q.1 q.2) Q
 | .sl a lo hi,ρ,S,Q=>wE a ρ S λp=>wP lo ρ p.2 λq=>wP hi ρ q.2 λr=>wO (sU p.1 q.1 r.1 r.2) Q
 | .tup es,ρ,S,Q=>wA es ρ S λp=>Q (.tup p.1,p.2)
 | .lst es,ρ,S,Q=>wA es ρ S λp=>Q (.ref p.2.length,p.2++[.lst p.1])
 | .isi c a,ρ,S,Q=>wE a ρ S λp=>wO (EN p.2 p.1 c) λk=>Q (.bl k,p.2)
 | .neg a,ρ,S,Q=>wE a ρ S λp=>wN p.1 λi=>Q (.int (-i),p.2)
 | .dnew,_,S,Q=>Q (.ref S.length,S++[.dic []])
 | .disp es,ρ,S,Q=>wA es ρ (S++[.dic []]) λp=>p.2[S.length]?=ba (.dic [])/\wO (d0 [] p.1) λkvs=>Q (.ref S.length,p.2.set S.length (.dic kvs))
 | .ite t a b,ρ,S,Q=>wT t ρ S λp=>(p.1=true->wE a ρ p.2 Q)/\(p.1=false->wE b ρ p.2 Q)
 | .comp elt tg it cs cap,ρ,S,Q=>Wp (aH Φ (.comp elt tg it cs cap) ρ S) Q
noncomputable def wT:E->Fm->aa->QB->Prop
 | .cmp o a b,ρ,S,Q=>wE a ρ S λp=>wE b ρ p.2 λq=>wO (cg o p.1 q.1 q.2) λr=>wB r.1 λk=>Q (k,r.2)
 | .and a b,ρ,S,Q=>wT a ρ S λp=>(p.1=true->wT b ρ p.2 Q)/\(p.1=false->Q (false,p.2))
 | .or a b,ρ,S,Q=>wT a ρ S λp=>(p.1=true->Q (true,p.2))/\(p.1=false->wT b ρ p.2 Q)
 | .not a,ρ,S,Q=>wT a ρ S λp=>Q (!p.1,p.2)
 | .isi c a,ρ,S,Q=>wE a ρ S λp=>wO (EN p.2 p.1 c) λk=>Q (k,p.2)
 | .c w,ρ,S,Q=>Wp (dF Φ (.c w) ρ S) Q
 | .v i,ρ,S,Q=>wV ρ i λw=>wO (iT S w) λk=>Q (k,S)
 | .op o a b,ρ,S,Q=>Wp (dF Φ (.op o a b) ρ S) Q
 | .own f n es,ρ,S,Q=>wA es ρ S λp=>wO (bF Φ f n p.1 p.2) λq=>wO (iT q.2 q.1) λk=>Q (k,q.2)
 | .bi b es,ρ,S,Q=>wA es ρ S λp=>wO (b.fn p.1 p.2) λq=>wO (iT q.2 q.1) λk=>Q (k,q.2)
 | .me m o es,ρ,S,Q=>Wp (dF Φ (.me m o es) ρ S) Q
 | .ix a b,ρ,S,Q=>Wp (dF Φ (.ix a b) ρ S) Q
 | .sl a lo hi,ρ,S,Q=>Wp (dF Φ (.sl a lo hi) ρ S) Q
 | .tup es,ρ,S,Q=>Wp (dF Φ (.tup es) ρ S) Q
 | .lst es,ρ,S,Q=>Wp (dF Φ (.lst es) ρ S) Q
 | .neg a,ρ,S,Q=>Wp (dF Φ (.neg a) ρ S) Q
 | .dnew,ρ,S,Q=>Wp (dF Φ .dnew ρ S) Q
 | .disp es,ρ,S,Q=>Wp (dF Φ (.disp es) ρ S) Q
 | .ite t a b,ρ,S,Q=>Wp (dF Φ (.ite t a b) ρ S) Q
 | .comp elt tg it cs cap,ρ,S,Q=>Wp (dF Φ (.comp elt tg it cs cap) ρ S) Q
noncomputable def wA:Es->Fm->aa->(JM W×aa->Prop)->Prop
 | .nil,_,S,Q=>Q ([],S)
 | .cons e es,ρ,S,Q=>wE e ρ S λp=>wA es ρ p.2 λq=>Q (p.1::q.1,q.2)
noncomputable def wP:Ep->Fm->aa->(JU J5×aa->Prop)->Prop
 | .no,_,S,Q=>Q (gV,S)
 | .yes a,ρ,S,Q=>wE a ρ S λp=>wN p.1 λi=>Q (ba i,p.2)
end
noncomputable def sH (K:Fm->aa->Prop)(Q:QO)(p:Out×aa):Prop:=match p.1 with
 | .nx ρ=>K ρ p.2
 | o=>Q (o,p.2)
mutual
noncomputable def wS:Sm->Fm->aa->(Fm->aa->Prop)->QO->Prop
 | .set i e,ρ,S,K,_=>wE Φ e ρ S λp=>K (ρ.set i (ba p.1)) p.2
 | .asg is e,ρ,S,K,_=>wE Φ e ρ S λp=>wU p.1 λws=>wO (eR is ws ρ) λρ'=>K ρ' p.2
 | .par i j es,ρ,S,K,_=>wA Φ es ρ S λp=>w2 p.1 λx y=>K ((ρ.set i (ba x)).set j (ba y)) p.2
 | .put o k e,ρ,S,K,_=>wE Φ e ρ S λp=>wE Φ o ρ p.2 λq=>wE Φ k ρ q.2 λr=>wO (iZ q.1 r.1 p.1 r.2) λS'=>K ρ S'
 | .ex e,ρ,S,K,_=>wE Φ e ρ S λp=>K ρ p.2
 | .ret e,ρ,S,_,Q=>wE Φ e ρ S λp=>Q (.rt p.1,p.2)
 | .retN,_,S,_,Q=>Q (.rt .non,S)
 | .pass,ρ,S,K,_=>K ρ S
 | .brk,ρ,S,_,Q=>Q (.bk ρ,S)
 | .cont,ρ,S,_,Q=>Q (.ct ρ,S)
 | .bad,_,_,_,_=>Lq
 | .ite t a b,ρ,S,K,Q=>wT Φ t ρ S λp=>∀Q':QO,(∀ρ' S',K ρ' S'->Q' (.nx ρ',S'))->(∀o S',(∀ρ',o≠.nx ρ')->Q (o,S')->Q' (o,S'))->(p.1=true->AR a ρ p.2 Q')/\(p.1=false->AR b ρ p.2 Q')
 | .whl t b,ρ,S,K,Q=>Wp (gx Φ fuel (.whl t b) ρ S) (sH K Q)
 | .loop tg it b,ρ,S,K,Q=>Wp (gx Φ fuel (.loop tg it b) ρ S) (sH K Q)
noncomputable def AR:Ss->Fm->aa->QO->Prop
 | .nil,ρ,S,Q=>Q (.nx ρ,S)
 | .cons s ss,ρ,S,Q=>wS s ρ S (λρ' S'=>AR ss ρ' S' Q) Q
end
end
noncomputable def HH:Es->JW
 | .nil=>0
 | .cons _ es=>HH es+1
mutual
noncomputable def eF:E->Kt
 | .c _|.v _|.comp _ _ _ _ _|.dnew=>true
 | .op _ a b|.cmp _ a b|.and a b|.or a b|.ix a b=>eF a&&eF b
 | .ite a b c=>eF a&&eF b&&eF c
 | .neg a|.not a|.isi _ a=>eF a
 | .own _ n es=>HH es==n&&qo es
 | .bi _ es|.disp es=>qo es
 | .me _ o es=>eF o&&qo es
 | .sl a lo hi=>eF a&&IW lo&&IW hi
 | .tup es|.lst es=>decide (HH es<=1000)&&qo es
noncomputable def qo:Es->Kt
 | .nil=>true
 | .cons e es=>eF e&&qo es
noncomputable def IW:Ep->Kt
 | .no=>true
 | .yes e=>eF e
end
mutual
noncomputable def Jx:Sm->Kt
 | .set _ e|.asg _ e|.ex e|.ret e=>eF e
 | .put o k e=>eF o&&eF k&&eF e
 | .par _ _ es=>qo es
 | .ite t a b=>eF t&&g9 a&&g9 b
 | _=>true
noncomputable def g9:Ss->Kt
 | .nil=>true
 | .cons s ss=>Jx s&&g9 ss
end
section
variable{Φ:Kd->FF}{fuel:JW}
theorem i9:∀ {es:Es} {ρ:Fm} {S S':aa} {ws:JM W},dI Φ es ρ S=ba (ws,S')->ws.length=HH es
 | .nil,ρ,S,S',ws,h=>by rw[dI]at h; cases h; rfl
 | .cons e es,ρ,S,S',ws,h=>by
  rw[dI]at h;unfold eQ at h;split at h
  ·split at h
   ·rename_i h2; cases h; rw[K5,i9 h2]; rfl
   ·cases h
  ·cases h
theorem zK {n:JW}(h:decide (n<=1000)=true):n<=sizeLine:=J3 (K4 h) (by rw[KZ]; decide)
theorem dG {a b:Kt}(h:(a&&b)=true):a=true:=by cases a <;> first|rfl|cases h
theorem eW {a b:Kt}(h:(a&&b)=true):b=true:=by cases a <;> first|exact h|cases h
mutual
theorem bK:∀(e:E) {ρ:Fm} {S:aa} {Q:QW},eF e=true->wE Φ e ρ S Q->Wp (aH Φ e ρ S) Q
 | .c w,ρ,S,Q,k,h=>JG.mpr h
 | .v i,ρ,S,Q,k,h=>Jw.mpr (zJ h)
 | .op o a b,ρ,S,Q,k,h=>IK.mpr ((bK a (dG k) h).mono λp hp=>(bK b (eW k) hp).mono λq hq=>c7 hq)
 | .cmp o a b,ρ,S,Q,k,h=>Dj.mpr ((bK a (dG k) h).mono λp hp=>(bK b (eW k) hp).mono λq hq=>c7 hq)
 | .and a b,ρ,S,Q,k,h=>GR.mpr ((bK a (dG k) h).mono λp hp=>let ⟨c,e,h1,h2⟩:=vh hp; ⟨c,e,λz=>bK b (eW k) (h1 z),h2⟩)
 | .or a b,ρ,S,Q,k,h=>IM.mpr ((bK a (dG k) h).mono λp hp=>let ⟨c,e,h1,h2⟩:=vh hp; ⟨c,e,h1,λz=>bK b (eW k) (h2 z)⟩)
 | .not a,ρ,S,Q,k,h=>GU.mpr ((bK a k h).mono λp hp=>vh hp)
 | .own f n es,ρ,S,Q,k,h=>Dk.mpr (by
   obtain⟨⟨ws,S1⟩,e,hq⟩:=io es (eW k) h;have hl:ws.length=n:=(i9 e).trans (eq_of_beq (dG k));simp only[bF,Ko hl]at hq;exact⟨_,e,hl,c7 hq⟩)
 | .bi b es,ρ,S,Q,k,h=>GX.mpr ((io es k h).mono λp hp=>c7 hp)
 | .me m o es,ρ,S,Q,k,h=>IN.mpr ((bK o (dG k) h).mono λp hp=>⟨hp.1,(io es (eW k) hp.2).mono λq hq=>c7 hq⟩)
 | .ix a b,ρ,S,Q,k,h=>IL.mpr ((bK a (dG k) h).mono λp hp=>(bK b (eW k) hp).mono λq hq=>c7 hq)
 | .sl a lo hi,ρ,S,Q,k,h=>IP.mpr ((bK a (dG (dG k)) h).mono λp hp=>(Dr lo (eW (dG k)) hp).mono λq hq=>(Dr hi (eW k) hq).mono λr hr=>c7 hr)
 | .tup es,ρ,S,Q,k,h=>GZ.mpr (by
   obtain⟨⟨ws,S1⟩,e,hq⟩:=io es (eW k) h;exact⟨_,e,by rw[i9 e]; exact zK (dG k),hq⟩)
 | .lst es,ρ,S,Q,k,h=>G0.mpr (by
   obtain⟨⟨ws,S1⟩,e,hq⟩:=io es (eW k) h;exact⟨_,e,by rw[i9 e]; exact zK (dG k),hq⟩)
 | .isi c a,ρ,S,Q,k,h=>Dl.mpr ((bK a k h).mono λp hp=>c7 hp)
 | .neg a,ρ,S,Q,k,h=>G1.mpr ((bK a k h).mono λp hp=>Dq hp)
 | .dnew,ρ,S,Q,k,h=>⟨_,rfl,h⟩
 | .disp es,ρ,S,Q,k,h=>EU.mpr ((io es k h).mono λp hp=>⟨hp.1,let ⟨kvs,e,q⟩:=c7 hp.2; ⟨kvs,e,q⟩⟩)
 | .ite t a b,ρ,S,Q,k,h=>GV.mpr ((ja t (dG (dG k)) h).mono λp hp=>⟨λz=>bK a (eW (dG k)) (hp.1 z),λz=>bK b (eW k) (hp.2 z)⟩)
 | .comp elt tg it cs cap,ρ,S,Q,k,h=>h
theorem io:∀(es:Es) {ρ:Fm} {S:aa} {Q:JM W×aa->Prop},qo es=true->wA Φ es ρ S Q->Wp (dI Φ es ρ S) Q
 | .nil,ρ,S,Q,k,h=>G2.mpr h
 | .cons e es,ρ,S,Q,k,h=>EV.mpr ((bK e (dG k) h).mono λp hp=>io es (eW k) hp)
theorem Dr:∀(e:Ep) {ρ:Fm} {S:aa} {Q:JU J5×aa->Prop},IW e=true->wP Φ e ρ S Q->Wp (u5 Φ e ρ S) Q
 | .no,ρ,S,Q,k,h=>IQ.mpr h
 | .yes a,ρ,S,Q,k,h=>GY.mpr ((bK a k h).mono λp hp=>Dq hp)
theorem ja:∀(e:E) {ρ:Fm} {S:aa} {Q:QB},eF e=true->wT Φ e ρ S Q->Wp (dF Φ e ρ S) Q
 | .cmp o a b,ρ,S,Q,k,h=>G4.mpr (Dj.mpr ((bK a (dG k) h).mono λp hp=>(bK b (eW k) hp).mono λq hq=>(c7 hq).mono λr hr=>vh hr))
 | .and a b,ρ,S,Q,k,h=>G5.mpr ((ja a (dG k) h).mono λp hp=>⟨λz=>ja b (eW k) (hp.1 z),hp.2⟩)
 | .or a b,ρ,S,Q,k,h=>IR.mpr ((ja a (dG k) h).mono λp hp=>⟨hp.1,λz=>ja b (eW k) (hp.2 z)⟩)
 | .not a,ρ,S,Q,k,h=>G6.mpr (ja a k h)
 | .isi c a,ρ,S,Q,k,h=>G8.mpr (Dl.mpr ((bK a k h).mono λp hp=>let ⟨b,e,q⟩:=c7 hp; ⟨b,e,b,rfl,q⟩))
 | .v i,ρ,S,Q,k,h=>JH.mpr (Jw.mpr (let ⟨w,e,q⟩:=zJ h; ⟨w,e,c7 q⟩))
 | .own f n es,ρ,S,Q,k,h=>G7.mpr (Dk.mpr (by
   obtain⟨⟨ws,S1⟩,e,hq⟩:=io es (eW k) h;have hl:ws.length=n:=(i9 e).trans (eq_of_beq (dG k));simp only[bF,Ko hl]at hq;exact⟨_,e,hl,(c7 hq).mono λq hq=>c7 hq⟩))
 | .c w,ρ,S,Q,k,h=>h
 | .op o a b,ρ,S,Q,k,h=>h
 | .bi b es,ρ,S,Q,k,h=>IS.mpr (GX.mpr ((io es k h).mono λp hp=>(c7 hp).mono λq hq=>c7 hq))
 | .me m o es,ρ,S,Q,k,h=>h
 | .ix a b,ρ,S,Q,k,h=>h
 | .sl a lo hi,ρ,S,Q,k,h=>h
 | .tup es,ρ,S,Q,k,h=>h
 | .lst es,ρ,S,Q,k,h=>h
 | .neg a,ρ,S,Q,k,h=>h
 | .dnew,ρ,S,Q,k,h=>h
 | .disp es,ρ,S,Q,k,h=>h
 | .ite t a b,ρ,S,Q,k,h=>h
 | .comp elt tg it cs cap,ρ,S,Q,k,h=>h
end
mutual
theorem Hk:∀(s:Sm) {ρ:Fm} {S:aa} {K:Fm->aa->Prop} {Q:QO},Jx s=true->wS Φ fuel s ρ S K Q->Wp (gx Φ fuel s ρ S) (sH K Q)
 | .set i e,ρ,S,K,Q,k,h=>EX.mpr (bK e k h)
 | .asg is e,ρ,S,K,Q,k,h=>EY.mpr ((bK e k h).mono λp hp=>let ⟨ws,e1,h1⟩:=Hi hp; let ⟨ρ',e2,h2⟩:=c7 h1; ⟨ws,ρ',e1,e2,h2⟩)
 | .par i j es,ρ,S,K,Q,k,h=>EZ.mpr ((io es k h).mono λp hp=>Hj hp)
 | .put o i e,ρ,S,K,Q,k,h=>E1.mpr ((bK e (eW k) h).mono λp hp=>(bK o (dG (dG k)) hp).mono λq hq=>(bK i (eW (dG k)) hq).mono λr hr=>c7 hr)
 | .ex e,ρ,S,K,Q,k,h=>Ha.mpr (bK e k h)
 | .ret e,ρ,S,K,Q,k,h=>E2.mpr (bK e k h)
 | .retN,ρ,S,K,Q,k,h=>⟨_,rfl,h⟩
 | .pass,ρ,S,K,Q,k,h=>⟨_,rfl,h⟩
 | .brk,ρ,S,K,Q,k,h=>⟨_,rfl,h⟩
 | .cont,ρ,S,K,Q,k,h=>⟨_,rfl,h⟩
 | .bad,ρ,S,K,Q,k,h=>h.elim
 | .ite t a b,ρ,S,K,Q,k,h=>E3.mpr ((ja t (dG (dG k)) h).mono λp hp=>by
   obtain⟨h1,h2⟩:=hp (sH K Q) (λρ' S' z=>z) (λo S' hn z=>by cases o <;> first|exact z|exact absurd rfl (hn _))
   exact⟨λz=>jH a (eW (dG k)) (h1 z),λz=>jH b (eW k) (h2 z)⟩)
 | .whl t b,ρ,S,K,Q,k,h=>h
 | .loop tg it b,ρ,S,K,Q,k,h=>h
theorem jH:∀(ss:Ss) {ρ:Fm} {S:aa} {Q:QO},g9 ss=true->AR Φ fuel ss ρ S Q->Wp (gy Φ fuel ss ρ S) Q
 | .nil,ρ,S,Q,k,h=>G9.mpr h
 | .cons s ss,ρ,S,Q,k,h=>EW.mpr ((Hk s (dG k) h).mono λp hp=>by
   obtain⟨o,S1⟩:=p;cases o with
   | nx ρ'=>exact⟨λρ2 e=>by cases e; exact jH ss (eW k) hp,λz=>absurd rfl (z ρ')⟩
   | _=>exact⟨λρ2 e=>(by cases e),λ_=>hp⟩)
end
structure wZ (Φ:Kd->FF)(fuel:JW)(ss:Ss)(ρ:Fm)(S:aa)(Q:QO):Prop where
 out:AR Φ fuel ss ρ S Q
theorem Hl {ss:Ss}{ρ:Fm}{S:aa}{Q:QO}:AR Φ fuel ss ρ S Q=wZ Φ fuel ss ρ S Q:=propext ⟨λh=>⟨h⟩,λh=>h.out⟩
theorem E7 {defs:JM (Kd×Df)}{d:JW}{f:Kd}{n:JW}{ws:JM W}{df:Df}{S:aa}{Q:QW}(h:defs.lookup f=ba df)(hn:ws.length=n)(hl:ws.length=df.ps.length)(ok:g9 df.body=true)
  (hb:∀Q':QO,(∀w S',Q (w,S')->Q' (.rt w,S'))->wZ (aq defs fuel d) fuel df.body (fY df.N ws) S Q'):wO (bF (aq defs fuel (d+1)) f n ws S) Q:=by
 unfold bF;rw[Ko hn];exact Hh (wR h hl ((jH _ ok (hb (λp=>match p.1 with|.rt w=>Q (w,p.2)|_=>Lq) λw S' q=>q).out).mono λp hp=>by
  obtain⟨o,S1⟩:=p;cases o <;> first|exact hp|exact hp.elim))
end
section
variable{Φ:Kd->FF}{fuel:JW}{ρ:Fm}{S:aa}{K:Fm->aa->Prop}{Q:QO}
noncomputable def xA (Φ:Kd->FF)(fuel:JW)(b:Ss)(ρ:Fm)(S:aa)(I:Fm->aa->Prop)(Q:QO):Prop:=∀Q':QO,(∀ρ' S',I ρ' S'->Q' (.nx ρ',S'))->(∀w S',Q (.rt w,S')->Q' (.rt w,S'))->wZ Φ fuel b ρ S Q'
theorem iF {tg:Tg}{it:Ie}{b:Ss}{mi:MI}{S1:aa}{xs:JM W}(I:JW->Fm->aa->Prop)(ok:g9 b=true)(hi:ll Φ it ρ S=ba (mi,S1))(hat:∀i ρ S,I i ρ S->mi.at S i=ba xs[i]?)(hl:mi.len S1=ba xs.length)(h0:I 0 ρ S1)
  (hstep:∀(i:JW) (w:W) (ρ:Fm) (S:aa),xs[i]?=ba w->I i ρ S->wO (gm tg w ρ S) λq=>xA Φ fuel b q.1 q.2 (I (i+1)) Q) (hend:∀ρ S,I xs.length ρ S->K ρ S):Wp (gx Φ fuel (.loop tg it b) ρ S) (sH K Q):=by
 rw[gx,Hb];refine⟨_,hi,xs.length,hl,?_⟩;refine jG (Q:=sH K Q) I hat (λi w ρ S h1 h2=>?_) (λρ S h=>hend ρ S h) _ 0 ρ S1 (by omega) h0
 exact(c7 (hstep i w ρ S h1 h2)).mono λq hq=>jH b ok (wZ.out (hq _ (λ_ _ h=>h) λ_ _ h=>h))
theorem cJ {e:E}{Q:QW}(ok:eF e=true)(h:wE Φ e ρ S Q):∃w S',aH Φ e ρ S=ba (w,S')/\Q (w,S'):=let ⟨⟨w,S'⟩,a,b⟩:=bK e ok h; ⟨w,S',a,b⟩
theorem cm {i0:JW}{e:E}{b:Ss}(j:J5)(I:JW->Fm->aa->Prop)(oe:eF e=true)(ok:g9 b=true)(hj : -(2 ^ 62)<=j/\j < 2 ^ 62)(he:wE Φ e ρ S λp=>p.1=.int j/\I 0 ρ p.2)
  (hstep:∀(i:JW) (ρ:Fm) (S:aa),(i:J5) < j->I i ρ S->xA Φ fuel b (ρ.set i0 (ba (.int i))) S (I (i+1)) Q) (hend:∀ρ S,I j.toNat ρ S->K ρ S):Wp (gx Φ fuel (.loop (.nm i0) (.rng (.cons e .nil)) b) ρ S) (sH K Q):=by
 obtain⟨w,S1,e1,rfl,h0⟩:=cJ oe he;have hl:(dE 0 j.toNat).length=j.toNat:=by simp[dE]
 refine iF (mi:=.its (dE 0 j.toNat)) (S1:=S1) (xs:=dE 0 j.toNat) I ok ?_ (λ_ _ _ _=>rfl) rfl h0 (λi w ρ S hw hI=>?_) λρ S hI=>hend ρ S (hl ▸ hI)
 ·simp only[ll,dI,eQ,jC,tM,e1];rw[Ko hj]
 ·rw[eS]at hw;split at hw
  ·rename_i hk;cases hw;rw[Od];exact hstep i ρ S (by omega) hI
  ·cases hw
theorem for_tup {tg:Tg}{e:E}{b:Ss}(xs:JM W)(I:JW->Fm->aa->Prop)(oe:eF e=true)(ok:g9 b=true)(he:wE Φ e ρ S λp=>p.1=.tup xs/\I 0 ρ p.2)
  (hstep:∀(i:JW) (w:W) (ρ:Fm) (S:aa),xs[i]?=ba w->I i ρ S->wO (gm tg w ρ S) λq=>xA Φ fuel b q.1 q.2 (I (i+1)) Q) (hend:∀ρ S,I xs.length ρ S->K ρ S):Wp (gx Φ fuel (.loop tg (.seq e) b) ρ S) (sH K Q):=by
 obtain⟨w,S1,e1,rfl,h0⟩:=cJ oe he;exact iF (mi:=.its xs) (S1:=S1) I ok (by simp only[ll,fK,e1]) (λ_ _ _ _=>rfl) rfl h0 hstep hend
theorem pO {tg:Tg}{e:E}{b:Ss}(t:JW)(xs:JM W)(I:JW->Fm->aa->Prop)(oe:eF e=true)(ok:g9 b=true)(he:wE Φ e ρ S λp=>p.1=.ref t/\I 0 ρ p.2)(hat:∀i ρ S,I i ρ S->S[t]?=ba (.lst xs))
  (hstep:∀(i:JW) (w:W) (ρ:Fm) (S:aa),xs[i]?=ba w->I i ρ S->wO (gm tg w ρ S) λq=>xA Φ fuel b q.1 q.2 (I (i+1)) Q) (hend:∀ρ S,I xs.length ρ S->K ρ S):Wp (gx Φ fuel (.loop tg (.seq e) b) ρ S) (sH K Q):=by
 obtain⟨w,S1,e1,rfl,h0⟩:=cJ oe he;exact iF (mi:=.live t) (S1:=S1) I ok (by simp only[ll,fK,e1,aM (hat _ _ _ h0)]) (λi ρ S h=>by simp only[MI.at,aM (hat _ _ _ h)]) (by simp only[MI.len,aM (hat _ _ _ h0),KR]) h0 hstep hend
theorem Ds {t:E}{b:Ss}(I:JW->Fm->aa->Prop)(m:JW)(ot:eF t=true)(ok:g9 b=true)(hm:m < fuel)(h0:I m ρ S)
  (hstep:∀m ρ S,I m ρ S->wT Φ t ρ S λk=>(k.1=true->∃m',m=m'+1/\xA Φ fuel b ρ k.2 (I m') Q)/\(k.1=false->K ρ k.2)):Wp (gx Φ fuel (.whl t b) ρ S) (sH K Q):=by
 rw[gx];refine lZ (Q:=sH K Q) I (λm ρ S hI=>(ja t ot (hstep m ρ S hI)).mono λk hk=>⟨λz=>?_,λz=>hk.2 z⟩) fuel m ρ S hm h0
 obtain⟨m',e,h⟩:=hk.1 z;exact⟨m',e,jH b ok (wZ.out (h _ (λ_ _ h=>h) λ_ _ h=>h))⟩
noncomputable def wC (Φ:Kd->FF):Es->Fm->aa->QB->Prop
 | .nil,_,S,Q=>Q (true,S)
 | .cons e .nil,ρ,S,Q=>wT Φ e ρ S Q
 | .cons _ (.cons _ _),_,_,_=>Lq
theorem Dt {cs:Es}{Q:QB}(ok:qo cs=true)(h:wC Φ cs ρ S Q):Wp (Cq Φ cs ρ S) Q:=by
 match cs,h,ok with
 | .nil,h,_=>exact Hc.mpr h
 | .cons e .nil,h,ok=>exact Hd.mpr (ja e (dG ok) h)
noncomputable def kB (Φ:Kd->FF)(elt:E)(cs:Es)(ρ:Fm)(S:aa)(G:W->Fm->aa->Prop)(N:Fm->aa->Prop):Prop:=wC Φ cs ρ S λk=>(k.1=true->wE Φ elt ρ k.2 λy=>G y.1 ρ y.2)/\(k.1=false->N ρ k.2)
theorem jI {elt:E}{tg:Tg}{it:Ie}{cs:Es}{cap:JM (JU JW)}{mi:MI}{S1:aa}{xs:JM W}{Q:QW}(I:JW->JM W->Fm->aa->Prop)(oe:eF elt=true)(oc:qo cs=true)(hi:ll Φ it ρ S=ba (mi,S1))(hat:∀i ys ρ S,I i ys ρ S->mi.at S i=ba xs[i]?)(hl:mi.len S1=ba xs.length)(h0:I 0 [] (fX cap ρ) S1)
  (hstep:∀(i:JW) (w:W) (ys:JM W) (ρ:Fm) (S:aa),xs[i]?=ba w->I i ys ρ S->wO (gm tg w ρ S) λq=>kB Φ elt cs q.1 q.2 (λy=>I (i+1) (ys++[y])) (I (i+1) ys))
  (hend:∀ys ρ S,I xs.length ys ρ S->ys.length<=sizeLine/\Q (.ref S.length,S++[.lst ys])):Wp (aH Φ (.comp elt tg it cs cap) ρ S) Q:=by
 rw[zF];refine⟨_,hi,xs.length,hl,?_⟩;refine(eh (xs:=xs) (Q:=λq=>q.1.length<=sizeLine/\Q (.ref q.2.length,q.2++[.lst q.1])) I hat (λi w ys ρ S h1 h2=>?_) hend xs.length 0 [] _ S1 (by omega) h0).mono λq hq=>by simpa using hq
 exact(c7 (hstep i w ys ρ S h1 h2)).mono λq hq=>(Dt oc hq).mono λk hk=>⟨λz=>bK elt oe (hk.1 z),hk.2⟩
theorem fw {elt e:E}{i0:JW}{cs:Es}{cap:JM (JU JW)}{Q:QW}(j:J5)(I:JW->JM W->Fm->aa->Prop)(oi:eF e=true)(oe:eF elt=true)(oc:qo cs=true)(hj : -(2 ^ 62)<=j/\j < 2 ^ 62)(he:wE Φ e ρ S λp=>p.1=.int j/\I 0 [] (fX cap ρ) p.2)
  (hstep:∀(i:JW) (ys:JM W) (ρ:Fm) (S:aa),(i:J5) < j->I i ys ρ S->kB Φ elt cs (ρ.set i0 (ba (.int i))) S (λy=>I (i+1) (ys++[y])) (I (i+1) ys))
  (hend:∀ys ρ S,I j.toNat ys ρ S->ys.length<=sizeLine/\Q (.ref S.length,S++[.lst ys])):Wp (aH Φ (.comp elt (.nm i0) (.rng (.cons e .nil)) cs cap) ρ S) Q:=by
 obtain⟨w,S1,e1,rfl,h0⟩:=cJ oi he;have hl:(dE 0 j.toNat).length=j.toNat:=by simp[dE]
 refine jI (mi:=.its (dE 0 j.toNat)) (S1:=S1) (xs:=dE 0 j.toNat) I oe oc ?_ (λ_ _ _ _ _=>rfl) rfl h0 (λi w ys ρ S hw hI=>?_) λys ρ S hI=>hend ys ρ S (hl ▸ hI)
 ·simp only[ll,dI,eQ,jC,tM,e1];rw[Ko hj]
 ·rw[eS]at hw;split at hw
  ·rename_i hk;cases hw;rw[Od];exact hstep i ys ρ S (by omega) hI
  ·cases hw
theorem vk {elt e:E}{tg:Tg}{cs:Es}{cap:JM (JU JW)}{Q:QW}(xs:JM W)(I:JW->JM W->Fm->aa->Prop)(oi:eF e=true)(oe:eF elt=true)(oc:qo cs=true)(he:wE Φ e ρ S λp=>p.1=.tup xs/\I 0 [] (fX cap ρ) p.2)
  (hstep:∀(i:JW) (w:W) (ys:JM W) (ρ:Fm) (S:aa),xs[i]?=ba w->I i ys ρ S->wO (gm tg w ρ S) λq=>kB Φ elt cs q.1 q.2 (λy=>I (i+1) (ys++[y])) (I (i+1) ys))
  (hend:∀ys ρ S,I xs.length ys ρ S->ys.length<=sizeLine/\Q (.ref S.length,S++[.lst ys])):Wp (aH Φ (.comp elt tg (.seq e) cs cap) ρ S) Q:=by
 obtain⟨w,S1,e1,rfl,h0⟩:=cJ oi he;exact jI (mi:=.its xs) (S1:=S1) I oe oc (by simp only[ll,fK,e1]) (λ_ _ _ _ _=>rfl) rfl h0 hstep hend
theorem vm {elt e:E}{tg:Tg}{cs:Es}{cap:JM (JU JW)}{Q:QW}(t:JW)(xs:JM W)(I:JW->JM W->Fm->aa->Prop)(oi:eF e=true)(oe:eF elt=true)(oc:qo cs=true)(he:wE Φ e ρ S λp=>p.1=.ref t/\I 0 [] (fX cap ρ) p.2)(hat:∀i ys ρ S,I i ys ρ S->S[t]?=ba (.lst xs))
  (hstep:∀(i:JW) (w:W) (ys:JM W) (ρ:Fm) (S:aa),xs[i]?=ba w->I i ys ρ S->wO (gm tg w ρ S) λq=>kB Φ elt cs q.1 q.2 (λy=>I (i+1) (ys++[y])) (I (i+1) ys))
  (hend:∀ys ρ S,I xs.length ys ρ S->ys.length<=sizeLine/\Q (.ref S.length,S++[.lst ys])):Wp (aH Φ (.comp elt tg (.seq e) cs cap) ρ S) Q:=by
 obtain⟨w,S1,e1,rfl,h0⟩:=cJ oi he;exact jI (mi:=.live t) (S1:=S1) I oe oc (by simp only[ll,fK,e1,aM (hat _ _ _ _ h0)]) (λi ys ρ S h=>by simp only[MI.at,aM (hat _ _ _ _ h)]) (by simp only[MI.len,aM (hat _ _ _ _ h0),KR]) h0 hstep hend
theorem CA {elt a:E}{tg:Tg}{cs:Es}{cap:JM (JU JW)}{Q:QW}(xs:JM W)(I:JW->JM W->Fm->aa->Prop)(oa:eF a=true)(oe:eF elt=true)(oc:qo cs=true)(he:wE Φ a ρ S λp=>IG p.1=ba xs/\I 0 [] (fX cap ρ) p.2)
  (hstep:∀(i:JW) (x:W) (ys:JM W) (ρ:Fm) (S:aa),xs[i]?=ba x->I i ys ρ S->wO (gm tg (.tup [.int i,x]) ρ S) λq=>kB Φ elt cs q.1 q.2 (λy=>I (i+1) (ys++[y])) (I (i+1) ys))
  (hend:∀ys ρ S,I xs.length ys ρ S->ys.length<=sizeLine/\Q (.ref S.length,S++[.lst ys])):Wp (aH Φ (.comp elt tg (.enu (.cons a .nil)) cs cap) ρ S) Q:=by
 obtain⟨x,S1,e1,h1,h0⟩:=cJ oa he;have hl:(pG xs).length=xs.length:=by simp[pG]
 refine jI (mi:=.its (pG xs)) (S1:=S1) (xs:=pG xs) I oe oc (by simp only[ll,dI,eQ,jC,Co,e1,h1]) (λ_ _ _ _ _=>rfl) rfl h0 (λi w ys ρ S hw hI=>?_) λys ρ S hI=>hend ys ρ S (hl ▸ hI)
 obtain⟨y,hy,rfl⟩:=rF hw;exact hstep i y ys ρ S hy hI
theorem st {s:Sm}{ss:Ss}(h:wS Φ fuel s ρ S (λρ' S'=>wZ Φ fuel ss ρ' S' Q) Q):wZ Φ fuel (.cons s ss) ρ S Q:=⟨by
 rw[AR];simp only[Hl];exact h⟩
theorem cq (h:Q (.nx ρ,S)):wZ Φ fuel .nil ρ S Q:=⟨by rw[AR]; exact h⟩
theorem aw {t:Kt}{a b:Ss}{Q Q0:QO}{K:Fm->aa->Prop}(ha:t=true->∀Q':QO,(∀ρ' S',K ρ' S'->Q' (.nx ρ',S'))->(∀w S',Q (.rt w,S')->Q' (.rt w,S'))->wZ Φ fuel a ρ S Q')(hb:t=false->∀Q':QO,(∀ρ' S',K ρ' S'->Q' (.nx ρ',S'))->(∀w S',Q (.rt w,S')->Q' (.rt w,S'))->wZ Φ fuel b ρ S Q') :
  ∀Q':QO,(∀ρ' S',K ρ' S'->Q' (.nx ρ',S'))->(∀o S',(∀ρ',o≠.nx ρ')->Q (o,S')->Q' (o,S'))->(t=true->AR Φ fuel a ρ S Q')/\(t=false->AR Φ fuel b ρ S Q'):=
 λQ' h1 h2=>⟨λe=>(ha e Q' h1 λw S'=>h2 (.rt w) S' (λ_ z=>nomatch z)).out,λe=>(hb e Q' h1 λw S'=>h2 (.rt w) S' (λ_ z=>nomatch z)).out⟩
end
noncomputable def eX:Ss:=
 (.cons (.ret (.lst (.cons (.bi .list (.cons (.v 0) .nil)) (.cons (.c (.int 0)) (.cons (.c (.int 0)) (.cons (.c (.int 1)) (.cons (.c (.int 0)) .nil)))))))
 .nil)
noncomputable def dh:Ss:=
 (.cons (.ite (.and (.cmp .eq (.ix (.v 0) (.c (.int 2))) (.c (.int 0))) (.cmp .lt (.ix (.v 0) (.c (.int 1))) (.bi .len (.cons (.ix (.v 0) (.c (.int 0))) .nil)))) (.cons (.set 2 (.ix (.ix (.v 0) (.c (.int 0))) (.ix (.v 0) (.c (.int 1)))))
 (.cons (.put (.v 0) (.c (.int 1)) (.op .add (.ix (.v 0) (.c (.int 1))) (.c (.int 1))))
 (.cons (.ite (.cmp .ge (.v 2) (.op .pow (.c (.int 10)) (.c (.int 18)))) (.cons (.put (.v 0) (.c (.int 2)) (.v 2))
 .nil) (.cons (.put (.v 0) (.c (.int 3)) (.op .mod (.op .add (.op .add (.op .mul (.ix (.v 0) (.c (.int 3))) (.c (.int 40013))) (.op .mod (.v 2) (.c (.int 1000003)))) (.c (.int 1))) (.c (.int 2147483647))))
 .nil))
 .nil))) .nil)
 (.cons (.ite (.cmp .gt (.ix (.v 0) (.c (.int 2))) (.c (.int 0))) (.cons (.set 3 (.op .mod (.ix (.v 0) (.c (.int 2))) (.v 1)))
 (.cons (.put (.v 0) (.c (.int 2)) (.op .fdiv (.ix (.v 0) (.c (.int 2))) (.v 1)))
 (.cons (.ret (.v 3))
 .nil))) .nil)
 (.cons (.put (.v 0) (.c (.int 4)) (.op .add (.ix (.v 0) (.c (.int 4))) (.c (.int 1))))
 (.cons (.put (.v 0) (.c (.int 3)) (.op .mod (.op .add (.op .add (.op .mul (.ix (.v 0) (.c (.int 3))) (.c (.int 48271))) (.c (.int 12820163))) (.ix (.v 0) (.c (.int 4)))) (.c (.int 2147483647))))
 (.cons (.ret (.op .mod (.op .fdiv (.op .mod (.op .mul (.op .add (.op .mod (.ix (.v 0) (.c (.int 3))) (.c (.int 65521))) (.c (.int 1))) (.op .add (.op .fdiv (.ix (.v 0) (.c (.int 3))) (.c (.int 65521))) (.c (.int 7919)))) (.c (.int 1000003))) (.c (.int 7))) (.v 1)))
 .nil)))))
noncomputable def dN:Ss:=
 (.cons (.ret (.me .join (.c (.str "")) (.cons (.comp (.ix (.c (.str "abcdefghijklmnopqrstuvwxyz")) (.own "_law_pick" 2 (.cons (.v 2) (.cons (.c (.int 26)) .nil)))) (.nm 1) (.rng (.cons (.v 1) .nil)) .nil [gV,gV,ba 0]) .nil)))
 .nil)
noncomputable def fZ:Ss:=
 (.cons (.ite (.cmp .ne (.v 1) (.c (.str ""))) (.cons (.ret (.op .add (.v 1) (.own "_law_letters" 2 (.cons (.v 0) (.cons (.op .add (.c (.int 1)) (.own "_law_pick" 2 (.cons (.v 0) (.cons (.c (.int 2)) .nil)))) .nil)))))
 .nil) .nil)
 (.cons (.ite (.cmp .eq (.own "_law_pick" 2 (.cons (.v 0) (.cons (.c (.int 6)) .nil))) (.c (.int 0))) (.cons (.set 2 (.lst (.cons (.c (.str "markss")) (.cons (.c (.str "mark")) (.cons (.c (.str "way")) (.cons (.c (.str "wayss")) (.cons (.c (.str "bars")) (.cons (.c (.str "ba")) (.cons (.c (.str "somex")) .nil)))))))))
 (.cons (.set 2 (.op .add (.v 2) (.lst (.cons (.c (.str "eachx")) (.cons (.c (.str "note")) (.cons (.c (.str "no")) (.cons (.c (.str "ands")) (.cons (.c (.str "ors")) (.cons (.c (.str "o")) (.cons (.c (.str "iss")) .nil))))))))))
 (.cons (.ret (.ix (.v 2) (.own "_law_pick" 2 (.cons (.v 0) (.cons (.c (.int 14)) .nil)))))
 .nil))) .nil)
 (.cons (.ret (.own "_law_letters" 2 (.cons (.v 0) (.cons (.op .add (.c (.int 1)) (.own "_law_pick" 2 (.cons (.v 0) (.cons (.c (.int 8)) .nil)))) .nil))))
 .nil)))
noncomputable def dq:Ss:=
 (.cons (.set 2 (.c (.str "")))
 (.cons (.ite (.cmp .eq (.own "_law_pick" 2 (.cons (.v 0) (.cons (.c (.int 3)) .nil))) (.c (.int 0))) (.cons (.set 2 (.own "_law_letters" 2 (.cons (.v 0) (.cons (.op .add (.c (.int 1)) (.own "_law_pick" 2 (.cons (.v 0) (.cons (.c (.int 6)) .nil)))) .nil))))
 .nil) .nil)
 (.cons (.set 3 (.lst (.cons (.c (.str "marks")) (.cons (.c (.str "ways")) (.cons (.c (.str "bar")) (.cons (.c (.str "some")) (.cons (.c (.str "each")) (.cons (.c (.str "not")) (.cons (.c (.str "and")) (.cons (.c (.str "or")) (.cons (.c (.str "is")) .nil)))))))))))
 (.cons (.loop (.nm 4) (.rng (.cons (.v 1) .nil)) (.cons (.set 5 (.own "_law_name" 2 (.cons (.v 0) (.cons (.v 2) .nil))))
 (.cons (.set 6 (.c (.int 0)))
 (.cons (.whl (.cmp .isin (.v 5) (.v 3)) (.cons (.set 5 (.op .mul (.ix (.c (.str "abcdefghijklmnopqrstuvwxyz")) (.op .mod (.v 6) (.c (.int 26)))) (.op .add (.c (.int 1)) (.op .fdiv (.v 6) (.c (.int 26))))))
 (.cons (.set 6 (.op .add (.v 6) (.c (.int 1))))
 .nil)))
 (.cons (.ex (.me .append (.v 3) (.cons (.v 5) .nil)))
 .nil)))))
 (.cons (.ret (.bi .tuple (.cons (.sl (.v 3) (.yes (.c (.int 9))) .no) .nil)))
 .nil)))))
noncomputable def dO:Ss:=
 (.cons (.ite (.cmp .lt (.v 3) (.v 2)) (.cons (.ret (.ix (.ix (.ix (.v 1) (.v 2)) (.c (.int 1))) (.v 3)))
 .nil) .nil)
 (.cons (.ret (.ix (.ix (.ix (.v 0) (.c (.int 1))) (.ix (.ix (.ix (.v 1) (.v 3)) (.c (.int 1))) (.v 2))) (.c (.int 1))))
 .nil))
noncomputable def ga:Ss:=
 (.cons (.set 3 (.lst .nil))
 (.cons (.loop (.nm 4) (.rng (.cons (.bi .len (.cons (.v 2) .nil)) .nil)) (.cons (.set 5 (.ix (.v 2) (.v 4)))
 (.cons (.ex (.me .append (.v 3) (.cons (.tup (.cons (.ix (.ix (.v 1) (.v 5)) (.c (.int 0))) (.cons (.bi .tuple (.cons (.comp (.own "_law_between" 4 (.cons (.v 3) (.cons (.v 4) (.cons (.v 2) (.cons (.v 1) .nil))))) (.nm 1) (.seq (.sl (.v 2) .no (.yes (.v 4)))) .nil [gV,gV,ba 5,ba 0,ba 1]) .nil)) .nil))) .nil)))
 .nil)))
 (.cons (.ret (.bi .tuple (.cons (.v 3) .nil)))
 .nil)))
noncomputable def gB:Ss:=
 (.cons (.ret (.lst (.cons (.tup (.cons (.c (.int 0)) (.cons (.c (.int 1)) (.cons (.c (.int 2)) .nil)))) (.cons (.tup (.cons (.c (.int 0)) (.cons (.c (.int 2)) (.cons (.c (.int 1)) .nil)))) (.cons (.tup (.cons (.c (.int 1)) (.cons (.c (.int 0)) (.cons (.c (.int 2)) .nil)))) (.cons (.tup (.cons (.c (.int 1)) (.cons (.c (.int 2)) (.cons (.c (.int 0)) .nil)))) (.cons (.tup (.cons (.c (.int 2)) (.cons (.c (.int 0)) (.cons (.c (.int 1)) .nil)))) (.cons (.tup (.cons (.c (.int 2)) (.cons (.c (.int 1)) (.cons (.c (.int 0)) .nil)))) .nil))))))))
 .nil)
noncomputable def ey:Ss:=
 (.cons (.ret (.bi .min (.cons (.comp (.own "_law_part" 3 (.cons (.v 2) (.cons (.v 3) (.cons (.v 1) .nil)))) (.nm 1) (.seq (.own "_law_turns" 0 .nil)) .nil [gV,gV,ba 0,ba 1]) .nil)))
 .nil)
noncomputable def fA:Ss:=
 (.cons (.set 2 (.ix (.lst (.cons (.lst (.cons (.tup (.cons (.c (.int 0)) .nil)) .nil)) (.cons (.lst (.cons (.tup (.cons (.c (.int 0)) (.cons (.c (.int 1)) .nil))) (.cons (.tup (.cons (.c (.int 1)) (.cons (.c (.int 0)) .nil))) .nil))) (.cons (.lst (.cons (.tup (.cons (.c (.int 0)) (.cons (.c (.int 1)) (.cons (.c (.int 2)) .nil)))) (.cons (.tup (.cons (.c (.int 1)) (.cons (.c (.int 0)) (.cons (.c (.int 2)) .nil)))) (.cons (.tup (.cons (.c (.int 0)) (.cons (.c (.int 2)) (.cons (.c (.int 1)) .nil)))) .nil)))) .nil)))) (.op .sub (.v 1) (.c (.int 1)))))
 (.cons (.ret (.ix (.v 2) (.own "_law_pick" 2 (.cons (.v 0) (.cons (.bi .len (.cons (.v 2) .nil)) .nil)))))
 .nil))
noncomputable def dP:Ss:=
 (.cons (.set 4 (.own "_law_names" 2 (.cons (.v 0) (.cons (.op .add (.v 1) (.bi .len (.cons (.v 2) .nil))) .nil))))
 (.cons (.set 5 (.bi .tuple (.cons (.comp (.tup (.cons (.ix (.v 4) (.op .add (.v 3) (.v 1))) (.cons (.ix (.v 2) (.v 1)) .nil))) (.nm 1) (.rng (.cons (.bi .len (.cons (.v 2) .nil)) .nil)) .nil [gV,gV,ba 2,ba 1,ba 4]) .nil)))
 (.cons (.ret (.tup (.cons (.sl (.v 4) .no (.yes (.v 1))) (.cons (.v 5) (.cons (.bi .tuple (.cons (.bi .sorted (.cons (.v 3) .nil)) .nil)) .nil)))))
 .nil)))
noncomputable def cQ:Ss:=
 (.cons (.set 3 (.lst .nil))
 (.cons (.loop (.nm 4) (.rng (.cons (.c (.int 3)) .nil)) (.cons (.ex (.me .append (.v 3) (.cons (.tup (.cons (.own "_law_pick" 2 (.cons (.v 0) (.cons (.v 1) .nil))) (.cons (.bi .tuple (.cons (.comp (.own "_law_pick" 2 (.cons (.v 2) (.cons (.v 3) .nil))) (.nm 1) (.rng (.cons (.v 4) .nil)) .nil [gV,gV,ba 0,ba 2]) .nil)) .nil))) .nil)))
 .nil))
 (.cons (.ret (.bi .tuple (.cons (.v 3) .nil)))
 .nil)))
noncomputable def fB:Ss:=
 (.cons (.set 1 (.lst (.cons (.tup (.cons (.c (.int 1)) (.cons (.c (.int 1)) .nil))) (.cons (.tup (.cons (.c (.int 2)) (.cons (.c (.int 1)) .nil))) (.cons (.tup (.cons (.c (.int 3)) (.cons (.c (.int 1)) .nil))) (.cons (.tup (.cons (.c (.int 1)) (.cons (.c (.int 2)) .nil))) (.cons (.tup (.cons (.c (.int 1)) (.cons (.c (.int 2)) .nil))) (.cons (.tup (.cons (.c (.int 2)) (.cons (.c (.int 2)) .nil))) (.cons (.tup (.cons (.c (.int 2)) (.cons (.c (.int 2)) .nil))) (.cons (.tup (.cons (.c (.int 3)) (.cons (.c (.int 2)) .nil))) (.cons (.tup (.cons (.c (.int 1)) (.cons (.c (.int 3)) .nil))) (.cons (.tup (.cons (.c (.int 1)) (.cons (.c (.int 3)) .nil))) (.cons (.tup (.cons (.c (.int 2)) (.cons (.c (.int 3)) .nil))) .nil)))))))))))))
 (.cons (.ret (.ix (.v 1) (.own "_law_pick" 2 (.cons (.v 0) (.cons (.c (.int 11)) .nil)))))
 .nil))
noncomputable def dz:Ss:=
 (.cons (.asg [1,2] (.own "_law_sizes" 1 (.cons (.v 0) .nil)))
 (.cons (.set 3 (.own "_law_rule_of" 4 (.cons (.v 0) (.cons (.v 1) (.cons (.own "_law_backs" 2 (.cons (.v 0) (.cons (.v 2) .nil))) (.cons (.tup .nil) .nil))))))
 (.cons (.set 4 .dnew)
 (.cons (.loop (.nm 5) (.rng (.cons (.own "_law_pick" 2 (.cons (.v 0) (.cons (.c (.int 9)) .nil))) .nil)) (.cons (.put (.v 4) (.own "_law_figure" 2 (.cons (.v 3) (.cons (.own "_law_free_three" 3 (.cons (.v 0) (.cons (.v 1) (.cons (.v 2) .nil)))) .nil))) (.c (.bl true)))
 .nil))
 (.cons (.ret (.tup (.cons (.ix (.v 3) (.c (.int 0))) (.cons (.ix (.v 3) (.c (.int 1))) (.cons (.bi .tuple (.cons (.bi .sorted (.cons (.v 4) .nil)) .nil)) .nil)))))
 .nil)))))
noncomputable def cD:Ss:=
 (.cons (.set 1 (.lst (.cons (.tup (.cons (.tup (.cons (.c (.int 1)) (.cons (.c (.int 0)) .nil))) (.cons (.disp (.cons (.tup (.cons (.c (.int 0)) (.cons (.c (.int 0)) .nil))) (.cons (.lst (.cons (.c (.int 0)) .nil)) .nil))) (.cons (.c (.int 3)) .nil)))) (.cons (.tup (.cons (.tup (.cons (.c (.int 0)) (.cons (.c (.int 2)) (.cons (.c (.int 1)) .nil)))) (.cons (.disp (.cons (.tup (.cons (.c (.int 1)) (.cons (.c (.int 1)) .nil))) (.cons (.lst (.cons (.c (.int 1)) .nil)) .nil))) (.cons (.c (.int 2)) .nil)))) (.cons (.tup (.cons (.tup (.cons (.c (.int 0)) (.cons (.c (.int 1)) .nil))) (.cons (.disp (.cons (.tup (.cons (.c (.int 1)) (.cons (.c (.int 1)) .nil))) (.cons (.lst (.cons (.c (.int 1)) .nil)) .nil))) (.cons (.c (.int 3)) .nil)))) .nil)))))
 (.cons (.ex (.me .append (.v 1) (.cons (.tup (.cons (.tup (.cons (.c (.int 0)) (.cons (.c (.int 1)) .nil))) (.cons (.disp (.cons (.tup (.cons (.c (.int 1)) (.cons (.c (.int 1)) .nil))) (.cons (.lst (.cons (.c (.int 1)) .nil)) (.cons (.tup (.cons (.c (.int 0)) (.cons (.c (.int 0)) .nil))) (.cons (.lst (.cons (.c (.int 1)) .nil)) .nil))))) (.cons (.c (.int 3)) .nil)))) .nil)))
 (.cons (.ex (.me .append (.v 1) (.cons (.tup (.cons (.tup (.cons (.c (.int 0)) (.cons (.c (.int 1)) .nil))) (.cons (.disp (.cons (.tup (.cons (.c (.int 1)) (.cons (.c (.int 1)) .nil))) (.cons (.lst .nil) .nil))) (.cons (.c (.int 1)) .nil)))) .nil)))
 (.cons (.ex (.me .append (.v 1) (.cons (.tup (.cons (.tup (.cons (.c (.int 0)) (.cons (.c (.int 2)) (.cons (.c (.int 1)) .nil)))) (.cons (.disp (.cons (.tup (.cons (.c (.int 0)) (.cons (.c (.int 0)) .nil))) (.cons (.lst (.cons (.c (.int 0)) .nil)) (.cons (.tup (.cons (.c (.int 0)) (.cons (.c (.int 1)) .nil))) (.cons (.lst (.cons (.c (.int 1)) .nil)) (.cons (.tup (.cons (.c (.int 1)) (.cons (.c (.int 0)) .nil))) (.cons (.lst (.cons (.c (.int 1)) .nil)) (.cons (.tup (.cons (.c (.int 1)) (.cons (.c (.int 1)) .nil))) (.cons (.lst (.cons (.c (.int 1)) .nil)) .nil))))))))) (.cons (.c (.int 2)) .nil)))) .nil)))
 (.cons (.ex (.me .append (.v 1) (.cons (.tup (.cons (.tup (.cons (.c (.int 1)) (.cons (.c (.int 0)) .nil))) (.cons .dnew (.cons (.c (.int 3)) .nil)))) .nil)))
 (.cons (.ex (.me .append (.v 1) (.cons (.tup (.cons (.tup (.cons (.c (.int 0)) (.cons (.c (.int 1)) (.cons (.c (.int 2)) .nil)))) (.cons (.disp (.cons (.tup (.cons (.c (.int 2)) (.cons (.c (.int 2)) .nil))) (.cons (.lst (.cons (.c (.int 2)) .nil)) (.cons (.tup (.cons (.c (.int 1)) (.cons (.c (.int 2)) .nil))) (.cons (.lst (.cons (.c (.int 1)) .nil)) (.cons (.tup (.cons (.c (.int 2)) (.cons (.c (.int 1)) .nil))) (.cons (.lst (.cons (.c (.int 1)) .nil)) (.cons (.tup (.cons (.c (.int 1)) (.cons (.c (.int 1)) .nil))) (.cons (.lst (.cons (.c (.int 1)) (.cons (.c (.int 2)) .nil))) .nil))))))))) (.cons (.c (.int 2)) .nil)))) .nil)))
 (.cons (.ex (.me .append (.v 1) (.cons (.tup (.cons (.tup (.cons (.c (.int 0)) (.cons (.c (.int 1)) (.cons (.c (.int 2)) .nil)))) (.cons (.disp (.cons (.tup (.cons (.c (.int 0)) (.cons (.c (.int 0)) .nil))) (.cons (.lst (.cons (.c (.int 0)) (.cons (.c (.int 1)) .nil))) .nil))) (.cons (.c (.int 2)) .nil)))) .nil)))
 (.cons (.ret (.ix (.v 1) (.own "_law_pick" 2 (.cons (.v 0) (.cons (.c (.int 9)) .nil)))))
 .nil))))))))
noncomputable def eA:Ss:=
 (.cons (.set 5 (.disp (.cons (.tup (.cons (.c (.int 1)) (.cons (.c (.int 0)) .nil))) (.cons (.v 2) (.cons (.tup (.cons (.c (.int 2)) (.cons (.c (.int 0)) .nil))) (.cons (.v 3) (.cons (.tup (.cons (.c (.int 2)) (.cons (.c (.int 1)) .nil))) (.cons (.v 4) .nil))))))))
 (.cons (.loop (.nm 6) (.seq (.bi .list (.cons (.v 5) .nil))) (.cons (.put (.v 5) (.tup (.cons (.ix (.v 6) (.c (.int 1))) (.cons (.ix (.v 6) (.c (.int 0))) .nil))) (.ix (.v 0) (.ix (.v 5) (.v 6))))
 .nil))
 (.cons (.loop (.tp [7,8,9]) (.seq (.own "_law_turns" 0 .nil)) (.cons (.ite (.cmp .notin (.ix (.v 5) (.tup (.cons (.v 7) (.cons (.v 9) .nil)))) (.me .get (.v 1) (.cons (.tup (.cons (.ix (.v 5) (.tup (.cons (.v 7) (.cons (.v 8) .nil)))) (.cons (.ix (.v 5) (.tup (.cons (.v 8) (.cons (.v 9) .nil)))) .nil))) (.cons (.lst (.cons (.ix (.v 5) (.tup (.cons (.v 7) (.cons (.v 9) .nil)))) .nil)) .nil)))) (.cons (.ret (.c (.bl true)))
 .nil) .nil)
 .nil))
 (.cons (.ret (.c (.bl false)))
 .nil))))
noncomputable def bR:Ss:=
 (.cons (.set 3 (.bi .len (.cons (.v 1) .nil)))
 (.cons (.set 4 (.lst (.cons (.lst (.cons (.tup (.cons (.c (.int 0)) .nil)) .nil)) (.cons (.lst (.cons (.tup (.cons (.c (.int 0)) (.cons (.c (.int 1)) .nil))) (.cons (.tup (.cons (.c (.int 1)) (.cons (.c (.int 0)) .nil))) .nil))) .nil))))
 (.cons (.ex (.me .append (.v 4) (.cons (.lst (.cons (.tup (.cons (.c (.int 0)) (.cons (.c (.int 1)) (.cons (.c (.int 2)) .nil)))) (.cons (.tup (.cons (.c (.int 0)) (.cons (.c (.int 2)) (.cons (.c (.int 1)) .nil)))) (.cons (.tup (.cons (.c (.int 2)) (.cons (.c (.int 0)) (.cons (.c (.int 1)) .nil)))) (.cons (.tup (.cons (.c (.int 2)) (.cons (.c (.int 1)) (.cons (.c (.int 0)) .nil)))) .nil))))) .nil)))
 (.cons (.set 5 (.ix (.v 4) (.op .sub (.v 3) (.c (.int 1)))))
 (.cons (.ite (.cmp .eq (.v 1) (.tup (.cons (.c (.int 0)) (.cons (.c (.int 1)) (.cons (.c (.int 2)) .nil))))) (.cons (.set 5 (.own "_law_turns" 0 .nil))
 .nil) .nil)
 (.cons (.set 6 (.ix (.v 5) (.own "_law_pick" 2 (.cons (.v 0) (.cons (.bi .len (.cons (.v 5) .nil)) .nil)))))
 (.cons (.set 7 (.op .mul (.lst (.cons (.c (.int 0)) .nil)) (.v 3)))
 (.cons (.loop (.nm 8) (.rng (.cons (.v 3) .nil)) (.cons (.put (.v 7) (.ix (.v 6) (.v 8)) (.ix (.v 6) (.ix (.v 1) (.v 8))))
 .nil))
 (.cons (.set 9 .dnew)
 (.cons (.loop (.tp [10,11]) (.seq (.v 2)) (.cons (.put (.v 9) (.tup (.cons (.ix (.v 6) (.v 10)) (.cons (.ix (.v 6) (.v 11)) .nil))) (.comp (.ix (.v 2) (.v 1)) (.nm 1) (.seq (.ix (.v 2) (.tup (.cons (.v 10) (.cons (.v 11) .nil))))) .nil [gV,gV,ba 6]))
 .nil))
 (.cons (.ret (.tup (.cons (.bi .tuple (.cons (.v 7) .nil)) (.cons (.v 9) .nil))))
 .nil)))))))))))
noncomputable def cF:Ss:=
 (.cons (.set 1 (.own "_law_pick" 2 (.cons (.v 0) (.cons (.c (.int 7)) .nil))))
 (.cons (.ite (.cmp .eq (.v 1) (.c (.int 0))) (.cons (.ret (.own "_law_free_rule" 1 (.cons (.v 0) .nil)))
 .nil) .nil)
 (.cons (.ite (.cmp .eq (.v 1) (.c (.int 1))) (.cons (.ret (.own "_law_one_way_rule" 1 (.cons (.v 0) .nil)))
 .nil) .nil)
 (.cons (.asg [2,3,4] (.own "_law_laying_kind" 1 (.cons (.v 0) .nil)))
 (.cons (.set 5 (.op .add (.c (.int 1)) (.own "_law_pick" 2 (.cons (.v 0) (.cons (.v 4) .nil)))))
 (.cons (.asg [2,3] (.own "_law_numbered" 3 (.cons (.v 0) (.cons (.v 2) (.cons (.v 3) .nil)))))
 (.cons (.set 6 (.own "_law_rule_of" 4 (.cons (.v 0) (.cons (.v 5) (.cons (.v 2) (.cons (.tup .nil) .nil))))))
 (.cons (.set 7 .dnew)
 (.cons (.set 8 (.bi .len (.cons (.v 2) .nil)))
 (.cons (.loop (.nm 9) (.rng (.cons (.op .mul (.op .mul (.v 8) (.v 8)) (.v 8)) .nil)) (.cons (.par 10 11 (.cons (.op .mod (.v 9) (.v 8)) (.cons (.op .mod (.op .fdiv (.v 9) (.v 8)) (.v 8)) .nil)))
 (.cons (.set 12 (.op .fdiv (.op .fdiv (.v 9) (.v 8)) (.v 8)))
 (.cons (.ite (.own "_law_breaks" 5 (.cons (.v 2) (.cons (.v 3) (.cons (.v 10) (.cons (.v 11) (.cons (.v 12) .nil)))))) (.cons (.loop (.nm 13) (.seq (.own "_law_rising" 1 (.cons (.v 5) .nil))) (.cons (.set 14 (.tup (.cons (.tup (.cons (.ix (.v 13) (.c (.int 0))) (.cons (.tup .nil) .nil))) (.cons (.tup (.cons (.ix (.v 13) (.c (.int 1))) (.cons (.tup (.cons (.v 10) .nil)) .nil))) .nil))))
 (.cons (.put (.v 7) (.own "_law_figure" 2 (.cons (.v 6) (.cons (.op .add (.v 14) (.tup (.cons (.tup (.cons (.ix (.v 13) (.c (.int 2))) (.cons (.tup (.cons (.v 11) (.cons (.v 12) .nil))) .nil))) .nil))) .nil))) (.c (.bl true)))
 .nil)))
 .nil) .nil)
 .nil))))
 (.cons (.ret (.tup (.cons (.ix (.v 6) (.c (.int 0))) (.cons (.ix (.v 6) (.c (.int 1))) (.cons (.bi .tuple (.cons (.bi .sorted (.cons (.v 7) .nil)) .nil)) .nil)))))
 .nil)))))))))))
noncomputable def eB:Ss:=
 (.cons (.set 1 (.lst .nil))
 (.cons (.loop (.nm 2) (.rng (.cons (.v 0) .nil)) (.cons (.loop (.nm 3) (.rng2 (.cons (.v 2) (.cons (.v 0) .nil))) (.cons (.set 1 (.op .add (.v 1) (.comp (.tup (.cons (.v 2) (.cons (.v 3) (.cons (.v 1) .nil)))) (.nm 1) (.rng2 (.cons (.v 3) (.cons (.v 0) .nil))) .nil [gV,gV,ba 2,ba 3])))
 .nil))
 .nil))
 (.cons (.ret (.v 1))
 .nil)))
noncomputable def dc:Ss:=
 (.cons (.asg [1,2] (.own "_law_sizes" 1 (.cons (.v 0) .nil)))
 (.cons (.set 3 (.own "_law_rule_of" 4 (.cons (.v 0) (.cons (.v 1) (.cons (.own "_law_backs" 2 (.cons (.v 0) (.cons (.v 2) .nil))) (.cons (.tup .nil) .nil))))))
 (.cons (.set 5 (.comp (.v 1) (.nm 1) (.rng (.cons (.v 2) .nil)) (.cons (.cmp .eq (.ix (.ix (.ix (.v 2) (.c (.int 1))) (.v 1)) (.c (.int 1))) (.v 1)) .nil) [gV,gV,ba 3]))
 (.cons (.ite (.or (.cmp .eq (.v 5) (.lst .nil)) (.cmp .eq (.v 2) (.c (.int 1)))) (.cons (.ret (.v 3))
 .nil) .nil)
 (.cons (.set 6 (.ix (.v 5) (.own "_law_pick" 2 (.cons (.v 0) (.cons (.bi .len (.cons (.v 5) .nil)) .nil)))))
 (.cons (.set 7 .dnew)
 (.cons (.loop (.nm 4) (.rng (.cons (.own "_law_pick" 2 (.cons (.v 0) (.cons (.c (.int 9)) .nil))) .nil)) (.cons (.set 8 (.own "_law_free_three" 3 (.cons (.v 0) (.cons (.v 1) (.cons (.v 2) .nil)))))
 (.cons (.ite (.and (.cmp .ne (.ix (.ix (.ix (.v 8) (.c (.int 1))) (.c (.int 1))) (.c (.int 0))) (.v 6)) (.cmp .notin (.v 6) (.ix (.ix (.v 8) (.c (.int 2))) (.c (.int 1))))) (.cons (.put (.v 7) (.own "_law_figure" 2 (.cons (.v 3) (.cons (.v 8) .nil))) (.c (.bl true)))
 .nil) .nil)
 .nil)))
 (.cons (.ret (.tup (.cons (.ix (.v 3) (.c (.int 0))) (.cons (.ix (.v 3) (.c (.int 1))) (.cons (.bi .tuple (.cons (.bi .sorted (.cons (.v 7) .nil)) .nil)) .nil)))))
 .nil))))))))
noncomputable def cp:Ss:=
 (.cons (.set 1 (.op .add (.c (.int 1)) (.own "_law_pick" 2 (.cons (.v 0) (.cons (.c (.int 3)) .nil)))))
 (.cons (.set 2 (.comp (.tup (.cons (.tup (.cons (.v 1) (.cons (.tup .nil) .nil))) (.cons (.tup (.cons (.v 1) (.cons (.tup (.cons (.c (.int 0)) .nil)) .nil))) (.cons (.tup (.cons (.v 1) (.cons (.tup (.cons (.c (.int 0)) (.cons (.c (.int 0)) .nil))) .nil))) .nil)))) (.nm 1) (.rng (.cons (.v 1) .nil)) (.cons (.cmp .eq (.own "_law_pick" 2 (.cons (.v 2) (.cons (.c (.int 2)) .nil))) (.c (.int 0))) .nil) [gV,gV,ba 0]))
 (.cons (.ret (.own "_law_rule_of" 4 (.cons (.v 0) (.cons (.v 1) (.cons (.tup (.cons (.c (.int 0)) .nil)) (.cons (.v 2) .nil))))))
 .nil)))
noncomputable def cv:Ss:=
 (.cons (.set 3 (.lst .nil))
 (.cons (.loop (.nm 4) (.rng (.cons (.v 2) .nil)) (.cons (.set 5 (.own "_law_pick" 2 (.cons (.v 0) (.cons (.bi .len (.cons (.ix (.v 1) (.c (.int 0))) .nil)) .nil))))
 (.cons (.ex (.me .append (.v 3) (.cons (.tup (.cons (.v 5) (.cons (.bi .tuple (.cons (.comp (.own "_law_pick" 2 (.cons (.v 2) (.cons (.bi .len (.cons (.ix (.v 3) (.c (.int 1))) .nil)) .nil))) (.nm 1) (.rng (.cons (.v 4) .nil)) .nil [gV,gV,ba 0,ba 1]) .nil)) .nil))) .nil)))
 .nil)))
 (.cons (.ret (.bi .tuple (.cons (.v 3) .nil)))
 .nil)))
noncomputable def Is (defs:JM (Kd×Df))(f:Kd)(np nn:JW)(b:Ss):Prop:=∃df:Df,defs.lookup f=ba df/\df.ps.length=np/\df.N.length=nn/\df.body=b
theorem aC {defs:JM (Kd×Df)}{fuel d:JW}{f:Kd}{np nn:JW}{b:Ss}{ws:JM W}{S:aa}{Q:QW}(h:Is defs f np nn b)(hl:ws.length=np)(ok:g9 b=true)
  (hb:∀Q':QO,(∀w S',Q (w,S')->Q' (.rt w,S'))->wZ (aq defs fuel d) fuel b (ws.map ba++K2 (nn - np) gV) S Q'):wO (bF (aq defs fuel (d+1)) f np ws S) Q:=by
 obtain⟨df,h1,h2,h3,h4⟩:=h;subst h4;refine E7 h1 hl (hl.trans h2.symm) ok λQ' hR=>?_
 have:=hb Q' hR;unfold fY;rw[h3,hl];exact this
structure Gen (defs:JM (Kd×Df)):Prop where
 pick:Is defs ("_law_pick" : Kd) 2 4 dh
 letters:Is defs ("_law_letters" : Kd) 2 2 dN
 name:Is defs ("_law_name" : Kd) 2 3 fZ
 names:Is defs ("_law_names" : Kd) 2 7 dq
 between:Is defs ("_law_between" : Kd) 4 4 dO
 part:Is defs ("_law_part" : Kd) 3 6 ga
 turns:Is defs ("_law_turns" : Kd) 0 0 gB
 figure:Is defs ("_law_figure" : Kd) 2 2 ey
 backs:Is defs ("_law_backs" : Kd) 2 3 fA
 rule_of:Is defs ("_law_rule_of" : Kd) 4 6 dP
 free_three:Is defs ("_law_free_three" : Kd) 3 5 cQ
 sizes:Is defs ("_law_sizes" : Kd) 1 2 fB
 any_rule:Is defs ("_law_any_rule" : Kd) 1 6 dz
 laying_kind:Is defs ("_law_laying_kind" : Kd) 1 2 cD
 breaks:Is defs ("_law_breaks" : Kd) 5 10 eA
 numbered:Is defs ("_law_numbered" : Kd) 3 12 bR
 laying_rule:Is defs ("_law_laying_rule" : Kd) 1 15 cF
 rising:Is defs ("_law_rising" : Kd) 1 4 eB
 free_rule:Is defs ("_law_free_rule" : Kd) 1 9 dc
 one_way_rule:Is defs ("_law_one_way_rule" : Kd) 1 3 cp
structure FlA (S:aa)(r q:JW)(ns:JM J5)(i c x n:J5):Prop where
 at_r:S[r]?=ba (.lst [.ref q,.int i,.int c,.int x,.int n])
 at_q:S[q]?=ba (.lst (ns.map W.int))
 lt:q < r
 i0:0<=i
 c0:0<=c
 x0:0<=x
 x1:x < 2147483647
theorem FlA.ne {S:aa}{r q:JW}{ns:JM J5}{i c x n:J5}(h:FlA S r q ns i c x n):q≠r:=Kk h.lt
noncomputable def Fl (S:aa)(r:JW):Prop:=∃(q:JW) (ns:JM J5) (i c x n:J5),FlA S r q ns i c x n
theorem FlA.put {S:aa}{r q:JW}{ns:JM J5}{i c x n i' c' x' n':J5}(h:FlA S r q ns i c x n)(h1:0<=i')(h2:0<=c')(h3:0<=x')(h4:x' < 2147483647):FlA (S.set r (.lst [.ref q,.int i',.int c',.int x',.int n'])) r q ns i' c' x' n':=
 ⟨bW h.at_r,by rw[ce (Ne.symm h.ne)]; exact h.at_q,h.lt,h1,h2,h3,h4⟩
theorem Fl.keep {S S':aa}{r:JW}(h:Fl S r)(h1:S'[r]?=S[r]?)(k:Kp r S S'):Fl S' r:=
 let ⟨q,ns,i,c,x,n,f⟩:=h; ⟨q,ns,i,c,x,n,by rw[h1]; exact f.at_r,k.get _ _ f.ne f.at_q,f.lt,f.i0,f.c0,f.x0,f.x1⟩
theorem Fl.lt {S:aa}{r:JW}(h:Fl S r):r < S.length:=let ⟨_,_,_,_,_,_,f⟩:=h; cU f.at_r
structure Ka (S S':aa):Prop where
 get:∀(j:JW) (o:O),S[j]?=ba o->S'[j]?=ba o
 len:S.length<=S'.length
theorem Ka.refl {S:aa}:Ka S S:=⟨λ_ _ h=>h,JZ _⟩
theorem Ka.trans {S S' S'':aa}(a:Ka S S')(b:Ka S' S''):Ka S S'':=⟨λj o h=>b.get j o (a.get j o h),J3 a.len b.len⟩
theorem Ka.push {S:aa}{o:O}:Ka S (S++[o]):=⟨λj u h=>ap h,by simp⟩
theorem Ka.late {t:JW}{S0 S:aa}{o:O}(a:Ka S0 S)(h:S0.length<=t):Ka S0 (S.set t o):=
 ⟨λj u e=>by have:=cU e; rw[ce (by omega)]; exact a.get j u e,by simpa using a.len⟩
theorem Ka.kp {S S':aa}(a:Ka S S')(r:JW):Kp r S S':=⟨λj o _ h=>a.get j o h,a.len⟩
theorem Fl.ka {S S':aa}{r:JW}(h:Fl S r)(k:Ka S S'):Fl S' r:=h.keep (by obtain⟨q,ns,i,c,x,n,f⟩:=h; rw[k.get _ _ f.at_r,f.at_r]) (k.kp r)
theorem Fl.own {S:aa}{r t:JW}{o:O}(h:Fl S r)(ht:r < t):Fl (S.set t o) r:=by
 obtain⟨q,ns,i,c,x,n,f⟩:=h;have:=f.lt;exact⟨q,ns,i,c,x,n,by rw[ce (KC ‹_›)]; exact f.at_r,by rw[ce (by omega)]; exact f.at_q,f.lt,f.i0,f.c0,f.x0,f.x1⟩
theorem eY {S:aa}{r:JW}{xs:JM W}{i:JW}{w:W}{Q:QW}(h:S[r]?=ba (.lst xs))(hw:xs[i]?=ba w)(q:Q (w,S)):wO (sG (.ref r) (.int (i:J5)) S) Q:=ae (zH h (Kg i) (by rw[Kh]; exact hw)) q
theorem oH {S:aa}{r:JW}{xs:JM W}{i:JW}{w:W}{Q:aa->Prop}(h:S[r]?=ba (.lst xs))(hi:Tx (i+1) xs.length=true)(q:Q (S.set r (.lst (xs.set i w)))):wO (iZ (.ref r) (.int (i:J5)) w S) Q:=ae (Do h (Kg i) (by rw[Kh]; exact Kc hi)) (by rw[Kh]; exact q)
section
variable{defs:JM (Kd×Df)}{fuel d:JW}{S:aa}{r:JW}{Q:QW}
theorem bu (hd:Is defs ("_law_pick" : Kd) 2 4 dh){m:J5}(hf:Fl S r)(h0:0 < m)(h1:m < 1073741824)(k:∀v S',0<=v->v < m->Fl S' r->Kp r S S'->Q (.int v,S')) :
  wO (bF (aq defs fuel (d+1)) "_law_pick" 2 [.ref r,.int m] S) Q:=by
 obtain⟨q,ns,i,c,x,n,f⟩:=hf;refine aC hd rfl rfl λQ' hR=>?_
 replace k:∀v S',0<=v->v < m->Fl S' r->Kp r S S'->Q' (.rt (.int v),S'):=λv S' a b c e=>hR _ _ (k v S' a b c e)
 clear hR;show wZ _ _ dh [ba (.ref r),ba (.int m),gV,gV] S Q';have b8:∀(S1:aa) (w2:JU W) (i1 c1 x1 n1:J5),FlA S1 r q ns i1 c1 x1 n1->Kp r S S1->wZ (aq defs fuel d) fuel (match dh with|.cons _ ss=>ss|.nil=>.nil) [ba (.ref r),ba (.int m),w2,gV] S1 Q':=by
  intro S1 w2 i1 c1 x1 n1 f1 k1;dsimp only[dh];refine st ?_;dsimp only[wS,wT,wE,wV,wG];refine eY (i:=2) f1.at_r rfl ?_;dsimp only[E6,wO,wB];refine aw (Q0:=Q') (λhg Q2 hn hr=>?_) (λhg Q2 hn hr=>?_)
  ·clear hn;refine st ?_;dsimp only[wS,wE,wV,wG];refine eY (i:=2) f1.at_r rfl (ae (i7 h0) ?_);refine st ?_;dsimp only[wS,wE,wV,wG,J4];refine eY (i:=2) f1.at_r rfl (ae (iE h0 h1) (oH (i:=2) f1.at_r rfl ?_));refine st ?_;dsimp only[wS,wE,wV,wG,J4];exact hr _ _ (k _ _ (Mw _ (by omega)) (Mq _ h0) ⟨q,ns,i1,c1 / m,x1,n1,f1.put f1.i0 (N4 f1.c0 (by omega)) f1.x0 f1.x1⟩ (k1.trans .set))
  ·refine cq (hn _ _ ?_);clear hn hr;have f2:FlA (S1.set r (.lst [.ref q,.int i1,.int c1,.int x1,.int (n1+1)])) r q ns i1 c1 x1 (n1+1):=f1.put f1.i0 f1.c0 f1.x0 f1.x1;refine st ?_;dsimp only[wS,wE,wV,wG];refine eY (i:=4) f1.at_r rfl ?_;dsimp only[dk,wO];refine oH (i:=4) f1.at_r rfl ?_;refine st ?_;dsimp only[wS,wE,wV,wG,J4];refine eY (i:=3) f2.at_r rfl (ae (rO (by decide) (by decide)) ?_)
   dsimp only[dk,wO];refine eY (i:=4) f2.at_r rfl ?_;dsimp only[dk,wO];refine(oH (i:=3) f2.at_r rfl ?_);have f3:FlA ((S1.set r (.lst [.ref q,.int i1,.int c1,.int x1,.int (n1+1)])).set r (.lst [.ref q,.int i1,.int c1,.int ((x1*48271+12820163+(n1+1)) % 2147483647),.int (n1+1)])) r q ns i1 c1 ((x1*48271+12820163+(n1+1)) % 2147483647) (n1+1):=f2.put f1.i0 f1.c0 (Mw _ (by decide)) (Mq _ (by decide))
   dsimp only[J4];generalize(x1*48271+12820163+(n1+1)) % 2147483647=y at f3 ⊢;have b1:y / 65521+7919 < 2 ^ 64:=by
    have:=f3.x1;have:=Int.ediv_le_self 65521 f3.x0;omega
   have b2 : -(2 ^ 64) < y / 65521+7919:=by
    have:=N4 f3.x0 (show(0:J5)<=65521 by decide)
    omega
   refine st ?_;dsimp only[wS,wE,wV,wG,J4];refine eY (i:=3) f3.at_r rfl (ae (i7 (by decide)) ?_)
   dsimp only[dk,wO];refine eY (i:=3) f3.at_r rfl ?_;dsimp only[dk,wO];refine ae (rO b2 b1) ?_;refine ae (i7 h0) ?_;exact k _ _ (Mw _ (by omega)) (Mq _ h0) ⟨q,ns,_,_,_,_,f3⟩ (k1.trans (Kp.set.trans .set))
 dsimp only[dh]at b8 ⊢;refine st ?_;dsimp only[wS,wT,wE,wV,wG,wA];refine eY (i:=2) f.at_r rfl ?_;dsimp only[kH,wO,wB];have skip:∀Q2:QO,(∀ρ' S',wZ (aq defs fuel d) fuel _ ρ' S' Q'->Q2 (.nx ρ',S'))->Q2 (.nx [ba (.ref r),ba (.int m),gV,gV],S):=λQ2 hn=>hn _ _ (b8 S gV i c x n f .refl)
 refine⟨λ_=>?_,λ_ Q2 hn hr=>⟨λz=>(by cases z),λ_=>(cq (skip Q2 hn)).out⟩⟩
 refine eY (i:=1) f.at_r rfl (eY (i:=0) f.at_r rfl (ae (Dp f.at_q) ?_));dsimp only[Cw,wO,wB];refine aw (Q0:=Q') (λhl Q2 hn _=>?_) (λhg Q2 hn hr=>cq (skip Q2 hn))
 clear skip;have hl':i.toNat < ns.length:=by
  have:=K4 hl;rw[JO]at this;have:=f.i0;omega
 have hcell:(ns.map W.int)[i.toNat]?=ba (.int ns[i.toNat]):=by simp[hl']
 generalize ns[i.toNat]=cell at hcell;have f1:FlA (S.set r (.lst [.ref q,.int (i+1),.int c,.int x,.int n])) r q ns (i+1) c x n:=f.put (by have:=f.i0; omega) f.c0 f.x0 f.x1
 refine st ?_;dsimp only[wS,wE,wV,wG];refine eY (i:=0) f.at_r rfl (eY (i:=1) f.at_r rfl (ae (zH f.at_q f.i0 hcell) ?_));refine st ?_;dsimp only[wS,wE,wV,wG,J4];refine eY (i:=1) f.at_r rfl ?_;dsimp only[dk,wO];refine oH (i:=1) f.at_r rfl ?_;refine st ?_;dsimp only[wS,wT,wE,wV,wG,E4,IV,wO,wB];refine aw (Q0:=Q') (λhg Q3 hn3 _=>?_) (λhg Q3 hn3 _=>?_)
 ·refine st ?_;dsimp only[wS,wE,wV,wG];refine oH (i:=2) f1.at_r rfl (cq (hn3 _ _ (cq (hn _ _ ?_))));exact b8 _ _ (i+1) cell x n (f1.put f1.i0 (by have:=K4 hg; omega) f.x0 f.x1) (Kp.set.trans .set)
 ·refine st ?_;dsimp only[wS,wE,wV,wG];refine eY (i:=3) f1.at_r rfl (ae (rO (by decide) (by decide)) (ae (i7 (by decide)) ?_))
  dsimp only[dk,wO];refine oH (i:=3) f1.at_r rfl (cq (hn3 _ _ (cq (hn _ _ ?_))));exact b8 _ _ (i+1) c _ n (f1.put f1.i0 f.c0 (Mw _ (by decide)) (Mq _ (by decide))) (Kp.set.trans .set)
end
noncomputable def dr:JW->Ss->Ss
 | 0,ss=>ss
 | n+1,.cons _ ss=>dr n ss
 | _,.nil=>.nil
theorem bE {α:Type}{a:α}{Q:α->Prop}:wO (ba a) Q=Q a:=rfl
theorem bw {Φ:Kd->FF}{fuel:JW}{ρ:Fm}{S:aa}{Q:QO}{s:Sm}{ss:Ss}(h:∀K:Fm->aa->Prop,(∀ρ' S',wZ Φ fuel ss ρ' S' Q->K ρ' S')->wS Φ fuel s ρ S K Q):wZ Φ fuel (.cons s ss) ρ S Q:=st (h _ λ_ _ h=>h)
theorem Hm {Φ:Kd->FF}{fuel:JW}{ρ:Fm}{S:aa}{i:JW}{e:E}{K:Fm->aa->Prop}{Q:QO}(h:wE Φ e ρ S λp=>K (ρ.set i (ba p.1)) p.2):wS Φ fuel (.set i e) ρ S K Q:=h
theorem jb {n:JW}(h:Tx n 1000=true):n<=sizeLine:=J3 (Kc h) (by rw[KZ]; decide)
theorem lp {n:JW}(h:n<=1000):n<=sizeLine:=J3 h (by rw[KZ]; decide)
theorem gC {S:aa}{r:JW}{xs:JM W}{i:J5}{w:W}{Q:QW}(h:S[r]?=ba (.lst xs))(h0:0<=i)(hw:xs[i.toNat]?=ba w)(q:Q (w,S)):wO (sG (.ref r) (.int i) S) Q:=ae (zH h h0 hw) q
theorem am {S:aa}{xs:JM W}{i:J5}{w:W}{Q:QW}(h0:0<=i)(hw:xs[i.toNat]?=ba w)(q:Q (w,S)):wO (sG (.tup xs) (.int i) S) Q:=ae (Hf h0 hw) q
theorem l4 {S:aa}{r:JW}{xs:JM W}{y:W}{Q:QW}(h:S[r]?=ba (.lst xs))(hl:xs.length < 1000)(q:Q (.non,S.set r (.lst (xs++[y])))):wO (Me.append.fn (.ref r) [y] S) Q:=ae (zI h (Kq hl (jb rfl))) q
theorem jc {S:aa}{r:JW}{xs:JM W}{Q:QW}(h:S[r]?=ba (.lst xs))(q:Q (.int xs.length,S)):wO (Bi.len.fn [.ref r] S) Q:=ae (Dp h) q
theorem bS {S:aa}{xs:JM W}{Q:QW}(q:Q (.int xs.length,S)):wO (Bi.len.fn [.tup xs] S) Q:=q
theorem fD {S:aa}{r:JW}{xs:JM W}{Q:QW}(h:S[r]?=ba (.lst xs))(q:Q (.tup xs,S)):wO (Bi.tuple.fn [.ref r] S) Q:=ae (Hg h) q
section
variable{Φ:Kd->FF}{fuel:JW}{ρ:Fm}{S S1:aa}{K:Fm->aa->Prop}
theorem zL {t:E}{a:Ss}{Q:QO}(ht:∀Q:QB,Q (false,S1)->wT Φ t ρ S Q)(h:K ρ S1):wS Φ fuel (.ite t a .nil) ρ S K Q:=by
 dsimp only[wS];exact ht _ λQ' h1 h2=>⟨λz=>(by cases z),λ_=>(cq (h1 _ _ h)).out⟩
theorem Hn {t:E}{a b:Ss}{Q:QO}(ht:∀Q:QB,Q (true,S1)->wT Φ t ρ S Q)(h:∀Q':QO,(∀ρ' S',K ρ' S'->Q' (.nx ρ',S'))->(∀w S',Q (.rt w,S')->Q' (.rt w,S'))->wZ Φ fuel a ρ S1 Q'):wS Φ fuel (.ite t a b) ρ S K Q:=by
 dsimp only[wS];exact ht _ λQ' h1 h2=>⟨λ_=>(h Q' h1 λw S' q=>h2 (.rt w) S' (λ_ z=>nomatch z) q).out,λz=>(by cases z)⟩
end
theorem zM:∀k:Fin 26,("abcdefghijklmnopqrstuvwxyz" : Kd).cps.toList[k.val]?=ba (97+k.val):=by decide
theorem vn:("abcdefghijklmnopqrstuvwxyz" : Kd).length<=sizeLine:=by decide
theorem l5:∀cs:JM JW,jx (cs.map λc=>W.str ⟨[c].toArray⟩)=ba (cs.map λc=>(⟨[c].toArray⟩ : Kd))
 | []=>rfl
 | c::cs=>by simp[jx,l5 cs]
theorem oJ:∀cs:JM JW,((cs.map λc=>(⟨[c].toArray⟩ : Kd)).map (·.length)).sum=cs.length
 | []=>rfl
 | c::cs=>by
  have:=oJ cs;simp only[Lp,List.sum_cons,K5];rw[this];show 1+cs.length=_;omega
theorem gb (a b:Kd):(a++b).cps.toList=a.cps.toList++b.cps.toList:=N7
theorem l7:∀cs:JM JW,(Tr "" (cs.map λc=>(⟨[c].toArray⟩ : Kd))).cps.toList=cs
 | []=>rfl
 | [c]=>rfl
 | c::d::cs=>by
  have ih:=l7 (d::cs);show(((⟨[c].toArray⟩ : Kd)++("" : Kd)++Tr "" ((d::cs).map λc=>(⟨[c].toArray⟩ : Kd))).cps).toList=_
  rw[gb,gb,ih];rfl
theorem rP (cs:JM JW):(Sx "" (cs.map λc=>(⟨[c].toArray⟩ : Kd))).cps.toList=cs:=by
 show(SY "" _).cps.toList=_;rw[StrLaws.glued_eq_join];exact l7 cs
noncomputable def vo (y:Kd):Prop:=∀c∈y.cps.toList,97<=c/\c<=122
noncomputable def Name (y:Kd):Prop:=1<=y.cps.toList.length/\y.cps.toList.length<=8/\vo y
theorem vp (y:Kd):y.length=y.cps.toList.length:=by simp[SM]
noncomputable def zN:JM Kd:=["markss","mark","way","wayss","bars","ba","somex","eachx","note","no","ands","ors","o","iss"]
theorem wW:∀y∈zN,Name y:=by
 have h:zN.all (λy=>decide (1<=y.cps.toList.length/\y.cps.toList.length<=8)&&y.cps.toList.all λc=>decide (97<=c/\c<=122))=true:=by decide
 intro y hy;have:=Kj.mp h y hy;rw[JV]at this;obtain⟨a,b⟩:=this;exact⟨(K4 a).1,(K4 a).2,λc hc=>K4 (Kj.mp b c hc)⟩
theorem l8 {α:Type}{f:α->W}{xs:JM α}{i:JW}(h:i < xs.length):∃x∈xs,(xs.map f)[i]?=ba (f x):=⟨xs[i],K7 _,by rw[JY,J6 h]; rfl⟩
section
variable{defs:JM (Kd×Df)}{fuel d:JW}{S:aa}{r:JW}{Q:QW}
theorem jJ (G:Gen defs){m:J5}(hf:Fl S r)(h0:0<=m)(h1:m<=1000)(k:∀y S',y.cps.toList.length=m.toNat->vo y->Fl S' r->Kp r S S'->Q (.str y,S')) :
  wO (bF (aq defs fuel (d+2)) "_law_letters" 2 [.ref r,.int m] S) Q:=by
 refine aC G.letters rfl rfl λQ' hR=>?_
 show wZ _ _ dN [ba (.ref r),ba (.int m)] S Q';dsimp only[dN];refine st ?_;dsimp only[wS,wE,wA];refine⟨rfl,fw m (λi ys ρ S'=>(∃a,ρ=[gV,a,ba (.ref r)])/\Fl S' r/\Kp r S S'/\∃cs:JM JW,ys=cs.map (λc=>W.str ⟨[c].toArray⟩)/\cs.length=i/\∀c∈cs,97<=c/\c<=122) rfl rfl rfl ⟨by omega,by omega⟩ ⟨rfl,⟨gV,rfl⟩,hf,.refl,[],rfl,rfl,λ_ h=>nomatch h⟩ ?_ ?_⟩
 ·rintro i ys ρ S1 hi ⟨⟨a,rfl⟩,f1,k1,cs,rfl,hl,hc⟩;dsimp only[kB,wC,wE,wA,wV,wG,J4];refine⟨λ_=>bu (d:=d) G.pick f1 (by decide) (by decide) λv S2 h2 h3 f2 k2=>?_,λz=>by cases z⟩
  have ha:=zM ⟨v.toNat,by omega⟩
  refine ae (Dm vn h2 ha) ⟨⟨_,rfl⟩,f2,k1.trans k2,cs++[97+v.toNat],by simp,by simp[hl],λc hx=>?_⟩
  rcases KF.mp hx with h|h
  ·exact hc c h
  ·rw[J8.mp h]; omega
 ·rintro ys ρ S1 ⟨_,f1,k1,cs,rfl,hl,hc⟩;refine⟨by rw[JO,hl,KZ]; omega,?_⟩
  have hz:((cs.map λc=>(⟨[c].toArray⟩ : Kd)).map (·.length)).sum+(cs.map λc=>(⟨[c].toArray⟩ : Kd)).length*("" : Kd).length<=16777216:=by
   rw[oJ,show("" : Kd).length=0 from rfl,Pa]
   omega
  refine ae (a:=(.str (Sx "" (cs.map λc=>(⟨[c].toArray⟩ : Kd))),S1++[.lst (cs.map λc=>W.str ⟨[c].toArray⟩)])) ?_ (hR _ _ (k _ _ (by rw[rP,hl]) (λc h=>hc c (by rw[rP]at h; exact h)) (f1.ka .push) (k1.trans .push)))
  simp only[Me.fn,uC,ft,aM aj,l5];rw[Ko hz]
theorem E8 (G:Gen defs){y:Kd}(hf:Fl S r)(h0:y.cps.toList.length<=6)(h1:vo y)(k:∀z S',Name z->Fl S' r->Kp r S S'->Q (.str z,S')) :
  wO (bF (aq defs fuel (d+3)) "_law_name" 2 [.ref r,.str y] S) Q:=by
 refine aC G.name rfl rfl λQ' hR=>?_
 replace k:∀z S',Name z->Fl S' r->Kp r S S'->Q' (.rt (.str z),S'):=λz S' a b c=>hR _ _ (k z S' a b c)
 clear hR;show wZ _ _ fZ [ba (.ref r),ba (.str y),gV] S Q';dsimp only[fZ];refine bw λK hK=>?_
 dsimp only[wS,wT,wE,wV,wG,He,wO,wB];refine aw (Q0:=Q') (λ_ Q2 _ hr=>?_) (λ_ Q2 hn _=>?_)
 ·refine st ?_;dsimp only[wS,wE,wA,wV,wG];refine bu (d:=d+1) G.pick hf (by decide) (by decide) λv S1 v0 v1 f1 k1=>?_
  dsimp only[dk,wO];refine jJ (d:=d) G f1 (by omega) (by omega) λz S2 hz hs f2 k2=>?_
  have hl:(y++z).cps.toList.length=y.cps.toList.length+z.cps.toList.length:=by rw[gb,J0]
  refine ae (E5 (by rw[vp,vp,KZ]; omega)) (hr _ _ (k _ _ ⟨by omega,by omega,λc hc=>?_⟩ f2 (k1.trans k2)))
  rw[gb]at hc;exact(KF.mp hc).elim (h1 c) (hs c)
 ·refine cq (hn _ _ (hK _ _ ?_));clear hn hK;refine bw λK hK=>?_
  dsimp only[wS,wT,wE,wA,wV,wG];refine bu (d:=d+1) G.pick hf (by decide) (by decide) λv S1 v0 v1 f1 k1=>?_
  dsimp only[kH,wO,wB];refine aw (Q0:=Q') (λ_ Q2 _ hr=>?_) (λ_ Q2 hn _=>?_)
  ·refine st ?_;dsimp only[wS,wE,wA,wV,wG,J4];refine st ?_;dsimp only[wS,wE,wA,wV,wG,J4];refine ae (zG (i:=S1.length) (j:=(S1++[_]).length) (ap aj) aj (jb rfl)) ?_;dsimp only;refine st ?_;dsimp only[wS,wE,wA,wV,wG,J4];refine bu (d:=d+1) G.pick (((f1.ka .push).ka .push).ka .push) (by decide) (by decide) λv S2 v0 v1 f2 k2=>?_
   have e:=k2.get _ _ (by have:=f1.lt; simp only[J0]; omega) aj
   obtain⟨z,hz,ez⟩:=l8 (f:=W.str) (xs:=zN) (i:=v.toNat) (by show v.toNat < 14; omega)
   exact gC e v0 ez (hr _ _ (k _ _ (wW z hz) f2 (k1.trans (Kp.push.trans (Kp.push.trans (Kp.push.trans k2))))))
  ·refine cq (hn _ _ (hK _ _ ?_));clear hn hK;refine st ?_;dsimp only[wS,wE,wA,wV,wG];refine bu (d:=d+1) G.pick f1 (by decide) (by decide) λv S2 v0 v1 f2 k2=>?_
   dsimp only[dk,wO];exact jJ (d:=d) G f2 (by omega) (by omega) λz S3 hz hs f3 k3=>k _ _ ⟨by omega,by omega,hs⟩ f3 (k1.trans (k2.trans k3))
end
theorem l9 {α:Type}[M2 α]:∀(l m:JM α),l.Nodup->(∀x∈l,x∈m)->l.length<=m.length
 | [],_,_,_=>LB _
 | x::l,m,hn,hs=>by
  rw[Mu]at hn;have hx:x∈m:=hs x (.head _);have h1:=l9 l (m.erase x) hn.2 λy hy=>(List.mem_erase_of_ne (λ(e:y=x)=>hn.1 (by rw[<- e]; exact hy))).mpr (hs y (.tail _ hy))
  rw[List.length_erase_of_mem hx]at h1;have:=List.length_pos_of_mem hx;rw[K5]; omega
noncomputable def ni (k:JW):Kd:=⟨[97+k].toArray⟩
theorem zO {a b:JW}(h:ni a=ni b):a=b:=by
 unfold ni at h;injection h with h
 injection h with h
 injection h with h
 omega
theorem rQ (s:JW):((Ky s).map ni).Nodup:=by
 unfold SU;rw[OM];exact List.nodup_range.imp λh e=>h (zO e)
theorem wX {k:JW}(h:k < 26):Name (ni k):=⟨JZ 1,(by decide:1<=8),λc hc=>by
 cases J8.mp (show c∈[97+k]from hc)
 omega⟩
noncomputable def iG:JM Kd:=["marks","ways","bar","some","each","not","and","or","is"]
theorem zP (zs:JM Kd):(zs.map W.str).all cr=true:=by
 rw[Kj];intro x hx;obtain⟨z,_,rfl⟩:=Kl.mp hx;rfl
theorem CB (zs:JM Kd)(y:Kd):((zs.map W.str).any λz=>yi z (.str y))=decide (y∈zs):=by
 induction zs with
 | nil=>rfl
 | cons z zs ih=>
  rw[Lp,Mm,ih];show((z==y)||_)=_
  by_cases h:z=y
  ·subst h; simp
  ·have:(z==y)=false:=by simpa using h
   rw[this,OR];have h2:(y∈z::zs)=(y∈zs):=by simp[Ne.symm h]
   simp only[h2]
theorem wY {S:aa}{t:JW}{zs:JM Kd}{y:Kd}(h:S[t]?=ba (.lst (zs.map W.str))):cg .isin (.str y) (.ref t) S=ba (.bl (decide (y∈zs)),S):=by
 simp only[cg,i8 h,iP,El,BF,ft,aM h];rw[Ko (by rw[zP]; rfl),CB]
 rfl
theorem E9 {S:aa}{k:JW}:gq .mul (.str ⟨[k].toArray⟩) (.int 1) S=ba (.str ⟨[k].toArray⟩,S):=by
 simp only[gq,yd];rw[Ko ⟨by decide,by decide,by show 1*1<=sizeLine; rw[KZ]; decide⟩]
 rfl
theorem gD {xs:JM W}{k:JW}:lB xs gV (ba (k:J5))=xs.take k:=by
 unfold lB;rw[HT.qw,HT.um,RD,Nat.sub_zero]
 by_cases h:k<=xs.length
 ·rw[Rk h]
 ·rw[Q1 (by omega),NM (JZ _),NM (by omega)]
theorem zQ {xs:JM W}{k:JW}:lB xs (ba (k:J5)) gV=xs.drop k:=by
 unfold lB;rw[HT.qw,HT.um]
 by_cases h:k<=xs.length
 ·rw[Rk h,NM (by rw[Na]; exact JZ _)]
 ·rw[Q1 (by omega),NJ (JZ _),NJ (by omega)]; exact List.take_nil
section
variable{defs:JM (Kd×Df)}{fuel d:JW}{S:aa}{r:JW}{Q:QW}
theorem CC {Φ:Kd->FF}{m z w:W}{t:JW}{y:Kd}{zs:JM Kd}{K:Fm->aa->Prop}{Q:QO}(hfu:20 < fuel)(hy:Name y)(e:S[t]?=ba (.lst (zs.map W.str)))(hl:zs.length<=15)
  (k:∀y s,Name y->y∉zs->K [ba (.ref r),ba m,ba z,ba (.ref t),ba w,ba (.str y),ba s] S) :
  wS Φ fuel (.whl (.cmp .isin (.v 5) (.v 3)) (.cons (.set 5 (.op .mul (.ix (.c (.str "abcdefghijklmnopqrstuvwxyz")) (.op .mod (.v 6) (.c (.int 26)))) (.op .add (.c (.int 1)) (.op .fdiv (.v 6) (.c (.int 26)))))) (.cons (.set 6 (.op .add (.v 6) (.c (.int 1)))) .nil)))
   [ba (.ref r),ba m,ba z,ba (.ref t),ba w,ba (.str y),ba (.int 0)] S K Q:=by
 dsimp only[wS];refine Ds (λmm ρ S'=>∃(s:JW) (y:Kd),ρ=[ba (.ref r),ba m,ba z,ba (.ref t),ba w,ba (.str y),ba (.int s)]/\S'=S/\mm+s=18/\s<=16/\Name y/\(0 < s->y=ni (s - 1))/\∀k,k+1 < s->ni k∈zs) 18 rfl rfl (by omega) ⟨0,y,rfl,rfl,rfl,by exact Kc rfl,hy,λh=>absurd h (by omega),λk h=>absurd h (by omega)⟩ ?_
 rintro mm ρ S' ⟨s,y',rfl,rfl,hm,hs,hy',hc1,hc2⟩;dsimp only[wT,wE,wV,wG];refine ae (wY e) ⟨λhin=>?_,λhout=>k _ _ hy' (MU hout)⟩
 have all:∀k,k < s->ni k∈zs:=λk hk=>by
  by_cases h:k+1 < s
  ·exact hc2 k h
  ·have e:k=s - 1:=by omega
   rw[e,<- hc1 (QF ‹_›)]; exact K4 hin
 have hs15:s<=15:=by
  have h7:=l9 ((Ky s).map ni) zs (rQ s) λx hx=>by
   obtain⟨k,hk,rfl⟩:=Kl.mp hx;exact all k (KP.mp hk)
  rw[JO,KJ]at h7;exact J3 ‹_› ‹_›
 refine⟨mm - 1,by omega,λQ2 hn _=>?_⟩
 have em:((s:J5) % 26)=s:=Int.emod_eq_of_lt (by omega) (by omega)
 have ed:((s:J5) / 26)=0:=Int.ediv_eq_zero_of_lt (by omega) (by omega)
 refine st ?_;dsimp only[wS,wE,wV,wG,J4];refine ae (i7 (by decide)) ?_
 rw[em];refine ae (Dm (i:=(s:J5)) vn (Kg s) (zM ⟨s,by exact Mr ‹_› (Kc rfl)⟩)) ?_
 have e2:gq .fdiv (.int s) (.int 26) S'=ba (.int 0,S'):=by rw[iE (by omega) (by omega),ed]
 dsimp only;rw[e2];dsimp only[dk,bE];rw[show(1:J5)+0=1 from rfl]
 refine ae E9 ?_;refine st ?_;dsimp only[wS,wE,wV,wG,J4,dk,bE];exact cq (hn _ _ ⟨s+1,ni s,rfl,rfl,by omega,by omega,wX (by exact Mr ‹_› (Kc rfl)),λ_=>rfl,λk hk=>all k (by omega)⟩)
theorem CD (hfu:20 < fuel)(G:Gen defs){m:JW}(hf:Fl S r)(h1:m<=6)(k:∀(ys:JM Kd) S',ys.length=m->(∀y∈ys,Name y)->(iG++ys).Nodup->Fl S' r->Kp r S S'->Q (.tup (ys.map W.str),S')) :
  wO (bF (aq defs fuel (d+4)) "_law_names" 2 [.ref r,.int m] S) Q:=by
 refine aC G.names rfl rfl λQ' hR=>?_
 replace k:∀(ys:JM Kd) S',ys.length=m->(∀y∈ys,Name y)->(iG++ys).Nodup->Fl S' r->Kp r S S'->Q' (.rt (.tup (ys.map W.str)),S'):=λz S' a b c e f=>hR _ _ (k z S' a b c e f)
 clear hR;show wZ _ _ dq [ba (.ref r),ba (.int m),gV,gV,gV,gV,gV] S Q';have b8:∀(z:Kd) (S2:aa),z.cps.toList.length<=6->vo z->Fl S2 r->Kp r S S2->wZ (aq defs fuel (d+3)) fuel (dr 2 dq) [ba (.ref r),ba (.int m),ba (.str z),gV,gV,gV,gV] S2 Q':=by
  intro z S2 hz1 hz2 f2 k2;dsimp only[dr,dq];have hrt:=f2.lt;have hSt:=k2.len;refine st ?_;dsimp only[wS,wE,wA,wV,wG,J4];refine bw λK hK=>?_
  refine cm (m:J5) (λi ρ S'=>∃a4 a5 a6 ys,ρ=[ba (.ref r),ba (.int m),ba (.str z),ba (.ref S2.length),a4,a5,a6]/\S'[S2.length]?=ba (.lst ((iG++ys).map W.str))/\ys.length=i/\(∀y∈ys,Name y)/\(iG++ys).Nodup/\Fl S' r/\Kp r S S') rfl rfl (by omega) ?_ ?_ ?_
  ·dsimp only[wE,wV,wG];exact⟨rfl,gV,gV,gV,[],rfl,aj,rfl,λ_ h=>(nomatch h),by decide,f2.ka .push,k2.trans .push⟩
  ·rintro i ρ S3 hi ⟨a4,a5,a6,ys,rfl,e3,hy1,hy2,hy3,f3,k3⟩ Q2 hn _;clear hK;refine st ?_;dsimp only[wS,wE,wA,wV,wG,J4];refine E8 (d:=d) G f3 hz1 hz2 λy S4 hy f4 k4=>?_
   have e4:=k4.get _ _ (KC ‹_›) e3;refine st ?_;dsimp only[wS,wE,wA,wV,wG,J4];refine st (CC hfu hy e4 (by rw[J0,hy1]; show 9+i<=15; omega) λy' s hy' hnot=>?_)
   refine st ?_;dsimp only[wS,wE,wA,wV,wG,J4];refine⟨dL e4,l4 e4 (by rw[JO,J0,hy1]; show 9+i < 1000; omega) ?_⟩
   refine cq (hn _ _ ⟨_,_,_,ys++[y'],rfl,?_,by rw[J0,hy1]; rfl,λx hx=>?_,?_,f4.own hrt,(k3.trans k4).late hSt⟩)
   ·rw[bW e4,<- LW,KN (l₁:=iG++ys)]; rfl
   ·rcases KF.mp hx with h|h
    ·exact hy2 x h
    ·rw[J8.mp h]; exact hy'
   ·rw[<- LW,QJ];refine⟨hy3,by simp,λa ha b hb e=>?_⟩
    rw[J8.mp hb]at e;exact hnot (e ▸ ha)
  ·rintro ρ S3 ⟨a4,a5,a6,ys,rfl,e3,hy1,hy2,hy3,f3,k3⟩;refine hK _ _ (st ?_);dsimp only[wS,wE,wA,wV,wG,wP,wN];have hs:sU (.ref S2.length) (ba 9) gV S3=ba (.ref S3.length,S3++[.lst (ys.map W.str)]):=by
    have:lB ((iG++ys).map W.str) (ba ((9:JW):J5)) gV=ys.map W.str:=by
     rw[zQ,KN];exact List.drop_left' rfl
    simp only[sU,aM e3];rw[show(ba 9:JU J5)=ba ((9:JW):J5)from rfl,this]
   refine ae hs (fD aj (k _ _ ?_ hy2 hy3 (f3.ka .push) (k3.trans .push)));rw[hy1]; exact Kh m
 dsimp only[dq];refine st ?_;dsimp only[wS,wE,J4];refine bw λK hK=>?_
 dsimp only[wS,wT,wE,wA,wV,wG];refine bu (d:=d+2) G.pick hf (by decide) (by decide) λv S1 v0 v1 f1 k1=>?_
 dsimp only[kH,wO,wB];refine aw (Q0:=Q') (λ_ Q2 hn _=>?_) (λ_ Q2 hn _=>?_)
 ·refine st ?_;dsimp only[wS,wE,wA,wV,wG,J4];refine bu (d:=d+2) G.pick f1 (by decide) (by decide) λv S2 v0 v1 f2 k2=>?_
  dsimp only[dk,wO];exact jJ (d:=d+1) G f2 (by omega) (by omega) λz S3 hz hs f3 k3=>cq (hn _ _ (hK _ _ (b8 z S3 (by omega) hs f3 (k1.trans (k2.trans k3)))))
 ·exact cq (hn _ _ (hK _ _ (b8 "" S1 (by decide) (λc hc=>nomatch hc) f1 k1)))
end
noncomputable abbrev Pt:=J5×JM J5
noncomputable abbrev Wd:=JM Pt
noncomputable def dZ (p:Pt):W:=.tup [.int p.1,.tup (p.2.map W.int)]
noncomputable def aI (u:Wd):W:=.tup (u.map dZ)
noncomputable def nj (p:Pt):T:=.tup [.int p.1,.tup (p.2.map T.int)]
noncomputable def cH (u:Wd):T:=.tup (u.map nj)
theorem vt:∀xs:JM J5,T.ws (xs.map T.int)=xs.map W.int
 | []=>rfl
 | x::xs=>by simp[T.ws,T.w,vt xs]
theorem Du (p:Pt):(nj p).w=dZ p:=by simp[nj,dZ,T.w,T.ws,vt]
theorem tX:∀u:Wd,T.ws (u.map nj)=u.map dZ
 | []=>rfl
 | p::u=>by simp[T.ws,Du,tX u]
theorem zR (u:Wd):(cH u).w=aI u:=by simp[cH,aI,T.w,tX]
theorem Ho (u:Wd):W.t (aI u)=ba (cH u):=by rw[<- zR]; exact T.w_t _
theorem tY:∀us:JM Wd,T.ws (us.map cH)=us.map aI
 | []=>rfl
 | u::us=>by simp[T.ws,zR,tY us]
theorem zS (us:JM Wd):W.ts (us.map aI)=ba (us.map cH):=by rw[<- tY]; exact T.ws_ts _
theorem ma:∀xs:JM J5,T.depths (xs.map T.int)=0
 | []=>rfl
 | x::xs=>by simp[T.depths,T.depth,ma xs]
theorem rR (p:Pt):(nj p).depth=2:=by simp[nj,T.depth,T.depths,ma]
theorem jK:∀u:Wd,T.depths (u.map nj)<=2
 | []=>by simp[T.depths]
 | p::u=>by
  have:=jK u;simp only[Lp,T.depths,rR]; omega
theorem md (u:Wd):(cH u).depth<=3:=by
 have:=jK u;simp only[cH,T.depth]; omega
theorem gU:∀us:JM Wd,T.depths (us.map cH)<=3
 | []=>by simp[T.depths]
 | u::us=>by
  have:=gU us;have:=md u;simp only[Lp,T.depths]; omega
theorem pP (u:Wd):gZ (aI u)=ba (cH u):=by
 unfold gZ;rw[Ho];show(if (cH u).isTup=true/\(cH u).depth<=aG then _ else _)=_
 rw[Ko ⟨rfl,by have:=md u; unfold aG; exact J3 ‹_› (Kc rfl)⟩]
mutual
noncomputable def pQ:T->T->Kt
 | .int _,.int _=>true
 | .str _,.str _=>true
 | .tup xs,.tup ys=>fN xs ys
 | _,_=>false
noncomputable def fN:JM T->JM T->Kt
 | [],_=>true
 | _,[]=>true
 | x::xs,y::ys=>pQ x y&&fN xs ys
end
mutual
theorem zU:∀x y:T,pQ x y=true->(mW x y).isSome=true
 | .int _,.int _,_=>rfl
 | .str _,.str _,_=>rfl
 | .tup xs,.tup ys,h=>by
  simp only[pQ]at h;simp only[mW];exact vw xs ys h
 | .int _,.str _,h|.int _,.tup _,h|.str _,.int _,h|.str _,.tup _,h|.tup _,.int _,h|.tup _,.str _,h=>by simp[pQ]at h
theorem vw:∀xs ys:JM T,fN xs ys=true->(gk xs ys).isSome=true
 | [],[],_=>rfl
 | [],_::_,_=>rfl
 | _::_,[],_=>rfl
 | x::xs,y::ys,h=>by
  simp only[fN,JV]at h;simp only[gk];split
  ·exact vw xs ys h.2
  ·exact zU x y h.1
end
theorem rS:∀xs ys:JM J5,fN (xs.map T.int) (ys.map T.int)=true
 | [],_=>by simp[fN]
 | _::_,[]=>by simp[fN]
 | x::xs,y::ys=>by simp[fN,pQ,rS xs ys]
theorem Fa (p q:Pt):pQ (nj p) (nj q)=true:=by simp[nj,pQ,fN,rS]
theorem vx:∀u v:Wd,fN (u.map nj) (v.map nj)=true
 | [],_=>by simp[fN]
 | _::_,[]=>by simp[fN]
 | p::u,q::v=>by simp[fN,Fa,vx u v]
theorem Fb (u v:Wd):pQ (cH u) (cH v)=true:=by simp[cH,pQ,vx]
theorem jL (us:JM Wd):ij (us.map cH)=true:=by
 unfold ij;rw[Kj];intro x hx;obtain⟨u,_,rfl⟩:=Kl.mp hx;rw[Kj];intro y hy;obtain⟨v,_,rfl⟩:=Kl.mp hy;exact zU _ _ (Fb u v)
theorem zW (us:JM Wd)(h:∀u∈us,u≠[]):(tu (us.map cH)).isSome=true:=by
 unfold tu;split
 ·rfl
 ·split
  ·rfl
  ·split
   ·rfl
   ·split
    ·rfl
    ·split
     ·rfl
     ·rename_i h5;exfalso;apply h5;rw[Kj];intro x hx;obtain⟨u,hu,rfl⟩:=Kl.mp hx;cases u with
      | nil=>exact absurd rfl (h [] hu)
      | cons p u=>rfl
noncomputable def gc (bs:JM J5)(u:Wd)(i j:JW):J5:=if j < i then((u.getD i (0,[])).2).getD j 0 else bs.getD (((u.getD j (0,[])).2).getD i 0).toNat 0
noncomputable def bp (bs:JM J5)(u:Wd)(ps:JM JW):Wd:=(Ky ps.length).map λk=>((u.getD (ps.getD k 0) (0,[])).1,(ps.take k).map λj=>gc bs u (ps.getD k 0) j)
noncomputable def au:JM (JM JW):=[[0,1,2],[0,2,1],[1,0,2],[1,2,0],[2,0,1],[2,1,0]]
noncomputable def jM (bs:JM J5)(u:Wd):Wd:=(au.map (bp bs u)).getD (pi ((au.map (bp bs u)).map cH)) []
noncomputable def bQ (n:Kd)(b:J5):W:=.tup [.str n,.int b]
structure GoodW (a n:JW)(u:Wd):Prop where
 mark:∀(k:JW) (p:Pt),u[k]?=ba p->0<=p.1/\p.1 < a
 len:∀(k:JW) (p:Pt),u[k]?=ba p->p.2.length=k
 way:∀(k:JW) (p:Pt),u[k]?=ba p->∀w∈p.2,0<=w/\w < n
noncomputable def GoodB (bs:JM J5):Prop:=bs=[0]\/bs=[0,1]\/bs=[1,0]\/bs=[0,1,2]\/bs=[1,0,2]\/bs=[0,2,1]
theorem GoodB.rng {bs:JM J5}(h:GoodB bs):∀k:JW,k < bs.length->∃b:J5,bs[k]?=ba b/\0<=b/\b < bs.length:=by
 rcases h with rfl|rfl|rfl|rfl|rfl|rfl <;> intro k hk
 ·match k,hk with
  | 0,_=>exact⟨0,rfl,by decide,by decide⟩
 ·match k,hk with
  | 0,_=>exact⟨0,rfl,by decide,by decide⟩
  | 1,_=>exact⟨1,rfl,by decide,by decide⟩
 ·match k,hk with
  | 0,_=>exact⟨1,rfl,by decide,by decide⟩
  | 1,_=>exact⟨0,rfl,by decide,by decide⟩
 ·match k,hk with
  | 0,_=>exact⟨0,rfl,by decide,by decide⟩
  | 1,_=>exact⟨1,rfl,by decide,by decide⟩
  | 2,_=>exact⟨2,rfl,by decide,by decide⟩
 ·match k,hk with
  | 0,_=>exact⟨1,rfl,by decide,by decide⟩
  | 1,_=>exact⟨0,rfl,by decide,by decide⟩
  | 2,_=>exact⟨2,rfl,by decide,by decide⟩
 ·match k,hk with
  | 0,_=>exact⟨0,rfl,by decide,by decide⟩
  | 1,_=>exact⟨2,rfl,by decide,by decide⟩
  | 2,_=>exact⟨1,rfl,by decide,by decide⟩
theorem getD_some {α:Type}{xs:JM α}{i:JW}{x d:α}(h:xs[i]?=ba x):xs.getD i d=x:=by simp[h]
theorem aB {α:Type}{xs:JM α}{i:JW}{d:α}(h:i < xs.length):xs[i]?=ba (xs.getD i d):=by simp[h]
theorem pR {ns:JM Kd}{bs:JM J5}{k:JW}{n:Kd}{b:J5}(h1:ns[k]?=ba n)(h2:bs[k]?=ba b):(Km bQ ns bs)[k]?=ba (bQ n b):=by
 rw[List.getElem?_zipWith,h1,h2]
noncomputable def aD (ps:JM JW):JM W:=ps.map λ(p:JW)=>W.int (p:J5)
theorem vy {ps:JM JW}{k p:JW}(h:ps[k]?=ba p):(aD ps)[k]?=ba (.int p):=by simp[aD,h]
theorem fO (bs:JM J5)(u:Wd)(ps:JM JW):(bp bs u ps).length=ps.length:=by unfold bp; rw[JO,KJ]
theorem dW {u:Wd}{i:JW}(hi:i < u.length):(u.map dZ)[((i:JW):J5).toNat]?=ba (dZ (u.getD i (0,[]))):=by
 rw[Kh,JY,aB hi]; rfl
section
variable{defs:JM (Kd×Df)}{fuel d:JW}{S:aa}{r:JW}{Q:QW}
theorem zX {Φ:Kd->FF}{m0 b0:W}{ns:JM Kd}{bs:JM J5}{a:JW}{u:Wd}{i j:JW}{Q:QO}(hb:GoodB bs)(hl:ns.length=bs.length)(hu:GoodW a bs.length u)(hi:i < u.length)(hj:j < u.length)(hij:i≠j)(k:Q (.rt (.int (gc bs u i j)),S)) :
  wZ Φ fuel dO [ba (.tup [m0,.tup (Km bQ ns bs),b0]),ba (aI u),ba (.int i),ba (.int j)] S Q:=by
 have hpi:=aB (d:=(0,[])) hi;have hpj:=aB (d:=(0,[])) hj;unfold gc at k;dsimp only[dO];refine bw λK hK=>?_
 dsimp only[wS,wT,wE,wV,wG,Cw,wO,wB,aI];refine aw (Q0:=Q) (λh Q2 _ hr=>?_) (λh Q2 hn _=>?_)
 ·have hji:j < i:=by have:=K4 h; exact LL.mp ‹_›
  rw[Ko hji]at k;have hw:j < (u.getD i (0,[])).2.length:=by rw[hu.len i _ hpi]; exact hji
  refine st ?_;dsimp only[wS,wE,wV,wG];refine am (Kg i) (dW hi) (am (by decide) rfl (am (Kg j) ?_ (hr _ _ k)))
  rw[Kh,JY,aB (d:=0) hw]; rfl
 ·have hji:¬ j < i:=by have:=MU h; omega
  rw[Kw hji]at k;refine cq (hn _ _ (hK _ _ ?_));clear hn hK;have hw:i < (u.getD j (0,[])).2.length:=by rw[hu.len j _ hpj]; omega
  have hg:=aB (d:=0) hw;obtain⟨g1,g2⟩:=hu.way j _ hpj _ (Ke hg);obtain⟨b,hb1,hb2,hb3⟩:=hb.rng ((u.getD j (0,[])).2.getD i 0).toNat (by omega)
  have hn:((u.getD j (0,[])).2.getD i 0).toNat < ns.length:=by omega
  rw[getD_some hb1]at k;refine st ?_;dsimp only[wS,wE,wV,wG];refine am (by decide) rfl (am (Kg j) (dW hj) (am (by decide) rfl (am (Kg i) ?_ (am g1 (pR (J6 hn) hb1) (am (by decide) rfl k)))))
  rw[Kh,JY,hg]; rfl
theorem w6 (G:Gen defs){m0 b0:W}{ns:JM Kd}{bs:JM J5}{a:JW}{u:Wd}{i j:JW}(hb:GoodB bs)(hl:ns.length=bs.length)(hu:GoodW a bs.length u)(hi:i < u.length)(hj:j < u.length)(hij:i≠j)(k:Q (.int (gc bs u i j),S)) :
  wO (bF (aq defs fuel (d+1)) "_law_between" 4 [.tup [m0,.tup (Km bQ ns bs),b0],aI u,.int i,.int j] S) Q:=
 aC G.between rfl rfl λQ' hR=>zX hb hl hu hi hj hij (hR _ _ k)
theorem zY (G:Gen defs){m0 b0:W}{ns:JM Kd}{bs:JM J5}{a:JW}{u:Wd}{ps:JM JW}(hb:GoodB bs)(hl:ns.length=bs.length)(hu:GoodW a bs.length u)(hps:∀p∈ps,p < u.length)(hnd:ps.Nodup)(hsz:ps.length < 1000)(k:∀S',Ka S S'->Q (aI (bp bs u ps),S')) :
  wO (bF (aq defs fuel (d+2)) "_law_part" 3 [.tup [m0,.tup (Km bQ ns bs),b0],aI u,.tup (aD ps)] S) Q:=by
 refine aC G.part rfl rfl λQ' hR=>?_
 replace k:∀S',Ka S S'->Q' (.rt (aI (bp bs u ps)),S'):=λS' a=>hR _ _ (k S' a)
 clear hR;show wZ _ _ ga [ba (.tup [m0,.tup (Km bQ ns bs),b0]),ba (aI u),ba (.tup (aD ps)),gV,gV,gV] S Q';generalize hR0:W.tup [m0,.tup (Km bQ ns bs),b0]=R;dsimp only[ga];refine st ?_;dsimp only[wS,wE,wA,J4];refine bw λK hK=>?_
 have nl:(aD ps).length=ps.length:=JO ..;refine cm (ps.length:J5) (λk ρ S'=>∃a4 a5,ρ=[ba R,ba (aI u),ba (.tup (aD ps)),ba (.ref S.length),a4,a5]/\S'[S.length]?=ba (.lst (((bp bs u ps).take k).map dZ))/\Ka S S') rfl rfl (by omega) ?_ ?_ ?_
 ·dsimp only[wE,wA,wV,wG];refine bS ?_;rw[nl];exact⟨rfl,gV,gV,rfl,aj,.push⟩
 ·rintro i ρ S1 hi ⟨a4,a5,rfl,e1,k1⟩ Q2 hn _;clear hK;have hi':i < ps.length:=by exact LL.mp ‹_›
  have hp:ps[i]?=ba ps[i]:=J6 hi';have hpu:ps[i] < u.length:=hps _ (K7 hi');refine st ?_;dsimp only[wS,wE,wV,wG,J4];refine am (Kg i) (by rw[Kh]; exact vy hp) ?_
  refine st ?_;dsimp only[wS,wE,wA,wV,wG,J4];refine⟨dL e1,am (Kg _) (dW hpu) (am (by decide) rfl ?_)⟩
  refine vk (aD (ps.take i)) (λj ys ρ2 S2=>(∃a1,ρ2=[gV,a1,ba (.int ps[i]),ba R,ba (aI u)])/\ys=((ps.take i).take j).map (λq=>W.int (gc bs u ps[i] q))/\Ka S1 S2) rfl rfl rfl ?_ ?_ ?_
  ·dsimp only[wE,wP,wV,wG,wN];refine ae (a:=(.tup (aD (ps.take i)),S1)) ?_ ⟨rfl,⟨gV,rfl⟩,rfl,.refl⟩;simp only[sU,gD];unfold aD;rw[NV]
  ·rintro j w ys ρ2 S2 hw ⟨⟨a1,rfl⟩,rfl,k2⟩;have hjl:j < (ps.take i).length:=by
    have:=(J1.mp hw).1;unfold aD at this
    rwa [JO]at this
   have hq:(ps.take i)[j]?=ba (ps.take i)[j]:=J6 hjl;cases(vy hq).symm.trans hw;have hj:j < i:=by rw[KA]at hjl; omega
   have eq:(ps.take i)[j]=ps[j]'(NE ‹_› ‹_›):=ON;generalize(ps.take i)[j]=q at hq eq ⊢;refine ae (show gm (.nm 1) (.int (q:J5)) [gV,a1,ba (.int ps[i]),ba R,ba (aI u)] S2=ba ([gV,ba (.int (q:J5)),ba (.int ps[i]),ba R,ba (aI u)],S2)from rfl) ?_
   dsimp only[kB,wC,wE,wA,wV,wG];subst hR0;refine⟨λ_=>w6 (d:=d) G hb hl hu hpu (by rw[eq]; exact hps _ (K7 _)) ?_ ⟨⟨_,rfl⟩,?_,k2⟩,λz=>by cases z⟩
   ·rw[eq];intro h;have:=(NP hnd).mp h;omega
   ·rw[KD,hq];simp
  ·rintro ys ρ2 S2 ⟨_,rfl,k2⟩;rw[show(aD (ps.take i)).length=(ps.take i).length from JO ..,KY]
   refine⟨lp (by rw[JO,KA]; omega),fD aj ?_⟩
   have e2:=ap (u:=O.lst ((ps.take i).map λq=>W.int (gc bs u ps[i] q))) (k2.get _ _ e1)
   refine l4 e2 (by rw[JO,KA]; omega) (cq (hn _ _ ⟨_,_,rfl,?_,((k1.trans k2).trans .push).late (JZ _)⟩))
   rw[bW e2];have ep:(bp bs u ps)[i]?=ba ((u.getD ps[i] (0,[])).1,(ps.take i).map λq=>gc bs u ps[i] q):=by
    unfold bp;rw[JY,Mj hi',KR,getD_some hp]
   rw[KD,ep];simp[dZ,QH]
 ·rintro ρ S1 ⟨a4,a5,rfl,e1,k1⟩;rw[Kh,<- fO bs u ps,KY]at e1;refine hK _ _ (st ?_);dsimp only[wS,wE,wA,wV,wG];exact fD e1 (k _ k1)
theorem lq (G:Gen defs)(k:Q (.ref S.length,S++[.lst (au.map λt=>W.tup (aD t))])):wO (bF (aq defs fuel (d+1)) "_law_turns" 0 [] S) Q:=by
 refine aC G.turns rfl rfl λQ' hR=>?_
 dsimp only[gB];refine st ?_;dsimp only[wS,wE,wA];exact hR _ _ k
theorem gf (bt:JW->JW->Kt):∀n:JW,argBest bt n<=n
 | 0=>JZ _
 | n+1=>by have:=gf bt n; simp only[argBest]; split <;> omega
theorem jd (G:Gen defs){m0 b0:W}{ns:JM Kd}{bs:JM J5}{a:JW}{u:Wd}(hb:GoodB bs)(hl:ns.length=bs.length)(hu:GoodW a bs.length u)(h3:u.length=3)(k:∀S',Ka S S'->Q (aI (jM bs u),S')) :
  wO (bF (aq defs fuel (d+3)) "_law_figure" 2 [.tup [m0,.tup (Km bQ ns bs),b0],aI u] S) Q:=by
 refine aC G.figure rfl rfl λQ' hR=>?_
 replace k:∀S',Ka S S'->Q' (.rt (aI (jM bs u)),S'):=λS' a=>hR _ _ (k S' a)
 clear hR;show wZ _ _ ey [ba (.tup [m0,.tup (Km bQ ns bs),b0]),ba (aI u)] S Q';generalize hR0:W.tup [m0,.tup (Km bQ ns bs),b0]=R;dsimp only[ey];refine st ?_;dsimp only[wS,wE,wA];refine vm S.length (au.map λt=>W.tup (aD t)) (λi ys ρ2 S2=>(∃a1,ρ2=[gV,a1,ba R,ba (aI u)])/\ys=((au.take i).map λt=>aI (bp bs u t))/\Ka (S++[.lst (au.map λt=>W.tup (aD t))]) S2) rfl rfl rfl ?_ ?_ ?_ ?_
 ·dsimp only[wE,wA];exact lq (d:=d+1) G ⟨rfl,⟨gV,rfl⟩,rfl,.refl⟩
 ·rintro i ys ρ2 S2 ⟨_,_,k2⟩;exact k2.get _ _ aj
 ·rintro i w ys ρ2 S2 hw ⟨⟨a1,rfl⟩,rfl,k2⟩;rw[JY,JR]at hw;obtain⟨t,ht,rfl⟩:=hw;have ht3:(∀p∈t,p < 3)/\t.Nodup/\t.length < 1000:=by
   have:∀t∈au,(∀p∈t,p < 3)/\t.Nodup/\t.length < 1000:=by decide
   exact this t (Ke ht)
  refine ae (show gm (.nm 1) (.tup (aD t)) [gV,a1,ba R,ba (aI u)] S2=ba ([gV,ba (.tup (aD t)),ba R,ba (aI u)],S2)from rfl) ?_
  dsimp only[kB,wC,wE,wA,wV,wG];subst hR0;refine⟨λ_=>zY (d:=d) G hb hl hu (λp hp=>by rw[h3]; exact ht3.1 p hp) ht3.2.1 ht3.2.2 λS3 k3=>⟨⟨_,rfl⟩,?_,k2.trans k3⟩,λz=>by cases z⟩
  rw[KD,ht];simp
 ·rintro ys ρ2 S2 ⟨_,rfl,k2⟩;have e:((au.take (au.map λt=>W.tup (aD t)).length).map λt=>aI (bp bs u t))=(au.map (bp bs u)).map aI:=by
   rw[JO,KY,MB]; rfl
  rw[e];refine⟨jb rfl,ae (a:=(aI (jM bs u),S2++[.lst ((au.map (bp bs u)).map aI)])) ?_ (k _ ((Ka.push.trans k2).trans .push))⟩;simp only[Bi.fn,BL,aM aj,zS];rw[Ko ⟨by have:=gU (au.map (bp bs u)); unfold db; exact J3 ‹_› (Kc rfl),jL _⟩]
  unfold jM;have hlt:pi ((au.map (bp bs u)).map cH) < (au.map (bp bs u)).length:=Mr (gf _ _) (by decide:5 < 6)
  rw[JY,aB (d:=[]) hlt];rfl
end
noncomputable def af (xs:JM J5):JM W:=xs.map W.int
noncomputable def cV (us:JM Wd):JM Wd:=dS (qX (us.map cH)) [] us
theorem rT {α β:Type}{lt:JW->JW->Kt}{d:α}{d':β}{f:α->β}{us:JM α}:dS lt d' (us.map f)=(dS lt d us).map f:=by
 unfold dS;rw[JO];split
 ·rfl
 ·rw[MB];refine MJ λi hi=>?_
  have hl:i < us.length:=li (by omega) i hi
  simp[hl]
theorem tZ {S:aa}{x:W}{us:JM Wd}(h:eO S x=ba (us.map aI))(h64:us.length < 64)(hne:∀u∈us,u≠[]):fW [x] S=ba (.ref S.length,S++[.lst ((cV us).map aI)]):=by
 have ok:iA (us.map cH)=true:=by
  unfold iA;simp only[JV,LM,Ki,JO];exact⟨⟨h64,by have:=gU us; unfold db; exact J3 ‹_› (Kc rfl)⟩,.inr ⟨zW us hne,jL us⟩⟩
 simp only[fW,h,zS];rw[Ko ok,rT (d:=[])];rfl
noncomputable def d8 (ms ns:JM Kd)(bs:JM J5)(us:JM Wd):W:=.tup [.tup (ms.map W.str),.tup (Km bQ ns bs),.tup (us.map aI)]
structure GoodN (ms ns:JM Kd):Prop where
 name:∀y∈ms++ns,Name y
 nd:(iG++(ms++ns)).Nodup
theorem GoodW.nil {a n:JW}:GoodW a n []:=⟨λk p h=>(by simp at h),λk p h=>(by simp at h),λk p h=>(by simp at h)⟩
theorem GoodW.snoc {a n:JW}{u:Wd}{m:J5}{ws:JM J5}(h:GoodW a n u)(h1:0<=m/\m < a)(h2:ws.length=u.length)(h3:∀w∈ws,0<=w/\w < (n:J5)):GoodW a n (u++[(m,ws)]):=by
 have key:∀(k:JW) (p:Pt),(u++[(m,ws)])[k]?=ba p->u[k]?=ba p\/(k=u.length/\p=(m,ws)):=λk p e=>by
  rcases Sj k u.length with hk|hk
  ·rw[KT hk]at e; exact .inl e
  ·rw[LV hk]at e;have:k - u.length=0:=by
    have:=(J1.mp e).1;simp at this; assumption
   rw[this]at e;cases e;exact .inr ⟨by omega,rfl⟩
 refine⟨λk p e=>?_,λk p e=>?_,λk p e=>?_⟩ <;> rcases key k p e with e|⟨rfl,rfl⟩
 ·exact h.mark k p e
 ·exact h1
 ·exact h.len k p e
 ·exact h2
 ·exact h.way k p e
 ·exact h3
theorem GoodB.at {bs:JM J5}(h:GoodB bs){x:J5}(h0:0<=x)(h1:x < bs.length):bs[x.toNat]?=ba (bs.getD x.toNat 0)/\0<=bs.getD x.toNat 0/\bs.getD x.toNat 0 < bs.length:=by
 obtain⟨b,h2,h3⟩:=h.rng x.toNat (by omega)
 rw[getD_some h2];exact⟨h2,h3⟩
theorem CF {S:aa}{x:W}{xs:JM W}(h:eO S x=ba xs):dy [x] S=gV:=by
 cases x with
 | ref i=>
  have e2:FD S i=gV:=by
   unfold FD;cases e:S[i]? with
   | none=>rfl
   | some o=>
    cases o with
    | stt ss=>simp[eO,iO,kn,e]at h
    | _=>rfl
  simp only[dy,e2]
 | _=>rfl
theorem zZ {S:aa}{x:W}{us:JM Wd}{Q:QW}(h:eO S x=ba (us.map aI))(h64:us.length < 64)(hne:∀u∈us,u≠[])(q:Q (.ref S.length,S++[.lst ((cV us).map aI)])):wO (Bi.sorted.fn [x] S) Q:=by
 refine ae ?_ q;show(match dy [x] S with
  | some r=>ba r
  | none=>fW [x] S)=_
 rw[CF h];exact tZ h h64 hne
noncomputable def Aa:JM (JW×JW):=[(1,1),(2,1),(3,1),(1,2),(1,2),(2,2),(2,2),(3,2),(1,3),(1,3),(2,3)]
theorem Ab:∀p∈Aa,1<=p.1/\p.1<=3/\1<=p.2/\p.2<=3/\p.1*p.2<=6:=by decide
noncomputable def mf:JW->JM (JM J5)
 | 1=>[[0]]
 | 2=>[[0,1],[1,0]]
 | _=>[[0,1,2],[1,0,2],[0,2,1]]
theorem Ac:∀n:JW,1<=n->n<=3->(∀b∈mf n,GoodB b/\b.length=n)/\0 < (mf n).length/\(mf n).length<=3
 | 1,_,_=>⟨λb h=>by cases J8.mp h; exact⟨.inl rfl,rfl⟩,by decide,by decide⟩
 | 2,_,_=>⟨λb h=>by
   rcases Kv.mp h with rfl|h
   ·exact⟨.inr (.inl rfl),rfl⟩
   ·cases J8.mp h; exact⟨.inr (.inr (.inl rfl)),rfl⟩,by decide,by decide⟩
 | 3,_,_=>⟨λb h=>by
   rcases Kv.mp h with rfl|h
   ·exact⟨.inr (.inr (.inr (.inl rfl))),rfl⟩
   ·rcases Kv.mp h with rfl|h
    ·exact⟨.inr (.inr (.inr (.inr (.inl rfl)))),rfl⟩
    ·cases J8.mp h; exact⟨.inr (.inr (.inr (.inr (.inr rfl)))),rfl⟩,by decide,by decide⟩
 | 0,h,_=>absurd h (by decide)
 | n+4,_,h=>absurd h (by omega)
section
variable{defs:JM (Kd×Df)}{fuel d:JW}{S:aa}{r:JW}{Q:QW}
theorem pS (G:Gen defs)(hf:Fl S r)(k:∀(a n:JW) S',1<=a->a<=3->1<=n->n<=3->a*n<=6->Fl S' r->Kp r S S'->Q (.tup [.int a,.int n],S')) :
  wO (bF (aq defs fuel (d+2)) "_law_sizes" 1 [.ref r] S) Q:=by
 refine aC G.sizes rfl rfl λQ' hR=>?_
 show wZ _ _ fB [ba (.ref r),gV] S Q';dsimp only[fB];refine st ?_;dsimp only[wS,wE,wA,J4];refine st ?_;dsimp only[wS,wE,wA,wV,wG];refine bu (d:=d) G.pick (hf.ka .push) (by decide) (by decide) λv S1 v0 v1 f1 k1=>?_
 have e:=k1.get _ _ (KC hf.lt) aj;obtain⟨p,hp,ep⟩:=l8 (f:=λp:JW×JW=>W.tup [.int p.1,.int p.2]) (xs:=Aa) (i:=v.toNat) (by show v.toNat < 11; omega)
 obtain⟨a1,a3,n1,n3,an⟩:=Ab p hp;exact gC e v0 ep (hR _ _ (k _ _ _ a1 a3 n1 n3 an f1 (Kp.push.trans k1)))
theorem pT (G:Gen defs){n:JW}(hf:Fl S r)(h1:1<=n)(h3:n<=3)(k:∀(bs:JM J5) S',GoodB bs->bs.length=n->Fl S' r->Kp r S S'->Q (.tup (af bs),S')) :
  wO (bF (aq defs fuel (d+2)) "_law_backs" 2 [.ref r,.int n] S) Q:=by
 refine aC G.backs rfl rfl λQ' hR=>?_
 replace k:∀(bs:JM J5) S',GoodB bs->bs.length=n->Fl S' r->Kp r S S'->Q' (.rt (.tup (af bs)),S'):=λz S' a b c e=>hR _ _ (k z S' a b c e)
 clear hR;show wZ _ _ fA [ba (.ref r),ba (.int n),gV] S Q';dsimp only[fA];refine bw λK hK=>?_
 dsimp only[wS,wE,wA,wV,wG,J4];dsimp only[rN,bE];obtain⟨hg,g0,g3⟩:=Ac n h1 h3;have fin:∀(t:JW) (S1:aa),S.length<=t->S1[t]?=ba (.lst ((mf n).map λb=>.tup (af b)))->Ka S S1->K [ba (.ref r),ba (.int n),ba (.ref t)] S1:=by
  intro t S1 ht et ka;refine hK _ _ (st ?_);dsimp only[wS,wE,wA,wV,wG];refine jc et ?_;rw[JO];refine bu (d:=d) G.pick (hf.ka ka) (by omega) (by omega) λv S2 v0 v1 f2 k2=>?_
  have e2:=k2.get _ _ (by have:=hf.lt; omega) et
  obtain⟨b,hb,eb⟩:=l8 (f:=λb:JM J5=>W.tup (af b)) (xs:=mf n) (i:=v.toNat) (by omega)
  exact gC e2 v0 eb (k b S2 (hg b hb).1 (hg b hb).2 f2 ((ka.kp r).trans k2))
 clear hK g0 g3 hg;rcases(show n=1\/n=2\/n=3 by omega)with rfl|rfl|rfl
 ·exact eY (i:=0) aj rfl (fin _ _ (JZ _) (ap (ap (ap aj))) (Ka.push.trans (Ka.push.trans (Ka.push.trans .push))))
 ·exact eY (i:=1) aj rfl (fin _ _ (by simp) (ap (ap aj)) (Ka.push.trans (Ka.push.trans (Ka.push.trans .push))))
 ·exact eY (i:=2) aj rfl (fin _ _ (by simp only[J0]; omega) (ap aj) (Ka.push.trans (Ka.push.trans (Ka.push.trans .push))))
theorem oK (hfu:20 < fuel)(G:Gen defs){a:JW}{bs:JM J5}{x:W}{us:JM Wd}(hf:Fl S r)(ha:a<=3)(hb:bs.length<=3)(hx:∀S',Kp r S S'->eO S' x=ba (us.map aI))(h64:us.length < 64)(hne:∀u∈us,u≠[])
  (k:∀(ms ns:JM Kd) S',ms.length=a->ns.length=bs.length->GoodN ms ns->Fl S' r->Kp r S S'->Q (d8 ms ns bs (cV us),S')) :
  wO (bF (aq defs fuel (d+5)) "_law_rule_of" 4 [.ref r,.int a,.tup (af bs),x] S) Q:=by
 refine aC G.rule_of rfl rfl λQ' hR=>?_
 replace k:∀(ms ns:JM Kd) S',ms.length=a->ns.length=bs.length->GoodN ms ns->Fl S' r->Kp r S S'->Q' (.rt (d8 ms ns bs (cV us)),S'):=λz y S' a b c e f=>hR _ _ (k z y S' a b c e f)
 clear hR;show wZ _ _ dP [ba (.ref r),ba (.int a),ba (.tup (af bs)),ba x,gV,gV] S Q';have hbl:(af bs).length=bs.length:=JO ..;dsimp only[dP];refine bw λK hK=>?_
 dsimp only[wS,wE,wA,wV,wG,J4];refine bS ?_;rw[hbl];dsimp only[dk,bE];refine CD (d:=d) (m:=a+bs.length) hfu G hf (by omega) λys S1 q2 q3 q4 f1 k1=>hK _ _ ?_
 clear hK K;have hzl:(Km bQ (ys.drop a) bs).length=bs.length:=by
  rw[MK,Na]; omega
 refine bw λK hK=>?_
 dsimp only[wS,wE,wA,J4];refine fw (bs.length:J5) (λk zs ρ2 S2=>(∃a1,ρ2=[gV,a1,ba (.tup (af bs)),ba (.int a),ba (.tup (ys.map W.str))])/\zs=((Km bQ (ys.drop a) bs).take k)/\S2=S1) rfl rfl rfl (by omega) ?_ ?_ ?_
 ·dsimp only[wE,wA,wV,wG];refine bS ?_;rw[hbl];exact⟨rfl,⟨gV,rfl⟩,rfl,rfl⟩
 ·rintro i zs ρ2 S2 hi ⟨⟨a1,rfl⟩,rfl,rfl⟩;clear hK;have hi':i < bs.length:=by exact LL.mp ‹_›
  have h1:a+i < ys.length:=by omega
  dsimp only[kB,wC,wE,wA,wV,wG,J4,dk,bE];refine⟨λ_=>am (by omega) (w:=.str ys[a+i]) ?_ (am (by omega) (w:=.int bs[i]) ?_ ⟨⟨_,rfl⟩,?_,rfl⟩),λz=>by cases z⟩
  ·rw[show((a:J5)+(i:J5)).toNat=a+i by omega,JY,J6 h1]; rfl
  ·unfold af;rw[Kh,JY,J6 hi']; rfl
  ·have ez:(Km bQ (ys.drop a) bs)[i]?=ba (bQ ys[a+i] bs[i]):=pR (by rw[List.getElem?_drop]; exact J6 h1) (J6 hi')
   rw[KD,ez];rfl
 ·rintro zs ρ2 S2 ⟨_,rfl,rfl⟩;rw[Kh,<- hzl,KY];refine⟨lp (by omega),fD aj (hK _ _ ?_)⟩
  clear hK K;refine st ?_;dsimp only[wS,wE,wA,wP,wV,wG,wN];have hs:sU (.tup (ys.map W.str)) gV (ba (a:J5)) (S2++[O.lst (Km bQ (ys.drop a) bs)])=ba (.tup ((ys.take a).map W.str),S2++[O.lst (Km bQ (ys.drop a) bs)]):=by
   simp only[sU,gD];rw[NV]
  refine ae hs (zZ (hx _ (k1.trans .push)) h64 hne (fD aj ?_));refine k (ys.take a) (ys.drop a) _ ?_ ?_ ⟨?_,?_⟩ ((f1.ka .push).ka .push) (k1.trans (Kp.push.trans .push))
  ·rw[KA]; omega
  ·rw[Na]; omega
  ·rw[Pw]; exact q3
  ·rw[Pw]; exact q4
theorem gh (hfu:20 < fuel)(G:Gen defs){a:JW}{bs:JM J5}(hf:Fl S r)(ha:a<=3)(hb:bs.length<=3)
  (k:∀(ms ns:JM Kd) S',ms.length=a->ns.length=bs.length->GoodN ms ns->Fl S' r->Kp r S S'->Q (d8 ms ns bs [],S')) :
  wO (bF (aq defs fuel (d+5)) "_law_rule_of" 4 [.ref r,.int a,.tup (af bs),.tup []] S) Q:=
 oK hfu G hf ha hb (us:=[]) (λ_ _=>rfl) (by decide) (λ_ h=>nomatch h) k
theorem draws {Φ:Kd->FF}{ρ:Fm}{elt e:E}{cap:JM (JU JW)}{n i:JW}{R:Fm}(oe:eF elt=true)(oi:eF e=true)(h1:i<=1000)(hc:fX cap ρ=gV::gV::R)(hf:Fl S r)(he:∀Q:QW,Q (.int i,S)->wE Φ e ρ S Q)
  (hp:∀(a:JU W) (S1:aa) (Q:QW),Fl S1 r->(∀v S',0<=v->v < (n:J5)->Fl S' r->Kp r S1 S'->Q (.int v,S'))->wE Φ elt (gV::a::R) S1 Q)
  (k:∀(vs:JM J5) S',vs.length=i->(∀w∈vs,0<=w/\w < (n:J5))->Fl S' r->Kp r S S'->Q (.ref S'.length,S'++[.lst (af vs)])) :
  Wp (aH Φ (.comp elt (.nm 1) (.rng (.cons e .nil)) .nil cap) ρ S) Q:=by
 refine fw (i:J5) (λj ys ρ2 S3=>(∃a1,ρ2=gV::a1::R)/\(∃vs:JM J5,ys=af vs/\vs.length=j/\∀w∈vs,0<=w/\w < (n:J5))/\Fl S3 r/\Kp r S S3) oi oe rfl (by omega) (he _ ⟨rfl,⟨gV,hc⟩,⟨[],rfl,rfl,λ_ h=>nomatch h⟩,hf,.refl⟩) ?_ ?_
 ·rintro j ys ρ2 S3 hj ⟨⟨a1,rfl⟩,⟨vs,rfl,hvl,hv⟩,f3,k3⟩;refine⟨λ_=>hp _ _ _ f3 λv S4 v0 v1 f4 k4=>⟨⟨_,rfl⟩,⟨vs++[v],(KN (l₁:=vs) (l₂:=[v])).symm,by rw[J0,hvl]; rfl,λw hw=>?_⟩,f4,k3.trans k4⟩,λz=>by cases z⟩
  rcases KF.mp hw with h|h
  ·exact hv w h
  ·rw[J8.mp h]; exact⟨v0,v1⟩
 ·rintro ys ρ2 S3 ⟨_,⟨vs,rfl,hvl,hv⟩,f3,k3⟩;rw[Kh]at hvl;exact⟨lp (by rw[show(af vs).length=vs.length from JO ..]; omega),k vs S3 hvl hv f3 k3⟩
theorem je (G:Gen defs){a n:JW}(hf:Fl S r)(ha:0 < a)(ha3:a<=3)(hn:0 < n)(hn3:n<=3)(k:∀(u:Wd) S',u.length=3->GoodW a n u->Fl S' r->Kp r S S'->Q (aI u,S')) :
  wO (bF (aq defs fuel (d+2)) "_law_free_three" 3 [.ref r,.int a,.int n] S) Q:=by
 refine aC G.free_three rfl rfl λQ' hR=>?_
 replace k:∀(u:Wd) S',u.length=3->GoodW a n u->Fl S' r->Kp r S S'->Q' (.rt (aI u),S'):=λz S' a b c e=>hR _ _ (k z S' a b c e)
 clear hR;show wZ _ _ cQ [ba (.ref r),ba (.int a),ba (.int n),gV,gV] S Q';dsimp only[cQ];have hrt:=hf.lt;refine st ?_;dsimp only[wS,wE,wA,J4];refine bw λK hK=>?_
 refine cm 3 (λk ρ S'=>∃a4 u,ρ=[ba (.ref r),ba (.int a),ba (.int n),ba (.ref S.length),a4]/\S'[S.length]?=ba (.lst (u.map dZ))/\u.length=k/\GoodW a n u/\Fl S' r/\Kp r S S') rfl rfl (by decide) ⟨rfl,gV,[],rfl,aj,rfl,.nil,hf.ka .push,.push⟩ ?_ ?_
 ·rintro i ρ S1 hi ⟨a4,u,rfl,e1,hul,hu,f1,k1⟩ Q2 hn' _;clear hK;refine st ?_;dsimp only[wS,wE,wA,wV,wG,J4];refine⟨dL e1,bu (d:=d) G.pick f1 (by omega) (by omega) λv S2 v0 v1 f2 k2=>?_⟩
  have e2:=k2.get _ _ (KC ‹_›) e1;refine draws (n:=n) (i:=i) (R:=[ba (.ref r),ba (.int n)]) rfl rfl (by omega) rfl f2 (λQ q=>q) (λa S1 Q f q=>bu (d:=d) G.pick f (by omega) (by omega) q) λvs S3 hvl hv f3 k3=>?_
  have e3:=ap (u:=O.lst (af vs)) (k3.get _ _ (KC ‹_›) e2);refine fD aj (l4 e3 (by rw[JO]; omega) (cq (hn' _ _ ⟨_,u++[(v,vs)],rfl,?_,by rw[J0,hul]; rfl,hu.snoc ⟨v0,v1⟩ (hvl.trans hul.symm) hv,(f3.ka .push).own hrt,(k1.trans (k2.trans (k3.trans .push))).late (JZ _)⟩)))
  rw[bW e3,KN]; rfl
 ·rintro ρ S1 ⟨a4,u,rfl,e1,hul,hu,f1,k1⟩;refine hK _ _ (st ?_);dsimp only[wS,wE,wA,wV,wG];exact fD e1 (k u _ hul hu f1 k1)
theorem rV (G:Gen defs)(hg:Is defs ("_law_any_world" : Kd) 3 6 cv){a:JW}{bs:JM J5}{ms ns:JM Kd}{b0:W}{many:JW}(hf:Fl S r)(ha:0 < a)(ha3:a<=3)(hb:GoodB bs)(hml:ms.length=a)(hnl:ns.length=bs.length)(hm:many<=999)(k:∀(u:Wd) S',u.length=many->GoodW a bs.length u->Fl S' r->Kp r S S'->Q (aI u,S')) :
  wO (bF (aq defs fuel (d+2)) "_law_any_world" 3 [.ref r,.tup [.tup (ms.map W.str),.tup (Km bQ ns bs),b0],.int many] S) Q:=by
 refine aC hg rfl rfl λQ' hR=>?_
 replace k:∀(u:Wd) S',u.length=many->GoodW a bs.length u->Fl S' r->Kp r S S'->Q' (.rt (aI u),S'):=λz S' a b c e=>hR _ _ (k z S' a b c e)
 clear hR;have hb1:1<=bs.length/\bs.length<=3:=by rcases hb with rfl|rfl|rfl|rfl|rfl|rfl <;> decide
 have hzl:(Km bQ ns bs).length=bs.length:=by rw[MK]; omega
 have hmm:(ms.map W.str).length=a:=by rw[JO,hml]
 generalize ms.map W.str=M at hmm;generalize Km bQ ns bs=N at hzl;show wZ _ _ cv [ba (.ref r),ba (.tup [.tup M,.tup N,b0]),ba (.int many),gV,gV,gV] S Q';dsimp only[cv];have hrt:=hf.lt;refine st ?_;dsimp only[wS,wE,wA,J4];refine bw λK hK=>?_
 refine cm (many:J5) (λk ρ S'=>∃a4 a5 u,ρ=[ba (.ref r),ba (.tup [.tup M,.tup N,b0]),ba (.int many),ba (.ref S.length),a4,a5]/\S'[S.length]?=ba (.lst (u.map dZ))/\u.length=k/\GoodW a bs.length u/\Fl S' r/\Kp r S S') rfl rfl (by omega) ⟨rfl,gV,gV,[],rfl,aj,rfl,.nil,hf.ka .push,.push⟩ ?_ ?_
 ·rintro i ρ S1 hi ⟨a4,a5,u,rfl,e1,hul,hu,f1,k1⟩ Q2 hn' _;clear hK;refine st ?_;dsimp only[wS,wE,wA,wV,wG,J4];refine am (by decide) rfl (bS ?_)
  rw[hmm];refine bu (d:=d) G.pick f1 (by omega) (by omega) λv S2 v0 v1 f2 k2=>?_
  have e2:=k2.get _ _ (KC ‹_›) e1;refine st ?_;dsimp only[wS,wE,wA,wV,wG,J4];refine⟨dL e2,draws (n:=bs.length) (i:=i) (R:=[ba (.ref r),ba (.tup [.tup M,.tup N,b0])]) rfl rfl (by omega) rfl f2 (λQ q=>q) (λa S1 Q f q=>?_) λvs S3 hvl hv f3 k3=>?_⟩
  ·dsimp only[wE,wA,wV,wG];refine am (by decide) rfl (bS ?_)
   rw[hzl];exact bu (d:=d) G.pick f (by omega) (by omega) q
  have e3:=ap (u:=O.lst (af vs)) (k3.get _ _ (KC ‹_›) e2);refine fD aj (l4 e3 (by rw[JO]; omega) (cq (hn' _ _ ⟨_,_,u++[(v,vs)],rfl,?_,by rw[J0,hul]; rfl,hu.snoc ⟨v0,v1⟩ (hvl.trans hul.symm) hv,(f3.ka .push).own hrt,(k1.trans (k2.trans (k3.trans .push))).late (JZ _)⟩)))
  rw[bW e3,KN]; rfl
 ·rintro ρ S1 ⟨a4,a5,u,rfl,e1,hul,hu,f1,k1⟩;refine hK _ _ (st ?_);dsimp only[wS,wE,wA,wV,wG];exact fD e1 (k u _ (by omega) hu f1 k1)
end
noncomputable def mh (n:JW):JM J5:=(Ky n).map λ(k:JW)=>(k:J5)
noncomputable def rW (a n:JW):JM Wd:=(mh a).flatMap λm0=>(mh a).flatMap λm1=>(mh a).flatMap λm2=>(mh n).flatMap λw1=>(mh n).flatMap λw2=>(mh n).map λw3=>[(m0,[]),(m1,[w1]),(m2,[w2,w3])]
noncomputable def bq (a:JW)(bs:JM J5):JM Wd:=((rW a bs.length).map (jM bs)).eraseDups
theorem dA {n:JW}{x:J5}(h0:0<=x)(h1:x < n):x∈mh n:=Kl.mpr ⟨x.toNat,KP.mpr (by omega),by omega⟩
theorem w8 {a n:JW}{u:Wd}(h:GoodW a n u)(h3:u.length=3):u∈rW a n:=by
 match u,h3 with
 | [(m0,w0),(m1,w1),(m2,w2)],_=>
  have l0:=h.len 0 _ rfl;have l1:=h.len 1 _ rfl;have l2:=h.len 2 _ rfl;simp only at l0 l1 l2
  match w0,l0 with
  | [],_=>
   match w1,l1 with
   | [x],_=>
    match w2,l2 with
    | [y,z],_=>
     have a0:=h.mark 0 _ rfl;have a1:=h.mark 1 _ rfl;have a2:=h.mark 2 _ rfl;have b1:=h.way 1 _ rfl x (by simp)
     have b2:=h.way 2 _ rfl y (by simp)
     have b3:=h.way 2 _ rfl z (by simp)
     unfold rW;simp only[MR,Kl];exact⟨m0,dA a0.1 a0.2,m1,dA a1.1 a1.2,m2,dA a2.1 a2.2,x,dA b1.1 b1.2,y,dA b2.1 b2.2,z,dA b3.1 b3.2,rfl⟩
theorem vz {a:JW}{bs:JM J5}{u:Wd}(h:GoodW a bs.length u)(h3:u.length=3):jM bs u∈bq a bs:=by
 unfold bq;rw[Oy];exact Kl.mpr ⟨u,w8 h h3,rfl⟩
structure SizeOk (a:JW)(bs:JM J5):Prop where
 pos:0 < a
 good:GoodB bs
 most:a*bs.length<=6
 a3:a<=3
theorem SizeOk.n3 {a:JW}{bs:JM J5}(h:SizeOk a bs):0 < bs.length/\bs.length<=3:=by
 rcases h.good with rfl|rfl|rfl|rfl|rfl|rfl <;> decide
theorem IX:(bq 1 [0]).length < 64/\(bq 2 [0]).length < 64/\(bq 3 [0]).length < 64:=by decide +kernel
theorem HI:(bq 1 [0,1]).length < 64/\(bq 2 [0,1]).length < 64/\(bq 1 [1,0]).length < 64/\(bq 2 [1,0]).length < 64:=by decide +kernel
theorem IY:(bq 1 [0,1,2]).length < 64/\(bq 1 [1,0,2]).length < 64/\(bq 1 [0,2,1]).length < 64:=by decide +kernel
theorem IZ:(bq 3 [0,1]).length < 64:=by decide +kernel
theorem Ja:(bq 3 [1,0]).length < 64:=by decide +kernel
theorem Jb:(bq 2 [0,1,2]).length < 64:=by decide +kernel
theorem Jc:(bq 2 [1,0,2]).length < 64:=by decide +kernel
theorem Jd:(bq 2 [0,2,1]).length < 64:=by decide +kernel
theorem lr {a:JW}{bs:JM J5}(h:SizeOk a bs):(bq a bs).length < 64:=by
 obtain⟨h0,hb,hm,h3⟩:=h;have ha:a=1\/a=2\/a=3:=by omega
 rcases hb with rfl|rfl|rfl|rfl|rfl|rfl <;> rcases ha with rfl|rfl|rfl
 ·exact IX.1
 ·exact IX.2.1
 ·exact IX.2.2
 ·exact HI.1
 ·exact HI.2.1
 ·exact IZ
 ·exact HI.2.2.1
 ·exact HI.2.2.2
 ·exact Ja
 ·exact IY.1
 ·exact Jb
 ·simp at hm
 ·exact IY.2.1
 ·exact Jc
 ·simp at hm
 ·exact IY.2.2
 ·exact Jd
 ·simp at hm
theorem Ad (bs:JM J5)(u:Wd):∃t∈au,jM bs u=bp bs u t:=by
 have h7:(au.map (bp bs u)).length=6:=by rw[JO]; rfl
 have h8:((au.map (bp bs u)).map cH).length=6:=by rw[JO,h7]
 have hlt:pi ((au.map (bp bs u)).map cH) < (au.map (bp bs u)).length:=by
  unfold pi;have h6:=gf (qX ((au.map (bp bs u)).map cH)) (((au.map (bp bs u)).map cH).length - 1);rw[h7]; exact Mr ‹_› (Kc rfl)
 unfold jM;rw[getD_some (J6 hlt)];obtain⟨t,ht,e⟩:=Kl.mp (K7 hlt);exact⟨t,ht,e.symm⟩
theorem CG (bs:JM J5)(u:Wd):jM bs u≠[]:=by
 obtain⟨t,ht,e⟩:=Ad bs u;rw[e];have:∀t∈au,t≠[]:=by decide
 have h:=this t ht;intro z;have hl:(bp bs u t).length=t.length:=by simp[bp]
 rw[z]at hl;exact h (Mh.mp hl.symm)
theorem rX:∀ {xs ys:JM J5},xs.map T.int=ys.map T.int->xs=ys
 | [],[],_=>rfl
 | [],_::_,h=>by cases h
 | _::_,[],h=>by cases h
 | x::xs,y::ys,h=>by
  rw[Lp,Lp]at h;injection h with h1 h2
  injection h1 with h1
  rw[h1,rX h2]
theorem vA {p q:Pt}(h:nj p=nj q):p=q:=by
 unfold nj at h;injection h with h
 injection h with h1 h2
 injection h1 with h1
 injection h2 with h2 _
 injection h2 with h2
 exact To h1 (rX h2)
theorem pU {u v:Wd}(h:cH u=cH v):u=v:=by
 unfold cH at h;injection h with h
 have inj:∀ {u v:Wd},u.map nj=v.map nj->u=v:=by
  intro u
  induction u with
  | nil=>intro v h; cases v with
   | nil=>rfl
   | cons _ _=>cases h
  | cons p u ih=>intro v h; cases v with
   | nil=>cases h
   | cons q v=>
    rw[Lp,Lp]at h;injection h with h1 h2
    rw[vA h1,ih h2]
 exact inj h
theorem jN {kvs:JM (T×W)}{k:T}{v:W}:(fm kvs k v).map (·.1)=if k∈kvs.map (·.1)then kvs.map (·.1)else kvs.map (·.1)++[k]:=by
 have hany:(kvs.any λp=>decide (p.1=k))=decide (k∈kvs.map (·.1)):=by
  induction kvs with
  | nil=>rfl
  | cons p kvs ih=>
   rw[Mm,ih,Lp]
   by_cases e:p.1=k
   ·subst e; simp
   ·rw[Kz e,OR];have:(k∈p.1::kvs.map (·.1))=(k∈kvs.map (·.1)):=by simp[Ne.symm e]
    simp only[this]
 unfold fm;rw[hany]
 by_cases h:k∈kvs.map (·.1)
 ·rw[Ko h,Ko (LX h),MB];refine MJ λp _=>?_
  show(if p.1=k then(p.1,v)else p).1=p.1
  split <;> rfl
 ·rw[Kw h,Kw (by simpa using h),KN]
  rfl
structure FigD (L:JM Wd)(kvs:JM (T×W))(fs:JM Wd):Prop where
 keys:kvs.map (·.1)=fs.map cH
 nd:fs.Nodup
 mem:∀f∈fs,f∈L
theorem FigD.nil {L:JM Wd}:FigD L [] []:=⟨rfl,PJ,λ_ h=>nomatch h⟩
theorem FigD.len {L:JM Wd}{kvs:JM (T×W)}{fs:JM Wd}(h:FigD L kvs fs):kvs.length=fs.length/\fs.length<=L.length:=by
 have:=congrArg Sq h.keys;rw[JO,JO]at this;exact⟨this,l9 fs L h.nd h.mem⟩
theorem FigD.put {L:JM Wd}{kvs:JM (T×W)}{fs:JM Wd}{f:Wd}{v:W}(h:FigD L kvs fs)(hf:f∈L):∃fs',FigD L (fm kvs (cH f) v) fs':=by
 by_cases hm:f∈fs
 ·refine⟨fs,?_,h.nd,h.mem⟩;rw[jN,Ko (by rw[h.keys]; exact Kl.mpr ⟨f,hm,rfl⟩),h.keys]
 ·refine⟨fs++[f],?_,?_,λg hg=>?_⟩
  ·rw[jN,Kw,h.keys,KN]
   ·rfl
   ·rw[h.keys];intro z;obtain⟨g,hg,e⟩:=Kl.mp z;exact hm (pU e ▸ hg)
  ·rw[QJ];refine⟨h.nd,by simp,λa ha b hb e=>?_⟩
   rw[J8.mp hb]at e;exact hm (e ▸ ha)
  ·rcases KF.mp hg with h'|h'
   ·exact h.mem g h'
   ·rw[J8.mp h']; exact hf
theorem FigD.items {S:aa}{t:JW}{L:JM Wd}{kvs:JM (T×W)}{fs:JM Wd}(h:FigD L kvs fs)(e:S[t]?=ba (.dic kvs)):eO S (.ref t)=ba (fs.map aI):=by
 simp only[eO,pM e,cO e,KR];congr 1;have:(kvs.map (·.1)).map T.w=(fs.map cH).map T.w:=by rw[h.keys]
 rw[MB,MB]at this
 calc kvs.map (λp=>p.1.w)=kvs.map (T.w∘λx=>x.1):=rfl
  _=fs.map (T.w∘cH):=this
  _=fs.map aI:=by
   refine MJ λf _=>?_
   exact zR f
theorem rY {a:JW}{bs:JM J5}{f:Wd}(h:f∈bq a bs):f≠[]:=by
 unfold bq at h;rw[Oy]at h;obtain⟨u,_,rfl⟩:=Kl.mp h;exact CG bs u
theorem Ae {S:aa}{t:JW}{kvs:JM (T×W)}{u:Wd}{v:W}(h:S[t]?=ba (.dic kvs))(hl:kvs.length < sizeLine):iZ (.ref t) (aI u) v S=ba (S.set t (.dic (fm kvs (cH u) v))):=by
 have hk:=pP u;unfold aI at hk ⊢;simp only[iZ,pf,h,hk];rw[Ko hl]
structure RuleAt (a:JW)(bs:JM J5)(ms ns:JM Kd)(gs:JM Wd):Prop where
 size:SizeOk a bs
 ml:ms.length=a
 nl:ns.length=bs.length
 nm:GoodN ms ns
 nd:gs.Nodup
 mem:∀g∈gs,g∈bq a bs
noncomputable def eZ (w:W):Prop:=∃a bs ms ns gs,w=d8 ms ns bs (cV gs)/\RuleAt a bs ms ns gs
section
variable{Φ:Kd->FF}{fuel:JW}{ρ:Fm}{S:aa}{K:Fm->aa->Prop}{Q:QO}
theorem jf {i0:JW}{e:E}{b:Ss}(oe:eF e=true)(ok:g9 b=true)(he:wE Φ e ρ S λp=>∃(j:J5) (I:JW->Fm->aa->Prop),p.1=.int j/\(-(2 ^ 62)<=j/\j < 2 ^ 62)/\I 0 ρ p.2/\
  (∀(i:JW) (ρ:Fm) (S:aa),(i:J5) < j->I i ρ S->xA Φ fuel b (ρ.set i0 (ba (.int i))) S (I (i+1)) Q)/\∀ρ S,I j.toNat ρ S->K ρ S):Wp (gx Φ fuel (.loop (.nm i0) (.rng (.cons e .nil)) b) ρ S) (sH K Q):=by
 obtain⟨w,S1,e1,j,I,rfl,hj,h0,hs,hend⟩:=cJ oe he;have hl:(dE 0 j.toNat).length=j.toNat:=by simp[dE]
 refine iF (mi:=.its (dE 0 j.toNat)) (S1:=S1) (xs:=dE 0 j.toNat) I ok ?_ (λ_ _ _ _=>rfl) rfl h0 (λi w ρ S hw hI=>?_) λρ S hI=>hend ρ S (hl ▸ hI)
 ·simp only[ll,dI,eQ,jC,tM,e1];rw[Ko hj]
 ·rw[eS]at hw;split at hw
  ·rename_i hk;cases hw;rw[Od];exact hs i ρ S (by omega) hI
  ·cases hw
theorem jg {tg:Tg}{e:E}{b:Ss}(oe:eF e=true)(ok:g9 b=true)(he:wE Φ e ρ S λp=>∃(t:JW) (xs:JM W) (I:JW->Fm->aa->Prop),p.1=.ref t/\I 0 ρ p.2/\(∀i ρ S,I i ρ S->S[t]?=ba (.lst xs))/\
  (∀(i:JW) (w:W) (ρ:Fm) (S:aa),xs[i]?=ba w->I i ρ S->wO (gm tg w ρ S) λq=>xA Φ fuel b q.1 q.2 (I (i+1)) Q)/\∀ρ S,I xs.length ρ S->K ρ S):Wp (gx Φ fuel (.loop tg (.seq e) b) ρ S) (sH K Q):=by
 obtain⟨w,S1,e1,t,xs,I,rfl,h0,hat,hs,hend⟩:=cJ oe he;exact iF (mi:=.live t) (S1:=S1) I ok (by simp only[ll,fK,e1,aM (hat _ _ _ h0)]) (λi ρ S h=>by simp only[MI.at,aM (hat _ _ _ h)]) (by simp only[MI.len,aM (hat _ _ _ h0),KR]) h0 hs hend
end
section
variable{defs:JM (Kd×Df)}{fuel d:JW}{S:aa}{r:JW}{Q:QW}
theorem Ag {q:JW}{a:JW}{bs:JM J5}{ms ns:JM Kd}{fs0:JM Wd}{kvs:JM (T×W)}{fs:JM Wd}(h3:S[q]?=ba (.dic kvs))(h4:FigD (bq a bs) kvs fs)(hs:SizeOk a bs)(hml:ms.length=a)(hnl:ns.length=bs.length)(hnm:GoodN ms ns)(k:∀w S',eZ w->Ka S S'->Q (w,S')) :
  wO (sG (d8 ms ns bs fs0) (.int 0) S) λp=>wO (sG (d8 ms ns bs fs0) (.int 1) p.2) λq'=>wO (Bi.sorted.fn [.ref q] q'.2) λs=>wO (Bi.tuple.fn [s.1] s.2) λz=>Q (.tup [p.1,q'.1,z.1],z.2):=by
 refine am (by decide) rfl (am (by decide) rfl ?_)
 have hl:=h4.len;exact zZ (h4.items h3) (by have:=lr hs; omega) (λf hf=>rY (h4.mem f hf)) (fD aj (k _ _ ⟨a,bs,ms,ns,fs,rfl,hs,hml,hnl,hnm,h4.nd,h4.mem⟩ .push))
theorem Ah {q:JW}{a:JW}{bs:JM J5}{u:Wd}{kvs:JM (T×W)}{fs:JM Wd}{Q:aa->Prop}(h3:S[q]?=ba (.dic kvs))(h4:FigD (bq a bs) kvs fs)(hs:SizeOk a bs)(hu:GoodW a bs.length u)(hu3:u.length=3)
  (k:∀o,(∃kvs fs,(S.set q o)[q]?=ba (.dic kvs)/\FigD (bq a bs) kvs fs)->Q (S.set q o)):wO (iZ (.ref q) (aI (jM bs u)) (.bl true) S) Q:=by
 have hl:=h4.len;have:=lr hs;obtain⟨fs',h5⟩:=h4.put (v:=.bl true) (vz hu hu3);exact ae (Ae h3 (by rw[KZ]; omega)) (k _ ⟨_,fs',bW h3,h5⟩)
theorem t4 (hfu:20 < fuel)(G:Gen defs)(hf:Fl S r)(k:∀w S',eZ w->Fl S' r->Kp r S S'->Q (w,S')):wO (bF (aq defs fuel (d+6)) "_law_any_rule" 1 [.ref r] S) Q:=by
 refine aC G.any_rule rfl rfl λQ' hR=>?_
 replace k:∀w S',eZ w->Fl S' r->Kp r S S'->Q' (.rt w,S'):=λz S' a b c=>hR _ _ (k z S' a b c)
 clear hR;show wZ _ _ dz [ba (.ref r),gV,gV,gV,gV,gV] S Q';dsimp only[dz];refine bw λK hK=>?_
 dsimp only[wS,wE,wA,wV,wG];refine pS (d:=d+3) G hf λa n S1 a1 a3 n1 n3 an f1 k1=>?_
 dsimp only[wU];refine ae (show eR [1,2] [.int a,.int n] [ba (.ref r),gV,gV,gV,gV,gV]=ba [ba (.ref r),ba (.int a),ba (.int n),gV,gV,gV]from rfl) (hK _ _ ?_)
 clear hK K;refine bw λK hK=>?_
 dsimp only[wS,wE,wA,wV,wG,J4];refine pT (d:=d+3) G f1 n1 n3 λbs S2 hb hbl f2 k2=>?_
 have hsz:SizeOk a bs:=⟨by omega,hb,by rw[hbl]; exact an,a3⟩
 refine gh (d:=d) hfu G f2 a3 (by omega) λms ns S3 hml hnl hnm f3 k3=>hK _ _ ?_
 clear hK K;have hrt:=f3.lt;replace k3:Kp r S S3:=k1.trans (k2.trans k3);clear k1 k2 f1 f2;refine st ?_;dsimp only[wS,wE,J4];refine bw λK hK=>?_
 refine jf rfl rfl ?_;dsimp only[wE,wA,wV,wG];refine bu (d:=d+4) G.pick (f3.ka .push) (by decide) (by decide) λv S4 v0 v9 f4 k4=>?_
 refine⟨v,λk ρ S'=>(∃a5,ρ=[ba (.ref r),ba (.int a),ba (.int n),ba (d8 ms ns bs []),ba (.ref S3.length),a5])/\(∃kvs fs,S'[S3.length]?=ba (.dic kvs)/\FigD (bq a bs) kvs fs)/\Fl S' r/\Kp r S S',rfl,by omega,⟨⟨gV,rfl⟩,⟨[],[],k4.get _ _ (KC ‹_›) aj,.nil⟩,f4,(k3.trans .push).trans k4⟩,?_,?_⟩
 ·rintro i ρ S5 hi ⟨⟨a5,rfl⟩,⟨kvs,fs,e5,hd⟩,f5,k5⟩ Q2 hn _;clear hK;refine st ?_;dsimp only[wS,wE,wA,wV,wG,J4];refine je (d:=d+3) G f5 (by omega) a3 (by omega) n3 λu S6 hu3 hu f6 k6=>?_
  have hu:GoodW a bs.length u:=hbl.symm ▸ hu;refine jd (d:=d+2) G hb hnl hu hu3 λS7 k7=>?_
  have e7:=k7.get _ _ (k6.get _ _ (KC ‹_›) e5);exact Ah e7 hd hsz hu hu3 λo ho=>cq (hn _ _ ⟨⟨_,rfl⟩,ho,(f6.ka k7).own hrt,((k5.trans k6).trans (k7.kp r)).late k3.len⟩)
 ·rintro ρ S5 ⟨⟨a5,rfl⟩,⟨kvs,fs,e5,hd⟩,f5,k5⟩;refine hK _ _ (st ?_);dsimp only[wS,wE,wA,wV,wG];exact Ag (Q:=λp=>Q' (.rt p.1,p.2)) e5 hd hsz hml hnl hnm λw S6 hw k6=>k w S6 hw (f5.ka k6) (k5.trans (k6.kp r))
end
noncomputable def pV (t:J5×J5×J5):W:=.tup [.int t.1,.int t.2.1,.int t.2.2]
noncomputable def rZ (a:JW)(t:J5×J5×J5):Prop:=(0<=t.1/\t.1 < a)/\(0<=t.2.1/\t.2.1 < a)/\(0<=t.2.2/\t.2.2 < a)
noncomputable def Ai (k:J5):Wd:=[(k,[]),(k,[0]),(k,[0,0])]
theorem Je:∀k∈mh 1,Ai k∈bq 1 [0]:=by decide +kernel
theorem Jf:∀k∈mh 2,Ai k∈bq 2 [0]:=by decide +kernel
theorem Jg:∀k∈mh 3,Ai k∈bq 3 [0]:=by decide +kernel
theorem CH {a:JW}{k:J5}(h0:1<=a)(h3:a<=3)(hk:0<=k)(hk2:k < a):Ai k∈bq a [0]:=by
 have ha:a=1\/a=2\/a=3:=by omega
 rcases ha with rfl|rfl|rfl
 ·exact Je k (dA hk hk2)
 ·exact Jf k (dA hk hk2)
 ·exact Jg k (dA hk hk2)
theorem CI {a b:J5}(h:Ai a=Ai b):a=b:=by
 unfold Ai at h;injection h with h1 h2
 injection h1
theorem pW:GoodB [0]:=.inl rfl
theorem Dv {S:aa}{i j:JW}{xs:JM W}(h1:S[i]?=ba (.lst xs))(h2:S[j]?=ba (.lst [])):cg .eq (.ref i) (.ref j) S=ba (.bl xs.isEmpty,S):=by
 show(qB S (19+1) (.ref i) (.ref j)).map _=_;simp only[qB,eu h1,eu h2];cases xs with
 | nil=>rfl
 | cons x xs=>rfl
theorem CJ {S:aa}{f:J5}{ws:JM J5}:∃b,cg .notin (.int f) (.tup (af ws)) S=ba (.bl b,S):=by
 have hf:(cr (.int f)&&(af ws).all cr)=true:=by
  simp only[cr,No,Kj];intro x hx;obtain⟨z,_,rfl⟩:=Kl.mp hx;rfl
 refine⟨!(af ws).any λz=>yi z (.int f),?_⟩
 show iP .notin (.int f) (.tup (af ws)) S=_;simp only[iP,El,BF,ft,hf,LH,KR]
section
variable{Φ:Kd->FF}{fuel:JW}{ρ:Fm}{S:aa}{K:Fm->aa->Prop}{Q:QO}
theorem gE {i0:JW}{a b:E}{bd:Ss}(i j:J5)(I:JW->Fm->aa->Prop)(oa:eF a=true)(ob:eF b=true)(ok:g9 bd=true)(hj : -(2 ^ 62)<=i/\i < 2 ^ 62/\-(2 ^ 62)<=j/\j < 2 ^ 62)(he:wE Φ a ρ S λp=>p.1=.int i/\wE Φ b ρ p.2 λq=>q.1=.int j/\I 0 ρ q.2)
  (hstep:∀(k:JW) (ρ:Fm) (S:aa),(k:J5) < j - i->I k ρ S->xA Φ fuel bd (ρ.set i0 (ba (.int (i+k)))) S (I (k+1)) Q) (hend:∀ρ S,I (j - i).toNat ρ S->K ρ S):Wp (gx Φ fuel (.loop (.nm i0) (.rng2 (.cons a (.cons b .nil))) bd) ρ S) (sH K Q):=by
 obtain⟨w,S1,e1,rfl,h1⟩:=cJ oa he;obtain⟨w,S2,e2,rfl,h0⟩:=cJ ob h1;have hl:(dE i (j - i).toNat).length=(j - i).toNat:=by simp[dE]
 refine iF (mi:=.its (dE i (j - i).toNat)) (S1:=S2) (xs:=dE i (j - i).toNat) I ok ?_ (λ_ _ _ _=>rfl) rfl h0 (λk w ρ S hw hI=>?_) λρ S hI=>hend ρ S (hl ▸ hI)
 ·simp only[ll,dI,eQ,jC,iRng2,e1,e2];rw[Ko hj]
 ·rw[eS]at hw;split at hw
  ·rename_i hk;cases hw;exact hstep k ρ S (by omega) hI
  ·cases hw
theorem Aj {elt a b:E}{i0:JW}{cs:Es}{cap:JM (JU JW)}{Q:QW}(i j:J5)(I:JW->JM W->Fm->aa->Prop)(oa:eF a=true)(ob:eF b=true)(oe:eF elt=true)(oc:qo cs=true)(hj : -(2 ^ 62)<=i/\i < 2 ^ 62/\-(2 ^ 62)<=j/\j < 2 ^ 62)(he:wE Φ a ρ S λp=>p.1=.int i/\wE Φ b ρ p.2 λq=>q.1=.int j/\I 0 [] (fX cap ρ) q.2)
  (hstep:∀(k:JW) (ys:JM W) (ρ:Fm) (S:aa),(k:J5) < j - i->I k ys ρ S->kB Φ elt cs (ρ.set i0 (ba (.int (i+k)))) S (λy=>I (k+1) (ys++[y])) (I (k+1) ys))
  (hend:∀ys ρ S,I (j - i).toNat ys ρ S->ys.length<=sizeLine/\Q (.ref S.length,S++[.lst ys])):Wp (aH Φ (.comp elt (.nm i0) (.rng2 (.cons a (.cons b .nil))) cs cap) ρ S) Q:=by
 obtain⟨w,S1,e1,rfl,h1⟩:=cJ oa he;obtain⟨w,S2,e2,rfl,h0⟩:=cJ ob h1;have hl:(dE i (j - i).toNat).length=(j - i).toNat:=by simp[dE]
 refine jI (mi:=.its (dE i (j - i).toNat)) (S1:=S2) (xs:=dE i (j - i).toNat) I oe oc ?_ (λ_ _ _ _ _=>rfl) rfl h0 (λk w ys ρ S hw hI=>?_) λys ρ S hI=>hend ys ρ S (hl ▸ hI)
 ·simp only[ll,dI,eQ,jC,iRng2,e1,e2];rw[Ko hj]
 ·rw[eS]at hw;split at hw
  ·rename_i hk;cases hw;exact hstep k ys ρ S (by omega) hI
  ·cases hw
end
section
variable{defs:JM (Kd×Df)}{fuel d:JW}{S:aa}{r:JW}{Q:QW}
theorem Ak (G:Gen defs){a:JW}(ha:a<=3)(k:∀(q:JW) (ts:JM (J5×J5×J5)) (S':aa),S'[q]?=ba (.lst (ts.map pV))->(∀t∈ts,rZ a t)->S.length<=q->Ka S S'->Q (.ref q,S')) :
  wO (bF (aq defs fuel (d+1)) "_law_rising" 1 [.int a] S) Q:=by
 refine aC G.rising rfl rfl λQ' hR=>?_
 replace k:∀(q:JW) (ts:JM (J5×J5×J5)) (S':aa),S'[q]?=ba (.lst (ts.map pV))->(∀t∈ts,rZ a t)->S.length<=q->Ka S S'->Q' (.rt (.ref q),S'):=λq ts S' a b c e=>hR _ _ (k q ts S' a b c e)
 clear hR;show wZ _ _ eB [ba (.int a),gV,gV,gV] S Q';dsimp only[eB];refine st ?_;dsimp only[wS,wE,wA,J4];refine bw λK hK=>?_
 refine cm (a:J5) (λi ρ S'=>∃(q:JW) (ts:JM (J5×J5×J5)) (a2 a3:JU W),ρ=[ba (.int a),ba (.ref q),a2,a3]/\S'[q]?=ba (.lst (ts.map pV))/\(∀t∈ts,rZ a t)/\S.length<=q/\ts.length<=9*i/\Ka S S') rfl rfl (by omega) ⟨rfl,_,[],_,_,rfl,aj,λ_ h=>(nomatch h),JZ _,LB _,.push⟩ ?_ ?_
 ·rintro i ρ S1 hi ⟨q,ts,a2,a3,rfl,e1,ht,hq,hl,k1⟩ Q2 hn _;clear hK k;refine bw λK hK=>?_
  refine gE (i:J5) (a:J5) (λj ρ S'=>∃(q:JW) (ts:JM (J5×J5×J5)) (a3:JU W),ρ=[ba (.int a),ba (.ref q),ba (.int i),a3]/\S'[q]?=ba (.lst (ts.map pV))/\(∀t∈ts,rZ a t)/\S.length<=q/\ts.length<=9*i+3*j/\Ka S S') rfl rfl rfl (by omega) ⟨rfl,rfl,q,ts,a3,rfl,e1,ht,hq,by omega,k1⟩ ?_ ?_
  ·rintro j ρ S2 hj ⟨q,ts,a3,rfl,e2,ht,hq,hl,k2⟩ Q3 hn3 _;clear hK hn;refine st ?_;dsimp only[wS,wE,wV,wG,J4];refine Aj ((i:J5)+j) (a:J5) (λm ys ρ2 S3=>(∃a1,ρ2=[gV,a1,ba (.int i),ba (.int ((i:J5)+j))])/\(∃us:JM (J5×J5×J5),ys=us.map pV/\us.length=m/\∀t∈us,rZ a t)/\S3=S2) rfl rfl rfl rfl (by omega) ⟨rfl,rfl,⟨gV,rfl⟩,⟨[],rfl,rfl,λ_ h=>nomatch h⟩,rfl⟩ ?_ ?_
   ·rintro m ys ρ2 S3 hm ⟨⟨a1,rfl⟩,⟨us,rfl,hul,hu⟩,rfl⟩;refine⟨λ_=>⟨⟨_,rfl⟩,⟨us++[((i:J5),(i:J5)+j,(i:J5)+j+m)],by rw[KN]; rfl,by rw[J0,hul]; rfl,λt h=>?_⟩,rfl⟩,λz=>by cases z⟩
    rcases KF.mp h with h|h
    ·exact hu t h
    ·rw[J8.mp h];exact⟨⟨by omega,by assumption⟩,⟨by dsimp only; omega,by dsimp only; omega⟩,⟨by dsimp only; omega,by dsimp only; omega⟩⟩
   ·rintro ys ρ2 S3 ⟨_,⟨us,rfl,hul,hu⟩,rfl⟩;refine⟨lp (by rw[JO]; omega),ae (zG (ap e2) aj ?_) (cq (hn3 _ _ ⟨_,ts++us,_,rfl,?_,λt h=>(KF.mp h).elim (ht t) (hu t),?_,?_,k2.trans (Ka.push.trans .push)⟩))⟩
    ·refine lp ?_;rw[J0,JO,JO];omega
    ·rw[KN]; exact aj
    ·have:=k2.len;simp only[J0]; omega
    ·rw[J0]; omega
  ·rintro ρ S2 ⟨q,ts,a3,rfl,e2,ht,hq,hl,k2⟩;exact hK _ _ (cq (hn _ _ ⟨q,ts,_,_,rfl,e2,ht,hq,by omega,k2⟩))
 ·rintro ρ S1 ⟨q,ts,a2,a3,rfl,e1,ht,hq,hl,k1⟩;refine hK _ _ (st ?_);exact k q ts S1 e1 ht hq k1
theorem w9 (hfu:20 < fuel)(G:Gen defs)(hf:Fl S r)(k:∀w S',eZ w->Fl S' r->Kp r S S'->Q (w,S')):wO (bF (aq defs fuel (d+6)) "_law_one_way_rule" 1 [.ref r] S) Q:=by
 refine aC G.one_way_rule rfl rfl λQ' hR=>?_
 replace k:∀w S',eZ w->Fl S' r->Kp r S S'->Q' (.rt w,S'):=λz S' a b c=>hR _ _ (k z S' a b c)
 clear hR;show wZ _ _ cp [ba (.ref r),gV,gV] S Q';dsimp only[cp];refine bw λK hK=>?_
 dsimp only[wS,wE,wA,wV,wG,J4];refine bu (d:=d+4) G.pick hf (by decide) (by decide) λv S1 v0 v3 f1 k1=>?_
 dsimp only[dk,bE];obtain⟨a,ea⟩ : ∃a:JW,1+v=a:=⟨(1+v).toNat,by omega⟩
 rw[ea];refine hK _ _ ?_;clear hK K;refine bw λK hK=>?_
 dsimp only[wS,wE,J4];refine fw (a:J5) (λk zs ρ2 S2=>(∃a1,ρ2=[gV,a1,ba (.ref r)])/\(∃ks:JM J5,zs=(ks.map Ai).map aI/\ks.Pairwise (·≠·)/\ks.length<=k/\∀x∈ks,0<=x/\x < k)/\Fl S2 r/\Kp r S1 S2) rfl rfl rfl (by omega) ⟨rfl,⟨gV,rfl⟩,⟨[],rfl,.nil,JZ _,λ_ h=>(nomatch h)⟩,f1,.refl⟩ ?_ ?_
 ·rintro i zs ρ2 S2 hi ⟨⟨a1,rfl⟩,⟨ks,rfl,hkp,hkl,hks⟩,f2,k2⟩;clear hK k;dsimp only[kB,wC,wT,wE,wA,wV,wG,J4];refine bu (d:=d+4) G.pick f2 (by decide) (by decide) λv S3 _ _ f3 k3=>?_
  dsimp only[kH,bE,wB];refine⟨λ_=>⟨⟨_,rfl⟩,⟨ks++[(i:J5)],by simp[Ai,aI,dZ],?_,by rw[J0]; exact NQ hkl,λx hx=>?_⟩,f3,k2.trans k3⟩,λ_=>⟨⟨_,rfl⟩,⟨ks,rfl,hkp,by exact Mf ‹_›,λx hx=>⟨(hks x hx).1,by have:=(hks x hx).2; omega⟩⟩,f3,k2.trans k3⟩⟩
  ·rw[List.pairwise_append];refine⟨hkp,by simp,λx hx y hy e=>?_⟩
   have:=(hks x hx).2;rw[J8.mp hy]at e;omega
  ·rcases KF.mp hx with h|h
   ·exact⟨(hks x h).1,by have:=(hks x h).2; omega⟩
   ·rw[J8.mp h]; omega
 ·rintro zs ρ2 S2 ⟨_,⟨ks,rfl,hkp,hkl,hks⟩,f2,k2⟩;rw[Kh]at hkl hks;refine⟨lp (by rw[JO,JO]; omega),hK _ _ (st ?_)⟩
  clear hK K;dsimp only[wS,wE,wA,wV,wG,J4];have hlt:=f2.lt;refine oK (d:=d) (a:=a) (bs:=[0]) (us:=ks.map Ai) hfu G (f2.ka .push) (by omega) (by decide) (λS' kk=>?_) (by rw[JO]; omega) (λu hu=>by obtain⟨x,_,rfl⟩:=Kl.mp hu; exact List.cons_ne_nil _ _) λms ns S3 hml hnl hnm f3 k3=>?_
  ·simp only[eO,aM (kk.get _ _ (KC ‹_›) aj)]
  refine k _ _ ⟨a,[0],ms,ns,ks.map Ai,rfl,⟨⟨by omega,pW,by simp; omega,by omega⟩,hml,hnl,hnm,?_,λg hg=>?_⟩⟩ f3 (k1.trans (k2.trans (Kp.push.trans k3)))
  ·unfold SU;rw[OM];exact hkp.imp λh e=>h (CI e)
  ·obtain⟨x,hx,rfl⟩:=Kl.mp hg;exact CH (by omega) (by omega) (hks x hx).1 (hks x hx).2
theorem r0 (hfu:20 < fuel)(G:Gen defs)(hf:Fl S r)(k:∀w S',eZ w->Fl S' r->Kp r S S'->Q (w,S')):wO (bF (aq defs fuel (d+6)) "_law_free_rule" 1 [.ref r] S) Q:=by
 refine aC G.free_rule rfl rfl λQ' hR=>?_
 replace k:∀w S',eZ w->Fl S' r->Kp r S S'->Q' (.rt w,S'):=λz S' a b c=>hR _ _ (k z S' a b c)
 clear hR;show wZ _ _ dc [ba (.ref r),gV,gV,gV,gV,gV,gV,gV,gV] S Q';dsimp only[dc];refine bw λK hK=>?_
 dsimp only[wS,wE,wA,wV,wG];refine pS (d:=d+3) G hf λa n S1 a1 a3 n1 n3 an f1 k1=>?_
 dsimp only[wU];refine ae (show eR [1,2] [.int a,.int n] [ba (.ref r),gV,gV,gV,gV,gV,gV,gV,gV]=ba [ba (.ref r),ba (.int a),ba (.int n),gV,gV,gV,gV,gV,gV]from rfl) (hK _ _ ?_)
 clear hK K;refine bw λK hK=>?_
 dsimp only[wS,wE,wA,wV,wG,J4];refine pT (d:=d+3) G f1 n1 n3 λbs S2 hb hbl f2 k2=>?_
 have hsz:SizeOk a bs:=⟨by omega,hb,by rw[hbl]; exact an,a3⟩
 refine gh (d:=d) hfu G f2 a3 (by omega) λms ns S3 hml hnl hnm f3 k3=>hK _ _ ?_
 clear hK K;have hrt:=f3.lt;replace k3:Kp r S S3:=k1.trans (k2.trans k3);clear k1 k2 f1 f2;refine bw λK hK=>?_
 dsimp only[wS,wE,J4];refine fw (n:J5) (λi zs ρ2 S2=>(∃a1,ρ2=[gV,a1,ba (d8 ms ns bs [])])/\(∃ks:JM J5,zs=af ks/\ks.length<=i)/\S2=S3) rfl rfl rfl (by omega) ⟨rfl,⟨gV,rfl⟩,⟨[],rfl,JZ _⟩,rfl⟩ ?_ ?_
 ·rintro i zs ρ2 S2 hi ⟨⟨a1,rfl⟩,⟨ks,rfl,hkl⟩,rfl⟩;clear hK k;have hi':i < bs.length:=by omega
  dsimp only[kB,wC,wT,wE,wA,wV,wG,J4];refine am (by decide) rfl (am (Kg i) (by rw[Kh]; exact pR (J6 (by omega)) (J6 hi')) (am (by decide) rfl ?_))
  dsimp only[kH,bE,wB];exact⟨λ_=>⟨⟨_,rfl⟩,⟨ks++[(i:J5)],by unfold af; rw[KN]; rfl,by rw[J0]; exact NQ hkl⟩,rfl⟩,λ_=>⟨⟨_,rfl⟩,⟨ks,rfl,by exact Mf ‹_›⟩,rfl⟩⟩
 ·rintro zs ρ2 S2 ⟨_,⟨ks,rfl,hkl⟩,rfl⟩;rw[Kh]at hkl;have il:(af ks).length=ks.length:=JO ..;refine⟨lp (by omega),hK _ _ ?_⟩
  clear hK K;refine bw λK hK=>?_
  dsimp only[wS,wT,wE,wA,wV,wG,J4];refine ae (Dv (ap aj) aj) ?_;dsimp only[wB];have f4:=(f3.ka (Ka.push (o:=O.lst (af ks)))).ka (Ka.push (o:=O.lst []));have k4:=k3.trans ((Kp.push (o:=O.lst (af ks))).trans (Kp.push (o:=O.lst [])));have e4:=ap (u:=O.lst []) (aj (S:=S2) (o:=O.lst (af ks)));have hl4:S2.length < (S2++[O.lst (af ks)]++[O.lst []]).length:=by simp
  generalize hS4:S2++[O.lst (af ks)]++[O.lst []]=S4 at f4 k4 e4 hl4;clear hS4;have ret:∀Q2:QO,(∀w S',Q' (.rt w,S')->Q2 (.rt w,S'))->wZ (aq defs fuel (d+5)) fuel (.cons (.ret (.v 3)) .nil) [ba (.ref r),ba (.int a),ba (.int n),ba (d8 ms ns bs []),gV,ba (.ref S2.length),gV,gV,gV] S4 Q2:=λQ2 hr=>st (hr _ _ (k _ _ ⟨a,bs,ms,ns,[],rfl,hsz,hml,hnl,hnm,.nil,λ_ h=>(nomatch h)⟩ f4 k4))
  refine⟨λ_=>aw (Q0:=Q') (λ_ Q2 _ hr=>ret Q2 hr) (λz=>by cases z),λhne=>?_⟩
  dsimp only[kH,bE,wB];refine aw (Q0:=Q') (λ_ Q2 _ hr=>ret Q2 hr) (λ_ Q2 hn _=>cq (hn _ _ (hK _ _ ?_)))
  clear hK ret hn;have hk0:0 < ks.length:=by
   cases ks with
   | nil=>cases hne
   | cons x ks=>exact Nat.succ_pos _
  refine bw λK hK=>?_
  dsimp only[wS,wE,wA,wV,wG,J4];refine jc e4 ?_;rw[il];refine bu (d:=d+4) G.pick f4 (by omega) (by omega) λv S5 v0 v1 f5 k5=>?_
  have e5:=k5.get _ _ (KC ‹_›) e4;obtain⟨x,_,ex⟩:=l8 (f:=W.int) (xs:=ks) (i:=v.toNat) (by omega)
  refine gC e5 v0 ex (hK _ _ ?_);clear hK K;replace k5:Kp r S S5:=k4.trans k5;have hrt5:=f5.lt;refine st ?_;dsimp only[wS,wE,J4];refine bw λK hK=>?_
  refine jf rfl rfl ?_;dsimp only[wE,wA,wV,wG];refine bu (d:=d+4) G.pick (f5.ka .push) (by decide) (by decide) λv S6 v0 v9 f6 k6=>?_
  refine⟨v,λ_ ρ S'=>(∃a4 a8,ρ=[ba (.ref r),ba (.int a),ba (.int n),ba (d8 ms ns bs []),a4,ba (.ref S2.length),ba (.int x),ba (.ref S5.length),a8])/\(∃kvs fs,S'[S5.length]?=ba (.dic kvs)/\FigD (bq a bs) kvs fs)/\Fl S' r/\Kp r S S',rfl,by omega,⟨⟨gV,gV,rfl⟩,⟨[],[],k6.get _ _ (KC ‹_›) aj,.nil⟩,f6,(k5.trans .push).trans k6⟩,?_,?_⟩
  ·rintro i ρ S7 hi ⟨⟨a4,a8,rfl⟩,⟨kvs,fs,e7,hd⟩,f7,k7⟩ Q2 hn _;clear hK k;refine st ?_;dsimp only[wS,wE,wA,wV,wG,J4];refine je (d:=d+3) G f7 (by omega) a3 (Kq ‹_› ‹_›) n3 λu S8 hu3 hu f8 k8=>?_
   have hu:GoodW a bs.length u:=hbl.symm ▸ hu;have e8:=k8.get _ _ (KC ‹_›) e7;obtain⟨p0,p1,p2,rfl⟩ : ∃p0 p1 p2,u=[p0,p1,p2]:=by
    match u,hu3 with
    | [p0,p1,p2],_=>exact⟨p0,p1,p2,rfl⟩
   have l1:=hu.len 1 p1 rfl;obtain⟨m1,ws1⟩:=p1;obtain⟨w1,rfl⟩ : ∃w1,ws1=[w1]:=by
    match ws1,l1 with
    | [w1],_=>exact⟨w1,rfl⟩
   obtain⟨b,hb2⟩:=CJ (S:=S8) (f:=x) (ws:=p2.2);have kk:=k7.trans k8;refine bw λK hK=>?_
   dsimp only[wS,wT,wE,wA,wV,wG];refine am (by decide) rfl (am (by decide) rfl (am (by decide) rfl ?_))
   dsimp only[IU,bE,wB];have skip:K [ba (.ref r),ba (.int a),ba (.int n),ba (d8 ms ns bs []),ba (.int i),ba (.ref S2.length),ba (.int x),ba (.ref S5.length),ba (aI [p0,(m1,[w1]),p2])] S8:=hK _ _ (cq (hn _ _ ⟨⟨_,_,rfl⟩,⟨kvs,fs,e8,hd⟩,f8,kk⟩));refine⟨λ_=>?_,λ_=>aw (Q0:=Q2) (λz=>by cases z) λ_ Q3 hn3 _=>cq (hn3 _ _ skip)⟩
   refine am (by decide) rfl (am (by decide) rfl (ae hb2 ?_))
   dsimp only[wB];refine aw (Q0:=Q2) (λ_ Q3 hn3 _=>?_) λ_ Q3 hn3 _=>cq (hn3 _ _ skip)
   clear skip;refine st ?_;dsimp only[wS,wE,wA,wV,wG];refine jd (d:=d+2) G hb hnl hu hu3 λS9 k9=>?_
   exact Ah (k9.get _ _ e8) hd hsz hu hu3 λo ho=>cq (hn3 _ _ (hK _ _ (cq (hn _ _ ⟨⟨_,_,rfl⟩,ho,(f8.ka k9).own hrt5,(kk.trans (k9.kp r)).late k5.len⟩))))
  ·rintro ρ S7 ⟨⟨a4,a8,rfl⟩,⟨kvs,fs,e7,hd⟩,f7,k7⟩;refine hK _ _ (st ?_);dsimp only[wS,wE,wA,wV,wG];exact Ag (Q:=λp=>Q' (.rt p.1,p.2)) e7 hd hsz hml hnl hnm λw S8 hw k8=>k w S8 hw (f7.ka k8) (k7.trans (k8.kp r))
end
noncomputable def ci (u v:J5):T:=.tup [.int u,.int v]
noncomputable def dX (u v:J5):W:=.tup [.int u,.int v]
theorem jh {u v:J5}:gZ (dX u v)=ba (ci u v):=rfl
theorem Al {kvs:JM (T×W)}{k:T}{v:W}{p:T×W}(h:p∈fm kvs k v):p∈kvs\/p=(k,v):=by
 unfold fm at h;split at h
 ·obtain⟨q,hq,rfl⟩:=Kl.mp h;split
  ·rename_i e; exact .inr (by rw[e])
  ·exact .inl hq
 ·rcases KF.mp h with h|h
  ·exact .inl h
  ·exact .inr (J8.mp h)
theorem mj {kvs:JM (T×W)}{k:T}{v:W}(h:cy kvs k=ba v):(k,v)∈kvs:=by
 unfold cy at h;rw[JR]at h;obtain⟨p,h1,rfl⟩:=h;have:=Pl h1;rw[<- K4 this];exact List.mem_of_find?_eq_some h1
theorem vB {kvs:JM (T×W)}{p:T×W}(h:p∈kvs):∃v,cy kvs p.1=ba v:=by
 unfold cy;cases e:kvs.find? λq=>decide (q.1=p.1)with
 | some q=>exact⟨q.2,rfl⟩
 | none=>exact absurd (List.find?_eq_none.mp e p h) (by simp)
noncomputable def MustE (S:aa)(n b:JW)(kvs:JM (T×W)):Prop:=∀p∈kvs,∃(u v:J5) (l:JW) (ws:JM J5),p=(ci u v,W.ref l)/\(0<=u/\u < n)/\(0<=v/\v < n)/\b<=l/\S[l]?=ba (.lst (af ws))/\ws.length<=3/\∀w∈ws,0<=w/\w < (n:J5)
theorem MustE.mono {S S':aa}{n b:JW}{kvs:JM (T×W)}(h:MustE S n b kvs)(k:∀(l:JW) (ws:JM J5),b<=l->S[l]?=ba (.lst (af ws))->S'[l]?=ba (.lst (af ws))):MustE S' n b kvs:=λp hp=>
 let ⟨u,v,l,ws,h1,h2,h3,h4,h5,h6⟩:=h p hp
 ⟨u,v,l,ws,h1,h2,h3,h4,k l ws h4 h5,h6⟩
theorem MustE.ka {S S':aa}{n b:JW}{kvs:JM (T×W)}(h:MustE S n b kvs)(k:Ka S S'):MustE S' n b kvs:=h.mono λl ws _ e=>k.get _ _ e
theorem MustE.kp {S S':aa}{n b r:JW}{kvs:JM (T×W)}(h:MustE S n b kvs)(hr:r < b)(k:Kp r S S'):MustE S' n b kvs:=h.mono λl ws hl e=>k.get _ _ (by omega) e
theorem MustE.set {S:aa}{n b t:JW}{kvs k:JM (T×W)}{o:O}(h:MustE S n b kvs)(ht:S[t]?=ba (.dic k)):MustE (S.set t o) n b kvs:=h.mono λl ws hl e=>by
 rw[ce (by rintro rfl; rw[ht]at e; cases e)]; exact e
theorem MustE.put {S:aa}{n b:JW}{kvs:JM (T×W)}{u v:J5}{l:JW}{ws:JM J5}(h:MustE S n b kvs)(h2:0<=u/\u < n)(h3:0<=v/\v < n)(h4:b<=l)(h5:S[l]?=ba (.lst (af ws)))(h6:ws.length<=3)(h7:∀w∈ws,0<=w/\w < (n:J5)):MustE S n b (fm kvs (ci u v) (.ref l)):=λp hp=>by
 rcases Al hp with hp|rfl
 ·exact h p hp
 ·exact⟨u,v,l,ws,rfl,h2,h3,h4,h5,h6,h7⟩
noncomputable abbrev CK:=J5×J5×JM J5
noncomputable def r4 (ws:JM J5):Es:=ws.foldr (λw es=>.cons (.c (.int w)) es) .nil
noncomputable def vC:JM CK->Es
 | []=>.nil
 | e::L=>.cons (.tup (.cons (.c (.int e.1)) (.cons (.c (.int e.2.1)) .nil))) (.cons (.lst (r4 e.2.2)) (vC L))
noncomputable def xf:JM CK->JW->JM W
 | [],_=>[]
 | e::L,s=>dX e.1 e.2.1::.ref s::xf L (s+1)
noncomputable def xg (L:JM CK):aa:=L.map λe=>O.lst (af e.2.2)
noncomputable def vD (n:JW)(e:CK):Kt:=decide ((0<=e.1/\e.1 < n)/\(0<=e.2.1/\e.2.1 < n)/\e.2.2.length<=3)&&e.2.2.all λw=>decide (0<=w/\w < (n:J5))
section
variable{Φ:Kd->FF}{ρ:Fm}
theorem t8 {S:aa}:∀ {ws:JM J5} {Q:JM W×aa->Prop},Q (af ws,S)->wA Φ (r4 ws) ρ S Q
 | [],Q,q=>by show wA Φ .nil ρ S Q; exact q
 | w::ws,Q,q=>by show wA Φ (.cons (.c (.int w)) (r4 ws)) ρ S Q; dsimp only[wA,wE]; exact t8 q
theorem Am:∀ {L:JM CK} {S:aa} {Q:JM W×aa->Prop},Q (xf L S.length,S++xg L)->wA Φ (vC L) ρ S Q
 | [],S,Q,q=>by
  show wA Φ .nil ρ S Q;dsimp only[wA]
  rwa [show S++xg []=S from LK S]at q
 | e::L,S,Q,q=>by
  show wA Φ (.cons (.tup (.cons (.c (.int e.1)) (.cons (.c (.int e.2.1)) .nil))) (.cons (.lst (r4 e.2.2)) (vC L))) ρ S Q;dsimp only[wA,wE];refine t8 (Am ?_);rw[J0,LW];exact q
end
theorem oM {S:aa}{n b:JW}:∀(L:JM CK) (s:JW) (kvs:JM (T×W)),MustE S n b kvs->b<=s->(∀e∈L,vD n e=true)->(∀i e,L[i]?=ba e->S[s+i]?=ba (.lst (af e.2.2)))->∃kvs',d0 kvs (xf L s)=ba kvs'/\MustE S n b kvs'/\kvs'.length<=kvs.length+L.length
 | [],s,kvs,hm,hb,hL,hS=>⟨kvs,by simp[xf,d0],hm,by simp⟩
 | e::L,s,kvs,hm,hb,hL,hS=>by
  have h1:=hL e (by simp)
  unfold vD at h1;rw[JV,Kj]at h1;obtain⟨h2,h3,h4⟩:=K4 h1.1;obtain⟨kvs',k1,k2,k3⟩:=oM L (s+1) (fm kvs (ci e.1 e.2.1) (.ref s)) (hm.put h2 h3 hb (by have:=hS 0 e rfl; simpa using this) h4 (λw hw=>K4 (h1.2 w hw))) (Mf ‹_›) (λx hx=>hL x (by simp[hx])) (λi x hx=>by have:=hS (i+1) x (by simpa using hx); rw[show s+1+i=s+(i+1) by omega]; exact this)
  refine⟨kvs',?_,k2,?_⟩
  ·simp only[xf,d0,jh]; exact k1
  ·have:=di kvs (ci e.1 e.2.1) (.ref s);rw[K5]; omega
noncomputable def KB:JM (JM J5):=[[1,0],[0,2,1],[0,1],[0,1,2]]
noncomputable def KindOk (S:aa)(b:JW)(w:W):Prop:=∃(bs:JM J5) (q:JW) (kvs:JM (T×W)) (most:J5),w=.tup [.tup (af bs),.ref q,.int most]/\bs∈KB/\1<=most/\most<=3/\most*bs.length<=6/\S[q]?=ba (.dic kvs)/\b<=q/\kvs.length<=4/\MustE S bs.length b kvs
theorem KindOk.mono {S S':aa}{b:JW}{w:W}(h:KindOk S b w)(k1:∀(l:JW) (ws:JM J5),b<=l->S[l]?=ba (.lst (af ws))->S'[l]?=ba (.lst (af ws)))(k2:∀(l:JW) (kvs:JM (T×W)),b<=l->S[l]?=ba (.dic kvs)->S'[l]?=ba (.dic kvs)):KindOk S' b w:=
 let ⟨bs,q,kvs,most,h1,h2,h3,h4,h5,h6,h7,h8,h9⟩:=h
 ⟨bs,q,kvs,most,h1,h2,h3,h4,h5,k2 _ _ h7 h6,h7,h8,h9.mono k1⟩
theorem KindOk.ka {S S':aa}{b:JW}{w:W}(h:KindOk S b w)(k:Ka S S'):KindOk S' b w:=h.mono (λl ws _ e=>k.get _ _ e) (λl ws _ e=>k.get _ _ e)
noncomputable def An (bs:JM J5)(L:JM CK)(most:J5):E:=.tup (.cons (.tup (r4 bs)) (.cons (.disp (vC L)) (.cons (.c (.int most)) .nil)))
section
variable{Φ:Kd->FF}{ρ:Fm}{S:aa}
theorem pX (bs:JM J5)(L:JM CK)(most:J5){b:JW}{Q:QW}(hb:b<=S.length)(h1:bs∈KB)(h2:1<=most/\most<=3/\most*bs.length<=6)(hL:∀e∈L,vD bs.length e=true)(h4:L.length<=4)(k:∀w S',KindOk S' b w->Ka S S'->Q (w,S')) :
  wE Φ (An bs L most) ρ S Q:=by
 unfold An;dsimp only[wE,wA];refine t8 (Am ?_);obtain⟨kvs,k1,k2,k3⟩:=oM (S:=S++[O.dic []]++xg L) (n:=bs.length) (b:=b) L (S.length+1) [] (λ_ h=>nomatch h) (Mf ‹_›) hL (λi e he=>by
  rw[LV (by simp),show S.length+1+i - (S++[O.dic []]).length=i by simp]
  simp[xg,he])
 have hat:(S++[O.dic []]++xg L)[S.length]?=ba (.dic []):=by
  rw[KT (by simp)]; exact aj
 refine⟨hat,ae (show d0 [] (xf L (S++[O.dic []]).length)=ba kvs by rw[J0]; exact k1) (k _ _ ⟨bs,S.length,kvs,most,rfl,h1,h2.1,h2.2.1,h2.2.2,bW hat,hb,?_,k2.set hat⟩ ⟨λj o h=>?_,by simp⟩)⟩
 ·simp only[L0]at k3; omega
 ·have:j < S.length:=cU h;show((S++[O.dic []]++xg L).set S.length (O.dic kvs))[j]?=ba o;rw[ce (KC ‹_›),KT (by simp; omega)]
  exact ap h
structure Menu (S0 S:aa)(r t m:JW):Prop where
 at_t:∃xs:JM W,S[t]?=ba (.lst xs)/\xs.length=m/\∀x∈xs,KindOk S S0.length x
 pos:0 < m
 lp:m<=9
 fl:Fl S r
 kp:Kp r S0 S
 lt:S0.length<=t
 rlt:r < S0.length
theorem r6 {S0 S S':aa}{r t m:JW}{w:W}(h:Menu S0 S r t m)(hw:KindOk S' S0.length w)(k:Ka S S')(hm:m < 9):∃xs,S'[t]?=ba (.lst xs)/\xs.length < sizeLine/\Menu S0 (S'.set t (.lst (xs++[w]))) r t (m+1):=by
 obtain⟨⟨xs,h1,h2,h3⟩,hp,hf,fl,kp,lt,rlt⟩:=h;have e:S'[t]?=ba (.lst xs):=k.get _ _ h1;have stay:∀x,KindOk S' S0.length x->KindOk (S'.set t (.lst (xs++[w]))) S0.length x:=λx hx=>hx.mono (λl ws hl el=>by
  by_cases hlt:t=l
  ·exfalso;subst hlt;rw[e]at el;injection el with el
   injection el with el
   match xs,h2,h3 with
   | [],h2,_=>simp at h2; omega
   | x::xs,_,h3=>
    obtain⟨bs,q,kvs,most,hx,_⟩:=h3 x (by simp)
    subst hx
    match ws with
    | []=>simp[af]at el
    | w::ws=>simp[af]at el
  ·rw[ce hlt]; exact el) (λl kvs hl el=>by
  rw[ce (by rintro rfl; rw[e]at el; cases el)]; exact el)
 refine⟨xs,e,(by rw[KZ]; omega),⟨xs++[w],bW e,by simp; assumption,λx hx=>?_⟩,by omega,by exact Qu ‹_›,(fl.ka k).own (Kq ‹_› ‹_›),(kp.trans (k.kp r)).late lt,lt,rlt⟩
 rcases KF.mp hx with hx|hx
 ·exact stay x ((h3 x hx).ka k)
 ·rw[J8.mp hx]; exact stay w hw
theorem r8 (bs:JM J5)(L:JM CK)(most:J5){fuel:JW}{S0:aa}{r t m:JW}{x0:JU W}{K:Fm->aa->Prop}{Q:QO}(h:Menu S0 S r t m)(hm:m < 9)(h1:bs∈KB)(h2:1<=most/\most<=3/\most*bs.length<=6)(hL:∀e∈L,vD bs.length e=true)(h4:L.length<=4)(k:∀S',Menu S0 S' r t (m+1)->K [x0,ba (.ref t)] S') :
  wS Φ fuel (.ex (.me .append (.v 1) (.cons (An bs L most) .nil))) [x0,ba (.ref t)] S K Q:=by
 dsimp only[wS,wE,wA,wV,wG];obtain⟨xs,e1,e2,e3⟩:=h.at_t;refine⟨dL e1,pX bs L most (J3 h.lt (LU (cU e1))) h1 h2 hL h4 λw S' k1 k2=>?_⟩
 obtain⟨xs',f1,f2,f3⟩:=r6 h k1 k2 hm;exact ae (zI f1 f2) (k _ f3)
theorem nk {defs:JM (Kd×Df)}{fuel d:JW}{r:JW}{Q:QW}(G:Gen defs)(hf:Fl S r)(k:∀w S',KindOk S' S.length w->Fl S' r->Kp r S S'->Q (w,S')):wO (bF (aq defs fuel (d+2)) "_law_laying_kind" 1 [.ref r] S) Q:=by
 refine aC G.laying_kind rfl rfl λQ' hR=>?_
 replace k:∀w S',KindOk S' S.length w->Fl S' r->Kp r S S'->Q' (.rt w,S'):=λz S' a b c=>hR _ _ (k z S' a b c)
 clear hR;show wZ _ _ cD [ba (.ref r),gV] S Q';have hrt:=hf.lt;unfold cD;refine bw λK hK=>?_
 refine Hm ?_;change wA _ _ _ _ _;change wE _ _ _ _ _;refine pX [1,0] [(0,0,[0])] 3 (b:=S.length) (JZ _) (by decide) (by decide) (by decide) (by decide) λw1 S1 k1 a1=>?_
 change wE _ _ _ _ _;refine pX [0,2,1] [(1,1,[1])] 2 (b:=S.length) a1.len (by decide) (by decide) (by decide) (by decide) λw2 S2 k2 a2=>?_
 have a12:=a1.trans a2;change wE _ _ _ _ _;refine pX [0,1] [(1,1,[1])] 3 (b:=S.length) a12.len (by decide) (by decide) (by decide) (by decide) λw3 S3 k3 a3=>?_
 have a13:=a12.trans a3;dsimp only[wA];refine hK _ _ ?_;clear hK K;have m3:Menu S (S3++[O.lst [w1,w2,w3]]) r S3.length 3:=by
  refine⟨⟨[w1,w2,w3],aj,rfl,λx hx=>?_⟩,by decide,by decide,(hf.ka a13).ka .push,(a13.trans .push).kp r,a13.len,hrt⟩
  rcases Kv.mp hx with rfl|hx
  ·exact(k1.ka (a2.trans a3)).ka .push
  ·rcases Kv.mp hx with rfl|hx
   ·exact(k2.ka a3).ka .push
   ·rw[J8.mp hx];exact k3.ka .push
 dsimp only[J4];clear k1 k2 k3 a1 a2 a3 a12 a13;generalize S3.length=t at m3;generalize S3++[O.lst [w1,w2,w3]]=S3' at m3;refine bw λK hK=>r8 [0,1] [(1,1,[1]),(0,0,[1])] 3 m3 (by decide) (by decide) (by decide) (by decide) (by decide) λS4 m4=>hK _ _ ?_
 refine bw λK hK=>r8 [0,1] [(1,1,[])] 1 m4 (by decide) (by decide) (by decide) (by decide) (by decide) λS5 m5=>hK _ _ ?_
 refine bw λK hK=>r8 [0,2,1] [(0,0,[0]),(0,1,[1]),(1,0,[1]),(1,1,[1])] 2 m5 (by decide) (by decide) (by decide) (by decide) (by decide) λS6 m6=>hK _ _ ?_
 refine bw λK hK=>?_
 dsimp only[wS,wE,wA,wV,wG];obtain⟨xs,e1,e2,e3⟩:=m6.at_t;obtain⟨xs',f1,f2,m7⟩:=r6 (S':=S6++[O.dic []]) (w:=.tup [.tup (af [1,0]),.ref S6.length,.int 3]) m6 ⟨[1,0],S6.length,[],3,rfl,by decide,by decide,by decide,by decide,aj,m6.kp.len,by decide,λ_ h=>(nomatch h)⟩ .push (by decide)
 refine⟨dL e1,ae (zI f1 f2) (hK _ _ ?_)⟩;refine bw λK hK=>r8 [0,1,2] [(2,2,[2]),(1,2,[1]),(2,1,[1]),(1,1,[1,2])] 2 m7 (by decide) (by decide) (by decide) (by decide) (by decide) λS8 m8=>hK _ _ ?_
 refine bw λK hK=>r8 [0,1,2] [(0,0,[0,1])] 2 m8 (by decide) (by decide) (by decide) (by decide) (by decide) λS9 m9=>hK _ _ ?_
 refine st ?_;dsimp only[wS,wE,wA,wV,wG];refine bu (d:=d) G.pick m9.fl (by decide) (by decide) λv S10 v0 v9 f10 k10=>?_
 obtain⟨xs,g1,g2,g3⟩:=m9.at_t;have hlt:=m9.lt;have hv:v.toNat < xs.length:=by omega
 exact gC (k10.get _ _ (by omega) g1) v0 (J6 hv) (k _ _ ((g3 _ (K7 hv)).mono (λl ws hl e=>k10.get _ _ (by omega) e) (λl ws hl e=>k10.get _ _ (by omega) e)) f10 (m9.kp.trans k10))
end
noncomputable def r9 (bs:JM J5):JM (JM J5):=if bs=[0,1,2]then[[0,1,2],[0,2,1],[1,0,2],[1,2,0],[2,0,1],[2,1,0]]else if bs.length=2 then[[0,1],[1,0]]else[[0,1,2],[0,2,1],[2,0,1],[2,1,0]]
noncomputable def ip (bs nm:JM J5):JW->JM J5
 | 0=>K2 bs.length 0
 | k+1=>(ip bs nm k).set (nm.getD k 0).toNat (nm.getD (bs.getD k 0).toNat 0)
theorem jO (bs nm:JM J5):∀k,(ip bs nm k).length=bs.length
 | 0=>by simp[ip]
 | k+1=>by simp[ip,jO bs nm k]
theorem CL:∀bs∈KB,∀nm∈r9 bs,nm.length=bs.length/\(∀x∈nm,0<=x/\x < (bs.length:J5))/\(∀x∈bs,0<=x/\x < (bs.length:J5))/\GoodB (ip bs nm bs.length):=by
 unfold GoodB;decide +kernel
theorem Ao:∀bs∈KB,(bs.length=2\/bs.length=3)/\0 < (r9 bs).length/\(r9 bs).length < 10:=by decide
section
variable{Φ:Kd->FF}{fuel:JW}{ρ:Fm}{S:aa}{K:Fm->aa->Prop}{Q:QO}
theorem CM {tg:Tg}{e:E}{b:Ss}(r:JW)(kvs:JM (T×W))(I:JW->Fm->aa->Prop)(oe:eF e=true)(ok:g9 b=true)(he:wE Φ e ρ S λp=>p.1=.ref r/\p.2[r]?=ba (.dic kvs)/\I 0 ρ (p.2.set r (.frd kvs)))
  (hstep:∀(i:JW) (p:T×W) (ρ:Fm) (S:aa),kvs[i]?=ba p->I i ρ S->wO (gm tg p.1.w ρ S) λq=>xA Φ fuel b q.1 q.2 (I (i+1)) Q) (hend:∀ρ S,I kvs.length ρ S->K ρ S):Wp (gx Φ fuel (.loop tg (.seq e) b) ρ S) (sH K Q):=by
 obtain⟨w,S1,e1,rfl,e2,h0⟩:=cJ oe he;refine iF (mi:=.its (kvs.map λp=>p.1.w)) (S1:=S1.set r (.frd kvs)) (xs:=kvs.map λp=>p.1.w) I ok (by simp only[ll,fK,e1,pM e2,cO e2]) (λ_ _ _ _=>rfl) rfl h0 (λi w ρ S hw hI=>?_) λρ S hI=>hend ρ S (by rwa [JO]at hI)
 rw[JY,JR]at hw;obtain⟨p,hp,rfl⟩:=hw;exact hstep i p ρ S hp hI
end
section
variable{defs:JM (Kd×Df)}{fuel d:JW}{S:aa}{r:JW}{Q:QW}
theorem Hq {i n:JW}{x:W}(h:S[i]?=ba (.lst [x]))(hn:n<=1000)(q:Q (.ref S.length,S++[.lst (K2 n x)])):wO (gq .mul (.ref i) (.int (n:J5)) S) Q:=by
 refine ae ?_ q;have:n<=sizeLine:=lp hn;simp only[gq,yd,eu h];rw[Ko ⟨by omega,by omega,by simpa using this⟩]
 unfold mZ;simp[this]
theorem oN {q:JW}{kvs:JM (T×W)}{u v:J5}{w:W}(h:kn S q=ba kvs)(hg:cy kvs (ci u v)=ba w):sG (.ref q) (.tup [.int u,.int v]) S=ba (w,S):=by
 have hk:gZ (.tup [.int u,.int v])=ba (ci u v):=jh;simp only[sG,h,hk,hg,KR]
theorem Ap {q:JW}{kvs:JM (T×W)}{u v:J5}{w:W}(h:S[q]?=ba (.dic kvs))(hl:kvs.length < sizeLine):iZ (.ref q) (.tup [.int u,.int v]) w S=ba (S.set q (.dic (fm kvs (ci u v) w))):=by
 have hk:gZ (.tup [.int u,.int v])=ba (ci u v):=jh;simp only[iZ,pf,h,hk];rw[Ko hl]
theorem jP {xs:JM J5}{x:J5}(h0:0<=x)(h1:x.toNat < xs.length):(af xs)[x.toNat]?=ba (.int (xs.getD x.toNat 0)):=by
 unfold af;rw[JY,aB (d:=0) h1]; rfl
theorem gF {xs:JM J5}{i:JW}(h:i < xs.length):xs.getD i 0∈xs:=Ke (aB (d:=0) h)
theorem nq (G:Gen defs){Q:QO}{bs:JM J5}{x0 x2:JU W}(hb:bs∈KB)
  (hk:∀(m s:JW) (S':aa),Ka S S'->S'[s]?=ba (.lst ((r9 bs).map λnm=>W.tup (af nm)))->S.length<=s->wZ (aq defs fuel (d+1)) fuel (dr 5 bR) [x0,ba (.tup (af bs)),x2,ba (.int bs.length),ba (.ref m),ba (.ref s),gV,gV,gV,gV,gV,gV] S' Q) :
  wZ (aq defs fuel (d+1)) fuel bR [x0,ba (.tup (af bs)),x2,gV,gV,gV,gV,gV,gV,gV,gV,gV] S Q:=by
 generalize hd5:dr 5 bR=b8 at hk;unfold bR at hd5 ⊢;dsimp only[dr]at hd5;rw[hd5];clear hd5;refine bw λK hK=>?_
 dsimp only[wS,wE,wA,wV,wG,J4];refine bS ?_;rw[show(af bs).length=bs.length from JO ..]
 refine hK _ _ ?_;clear hK K;refine bw λK hK=>?_
 dsimp only[wS,wE,wA,wV,wG,J4];have hm:(((S++[O.lst [.tup [.int 0]]])++[O.lst [.tup [.int 0,.int 1],.tup [.int 1,.int 0]]])++[O.lst [.ref S.length,.ref (S++[O.lst [.tup [.int 0]]]).length]])[((S++[O.lst [.tup [.int 0]]])++[O.lst [.tup [.int 0,.int 1],.tup [.int 1,.int 0]]]).length]?=ba (.lst [.ref S.length,.ref (S++[O.lst [.tup [.int 0]]]).length]):=aj;refine hK _ _ ?_;clear hK K;generalize hS1:S++[O.lst [.tup [.int 0]]]=S1 at hm ⊢;generalize hS2:S1++[O.lst [.tup [.int 0,.int 1],.tup [.int 1,.int 0]]]=S2 at hm ⊢;generalize hS3:S2++[O.lst [.ref S.length,.ref S1.length]]=S3 at hm ⊢;have l1:S1.length=S.length+1:=by rw[<- hS1]; simp
 have l2:S2.length=S1.length+1:=by rw[<- hS2]; simp
 have l3:S3.length=S2.length+1:=by rw[<- hS3]; simp
 have kS2:Ka S S2:=by rw[<- hS2,<- hS1]; exact Ka.push.trans .push
 refine bw λK hK=>?_
 dsimp only[wS,wE,wA,wV,wG,J4];refine⟨dL hm,l4 (ap hm) (by decide:2 < 1000) (hK _ _ ?_)⟩
 clear hK K;generalize hS5:(S3++[O.lst [.tup [.int 0,.int 1,.int 2],.tup [.int 0,.int 2,.int 1],.tup [.int 2,.int 0,.int 1],.tup [.int 2,.int 1,.int 0]]]).set S2.length (.lst ([.ref S.length,.ref S1.length]++[.ref S3.length]))=S5;have k5:Ka S S5:=by
  rw[<- hS5,<- hS3];exact Ka.late (kS2.trans (Ka.push.trans .push)) (by omega)
 have m5:S5[S2.length]?=ba (.lst [.ref S.length,.ref S1.length,.ref S3.length]):=by
  rw[<- hS5]; exact bW (ap hm)
 have p5:S5[S1.length]?=ba (.lst [.tup [.int 0,.int 1],.tup [.int 1,.int 0]]):=by
  rw[<- hS5,ce (by omega),<- hS3,<- hS2]
  exact ap (ap aj)
 have t5:S5[S3.length]?=ba (.lst [.tup [.int 0,.int 1,.int 2],.tup [.int 0,.int 2,.int 1],.tup [.int 2,.int 0,.int 1],.tup [.int 2,.int 1,.int 0]]):=by
  rw[<- hS5,ce (by omega)]
  exact aj
 have h1:S.length<=S1.length:=by omega
 have h3:S.length<=S3.length:=by omega
 clear hS1 hS2 hS3 hS5 hm l1 l2 l3 kS2;refine bw λK hK=>?_
 dsimp only[wS,wE,wA,wV,wG,J4,rN,bE];have hb':bs=[1,0]\/bs=[0,2,1]\/bs=[0,1]\/bs=[0,1,2]:=by simpa [KB]using hb
 rcases hb' with rfl|rfl|rfl|rfl
 ·refine eY (i:=1) m5 rfl (hK _ _ (bw λK hK=>zL (λQ q=>q) (hK _ _ (hk _ _ _ k5 p5 h1))))
 ·refine eY (i:=2) m5 rfl (hK _ _ (bw λK hK=>zL (λQ q=>q) (hK _ _ (hk _ _ _ k5 t5 h3))))
 ·refine eY (i:=1) m5 rfl (hK _ _ (bw λK hK=>zL (λQ q=>q) (hK _ _ (hk _ _ _ k5 p5 h1))))
 ·refine eY (i:=2) m5 rfl (hK _ _ (bw λK hK=>Hn (λQ q=>q) λQ2 hn _=>?_))
  refine st ?_;dsimp only[wS,wE,wA,wV,wG,J4];exact lq (d:=d) G (cq (hn _ _ (hK _ _ (hk _ _ _ (k5.trans .push) aj k5.len))))
theorem t9 (G:Gen defs){S0:aa}{bs:JM J5}{q:JW}{kvs:JM (T×W)}(hb:bs∈KB)(hf:Fl S r)(hr:r < S0.length)(kp:Kp r S0 S)(hq:S[q]?=ba (.dic kvs))(hq0:S0.length<=q)(h4:kvs.length<=4)(hm:MustE S bs.length S0.length kvs)
  (k:∀(bs':JM J5) (q':JW) (kvs':JM (T×W)) S',GoodB bs'->bs'.length=bs.length->S'[q']?=ba (.dic kvs')->S0.length<=q'->MustE S' bs.length S0.length kvs'->Fl S' r->Kp r S0 S'->Q (.tup [.tup (af bs'),.ref q'],S')) :
  wO (bF (aq defs fuel (d+2)) "_law_numbered" 3 [.ref r,.tup (af bs),.ref q] S) Q:=by
 refine aC G.numbered rfl rfl λQ' hR=>?_
 replace k:∀(bs':JM J5) (q':JW) (kvs':JM (T×W)) S',GoodB bs'->bs'.length=bs.length->S'[q']?=ba (.dic kvs')->S0.length<=q'->MustE S' bs.length S0.length kvs'->Fl S' r->Kp r S0 S'->Q' (.rt (.tup [.tup (af bs'),.ref q']),S'):=λa b c e f g h i j l m=>hR _ _ (k a b c e f g h i j l m)
 clear hR;refine nq (d:=d) G hb ?_;intro m s S1 k1 e1 hs;dsimp only[dr,bR];have hrt:=hf.lt;obtain⟨hb1,hb2,hb3⟩:=Ao bs hb;refine bw λK hK=>?_
 dsimp only[wS,wE,wA,wV,wG,J4];refine jc e1 ?_;rw[JO];refine bu (d:=d) G.pick (hf.ka k1) (by omega) (by omega) λv S2 v0 v1 f2 k2=>?_
 obtain⟨nm,hnmm,enm⟩:=l8 (f:=λnm=>W.tup (af nm)) (xs:=r9 bs) (i:=v.toNat) (by omega)
 obtain⟨n1,n2,n3,n4⟩:=CL bs hb nm hnmm;refine gC (k2.get _ _ (by omega) e1) v0 enm (hK _ _ ?_)
 clear hK K;refine bw λK hK=>?_
 dsimp only[wS,wE,wA,wV,wG,J4];refine Hq aj (by omega) (hK _ _ ?_)
 clear hK K;generalize hS4:S2++[O.lst [.int 0]]=S4;have k24:Ka S2 S4:=hS4 ▸ .push;have f4:Fl S4 r:=f2.ka k24;have kp4:Kp r S0 S4:=(kp.trans (k1.kp r)).trans (k2.trans (k24.kp r));have q4:S4[q]?=ba (.dic kvs):=k24.get _ _ (k2.get _ _ (by omega) (k1.get _ _ hq))
 have m4:MustE S4 bs.length S0.length kvs:=((hm.ka k1).kp hr k2).ka k24;clear hS4 k24 hm hq f2 k2 k1 e1 enm hf;refine bw λK hK=>?_
 refine cm (bs.length:J5) (λk ρ S'=>(∃x8,ρ=[ba (.ref r),ba (.tup (af bs)),ba (.ref q),ba (.int bs.length),ba (.ref m),ba (.ref s),ba (.tup (af nm)),ba (.ref S4.length),x8,gV,gV,gV])/\S'[S4.length]?=ba (.lst (af (ip bs nm k)))/\Ka S4 S') rfl rfl (by omega) ⟨rfl,⟨_,rfl⟩,?_,.push⟩ ?_ ?_
 ·rw[aj]; simp[ip,af]
 ·rintro i ρ S5 hi ⟨⟨x8,rfl⟩,e5,k5⟩ Q2 hn _;clear hK k;have hi':i < bs.length:=by exact LL.mp ‹_›
  have hi1:i < nm.length:=by omega
  have c:=n3 _ (gF hi');have c2:=n2 _ (gF hi1);refine st ?_;dsimp only[wS,wE,wA,wV,wG,J4];refine am (Kg i) (jP (Kg i) hi') (am c.1 (jP c.1 (by rw[Kh]; omega)) (am (Kg i) (jP (Kg i) hi1) ?_))
  rw[Kh];refine ae (Do e5 c2.1 (by rw[show(af (ip bs nm i)).length=_ from JO ..,jO]; omega)) (cq (hn _ _ ⟨⟨_,rfl⟩,?_,k5.late (JZ _)⟩))
  rw[bW e5];unfold af;rw[ip,List.map_set]
 ·rintro ρ S5 ⟨⟨x8,rfl⟩,e5,k5⟩;rw[Kh]at e5;refine hK _ _ (st ?_);clear hK K;dsimp only[wS,wE,J4];have f5:Fl S5 r:=f4.ka k5;have q5:S5[q]?=ba (.dic kvs):=k5.get _ _ q4;have m5:MustE S5 bs.length S0.length kvs:=m4.ka k5;have kp5:Kp r S0 S5:=kp4.trans (k5.kp r);have hq5:=cU q5;have ht5:=cU e5;have hqt:q≠S4.length:=by rintro rfl; rw[e5]at q5; cases q5
  have hn9:(bs.length:J5)<=3:=by omega
  have hr5:=f5.lt;clear k5 m4 q4 f4;refine bw λK hK=>?_
  refine CM q kvs (λk ρ S'=>(∃x10 x11,ρ=[ba (.ref r),ba (.tup (af bs)),ba (.ref q),ba (.int bs.length),ba (.ref m),ba (.ref s),ba (.tup (af nm)),ba (.ref S4.length),x8,ba (.ref S5.length),x10,x11])/\S'[q]?=ba (.frd kvs)/\MustE S' bs.length S0.length kvs/\S'[S4.length]?=ba (.lst (af (ip bs nm bs.length)))/\(∃kvs',S'[S5.length]?=ba (.dic kvs')/\kvs'.length<=k/\MustE S' bs.length S0.length kvs')/\Fl S' r/\Kp r S0 S') rfl rfl ⟨rfl,ap q5,⟨gV,gV,rfl⟩,bW (ap q5),(m5.ka .push).set (ap q5),?_,⟨[],?_,JZ _,λ_ h=>(nomatch h)⟩,(f5.ka .push).own (by omega),(kp5.trans .push).late hq0⟩ ?_ ?_
  ·rw[ce hqt]; exact ap e5
  ·rw[ce (Kk ‹_›)]; exact aj
  ·rintro i p ρ S6 hp ⟨⟨x10,x11,rfl⟩,q6,m6,t6,⟨kvs',o6,l6,mm6⟩,f6,kp6⟩;clear hK k;have hpm:=Ke hp;have hil:=(J1.mp hp).1;obtain⟨u,v',l,ws,rfl,hu,hv',hl,hws,hl3,hw3⟩:=m6 p hpm;obtain⟨g,hg⟩:=vB hpm;obtain⟨u2,v2,l2,ws2,he2,_,_,hl2,hws2,hl32,hw32⟩:=m6 _ (mj hg);injection he2 with _ he2
   subst he2;have hul:u.toNat < nm.length:=by omega
   have hvl:v'.toNat < nm.length:=by omega
   refine ae (show gm (.tp [10,11]) (ci u v',W.ref l).1.w [ba (.ref r),ba (.tup (af bs)),ba (.ref q),ba (.int bs.length),ba (.ref m),ba (.ref s),ba (.tup (af nm)),ba (.ref S4.length),x8,ba (.ref S5.length),x10,x11] S6=ba ([ba (.ref r),ba (.tup (af bs)),ba (.ref q),ba (.int bs.length),ba (.ref m),ba (.ref s),ba (.tup (af nm)),ba (.ref S4.length),x8,ba (.ref S5.length),ba (.int u),ba (.int v')],S6)from rfl) λQ2 hn _=>?_
   refine st ?_;dsimp only[wS,wE,wA,wV,wG,J4];refine vm l2 (af ws2) (λi zs ρ2 S7=>(∃a1,ρ2=[gV,a1,ba (.tup (af nm))])/\zs=af ((ws2.take i).map λw=>nm.getD w.toNat 0)/\S7=S6) rfl rfl rfl ?_ ?_ ?_ ?_
   ·dsimp only[wE,wA,wV,wG];exact ae (oN (Cz q6) hg) ⟨rfl,⟨_,rfl⟩,rfl,rfl⟩
   ·rintro i zs ρ2 S7 ⟨_,_,rfl⟩;exact hws2
   ·rintro i w zs ρ2 S7 hw ⟨⟨a1,rfl⟩,rfl,rfl⟩;unfold af at hw;rw[JY,JR]at hw;obtain⟨x,hx,rfl⟩:=hw;obtain⟨x0,x1⟩:=hw32 x (Ke hx);have hxl:x.toNat < nm.length:=by omega
    refine ae (show gm (.nm 1) (.int x) [gV,a1,ba (.tup (af nm))] S7=ba ([gV,ba (.int x),ba (.tup (af nm))],S7)from rfl) ?_
    dsimp only[kB,wC,wE,wA,wV,wG];refine⟨λ_=>am x0 (jP x0 hxl) ⟨⟨_,rfl⟩,?_,rfl⟩,λz=>by cases z⟩
    rw[KD,hx];simp[af]
   ·rintro zs ρ2 S7 ⟨_,rfl,rfl⟩;rw[show(af ws2).length=ws2.length from JO ..,KY]
    refine⟨lp (by simp[af]; exact J3 ‹_› (Kc rfl)),am hu.1 (jP hu.1 hul) (am hv'.1 (jP hv'.1 hvl) ?_)⟩
    refine ae (Ap (ap o6) (by rw[KZ]; omega)) (cq (hn _ _ ⟨⟨_,_,rfl⟩,?_,(m6.ka .push).set (ap o6),?_,⟨_,bW (ap o6),?_,?_⟩,(f6.ka .push).own ‹_›,(kp6.trans .push).late kp5.len⟩))
    ·rw[ce (KC ‹_›)]; exact ap q6
    ·rw[ce (KC ‹_›)]; exact ap t6
    ·exact J3 (di ..) (NQ l6)
    ·refine((mm6.ka .push).put (n2 _ (gF hul)) (n2 _ (gF hvl)) kp6.len aj (by simp; assumption) ?_).set (ap o6)
     intro w hw;obtain⟨x,hx,rfl⟩:=Kl.mp hw;obtain⟨x0,x1⟩:=hw32 x hx;exact n2 _ (gF (by omega))
  ·rintro ρ S6 ⟨⟨x10,x11,rfl⟩,q6,m6,t6,⟨kvs',o6,l6,mm6⟩,f6,kp6⟩;refine hK _ _ (st ?_);dsimp only[wS,wE,wA,wV,wG];exact fD t6 (k _ _ kvs' _ n4 (jO _ _ _) o6 kp5.len mm6 f6 kp6)
end
noncomputable def xh (x y z:J5):JM (T×W):=[(ci 1 0,.int x),(ci 2 0,.int y),(ci 2 1,.int z)]
noncomputable def CN (x y z a b c:J5):JW->JM (T×W)
 | 0=>xh x y z
 | 1=>xh x y z++[(ci 0 1,.int a)]
 | 2=>xh x y z++[(ci 0 1,.int a),(ci 0 2,.int b)]
 | _=>xh x y z++[(ci 0 1,.int a),(ci 0 2,.int b),(ci 1 2,.int c)]
theorem Fc {n x y z a b c:J5}(hx:0<=x/\x < n)(hy:0<=y/\y < n)(hz:0<=z/\z < n)(ha:0<=a/\a < n)(hb:0<=b/\b < n)(hc:0<=c/\c < n):∀i j:JW,i < 3->j < 3->i≠j->∃p:J5,cy (CN x y z a b c 3) (ci i j)=ba (.int p)/\0<=p/\p < n:=by
 intro i j hi hj hij
 match i,j,hi,hj,hij with
 | 0,0,_,_,h=>exact absurd rfl h
 | 0,1,_,_,_=>exact⟨a,by rfl,ha⟩
 | 0,2,_,_,_=>exact⟨b,by rfl,hb⟩
 | 1,0,_,_,_=>exact⟨x,by rfl,hx⟩
 | 1,1,_,_,h=>exact absurd rfl h
 | 1,2,_,_,_=>exact⟨c,by rfl,hc⟩
 | 2,0,_,_,_=>exact⟨y,by rfl,hy⟩
 | 2,1,_,_,_=>exact⟨z,by rfl,hz⟩
 | 2,2,_,_,h=>exact absurd rfl h
theorem sa:∀t∈au,t.length=3/\t.getD 0 0 < 3/\t.getD 1 0 < 3/\t.getD 2 0 < 3/\t.getD 0 0≠t.getD 1 0/\t.getD 1 0≠t.getD 2 0/\t.getD 0 0≠t.getD 2 0:=by decide
theorem Aq {t:JM JW}(h:t∈au):∃i j k:JW,t=[i,j,k]/\i < 3/\j < 3/\k < 3/\i≠j/\j≠k/\i≠k:=by
 obtain⟨h1,h2⟩:=sa t h
 match t,h1,h2 with
 | [i,j,k],_,h2=>exact⟨i,j,k,rfl,h2⟩
section
variable{defs:JM (Kd×Df)}{fuel d:JW}{S:aa}{r:JW}{Q:QW}
theorem Ar {l:JW}{f:J5}{ws:JM J5}(h:S[l]?=ba (.lst (af ws))):∃b,cg .notin (.int f) (.ref l) S=ba (.bl b,S):=by
 have hf:(cr (.int f)&&(af ws).all cr)=true:=by
  simp only[cr,No,Kj];intro x hx;obtain⟨z,_,rfl⟩:=Kl.mp hx;rfl
 refine⟨!(af ws).any λz=>yi z (.int f),?_⟩
 simp only[cg,i8 h,iP,El,BF,ft,aM h,hf,LH,KR]
theorem Fd {q:JW}{kvs:JM (T×W)}(h:S[q]?=ba (.dic kvs)):tyOk "dict" S (.ref q)=true:=by simp[tyOk,cO h]
theorem CO {q:JW}{kvs:JM (T×W)}(h:S[q]?=ba (.dic kvs))(k:Q (.ref S.length,S++[.lst (kvs.map λp=>p.1.w)])):wO (Bi.list.fn [.ref q] S) Q:=by
 refine ae ?_ k;have h1:BK S q=gV:=by simp[BK,h]
 have h2:n0 [.ref q] S=gV:=by simp[n0,h1,iQ,ft,pM h]
 simp only[Bi.fn,Dc,h2,om,cO h]
theorem As (G:Gen defs){bs:JM J5}{q b0:JW}{kvs:JM (T×W)}{x y z:J5}(hb:GoodB bs)(hx:0<=x/\x < bs.length)(hy:0<=y/\y < bs.length)(hz:0<=z/\z < bs.length)(hq:S[q]?=ba (.dic kvs))(hm:MustE S bs.length b0 kvs)
  (k:∀b S',Ka S S'->Q (.bl b,S')):wO (bF (aq defs fuel (d+2)) "_law_breaks" 5 [.tup (af bs),.ref q,.int x,.int y,.int z] S) Q:=by
 refine aC G.breaks rfl rfl λQ' hR=>?_
 replace k:∀b S',Ka S S'->Q' (.rt (.bl b),S'):=λa b c=>hR _ _ (k a b c)
 clear hR;show wZ _ _ eA [ba (.tup (af bs)),ba (.ref q),ba (.int x),ba (.int y),ba (.int z),gV,gV,gV,gV,gV] S Q';obtain⟨a,ha1,ha⟩:=hb.rng x.toNat (by omega)
 obtain⟨b,hb1,hb2⟩:=hb.rng y.toNat (by omega)
 obtain⟨c,hc1,hc⟩:=hb.rng z.toNat (by omega)
 have hqt:=cU hq;unfold eA;refine bw λK hK=>?_
 dsimp only[wS,wE,wA,wV,wG,J4];refine⟨aj,ae (show d0 [] [.tup [.int 1,.int 0],.int x,.tup [.int 2,.int 0],.int y,.tup [.int 2,.int 1],.int z]=ba (xh x y z)from rfl) (hK _ _ ?_)⟩
 clear hK K;have e1:((S++[O.dic []]).set S.length (.dic (xh x y z)))[S.length]?=ba (.dic (xh x y z)):=bW aj;have k1:Ka S ((S++[O.dic []]).set S.length (.dic (xh x y z))):=Ka.push.late (JZ _);have l1:((S++[O.dic []]).set S.length (.dic (xh x y z))).length=S.length+1:=by simp
 generalize(S++[O.dic []]).set S.length (.dic (xh x y z))=S1 at e1 k1 l1 ⊢;refine bw λK hK=>?_
 refine jg rfl rfl ?_;dsimp only[wE,wA,wV,wG];refine CO e1 ⟨S1.length,[dX 1 0,dX 2 0,dX 2 1],(λk ρ S'=>(∃x6,ρ=[ba (.tup (af bs)),ba (.ref q),ba (.int x),ba (.int y),ba (.int z),ba (.ref S.length),x6,gV,gV,gV])/\S'[S.length]?=ba (.dic (CN x y z a b c k))/\S'[S1.length]?=ba (.lst [dX 1 0,dX 2 0,dX 2 1])/\Ka S S'),rfl,⟨⟨_,rfl⟩,ap e1,aj,k1.trans .push⟩,λi ρ S' h=>h.2.2.1,?_,?_⟩
 ·have step:∀(u v f g:J5) (kv kv':JM (T×W)) (S':aa) (i:JW),cy kv (ci u v)=ba (.int f)->0<=f->bs[f.toNat]?=ba g->kv.length < 10->fm kv (ci v u) (.int g)=kv'->CN x y z a b c (i+1)=kv'->∀x6:JU W,S'[S.length]?=ba (.dic kv)->S'[S1.length]?=ba (.lst [dX 1 0,dX 2 0,dX 2 1])->Ka S S'->
    wO (gm (.nm 6) (dX u v) [ba (.tup (af bs)),ba (.ref q),ba (.int x),ba (.int y),ba (.int z),ba (.ref S.length),x6,gV,gV,gV] S') λp=>xA (aq defs fuel (d+1)) fuel (.cons (.put (.v 5) (.tup (.cons (.ix (.v 6) (.c (.int 1))) (.cons (.ix (.v 6) (.c (.int 0))) .nil))) (.ix (.v 0) (.ix (.v 5) (.v 6)))) .nil) p.1 p.2 (λρ S'=>(∃x6,ρ=[ba (.tup (af bs)),ba (.ref q),ba (.int x),ba (.int y),ba (.int z),ba (.ref S.length),x6,gV,gV,gV])/\S'[S.length]?=ba (.dic (CN x y z a b c (i+1)))/\S'[S1.length]?=ba (.lst [dX 1 0,dX 2 0,dX 2 1])/\Ka S S') Q':=by
   clear hK k;intro u v f g kv kv' S' i h1 h2 h3 h4 h5 h6 x6 e e' k;refine ae (show gm (.nm 6) (dX u v) [ba (.tup (af bs)),ba (.ref q),ba (.int x),ba (.int y),ba (.int z),ba (.ref S.length),x6,gV,gV,gV] S'=ba ([ba (.tup (af bs)),ba (.ref q),ba (.int x),ba (.int y),ba (.int z),ba (.ref S.length),ba (dX u v),gV,gV,gV],S')from rfl) λQ2 hn _=>?_
   refine st ?_;dsimp only[wS,wE,wA,wV,wG];refine ae (oN (cO e) h1) (am h2 (w:=.int g) (by unfold af; rw[JY,h3]; rfl) (am (by decide) rfl (am (by decide) rfl ?_)))
   refine ae (Ap e (by rw[KZ]; omega)) (cq (hn _ _ ⟨⟨_,rfl⟩,?_,?_,k.late (JZ _)⟩))
   ·rw[bW e,h5,h6]
   ·rw[ce (by omega)]; exact e'
  rintro i w ρ S2 hw ⟨⟨x6,rfl⟩,e2,l2,k2⟩
  match i,hw,e2 with
  | 0,hw,e2=>cases hw; exact step 1 0 x a _ _ S2 0 (by rfl) hx.1 ha1 (by simp[CN,xh]) (by rfl) (by rfl) x6 e2 l2 k2
  | 1,hw,e2=>cases hw; exact step 2 0 y b _ _ S2 1 (by rfl) hy.1 hb1 (by simp[CN,xh]) (by rfl) (by rfl) x6 e2 l2 k2
  | 2,hw,e2=>cases hw; exact step 2 1 z c _ _ S2 2 (by rfl) hz.1 hc1 (by simp[CN,xh]) (by rfl) (by rfl) x6 e2 l2 k2
  | n+3,hw,_=>simp at hw
 ·rintro ρ S2 ⟨⟨x6,rfl⟩,e2,l2,k2⟩;have hv:=Fc hx hy hz ha hb2 hc;have e2:S2[S.length]?=ba (.dic (CN x y z a b c 3)):=e2;refine hK _ _ ?_;clear hK K;have hlt2:=cU e2;refine bw λK hK=>?_
  refine jg rfl rfl ?_;dsimp only[wE,wA,wV,wG];refine lq (d:=d) G ⟨S2.length,au.map (λt=>W.tup (aD t)),(λk ρ S'=>(∃x7 x8 x9,ρ=[ba (.tup (af bs)),ba (.ref q),ba (.int x),ba (.int y),ba (.int z),ba (.ref S.length),x6,x7,x8,x9])/\S'[S.length]?=ba (.dic (CN x y z a b c 3))/\S'[S2.length]?=ba (.lst (au.map (λt=>W.tup (aD t))))/\Ka S S'),rfl,⟨⟨_,_,_,rfl⟩,ap e2,aj,k2.trans .push⟩,λi ρ S' h=>h.2.2.1,?_,?_⟩
  ·rintro i w ρ S3 hw ⟨⟨x7,x8,x9,rfl⟩,e3,l3,k3⟩;clear hK;rw[JY,JR]at hw;obtain⟨t,ht,rfl⟩:=hw;obtain⟨i1,j1,h1,rfl,hi1,hj1,hh1,n1,n2,n3⟩:=Aq (Ke ht);obtain⟨p1,g1,r1⟩:=hv i1 j1 hi1 hj1 n1;obtain⟨p2,g2,r2⟩:=hv j1 h1 hj1 hh1 n2;obtain⟨p3,g3,r3⟩:=hv i1 h1 hi1 hh1 n3;have q3:=k3.get _ _ hq;refine ae (show gm (.tp [7,8,9]) (W.tup (aD [i1,j1,h1])) [ba (.tup (af bs)),ba (.ref q),ba (.int x),ba (.int y),ba (.int z),ba (.ref S.length),x6,x7,x8,x9] S3=ba ([ba (.tup (af bs)),ba (.ref q),ba (.int x),ba (.int y),ba (.int z),ba (.ref S.length),x6,ba (.int i1),ba (.int j1),ba (.int h1)],S3)from rfl) λQ2 hn hr=>?_
   refine bw λK hK=>?_
   dsimp only[wS,wT,wE,wA,wV,wG];refine ae (oN (cO e3) g3) ⟨Fd q3,ae (oN (cO e3) g1) (ae (oN (cO e3) g2) (ae (oN (cO e3) g3) ?_))⟩;have hget:Me.get.fn (.ref q) [.tup [.int p1,.int p2],.ref S3.length] (S3++[O.lst [.int p3]])=ba ((cy kvs (ci p1 p2)).getD (.ref S3.length),S3++[O.lst [.int p3]]):=by
    have hk:gZ (.tup [.int p1,.int p2])=ba (ci p1 p2):=jh;simp only[Me.fn,uG,cO (ap q3),hk]
   refine ae hget ?_;have hres:∃(l:JW) (ws:JM J5),(cy kvs (ci p1 p2)).getD (.ref S3.length)=.ref l/\(S3++[O.lst [.int p3]])[l]?=ba (.lst (af ws)):=by
    cases hg:cy kvs (ci p1 p2)with
    | none=>exact⟨S3.length,[p3],rfl,aj⟩
    | some g=>
     obtain⟨u,v,l,ws,he,_,_,_,hl,_⟩:=(hm.ka k3) _ (mj hg);injection he with _ he
     subst he;exact⟨l,ws,rfl,ap hl⟩
   obtain⟨l,ws,hl1,hl2⟩:=hres;dsimp only;rw[hl1];obtain⟨kb,hkb⟩:=Ar (f:=p3) hl2;refine ae hkb ?_;dsimp only[wB];refine aw (Q0:=Q2) (λ_ Q3 _ hr3=>st (hr3 _ _ (hr _ _ (k _ _ (k3.trans .push))))) λ_ Q3 hn3 _=>cq (hn3 _ _ (hK _ _ (cq (hn _ _ ⟨⟨_,_,_,rfl⟩,ap e3,ap l3,k3.trans .push⟩))))
  ·rintro ρ S3 ⟨⟨x7,x8,x9,rfl⟩,e3,l3,k3⟩;exact hK _ _ (st (k _ _ k3))
end
theorem Hr {a n:JW}{m0 m1 m2 x y z:J5}(h0:0<=m0/\m0 < a)(h1:0<=m1/\m1 < a)(h2:0<=m2/\m2 < a)(hx:0<=x/\x < n)(hy:0<=y/\y < n)(hz:0<=z/\z < n):GoodW a n [(m0,[]),(m1,[x]),(m2,[y,z])]:=by
 refine⟨λk p h=>?_,λk p h=>?_,λk p h=>?_⟩ <;> match k,h with
 | 0,h=>cases h; first|exact h0|rfl|(intro w hw; cases hw)
 | 1,h=>cases h; first|exact h1|rfl|(intro w hw; rw[J8.mp hw]; exact hx)
 | 2,h=>cases h; first|exact h2|rfl|(intro w hw; rcases Kv.mp hw with e|hw <;> first|exact e ▸ hy|(rw[J8.mp hw]; exact hz))
 | n+3,h=>simp at h
theorem Fe {Φ:Kd->FF}{ρ:Fm}{S:aa}{i n:JW}{Q:QW}(hv:∀Q:W->Prop,Q (.int n)->wV ρ i Q)(hn:n<=3)(k:∀j:J5,0<=j->j<=27->j=(n:J5)*n*n->Q (.int j,S)):wE Φ (.op .mul (.op .mul (.v i) (.v i)) (.v i)) ρ S Q:=by
 have b1 : -(2 ^ 64) < (n:J5):=by omega
 have b2:(n:J5) < 2 ^ 64:=by omega
 have hc:(n:J5)*n*n<=27/\0<=(n:J5)*n*n:=by rcases(show n=0\/n=1\/n=2\/n=3 by omega)with h|h|h|h <;> rw[h] <;> decide
 dsimp only[wE];have em:∀m:J5,gq .mul (.int m) (.int n) S=ba (.int (m*n),S):=λm=>rO b1 b2
 generalize gq .mul=B at em ⊢;refine hv _ ?_;refine hv _ ?_;refine ae (em _) ?_;refine hv _ ?_;refine ae (em _) ?_;have:=k _ hc.2 hc.1 rfl;exact this
theorem At {Φ:Kd->FF}{fuel:JW}{ρ:Fm}{S:aa}{K:Fm->aa->Prop}{Q:QO}{i0 i n:JW}{b:Ss}(hv:∀Q:W->Prop,Q (.int n)->wV ρ i Q)(hn:n<=3)(ok:g9 b=true)
  (h:∀j:J5,0<=j->j<=27->j=(n:J5)*n*n->∃I:JW->Fm->aa->Prop,I 0 ρ S/\(∀(i:JW) (ρ:Fm) (S:aa),(i:J5) < j->I i ρ S->xA Φ fuel b (ρ.set i0 (ba (.int i))) S (I (i+1)) Q)/\∀ρ S,I j.toNat ρ S->K ρ S) :
  Wp (gx Φ fuel (.loop (.nm i0) (.rng (.cons (.op .mul (.op .mul (.v i) (.v i)) (.v i)) .nil)) b) ρ S) (sH K Q):=
 have hw:=Fe (Φ:=Φ) (S:=S) (Q:=λp=>∃(j:J5) (I:JW->Fm->aa->Prop),p.1=.int j/\(-(2 ^ 62)<=j/\j < 2 ^ 62)/\I 0 ρ p.2/\(∀(i:JW) (ρ:Fm) (S:aa),(i:J5) < j->I i ρ S->xA Φ fuel b (ρ.set i0 (ba (.int i))) S (I (i+1)) Q)/\∀ρ S,I j.toNat ρ S->K ρ S) hv hn λj j0 j27 e=>let ⟨I,h0,h1,h2⟩:=h j j0 j27 e; ⟨j,I,rfl,by omega,h0,h1,h2⟩
 jf rfl ok hw
section
variable{defs:JM (Kd×Df)}{fuel d:JW}{S:aa}{r:JW}{Q:QW}
theorem Au (hfu:20 < fuel)(G:Gen defs)(hf:Fl S r)(k:∀w S',eZ w->Fl S' r->Kp r S S'->Q (w,S')):wO (bF (aq defs fuel (d+7)) "_law_laying_rule" 1 [.ref r] S) Q:=by
 refine aC G.laying_rule rfl rfl λQ' hR=>?_
 replace k:∀w S',eZ w->Fl S' r->Kp r S S'->Q' (.rt w,S'):=λz S' a b c=>hR _ _ (k z S' a b c)
 clear hR;show wZ _ _ cF [ba (.ref r),gV,gV,gV,gV,gV,gV,gV,gV,gV,gV,gV,gV,gV,gV] S Q';unfold cF;refine bw λK hK=>?_
 dsimp only[wS,wE,wA,wV,wG,J4];refine bu (d:=d+5) G.pick hf (by decide) (by decide) λv S1 v0 v7 f1 k1=>hK _ _ ?_
 clear hK K;refine bw λK hK=>?_
 dsimp only[wS,wT,wE,wV,wG,kH,bE,wB];refine aw (Q0:=Q') (λ_ Q2 _ hr=>?_) (λ_ Q2 hn _=>cq (hn _ _ (hK _ _ ?_)))
 ·refine st ?_;dsimp only[wS,wE,wA,wV,wG];exact r0 (d:=d) hfu G f1 λw S2 a b c=>hr _ _ (k w S2 a b (k1.trans c))
 clear hK K hn;refine bw λK hK=>?_
 dsimp only[wS,wT,wE,wV,wG,kH,bE,wB];refine aw (Q0:=Q') (λ_ Q2 _ hr=>?_) (λ_ Q2 hn _=>cq (hn _ _ (hK _ _ ?_)))
 ·refine st ?_;dsimp only[wS,wE,wA,wV,wG];exact w9 (d:=d) hfu G f1 λw S2 a b c=>hr _ _ (k w S2 a b (k1.trans c))
 clear hK K hn;have hr1:=f1.lt;refine bw λK hK=>?_
 dsimp only[wS,wE,wA,wV,wG];refine nk (d:=d+4) G f1 λw2 S2 hw2 f2 k2=>?_
 obtain⟨bs0,q0,kvs0,most,rfl,hbs0,m1,m3,m6,hq0,hq0l,h40,hm0⟩:=hw2;dsimp only[wU];refine ae (show eR [2,3,4] [.tup (af bs0),.ref q0,.int most] [ba (.ref r),ba (.int v),gV,gV,gV,gV,gV,gV,gV,gV,gV,gV,gV,gV,gV]=ba [ba (.ref r),ba (.int v),ba (.tup (af bs0)),ba (.ref q0),ba (.int most),gV,gV,gV,gV,gV,gV,gV,gV,gV,gV]from rfl) (hK _ _ ?_)
 clear hK K;refine bw λK hK=>?_
 dsimp only[wS,wE,wA,wV,wG,J4];refine bu (d:=d+5) G.pick f2 (by omega) (by omega) λv3 S3 v30 v3m f3 k3=>?_
 dsimp only[dk,bE];obtain⟨a,ea⟩ : ∃a:JW,1+v3=a:=⟨(1+v3).toNat,by omega⟩
 rw[ea];refine hK _ _ ?_;clear hK K;refine bw λK hK=>?_
 dsimp only[wS,wE,wA,wV,wG];refine t9 (d:=d+4) G (S0:=S1) hbs0 f3 hr1 (k2.trans k3) (k3.get _ _ (by omega) hq0) hq0l h40 (hm0.kp hr1 k3) λbs q kvs S4 hb hbl hq hql hm f4 k4=>?_
 dsimp only[wU];refine ae (show eR [2,3] [.tup (af bs),.ref q] [ba (.ref r),ba (.int v),ba (.tup (af bs0)),ba (.ref q0),ba (.int most),ba (.int a),gV,gV,gV,gV,gV,gV,gV,gV,gV]=ba [ba (.ref r),ba (.int v),ba (.tup (af bs)),ba (.ref q),ba (.int most),ba (.int a),gV,gV,gV,gV,gV,gV,gV,gV,gV]from rfl) (hK _ _ ?_)
 clear hK K;rw[<- hbl]at hm m6;have hn:bs.length=2\/bs.length=3:=by rw[hbl]; exact(Ao bs0 hbs0).1
 have hsz:SizeOk a bs:=⟨by omega,hb,by
  have h1:(a:J5)*bs.length<=most*bs.length:=Int.mul_le_mul_of_nonneg_right (by omega) (by omega)
  exact_mod_cast Int.le_trans h1 m6,by omega⟩
 clear m6 hm0 hq0 hq0l h40 hbl hbs0 k2 k3 f2 f3;refine bw λK hK=>?_
 dsimp only[wS,wE,wA,wV,wG,J4];refine gh (d:=d+1) hfu G f4 (by omega) (by omega) λms ns S5 hml hnl hnm f5 k5=>hK _ _ ?_
 clear hK K;have kk:Kp r S S5:=k1.trans (k4.trans k5);have hrt:=f5.lt;have hq5:S5[q]?=ba (.dic kvs):=k5.get _ _ (by omega) hq
 have hm5:MustE S5 bs.length S1.length kvs:=hm.kp hr1 k5;have hqn:q < S5.length:=cU hq5;clear k1 k4 k5 f4 hm hq hql f1;refine st ?_;dsimp only[wS,wE,J4];refine bw λK hK=>?_
 dsimp only[wS,wE,wA,wV,wG,J4];refine bS ?_;rw[show(af bs).length=bs.length from JO ..]
 refine hK _ _ ?_;clear hK K;refine bw λK hK=>?_
 refine At (n:=bs.length) (λQ q=>q) (by omega) rfl λj j0 j27 hj=>?_
 refine⟨(λ_ ρ S'=>(∃x9 x10 x11 x12 x13 x14,ρ=[ba (.ref r),ba (.int v),ba (.tup (af bs)),ba (.ref q),ba (.int most),ba (.int a),ba (d8 ms ns bs []),ba (.ref S5.length),ba (.int bs.length),x9,x10,x11,x12,x13,x14])/\(∃kvs fs,S'[S5.length]?=ba (.dic kvs)/\FigD (bq a bs) kvs fs)/\S'[q]?=ba (.dic kvs)/\MustE S' bs.length S1.length kvs/\Fl S' r/\Kp r S S'),⟨⟨_,_,_,_,_,_,rfl⟩,⟨[],[],aj,.nil⟩,ap hq5,hm5.ka .push,f5.ka .push,kk.trans .push⟩,?_,?_⟩
 ·rintro i ρ S6 hi ⟨⟨x9,x10,x11,x12,x13,x14,rfl⟩,⟨kvd,fs,e6,hd⟩,hq6,hm6,f6,k6⟩ Q2 hn2 _;clear hK k;have hnp:(0:J5) < bs.length:=by omega
  have hnb:(bs.length:J5) < 1073741824:=by omega
  have y1:0<=(i:J5) % bs.length/\(i:J5) % bs.length < bs.length:=⟨Mw _ (by omega),Mq _ hnp⟩
  have y2:0<=(i:J5) / bs.length % bs.length/\(i:J5) / bs.length % bs.length < bs.length:=⟨Mw _ (by omega),Mq _ hnp⟩
  have y3:0<=(i:J5) / bs.length / bs.length/\(i:J5) / bs.length / bs.length < bs.length:=by
   rcases hn with h|h <;> rw[h]at hj ⊢ <;> omega
  refine bw λK hK=>?_
  dsimp only[wS,wE,wA,wV,wG,J4];refine ae (i7 hnp) (ae (iE hnp hnb) (ae (i7 hnp) ?_));dsimp only[w2];refine hK _ _ ?_;clear hK K;refine bw λK hK=>?_
  dsimp only[wS,wE,wA,wV,wG,J4];refine ae (iE hnp hnb) (ae (iE hnp hnb) (hK _ _ ?_));clear hK K;dsimp only;generalize(i:J5) % bs.length=z1 at y1 ⊢;generalize(i:J5) / bs.length % bs.length=z2 at y2 ⊢;generalize(i:J5) / bs.length / bs.length=z3 at y3 ⊢;refine bw λK hK=>?_
  dsimp only[wS,wT,wA,wE,wV,wG];refine As (d:=d+4) G hb y1 y2 y3 hq6 hm6 λb S7 k7=>?_
  dsimp only[iT,bE];refine aw (Q0:=Q2) (λ_ Q3 hn3 _=>?_) (λ_ Q3 hn3 _=>cq (hn3 _ _ (hK _ _ (cq (hn2 _ _ ⟨⟨_,_,_,_,_,_,rfl⟩,⟨kvd,fs,k7.get _ _ e6,hd⟩,k7.get _ _ hq6,hm6.ka k7,f6.ka k7,k6.trans (k7.kp r)⟩)))))
  refine bw λK3 hK3=>?_
  refine jg rfl rfl ?_;dsimp only[wE,wA,wV,wG];have h56:S5.length < S6.length:=cU e6;have h67:=k7.len;refine Ak (d:=d+5) G (a:=a) (by omega) λt ts S8 e8 ht ht7 k8=>?_
  refine⟨t,ts.map pV,(λ_ ρ S'=>(∃x9 x13 x14,ρ=[ba (.ref r),ba (.int v),ba (.tup (af bs)),ba (.ref q),ba (.int most),ba (.int a),ba (d8 ms ns bs []),ba (.ref S5.length),ba (.int bs.length),x9,ba (.int z1),ba (.int z2),ba (.int z3),x13,x14])/\(∃kvs fs,S'[S5.length]?=ba (.dic kvs)/\FigD (bq a bs) kvs fs)/\S'[q]?=ba (.dic kvs)/\MustE S' bs.length S1.length kvs/\S'[t]?=ba (.lst (ts.map pV))/\Fl S' r/\Kp r S S'),rfl,⟨⟨_,_,_,rfl⟩,⟨kvd,fs,k8.get _ _ (k7.get _ _ e6),hd⟩,k8.get _ _ (k7.get _ _ hq6),(hm6.ka k7).ka k8,e8,(f6.ka k7).ka k8,k6.trans ((k7.trans k8).kp r)⟩,λi ρ S' h=>h.2.2.2.2.1,?_,?_⟩
  ·rintro j w ρ S9 hw ⟨⟨x9,x13,x14,rfl⟩,⟨kvd,fs,e9,hd⟩,hq9,hm9,ht9,f9,k9⟩;clear hK3 hn3 hK hn2;rw[JY,JR]at hw;obtain⟨⟨tr1,tr2,tr3⟩,htr,rfl⟩:=hw;obtain⟨t1,t2,t3⟩:=ht _ (Ke htr);refine ae (show gm (.nm 13) (pV (tr1,tr2,tr3)) [ba (.ref r),ba (.int v),ba (.tup (af bs)),ba (.ref q),ba (.int most),ba (.int a),ba (d8 ms ns bs []),ba (.ref S5.length),ba (.int bs.length),x9,ba (.int z1),ba (.int z2),ba (.int z3),x13,x14] S9=ba ([ba (.ref r),ba (.int v),ba (.tup (af bs)),ba (.ref q),ba (.int most),ba (.int a),ba (d8 ms ns bs []),ba (.ref S5.length),ba (.int bs.length),x9,ba (.int z1),ba (.int z2),ba (.int z3),ba (pV (tr1,tr2,tr3)),x14],S9)from rfl) λQ4 hn4 _=>?_
   have hu:GoodW a bs.length [(tr1,[]),(tr2,[z1]),(tr3,[z2,z3])]:=Hr t1 t2 t3 y1 y2 y3;refine bw λK hK=>?_
   dsimp only[wS,wE,wA,wV,wG,J4];refine am (by decide) rfl (am (by decide) rfl (hK _ _ ?_))
   clear hK K;refine st ?_;dsimp only[wS,wE,wA,wV,wG];refine am (by decide) rfl (ae (gA (jb rfl)) ?_)
   refine jd (d:=d+3) (m0:=.tup (ms.map W.str)) (b0:=.tup []) (u:=[(tr1,[]),(tr2,[z1]),(tr3,[z2,z3])]) G hb hnl hu rfl λS10 k10=>?_
   have e10:=k10.get _ _ e9;exact Ah e10 hd hsz hu rfl λo ho=>cq (hn4 _ _ ⟨⟨_,_,_,rfl⟩,ho,by rw[ce (KC ‹_›)]; exact k10.get _ _ hq9,(hm9.ka k10).set e10,by rw[ce (by omega)]; exact k10.get _ _ ht9,(f9.ka k10).own hrt,(k9.trans (k10.kp r)).late kk.len⟩)
  ·rintro ρ S9 ⟨⟨x9,x13,x14,rfl⟩,hdd,hq9,hm9,ht9,f9,k9⟩;exact hK3 _ _ (cq (hn3 _ _ (hK _ _ (cq (hn2 _ _ ⟨⟨_,_,_,_,_,_,rfl⟩,hdd,hq9,hm9,f9,k9⟩)))))
 ·rintro ρ S6 ⟨⟨x9,x10,x11,x12,x13,x14,rfl⟩,⟨kvd,fs,e6,hd⟩,hq6,hm6,f6,k6⟩;refine hK _ _ (st ?_);dsimp only[wS,wE,wA,wV,wG];exact Ag (Q:=λp=>Q' (.rt p.1,p.2)) e6 hd hsz hml hnl hnm λw S8 hw k8=>k w S8 hw (f6.ka k8) (k6.trans (k8.kp r))
end
noncomputable def vE:Ss:=
 (.cons (.ite (.cmp .gt (.v 2) (.v 3)) (.cons (.ret (.ix (.ix (.ix (.v 1) (.v 2)) (.c (.int 1))) (.v 3)))
 .nil) .nil)
 (.cons (.ret (.ix (.ix (.ix (.v 0) (.c (.int 1))) (.ix (.ix (.ix (.v 1) (.v 3)) (.c (.int 1))) (.v 2))) (.c (.int 1))))
 .nil))
noncomputable def gG:Ss:=
 (.cons (.ret (.bi .tuple (.cons (.comp (.own "point_over" 4 (.cons (.v 4) (.cons (.v 5) (.cons (.sl (.v 3) .no (.yes (.v 1))) (.cons (.v 2) .nil))))) (.tp [1,2]) (.enu (.cons (.v 2) .nil)) .nil [gV,gV,gV,ba 2,ba 0,ba 1]) .nil)))
 .nil)
noncomputable def eC:Ss:=
 (.cons (.ret (.tup (.cons (.ix (.ix (.v 1) (.v 3)) (.c (.int 0))) (.cons (.bi .tuple (.cons (.comp (.own "way" 4 (.cons (.v 3) (.cons (.v 4) (.cons (.v 2) (.cons (.v 1) .nil))))) (.nm 1) (.seq (.v 2)) .nil [gV,gV,ba 3,ba 0,ba 1]) .nil)) .nil))))
 .nil)
noncomputable def cR:Ss:=
 (.cons (.set 2 (.lst (.cons (.tup .nil) .nil)))
 (.cons (.loop (.nm 3) (.rng (.cons (.v 1) .nil)) (.cons (.set 2 (.comp (.op .add (.ix (.v 3) (.op .fdiv (.v 1) (.v 2))) (.tup (.cons (.op .mod (.v 1) (.v 2)) .nil))) (.nm 1) (.rng (.cons (.op .mul (.bi .len (.cons (.v 2) .nil)) (.v 0)) .nil)) .nil [gV,gV,ba 0,ba 2]))
 .nil))
 (.cons (.ret (.v 2))
 .nil)))
noncomputable def dB:Ss:=
 (.cons (.set 2 (.lst (.cons (.tup .nil) .nil)))
 (.cons (.loop (.nm 3) (.rng (.cons (.v 1) .nil)) (.cons (.set 4 (.lst .nil))
 (.cons (.loop (.nm 5) (.rng (.cons (.bi .len (.cons (.ix (.v 0) (.c (.int 0))) .nil)) .nil)) (.cons (.ex (.me .extend (.v 4) (.cons (.comp (.tup (.cons (.v 2) (.cons (.v 1) .nil))) (.nm 1) (.seq (.own "_law_digits" 2 (.cons (.bi .len (.cons (.ix (.v 0) (.c (.int 1))) .nil)) (.cons (.v 3) .nil)))) .nil [gV,gV,ba 5]) .nil)))
 .nil))
 (.cons (.set 2 (.comp (.op .add (.ix (.v 3) (.op .fdiv (.v 1) (.bi .len (.cons (.v 2) .nil)))) (.tup (.cons (.ix (.v 2) (.op .mod (.v 1) (.bi .len (.cons (.v 2) .nil)))) .nil))) (.nm 1) (.rng (.cons (.op .mul (.bi .len (.cons (.v 2) .nil)) (.bi .len (.cons (.v 4) .nil))) .nil)) .nil [gV,gV,ba 4,ba 2]))
 .nil))))
 (.cons (.ret (.v 2))
 .nil)))
section
variable{defs:JM (Kd×Df)}{fuel d:JW}{S:aa}{r:JW}{Q:QW}
theorem Av {Φ:Kd->FF}{m0 b0:W}{ns:JM Kd}{bs:JM J5}{a:JW}{u:Wd}{i j:JW}{Q:QO}(hb:GoodB bs)(hl:ns.length=bs.length)(hu:GoodW a bs.length u)(hi:i < u.length)(hj:j < u.length)(hij:i≠j)(k:Q (.rt (.int (gc bs u i j)),S)) :
  wZ Φ fuel vE [ba (.tup [m0,.tup (Km bQ ns bs),b0]),ba (aI u),ba (.int i),ba (.int j)] S Q:=by
 have hpi:=aB (d:=(0,[])) hi;have hpj:=aB (d:=(0,[])) hj;unfold gc at k;dsimp only[vE];refine bw λK hK=>?_
 dsimp only[wS,wT,wE,wV,wG,E6,wO,wB,aI];refine aw (Q0:=Q) (λh Q2 _ hr=>?_) (λh Q2 hn _=>?_)
 ·have hji:j < i:=by have:=K4 h; exact LL.mp ‹_›
  rw[Ko hji]at k;have hw:j < (u.getD i (0,[])).2.length:=by rw[hu.len i _ hpi]; exact hji
  refine st ?_;dsimp only[wS,wE,wV,wG];refine am (Kg i) (dW hi) (am (by decide) rfl (am (Kg j) ?_ (hr _ _ k)))
  rw[Kh,JY,aB (d:=0) hw]; rfl
 ·have hji:¬ j < i:=by have:=MU h; omega
  rw[Kw hji]at k;refine cq (hn _ _ (hK _ _ ?_));clear hn hK;have hw:i < (u.getD j (0,[])).2.length:=by rw[hu.len j _ hpj]; omega
  have hg:=aB (d:=0) hw;obtain⟨g1,g2⟩:=hu.way j _ hpj _ (Ke hg);obtain⟨b,hb1,hb2,hb3⟩:=hb.rng ((u.getD j (0,[])).2.getD i 0).toNat (by omega)
  have hn:((u.getD j (0,[])).2.getD i 0).toNat < ns.length:=by omega
  rw[getD_some hb1]at k;refine st ?_;dsimp only[wS,wE,wV,wG];refine am (by decide) rfl (am (Kg j) (dW hj) (am (by decide) rfl (am (Kg i) ?_ (am g1 (pR (J6 hn) hb1) (am (by decide) rfl k)))))
  rw[Kh,JY,hg]; rfl
structure Parts (defs:JM (Kd×Df)):Prop where
 way:Is defs ("way" : Kd) 4 4 vE
 over:Is defs ("point_over" : Kd) 4 4 eC
theorem Hs (P:Parts defs){m0 b0:W}{ns:JM Kd}{bs:JM J5}{a:JW}{u:Wd}{i j:JW}(hb:GoodB bs)(hl:ns.length=bs.length)(hu:GoodW a bs.length u)(hi:i < u.length)(hj:j < u.length)(hij:i≠j)(k:Q (.int (gc bs u i j),S)) :
  wO (bF (aq defs fuel (d+1)) "way" 4 [.tup [m0,.tup (Km bQ ns bs),b0],aI u,.int i,.int j] S) Q:=
 aC P.way rfl rfl λQ' hR=>Av hb hl hu hi hj hij (hR _ _ k)
theorem Ff (P:Parts defs){m0 b0:W}{ns:JM Kd}{bs:JM J5}{a:JW}{u:Wd}{ps:JM JW}{i:JW}(hb:GoodB bs)(hl:ns.length=bs.length)(hu:GoodW a bs.length u)(hps:∀p∈ps,p < u.length/\i≠p)(hi:i < u.length)(hsz:ps.length<=1000)(k:∀S',Ka S S'->Q (dZ ((u.getD i (0,[])).1,ps.map λq=>gc bs u i q),S')) :
  wO (bF (aq defs fuel (d+2)) "point_over" 4 [.tup [m0,.tup (Km bQ ns bs),b0],aI u,.tup (aD ps),.int i] S) Q:=by
 refine aC P.over rfl rfl λQ' hR=>?_
 replace k:∀S',Ka S S'->Q' (.rt (dZ ((u.getD i (0,[])).1,ps.map λq=>gc bs u i q)),S'):=λS' a=>hR _ _ (k S' a)
 clear hR;show wZ _ _ eC [ba (.tup [m0,.tup (Km bQ ns bs),b0]),ba (aI u),ba (.tup (aD ps)),ba (.int i)] S Q';generalize hR0:W.tup [m0,.tup (Km bQ ns bs),b0]=R;dsimp only[eC];refine st ?_;dsimp only[wS,wE,wA,wV,wG];refine am (Kg i) (dW hi) (am (by decide) rfl ?_)
 refine vk (aD ps) (λj ys ρ2 S2=>(∃a1,ρ2=[gV,a1,ba (.int i),ba R,ba (aI u)])/\ys=(ps.take j).map (λq=>W.int (gc bs u i q))/\Ka S S2) rfl rfl rfl ⟨rfl,⟨gV,rfl⟩,rfl,.refl⟩ ?_ ?_
 ·rintro j w ys ρ2 S2 hw ⟨⟨a1,rfl⟩,rfl,k2⟩;unfold aD at hw;rw[JY,JR]at hw;obtain⟨q,hq,rfl⟩:=hw;obtain⟨hqu,hqi⟩:=hps q (Ke hq);refine ae (show gm (.nm 1) (.int (q:J5)) [gV,a1,ba (.int i),ba R,ba (aI u)] S2=ba ([gV,ba (.int (q:J5)),ba (.int i),ba R,ba (aI u)],S2)from rfl) ?_
  dsimp only[kB,wC,wE,wA,wV,wG];subst hR0;refine⟨λ_=>Hs (d:=d) P hb hl hu hi hqu hqi ⟨⟨_,rfl⟩,?_,k2⟩,λz=>by cases z⟩
  rw[KD,hq];simp
 ·rintro ys ρ2 S2 ⟨_,rfl,k2⟩;rw[show(aD ps).length=ps.length from JO ..,KY]
  refine⟨lp (by rw[JO]; exact hsz),fD aj ?_⟩
  have:=k _ (k2.trans (Ka.push (o:=O.lst (ps.map λq=>W.int (gc bs u i q)))))
  unfold dZ at this;rw[MB]at this;exact this
theorem Ht (P:Parts defs)(hp:Is defs ("part" : Kd) 3 3 gG){m0 b0:W}{ns:JM Kd}{bs:JM J5}{a:JW}{u:Wd}{ps:JM JW}(hb:GoodB bs)(hl:ns.length=bs.length)(hu:GoodW a bs.length u)(hps:∀p∈ps,p < u.length)(hnd:ps.Nodup)(hsz:ps.length<=1000)(k:∀S',Ka S S'->Q (aI (bp bs u ps),S')) :
  wO (bF (aq defs fuel (d+3)) "part" 3 [.tup [m0,.tup (Km bQ ns bs),b0],aI u,.tup (aD ps)] S) Q:=by
 refine aC hp rfl rfl λQ' hR=>?_
 replace k:∀S',Ka S S'->Q' (.rt (aI (bp bs u ps)),S'):=λS' a=>hR _ _ (k S' a)
 clear hR;show wZ _ _ gG [ba (.tup [m0,.tup (Km bQ ns bs),b0]),ba (aI u),ba (.tup (aD ps))] S Q';generalize hR0:W.tup [m0,.tup (Km bQ ns bs),b0]=R;dsimp only[gG];refine st ?_;dsimp only[wS,wE,wA];refine CA (aD ps) (λj ys ρ2 S2=>(∃a1 a2,ρ2=[gV,a1,a2,ba (.tup (aD ps)),ba R,ba (aI u)])/\ys=((bp bs u ps).take j).map dZ/\Ka S S2) rfl rfl rfl ⟨rfl,⟨gV,gV,rfl⟩,rfl,.refl⟩ ?_ ?_
 ·rintro j w ys ρ2 S2 hw ⟨⟨a1,a2,rfl⟩,rfl,k2⟩;unfold aD at hw;rw[JY,JR]at hw;obtain⟨q,hq,rfl⟩:=hw;have hj:j < ps.length:=(J1.mp hq).1;have eq:q=ps[j]:=(J1.mp hq).2.symm;refine ae (show gm (.tp [1,2]) (.tup [.int (j:J5),.int (q:J5)]) [gV,a1,a2,ba (.tup (aD ps)),ba R,ba (aI u)] S2=ba ([gV,ba (.int (j:J5)),ba (.int (q:J5)),ba (.tup (aD ps)),ba R,ba (aI u)],S2)from rfl) ?_
  dsimp only[kB,wC,wE,wA,wP,wV,wG,wN];refine⟨λ_=>ae (a:=(.tup (aD (ps.take j)),S2)) ?_ ?_,λz=>by cases z⟩
  ·simp only[sU,gD];unfold aD;rw[NV]
  ·subst hR0;refine Ff (d:=d) P hb hl hu (λp hp=>⟨hps p (L9 hp),?_⟩) (hps q (Ke hq)) (by rw[KA]; omega) λS3 k3=>⟨⟨_,_,rfl⟩,?_,k2.trans k3⟩
   ·obtain⟨m,hm,e⟩:=M6.mp hp;rw[KA]at hm;rw[ON]at e;rw[eq,<- e];intro z;have:=(NP hnd).mp z;omega
   ·have ep:(bp bs u ps)[j]?=ba ((u.getD q (0,[])).1,(ps.take j).map λq'=>gc bs u q q'):=by
     unfold bp;rw[JY,Mj hj,KR,getD_some hq]
    rw[KD,ep];simp
 ·rintro ys ρ2 S2 ⟨_,rfl,k2⟩;rw[show(aD ps).length=ps.length from JO ..,<- fO bs u ps,KY]
  exact⟨lp (by rw[JO,fO]; exact hsz),fD aj (k _ (k2.trans .push))⟩
end
noncomputable def cG (n:JW):JW->JM (JM J5)
 | 0=>[[]]
 | k+1=>(Ky ((cG n k).length*n)).map λi=>(cG n k).getD (i / n) []++[((i % n:JW):J5)]
noncomputable def cK (a n k:JW):JM Pt:=(Ky a).flatMap λ(m:JW)=>(cG n k).map λds=>(((m:JW):J5),ds)
noncomputable def du (a n:JW):JW->JM Wd
 | 0=>[[]]
 | k+1=>(Ky ((du a n k).length*(cK a n k).length)).map λi=>(du a n k).getD (i / (cK a n k).length) []++[(cK a n k).getD (i % (cK a n k).length) (0,[])]
theorem CP {n k:JW}{ds:JM J5}:ds∈cG n k->ds.length<=k:=by
 induction k generalizing ds with
 | zero=>intro h; cases J8.mp h; exact JZ _
 | succ k ih=>
  intro h;obtain⟨i,hi,rfl⟩:=Kl.mp h;have hi:=KP.mp hi;have hn:0 < n:=by
   rcases Oz n with h|h
   ·rw[h,Pa]at hi; omega
   ·exact h
  have hlt:i / n < (cG n k).length:=Mb (by rw[Nb]; exact hi)
  have:=ih (Ke (aB (d:=[]) hlt));rw[J0,Lr]; omega
theorem Dw {Φ:Kd->FF}{ρ:Fm}{S:aa}{a b:E}{x y:J5}{Q:QW}(ha:∀Q:QW,Q (.int x,S)->wE Φ a ρ S Q)(hb:∀Q:QW,Q (.int y,S)->wE Φ b ρ S Q)(h1 : -(2 ^ 64) < y)(h2:y < 2 ^ 64)(q:Q (.int (x*y),S)):wE Φ (.op .mul a b) ρ S Q:=by
 have em:gq .mul (.int x) (.int y) S=ba (.int (x*y),S):=rO h1 h2;dsimp only[wE];refine ha _ ?_;refine hb _ ?_;dsimp only;rw[em];exact q
theorem iH {n:JW}:∀k:JW,(cG n k).length=n ^ k
 | 0=>rfl
 | k+1=>by rw[cG,JO,KJ,iH k,Sk]
theorem Aw {n k:JW}(hn:n<=3)(hk:k<=5):(cG n k).length<=243/\(k<=4->(cG n k).length<=81):=by
 rw[iH];exact⟨J3 (N9 hn k) (NY (n:=3) (by decide) hk),λh=>J3 (N9 hn k) (NY (n:=3) (by decide) h)⟩
section
variable{defs:JM (Kd×Df)}{fuel d:JW}{S:aa}{r:JW}{Q:QW}
theorem Ax (hg:Is defs ("_law_digits" : Kd) 2 4 cR){n k:JW}(hn1:1<=n)(hn3:n<=3)(hk5:k<=5)(kk:∀(q:JW) (S':aa),S'[q]?=ba (.lst ((cG n k).map λds=>.tup (af ds)))->S.length<=q->Ka S S'->Q (.ref q,S')) :
  wO (bF (aq defs fuel (d+1)) "_law_digits" 2 [.int n,.int k] S) Q:=by
 refine aC hg rfl rfl λQ' hR=>?_
 replace kk:∀(q:JW) (S':aa),S'[q]?=ba (.lst ((cG n k).map λds=>.tup (af ds)))->S.length<=q->Ka S S'->Q' (.rt (.ref q),S'):=λa b c e f=>hR _ _ (kk a b c e f)
 clear hR;show wZ _ _ cR [ba (.int n),ba (.int k),gV,gV] S Q';dsimp only[cR];refine st ?_;dsimp only[wS,wE,wA,J4];refine bw λK hK=>?_
 refine cm (k:J5) (λi ρ S'=>∃(q:JW) (a3:JU W),ρ=[ba (.int n),ba (.int k),ba (.ref q),a3]/\S'[q]?=ba (.lst ((cG n i).map λds=>.tup (af ds)))/\S.length<=q/\Ka S S') rfl rfl (by omega) ⟨rfl,_,_,rfl,aj,JZ _,.push⟩ ?_ ?_
 ·rintro i ρ S1 hi ⟨q,a3,rfl,e1,hq,k1⟩ Q2 hn _;clear hK kk;obtain⟨b9,b3⟩:=Aw (n:=n) (k:=i) hn3 (by omega)
  have b3:=b3 (by omega)
  have hP:(cG n i).length*n<=243:=PK b3 hn3;have hPz:(((cG n i).length:J5)*(n:J5))=(((cG n i).length*n:JW):J5):=(Pe ..).symm;refine st ?_;dsimp only[wS,wE,J4];refine fw ((((cG n i).length*n:JW)):J5) (λj ys ρ2 S2=>(∃a1,ρ2=[gV,a1,ba (.int n),ba (.ref q)])/\ys=((cG n (i+1)).take j).map (λds=>.tup (af ds))/\S2=S1) rfl rfl rfl (by omega) ?_ ?_ ?_
  ·refine Dw (x:=(cG n i).length) (y:=n) (λQ q=>?_) (λQ q=>q) (by omega) (by omega) ⟨by rw[hPz],⟨gV,rfl⟩,rfl,rfl⟩
   dsimp only[wE,wA,wV,wG];refine jc e1 ?_;rw[JO];exact q
  ·rintro j ys ρ2 S2 hj ⟨⟨a1,rfl⟩,rfl,rfl⟩;have hj':j < (cG n i).length*n:=by exact LL.mp ‹_›
   have hlt:j / n < (cG n i).length:=Mb (by rw[Nb]; exact hj')
   have hg:=aB (d:=[]) hlt;have hdl:=CP (Ke hg);dsimp only[kB,wC,wE,wA,wV,wG,J4];refine⟨λ_=>ae (iE (by omega) (by omega)) ?_,λz=>by cases z⟩
   refine gC e1 (w:=.tup (af ((cG n i).getD (j / n) []))) (N4 (by omega) (by omega)) (by rw[show((j:J5) / (n:J5)).toNat=j / n from rfl,JY,hg]; rfl) ?_
   refine ae (i7 (by omega)) (ae (gA (lp (by rw[J0,show(af ((cG n i).getD (j / n) [])).length=((cG n i).getD (j / n) []).length from JO ..]; show _+1<=1000; omega))) ⟨⟨_,rfl⟩,?_,rfl⟩)
   have ed:(cG n (i+1))[j]?=ba ((cG n i).getD (j / n) []++[((j % n:JW):J5)]):=by
    rw[cG,JY,Mj hj']; rfl
   rw[KD,ed];simp[af]
  ·rintro ys ρ2 S2 ⟨_,rfl,rfl⟩;have hl:(cG n (i+1)).length=(cG n i).length*n:=by rw[cG,JO,KJ]
   rw[Kh,<- hl,KY];refine⟨lp (by rw[JO,hl]; exact J3 ‹_› (Kc rfl)),cq (hn _ _ ⟨_,_,rfl,aj,k1.len,k1.trans .push⟩)⟩
 ·rintro ρ S1 ⟨q,a3,rfl,e1,hq,k1⟩;exact hK _ _ (st (kk q S1 (by rw[Kh]at e1; exact e1) hq k1))
end
theorem CQ {a n k:JW}{u:Wd}:u∈du a n k->u.length<=k:=by
 induction k generalizing u with
 | zero=>intro h; cases J8.mp h; exact JZ _
 | succ k ih=>
  intro h;obtain⟨i,hi,rfl⟩:=Kl.mp h;have hi:=KP.mp hi;have hlt:i / (cK a n k).length < (du a n k).length:=Mb (by rw[Nb]; exact hi)
  have:=ih (Ke (aB (d:=[]) hlt));rw[J0,Lr]; omega
theorem mn {a n k:JW}:(cK a n k).length=a*n ^ k:=by
 unfold cK
 induction a with
 | zero=>simp
 | succ a ih=>rw[Nt,Mk,J0,ih]; simp[iH,Oa]
theorem ff {a n:JW}(k:JW):(du a n (k+1)).length=(du a n k).length*(cK a n k).length:=by rw[du,JO,KJ]
theorem sd {a n k:JW}(ha1:1<=a)(ha:a<=3)(hn1:1<=n)(hn:n<=3)(han:a*n<=6)(hk:k<=2):1<=(cK a n k).length/\(cK a n k).length<=27/\(du a n k).length*(cK a n k).length<=216:=by
 have w0:(du a n 0).length=1:=rfl;have w1:=ff (a:=a) (n:=n) 0;have w2:=ff (a:=a) (n:=n) 1;simp only[mn]at w1 w2 ⊢;rcases(show k=0\/k=1\/k=2 by omega)with rfl|rfl|rfl <;> rcases(show a=1\/a=2\/a=3 by omega)with rfl|rfl|rfl <;> rcases(show n=1\/n=2\/n=3 by omega)with rfl|rfl|rfl <;> simp_all
theorem mo {Φ:Kd->FF}{ρ:Fm}{S:aa}{elt e:E}{tg:Tg}{cs:Es}{cap:JM (JU JW)}{Q:QW}(oi:eF e=true)(oe:eF elt=true)(oc:qo cs=true)(he:wE Φ e ρ S λp=>∃(t:JW) (xs:JM W) (I:JW->JM W->Fm->aa->Prop),p.1=.ref t/\I 0 [] (fX cap ρ) p.2/\(∀i ys ρ S,I i ys ρ S->S[t]?=ba (.lst xs))/\
  (∀(i:JW) (w:W) (ys:JM W) (ρ:Fm) (S:aa),xs[i]?=ba w->I i ys ρ S->wO (gm tg w ρ S) λq=>kB Φ elt cs q.1 q.2 (λy=>I (i+1) (ys++[y])) (I (i+1) ys))/\
  ∀ys ρ S,I xs.length ys ρ S->ys.length<=sizeLine/\Q (.ref S.length,S++[.lst ys])):Wp (aH Φ (.comp elt tg (.seq e) cs cap) ρ S) Q:=by
 obtain⟨w,S1,e1,t,xs,I,rfl,h0,hat,hstep,hend⟩:=cJ oi he;exact jI (mi:=.live t) (S1:=S1) I oe oc (by simp only[ll,fK,e1,aM (hat _ _ _ _ h0)]) (λi ys ρ S h=>by simp only[MI.at,aM (hat _ _ _ _ h)]) (by simp only[MI.len,aM (hat _ _ _ _ h0),KR]) h0 hstep hend
section
variable{defs:JM (Kd×Df)}{fuel d:JW}{S:aa}{r:JW}{Q:QW}
theorem Hu {t l:JW}{xs ys:JM W}(h:S[t]?=ba (.lst xs))(h2:S[l]?=ba (.lst ys))(hl:xs.length+ys.length<=1000)(q:Q (.non,S.set t (.lst (xs++ys)))):wO (Me.extend.fn (.ref t) [.ref l] S) Q:=by
 refine ae ?_ q;simp only[Me.fn,iS,eu h,eu h2];rw[Ko (lp hl)]
theorem Ay (hd:Is defs ("_law_digits" : Kd) 2 4 cR)(hg:Is defs ("_law_worlds" : Kd) 2 6 dB){a n:JW}{M N:JM W}{b0:W}(hM:M.length=a)(hN:N.length=n)(ha1:1<=a)(ha3:a<=3)(hn1:1<=n)(hn3:n<=3)(han:a*n<=6)
  (kk:∀(q:JW) (S':aa),S'[q]?=ba (.lst ((du a n 3).map aI))->S.length<=q->Ka S S'->Q (.ref q,S')) :
  wO (bF (aq defs fuel (d+2)) "_law_worlds" 2 [.tup [.tup M,.tup N,b0],.int 3] S) Q:=by
 refine aC hg rfl rfl λQ' hR=>?_
 replace kk:∀(q:JW) (S':aa),S'[q]?=ba (.lst ((du a n 3).map aI))->S.length<=q->Ka S S'->Q' (.rt (.ref q),S'):=λa b c e f=>hR _ _ (kk a b c e f)
 clear hR;show wZ _ _ dB [ba (.tup [.tup M,.tup N,b0]),ba (.int 3),gV,gV,gV,gV] S Q';generalize hR0:W.tup [.tup M,.tup N,b0]=R;dsimp only[dB];refine st ?_;dsimp only[wS,wE,wA,J4];refine bw λK hK=>?_
 refine cm 3 (λi ρ S'=>∃(q:JW) (a3 a4 a5:JU W),ρ=[ba R,ba (.int 3),ba (.ref q),a3,a4,a5]/\S'[q]?=ba (.lst ((du a n i).map aI))/\S.length<=q/\Ka S S') rfl rfl (by decide) ⟨rfl,_,_,_,_,rfl,aj,JZ _,.push⟩ ?_ ?_
 ·rintro i ρ S1 hi ⟨q,a3,a4,a5,rfl,e1,hq,k1⟩ Q2 hn _;clear hK kk;have hi2:i<=2:=by omega
  obtain⟨p1,p27,hP⟩:=sd (k:=i) ha1 ha3 hn1 hn3 han hi2;have hq1:=cU e1;refine st ?_;dsimp only[wS,wE,wA,J4];refine bw λK hK=>?_
  refine jf rfl rfl ?_;dsimp only[wE,wA,wV,wG];subst hR0;refine am (by decide) rfl (bS ?_)
  rw[hM];refine⟨(a:J5),λm ρ S'=>∃a5,ρ=[ba (.tup [.tup M,.tup N,b0]),ba (.int 3),ba (.ref q),ba (.int i),ba (.ref S1.length),a5]/\S'[S1.length]?=ba (.lst ((cK m n i).map dZ))/\S'[q]?=ba (.lst ((du a n i).map aI))/\Ka S S',rfl,by omega,⟨a5,rfl,aj,ap e1,k1.trans .push⟩,?_,?_⟩
  ·rintro m ρ S2 hm ⟨a5,rfl,e2,e2q,k2⟩ Q3 hn3' _;clear hK hn;have hS12:=cU e2;refine st ?_;dsimp only[wS,wE,wA,wV,wG,J4];refine⟨dL e2,?_⟩;refine mo rfl rfl rfl ?_;dsimp only[wE,wA,wV,wG];refine am (by decide) rfl (bS ?_)
   rw[hN];refine Ax (d:=d) hd hn1 hn3 (by exact J3 ‹_› (Kc rfl)) λl S3 e3 hl k3=>?_
   refine⟨l,(cG n i).map λds=>.tup (af ds),λj ys ρ2 S4=>(∃a1,ρ2=[gV,a1,ba (.int m)])/\ys=((cG n i).take j).map (λds=>dZ ((m:J5),ds))/\S4=S3,rfl,⟨⟨gV,rfl⟩,rfl,rfl⟩,λj ys ρ2 S4 h=>by rw[h.2.2]; exact e3,?_,?_⟩
   ·rintro j w ys ρ2 S4 hw ⟨⟨a1,rfl⟩,rfl,rfl⟩;rw[JY,JR]at hw;obtain⟨ds,hds,rfl⟩:=hw;refine ae (show gm (.nm 1) (.tup (af ds)) [gV,a1,ba (.int m)] S4=ba ([gV,ba (.tup (af ds)),ba (.int m)],S4)from rfl) ?_
    refine⟨λ_=>⟨⟨_,rfl⟩,?_,rfl⟩,λz=>by cases z⟩
    rw[KD,hds];simp[dZ,af]
   ·rintro ys ρ2 S4 ⟨_,rfl,rfl⟩;rw[show((cG n i).map λds=>W.tup (af ds)).length=(cG n i).length from JO ..,KY]
    have hdl:=(Aw (n:=n) (k:=i) hn3 (by exact J3 ‹_› (Kc rfl))).1
    have e2':=ap (u:=O.lst ((cG n i).map λds=>dZ ((m:J5),ds))) (k3.get _ _ e2)
    have hpm:(cK m n i).length<=27:=by
     rw[mn]at p27 ⊢;exact J3 (NZ _ (by omega)) p27
    refine⟨lp (by rw[JO]; exact J3 ‹_› (Kc rfl)),Hu e2' aj (by rw[JO,JO]; omega) (cq (hn3' _ _ ⟨_,rfl,?_,?_,((k2.trans k3).trans .push).late k1.len⟩))⟩
    ·rw[bW e2'];unfold cK;rw[Nt,Mk,KN];simp
    ·rw[ce (KC ‹_›)]; exact ap (k3.get _ _ e2q)
  ·rintro ρ S2 ⟨a5,rfl,e2,e2q,k2⟩;rw[Kh]at e2;refine hK _ _ ?_;clear hK K;have hPz:(((du a n i).length:J5)*((cK a n i).length:J5))=(((du a n i).length*(cK a n i).length:JW):J5):=(Pe ..).symm;refine st ?_;dsimp only[wS,wE,J4];refine fw (((du a n i).length*(cK a n i).length:JW):J5) (λj ys ρ2 S3=>(∃a1,ρ2=[gV,a1,ba (.ref S1.length),ba (.ref q)])/\ys=((du a n (i+1)).take j).map aI/\S3=S2) rfl rfl rfl (by omega) ?_ ?_ ?_
   ·refine Dw (x:=(du a n i).length) (y:=(cK a n i).length) (λQ q'=>?_) (λQ q'=>?_) (by omega) (by omega) ⟨by rw[hPz],⟨gV,rfl⟩,rfl,rfl⟩
    ·dsimp only[wE,wA,wV,wG];refine jc e2q ?_;rw[JO];exact q'
    ·dsimp only[wE,wA,wV,wG];refine jc e2 ?_;rw[JO];exact q'
   ·rintro j ys ρ2 S3 hj ⟨⟨a1,rfl⟩,rfl,rfl⟩;have hj':j < (du a n i).length*(cK a n i).length:=by exact LL.mp ‹_›
    have hlt:j / (cK a n i).length < (du a n i).length:=Mb (by rw[Nb]; exact hj')
    have hg:=aB (d:=[]) hlt;have hwl:=CQ (Ke hg);have hmod:j % (cK a n i).length < (cK a n i).length:=O7 _ p1;have hp:=aB (d:=(0,[])) hmod;dsimp only[kB,wC,wE,wA,wV,wG,J4];refine⟨λ_=>jc e2 ?_,λz=>by cases z⟩
    rw[JO];refine ae (iE (by omega) (by omega)) ?_
    refine gC e2q (w:=aI ((du a n i).getD (j / (cK a n i).length) [])) (N4 (by omega) (by omega)) (by rw[show((j:J5) / ((cK a n i).length:J5)).toNat=j / (cK a n i).length from rfl,JY,hg]; rfl) (jc e2 ?_)
    rw[JO];refine ae (i7 (by omega)) (gC e2 (w:=dZ ((cK a n i).getD (j % (cK a n i).length) (0,[]))) (Mw _ (by omega)) (by rw[show((j:J5) % ((cK a n i).length:J5)).toNat=j % (cK a n i).length from rfl,JY,hp]; rfl) ?_)
    refine ae (gA (lp (by rw[J0,JO]; show _+1<=1000; omega))) ⟨⟨_,rfl⟩,?_,rfl⟩
    have ed:(du a n (i+1))[j]?=ba ((du a n i).getD (j / (cK a n i).length) []++[(cK a n i).getD (j % (cK a n i).length) (0,[])]):=by
     rw[du,JY,Mj hj']; rfl
    rw[KD,ed];simp[aI]
   ·rintro ys ρ2 S3 ⟨_,rfl,rfl⟩;rw[Kh,<- ff,KY];exact⟨lp (by rw[JO,ff]; exact J3 ‹_› (Kc rfl)),cq (hn _ _ ⟨_,_,_,_,rfl,aj,k2.len,k2.trans .push⟩)⟩
 ·rintro ρ S1 ⟨q,a3,a4,a5,rfl,e1,hq,k1⟩;exact hK _ _ (st (kk q S1 e1 hq k1))
end
noncomputable def d6 (a:JW)(bs:JM J5):JM Wd:=(du a bs.length 3).map (jM bs)
noncomputable def cL (a:JW)(bs:JM J5):Kt:=match kq ((d6 a bs).map cH)with
 | some ks=>decide ks.Nodup && !ks.isEmpty
 | none=>false
theorem Jh:cL 1 [0]=true/\cL 2 [0]=true/\cL 3 [0]=true:=by decide +kernel
theorem HJ:cL 1 [0,1]=true/\cL 2 [0,1]=true/\cL 1 [1,0]=true/\cL 2 [1,0]=true:=by decide +kernel
theorem Ji:cL 1 [0,1,2]=true/\cL 1 [1,0,2]=true/\cL 1 [0,2,1]=true:=by decide +kernel
theorem Jj:cL 3 [0,1]=true:=by decide +kernel
theorem Jk:cL 3 [1,0]=true:=by decide +kernel
theorem Jl:cL 2 [0,1,2]=true:=by decide +kernel
theorem Jm:cL 2 [1,0,2]=true:=by decide +kernel
theorem Jn:cL 2 [0,2,1]=true:=by decide +kernel
noncomputable def gH (n:JW)(os:JM (JM JW)):JM (JM JW):=os.flatMap λo=>((Ky n).filter λp=>decide (p∉o)).map λp=>o++[p]
theorem sf {n:JW}:∀os:JM (JM JW),(gH n os).length<=os.length*n
 | []=>by simp[gH]
 | o::os=>by
  have ih:=sf (n:=n) os;unfold gH at ih ⊢;rw[M1,J0,JO,K5,Oa];have:=MY (λp=>decide (p∉o)) (Ky n)
  rw[KJ]at this;omega
theorem xi {n:JW}{os:JM (JM JW)}{i:JW}:(gH n (os.take i)).length<=os.length*n:=by
 refine J3 (sf _) (NZ _ ?_);rw[KA]; omega
theorem sg {p:JW}:∀ps:JM JW,((aD ps).any λz=>yi z (.int p))=decide (p∈ps)
 | []=>rfl
 | q::ps=>by
  show((q:J5)==(p:J5)||(aD ps).any _)=_
  rw[sg ps]
  by_cases h:q=p
  ·subst h; simp
  ·have h1:((q:J5)==(p:J5))=false:=by simp; omega
   have h2:¬ p=q:=λe=>h e.symm
   rw[h1]; simp[h2]
theorem xj (ps:JM JW):(aD ps).all cr=true:=by
 rw[Kj];intro x hx;obtain⟨p,_,rfl⟩:=Kl.mp hx;rfl
theorem Az {S:aa}{p:JW}{ps:JM JW}:cg .notin (.int p) (.tup (aD ps)) S=ba (.bl (decide (p∉ps)),S):=by
 show iP .notin (.int p) (.tup (aD ps)) S=_;have hf:(cr (.int p)&&(aD ps).all cr)=true:=by rw[xj]; rfl
 simp only[iP,El,BF,ft,hf,LH,KR,sg];congr 3
 by_cases h:p∈ps <;> simp[h]
noncomputable def br:Ss:=
 (.cons (.set 2 (.lst .nil))
 (.cons (.loop (.nm 3) (.seq (.v 0)) (.cons (.ex (.me .extend (.v 2) (.cons (.comp (.op .add (.v 2) (.tup (.cons (.v 1) .nil))) (.nm 1) (.rng (.cons (.v 1) .nil)) (.cons (.cmp .notin (.v 1) (.v 2)) .nil) [gV,gV,ba 3]) .nil)))
 .nil))
 (.cons (.ret (.v 2))
 .nil)))
noncomputable def cW (os:JM (JM JW)):JM W:=os.map λo=>.tup (aD o)
section
variable{defs:JM (Kd×Df)}{fuel d:JW}{S:aa}{Q:QW}
theorem ub {t l:JW}{xs ys:JM W}(h:S[t]?=ba (.lst xs))(h2:S[l]?=ba (.lst ys))(hl:xs.length+ys.length<=1000000)(q:Q (.non,S.set t (.lst (xs++ys)))):wO (Me.extend.fn (.ref t) [.ref l] S) Q:=by
 refine ae ?_ q;simp only[Me.fn,iS,eu h,eu h2];rw[Ko (by rw[KZ]; exact J3 ‹_› (Kc rfl))]
theorem pY {n:JW}(h:n<=1000000):n<=sizeLine:=by rw[KZ]; exact J3 ‹_› (Kc rfl)
theorem AA (hg:Is defs ("longer_orders" : Kd) 2 4 br){n l:JW}{os:JM (JM JW)}(e:S[l]?=ba (.lst (cW os)))(hn:n<=100)(hol:∀o∈os,o.length<=100)(hos:os.length*n<=100000)
  (k:∀(q:JW) (S':aa),S'[q]?=ba (.lst (cW (gH n os)))->S.length<=q->Ka S S'->Q (.ref q,S')) :
  wO (bF (aq defs fuel (d+1)) "longer_orders" 2 [.ref l,.int n] S) Q:=by
 refine aC hg rfl rfl λQ' hR=>?_
 replace k:∀(q:JW) (S':aa),S'[q]?=ba (.lst (cW (gH n os)))->S.length<=q->Ka S S'->Q' (.rt (.ref q),S'):=λa b c e f=>hR _ _ (k a b c e f)
 clear hR;show wZ _ _ br [ba (.ref l),ba (.int n),gV,gV] S Q';have hlS:=cU e;dsimp only[br];refine st ?_;dsimp only[wS,wE,wA,J4];refine bw λK hK=>?_
 refine pO l (cW os) (λi ρ S'=>(∃a3,ρ=[ba (.ref l),ba (.int n),ba (.ref S.length),a3])/\S'[l]?=ba (.lst (cW os))/\S'[S.length]?=ba (.lst (cW (gH n (os.take i))))/\Ka S S') rfl rfl ⟨rfl,⟨gV,rfl⟩,ap e,aj,.push⟩ (λi ρ S' h=>h.2.1) ?_ ?_
 ·rintro i w ρ S1 hw ⟨⟨a3,rfl⟩,e0,e1,k1⟩;clear hK k;unfold cW at hw;rw[JY,JR]at hw;obtain⟨o,ho,rfl⟩:=hw;have hol:=hol o (Ke ho);refine ae (show gm (.nm 3) (.tup (aD o)) [ba (.ref l),ba (.int n),ba (.ref S.length),a3] S1=ba ([ba (.ref l),ba (.int n),ba (.ref S.length),ba (.tup (aD o))],S1)from rfl) ?_
  intro Q2 hn _;refine st ?_;dsimp only[wS,wE,wA,wV,wG];refine⟨dL e1,?_⟩;refine fw (n:J5) (λj ys ρ2 S2=>(∃a1,ρ2=[gV,a1,ba (.tup (aD o))])/\ys=cW (((Ky j).filter λp=>decide (p∉o)).map λp=>o++[p])/\S2=S1) rfl rfl rfl (by omega) ⟨rfl,⟨gV,rfl⟩,rfl,rfl⟩ ?_ ?_
  ·rintro j ys ρ2 S2 hj ⟨⟨a1,rfl⟩,rfl,rfl⟩;dsimp only[kB,wC,wE,wA,wV,wG,J4];refine ae Az ?_;dsimp only[wB];have er:(Ky (j+1)).filter (λp=>decide (p∉o))=(Ky j).filter (λp=>decide (p∉o))++(if j∉o then[j]else[]):=by
    rw[Nt,OA];congr 1
    by_cases h:j∈o <;> simp[h]
   refine⟨λh=>?_,λh=>⟨⟨_,rfl⟩,?_,rfl⟩⟩
   ·have h:j∉o:=K4 h;refine ae (gA (pY (by rw[J0,show(aD o).length=o.length from JO ..]; show _+1<=_; omega))) ⟨⟨_,rfl⟩,?_,rfl⟩
    rw[er,Ko h,KN];unfold cW;rw[KN];simp[aD]
   ·have h:¬ j∉o:=MU h;rw[er,Kw h,LK]
  ·rintro ys ρ2 S2 ⟨_,rfl,rfl⟩;rw[Kh];have hlen:(cW (((Ky n).filter λp=>decide (p∉o)).map λp=>o++[p])).length<=n:=by
    unfold cW;rw[JO,JO];exact J3 (MY _ _) (by rw[KJ]; exact JZ _)
   have e1':=ap (u:=O.lst (cW (((Ky n).filter λp=>decide (p∉o)).map λp=>o++[p]))) e1
   have hlt:=xi (n:=n) (os:=os) (i:=i);have hlw:(cW (gH n (os.take i))).length=(gH n (os.take i)).length:=JO ..;refine⟨pY (by omega),ub e1' aj (by omega) (cq (hn _ _ ⟨⟨_,rfl⟩,?_,?_,(k1.trans .push).late (JZ _)⟩))⟩
   ·rw[ce (KC ‹_›)]; exact ap e0
   ·rw[bW e1'];unfold gH cW;rw[KD,ho];simp
 ·rintro ρ S1 ⟨⟨a3,rfl⟩,e0,e1,k1⟩;rw[show(cW os).length=os.length from JO ..,KY]at e1
  exact hK _ _ (st (k _ _ e1 (JZ _) k1))
end
theorem CS {a:JW}{bs:JM J5}(h:SizeOk a bs):cL a bs=true:=by
 obtain⟨h0,hb,hm,h3⟩:=h;have ha:a=1\/a=2\/a=3:=by omega
 rcases hb with rfl|rfl|rfl|rfl|rfl|rfl <;> rcases ha with rfl|rfl|rfl
 ·exact Jh.1
 ·exact Jh.2.1
 ·exact Jh.2.2
 ·exact HJ.1
 ·exact HJ.2.1
 ·exact Jj
 ·exact HJ.2.2.1
 ·exact HJ.2.2.2
 ·exact Jk
 ·exact Ji.1
 ·exact Jl
 ·exact absurd hm (by decide)
 ·exact Ji.2.1
 ·exact Jm
 ·exact absurd hm (by decide)
 ·exact Ji.2.2
 ·exact Jn
 ·exact absurd hm (by decide)
theorem sh:∀ {us vs:JM Wd},us.map cH=vs.map cH->us=vs
 | [],[],_=>rfl
 | [],_::_,h=>by cases h
 | _::_,[],h=>by cases h
 | x::xs,y::ys,h=>by
  simp only[Lp,Tj]at h;rw[pU h.1,sh h.2]
theorem si:∀xs:JM J5,dH (xs.map T.int)=true
 | []=>rfl
 | _::xs=>si xs
theorem vF:∀u:Wd,dH (u.map nj)=true
 | []=>rfl
 | p::u=>by
  simp only[Lp,dH,JV];refine⟨?_,vF u⟩;simp[nj,fT,dH,si]
theorem AB (u:Wd):fT (cH u)=true:=vF u
theorem Dx:∀ {ks:JM T} {L:JM Wd},(∀k∈ks,k∈L.map cH)->∃us:JM Wd,ks=us.map cH/\∀u∈us,u∈L
 | [],_,_=>⟨[],rfl,λ_ h=>nomatch h⟩
 | k::ks,L,h=>by
  obtain⟨u,hu,rfl⟩:=Kl.mp (h k (.head _));obtain⟨us,rfl,h2⟩:=Dx λk hk=>h k (.tail _ hk)
  exact⟨u::us,rfl,λv hv=>(Kv.mp hv).elim (λe=>e ▸ hu) (h2 v)⟩
theorem kC:∀ {us:JM Wd},(us.map cH).Nodup->us.Nodup
 | [],_=>.nil
 | u::us,h=>by
  rw[Lp,Mu]at h;exact Mu.mpr ⟨λz=>h.1 (Kl.mpr ⟨u,z,rfl⟩),kC h.2⟩
theorem Fg {n k:JW}{ds:JM J5}:ds∈cG n k->ds.length=k/\∀w∈ds,0<=w/\w < (n:J5):=by
 induction k generalizing ds with
 | zero=>intro h; cases J8.mp h; exact⟨rfl,λw hw=>nomatch hw⟩
 | succ k ih=>
  intro h;obtain⟨i,hi,rfl⟩:=Kl.mp h;have hi:=KP.mp hi;have hn:0 < n:=by
   rcases Oz n with h|h
   ·rw[h,Pa]at hi; omega
   ·exact h
  have hlt:i / n < (cG n k).length:=Mb (by rw[Nb]; exact hi)
  obtain⟨h1,h2⟩:=ih (Ke (aB (d:=[]) hlt));refine⟨by rw[J0,h1]; rfl,λw hw=>?_⟩
  rcases KF.mp hw with h|h
  ·exact h2 w h
  ·rw[J8.mp h];have:=O7 i hn;omega
theorem sj {a n k:JW}{u:Wd}:u∈du a n k->GoodW a n u/\u.length=k:=by
 induction k generalizing u with
 | zero=>intro h; cases J8.mp h; exact⟨.nil,rfl⟩
 | succ k ih=>
  intro h;obtain⟨i,hi,rfl⟩:=Kl.mp h;have hi:=KP.mp hi;have hpos:0 < (cK a n k).length:=by
   rcases Oz (cK a n k).length with h|h
   ·rw[h,Pa]at hi; omega
   ·exact h
  have hlt:i / (cK a n k).length < (du a n k).length:=Mb (by rw[Nb]; exact hi)
  obtain⟨h1,h2⟩:=ih (Ke (aB (d:=[]) hlt));have hp:=Ke (aB (d:=(0,[])) (O7 i hpos));obtain⟨m,hm,hp⟩:=MR.mp hp;obtain⟨ds,hds,e⟩:=Kl.mp hp;obtain⟨g1,g2⟩:=Fg hds;have hm:=KP.mp hm;rw[<- e];exact⟨h1.snoc ⟨by omega,by exact LL.mpr ‹_›⟩ (by rw[g1,h2]) g2,by rw[J0,h2]; rfl⟩
theorem CT {a:JW}{bs:JM J5}(h:SizeOk a bs):∃us:JM Wd,kq ((d6 a bs).map cH)=ba (us.map cH)/\us.Nodup/\us.length < 64/\(∀u∈us,u∈bq a bs)/\d6 a bs≠[]:=by
 have p:=CS h;unfold cL at p;split at p
 ·rename_i ks hk;simp only[JV,Ki]at p;have hm0:=yN hk;obtain⟨us,rfl,hm⟩:=Dx (L:=bq a bs) λk hk=>by
   obtain⟨f,hf,rfl⟩:=Kl.mp (hm0 k hk);obtain⟨u,hu,rfl⟩:=Kl.mp hf;obtain⟨g1,g2⟩:=sj hu;exact Kl.mpr ⟨_,vz g1 g2,rfl⟩
  have nd:=kC p.1;refine⟨us,hk,nd,Mr (l9 us _ nd hm) (lr h),hm,λz=>?_⟩
  rw[z]at hk;have e:ba (us.map cH)=ba []:=hk.symm;rw[Ld e]at p;exact absurd p.2 (by decide)
 ·cases p
theorem sn {us:JM Wd}(h:us.Nodup):Nice (us.map cH):=by
 refine⟨λx hx=>?_,jL us,?_⟩
 ·obtain⟨u,_,rfl⟩:=Kl.mp hx;exact AB u
 ·rw[List.nodup_iff_pairwise_ne,OM];exact h.imp λhne e=>hne (pU e)
theorem jQ {us:JM Wd}:(cV us).map cH=fu (us.map cH):=by
 unfold cV fu;rw[rT (d:=[])]
theorem xk {us vs:JM Wd}(h:us.Nodup)(hs:vs.Sublist (cV us)):cV vs=vs:=by
 apply sh;rw[jQ];refine yM (sn h) ?_;rw[<- jQ];exact hs.map _
noncomputable def dQ:Ss:=
 (.cons (.ret (.bi .sorted (.cons (.bi .set (.cons (.comp (.own "_law_figure" 2 (.cons (.v 2) (.cons (.v 1) .nil))) (.nm 1) (.seq (.own "_law_worlds" 2 (.cons (.v 0) (.cons (.c (.int 3)) .nil)))) .nil [gV,gV,ba 0]) .nil)) .nil)))
 .nil)
noncomputable def de:Ss:=
 (.cons (.set 1 (.own "_law_pick" 2 (.cons (.v 0) (.cons (.c (.int 4)) .nil))))
 (.cons (.ite (.cmp .eq (.v 1) (.c (.int 0))) (.cons (.ret (.own "_law_laying_rule" 1 (.cons (.v 0) .nil)))
 .nil) .nil)
 (.cons (.ite (.cmp .lt (.v 1) (.c (.int 3))) (.cons (.ret (.own "_law_any_rule" 1 (.cons (.v 0) .nil)))
 .nil) .nil)
 (.cons (.asg [2,3] (.own "_law_sizes" 1 (.cons (.v 0) .nil)))
 (.cons (.set 4 (.own "_law_rule_of" 4 (.cons (.v 0) (.cons (.v 2) (.cons (.own "_law_backs" 2 (.cons (.v 0) (.cons (.v 3) .nil))) (.cons (.tup .nil) .nil))))))
 (.cons (.ret (.tup (.cons (.ix (.v 4) (.c (.int 0))) (.cons (.ix (.v 4) (.c (.int 1))) (.cons (.bi .tuple (.cons (.comp (.v 1) (.nm 1) (.seq (.own "_law_figures" 1 (.cons (.v 4) .nil))) (.cons (.cmp .eq (.own "_law_pick" 2 (.cons (.v 2) (.cons (.c (.int 3)) .nil))) (.c (.int 0))) .nil) [gV,gV,ba 0]) .nil)) .nil)))))
 .nil))))))
section
variable{defs:JM (Kd×Df)}{fuel d:JW}{S:aa}{r:JW}{Q:QW}
theorem Fh {l:JW}{us ks:JM Wd}(h:S[l]?=ba (.lst (us.map aI)))(hne:us≠[])(hk:kq (us.map cH)=ba (ks.map cH))(q:Q (.ref S.length,S++[.stt (ks.map cH)])):wO (Bi.set.fn [.ref l] S) Q:=by
 refine ae ?_ q;have e2:lP [.ref l] S=ba (.ref S.length,S++[.stt (ks.map cH)]):=by
  simp only[lP,aM h,zS];rw[Ko,hk]
  ·rfl
  ·rw[Kj];intro x hx;obtain⟨u,_,rfl⟩:=Kl.mp hx;have:=md u;have kl:aG=6:=rfl;simp only[yO,AB,No,JV,Ki];exact⟨rfl,by exact J3 ‹_› (Kc rfl)⟩
 exact e2
theorem CU {l:JW}{us:JM Wd}(h:S[l]?=ba (.stt (us.map cH)))(h64:us.length < 64)(hnd:us.Nodup)(hne:∀u∈us,u≠[])(q:Q (.ref S.length,S++[.lst ((cV us).map aI)])):wO (Bi.sorted.fn [.ref l] S) Q:=by
 refine ae ?_ q;have hr:FD S l=ba (us.map cH):=by simp[FD,h]
 have N:=sn hnd;have ok:lQ (us.map cH)=true:=by
  simp only[lQ,iA,JV,Ki,LM,JO];refine⟨⟨⟨Kj.mpr N.num,N.lt⟩,N.nd⟩,⟨⟨h64,by have:=gU us; unfold db; exact J3 ‹_› (Kc rfl)⟩,.inr ⟨zW us hne,N.lt⟩⟩⟩
 have e1:dy [.ref l] S=ba (.ref S.length,S++[.lst ((cV us).map aI)]):=by
  simp only[dy,hr];rw[Ko ok,<- jQ,tY]
 show Dc dy fW [.ref l] S=_;unfold Dc;simp only[e1]
structure Full (defs:JM (Kd×Df)):Prop where
 digits:Is defs ("_law_digits" : Kd) 2 4 cR
 worlds:Is defs ("_law_worlds" : Kd) 2 6 dB
 figures:Is defs ("_law_figures" : Kd) 1 1 dQ
 full:Is defs ("_law_full_rule" : Kd) 1 5 de
theorem xl (G:Gen defs)(F:Full defs){ms ns:JM Kd}{a:JW}{bs:JM J5}{b0:W}(hs:SizeOk a bs)(hml:ms.length=a)(hnl:ns.length=bs.length)
  (k:∀(us:JM Wd) (q:JW) (S':aa),us.Nodup->us.length < 64->(∀u∈us,u∈bq a bs)->S'[q]?=ba (.lst ((cV us).map aI))->S.length<=q->Ka S S'->Q (.ref q,S')) :
  wO (bF (aq defs fuel (d+4)) "_law_figures" 1 [.tup [.tup (ms.map W.str),.tup (Km bQ ns bs),b0]] S) Q:=by
 refine aC F.figures rfl rfl λQ' hR=>?_
 replace k:∀(us:JM Wd) (q:JW) (S':aa),us.Nodup->us.length < 64->(∀u∈us,u∈bq a bs)->S'[q]?=ba (.lst ((cV us).map aI))->S.length<=q->Ka S S'->Q' (.rt (.ref q),S'):=λa b c e f g h i j=>hR _ _ (k a b c e f g h i j)
 clear hR;obtain⟨us,hk,hnd,h64,hmem,hne⟩:=CT hs;have hb3:=hs.n3;have hpos:=hs.pos;have h3:=hs.a3;have hmost:=hs.most;show wZ _ _ dQ [ba (.tup [.tup (ms.map W.str),.tup (Km bQ ns bs),b0])] S Q';generalize hB:W.tup [.tup (ms.map W.str),.tup (Km bQ ns bs),b0]=R;dsimp only[dQ];refine st ?_;dsimp only[wS,wE,wA,wV,wG];refine mo rfl rfl rfl ?_;dsimp only[wE,wA,wV,wG];subst hB;refine Ay (d:=d+1) F.digits F.worlds (a:=a) (n:=bs.length) (by rw[JO,hml]) (by rw[MK,hnl]; omega) hpos h3 hb3.1 hb3.2 hmost λl S1 e1 hl k1=>?_
 generalize hB:W.tup [.tup (ms.map W.str),.tup (Km bQ ns bs),b0]=R;refine⟨l,(du a bs.length 3).map aI,λj ys ρ2 S2=>(∃a1,ρ2=[gV,a1,ba R])/\ys=((d6 a bs).take j).map aI/\S2[l]?=ba (.lst ((du a bs.length 3).map aI))/\Ka S S2,rfl,⟨⟨gV,rfl⟩,rfl,e1,k1⟩,λj ys ρ2 S2 h=>h.2.2.1,?_,?_⟩
 ·rintro j w ys ρ2 S2 hw ⟨⟨a1,rfl⟩,rfl,e2,k2⟩;rw[JY,JR]at hw;obtain⟨u,hu,rfl⟩:=hw;obtain⟨gu,hu3⟩:=sj (Ke hu);refine ae (show gm (.nm 1) (aI u) [gV,a1,ba R] S2=ba ([gV,ba (aI u),ba R],S2)from rfl) ?_
  dsimp only[kB,wC,wE,wA,wV,wG];subst hB;refine⟨λ_=>jd (d:=d) G hs.good hnl gu hu3 λS3 k3=>⟨⟨_,rfl⟩,?_,k3.get _ _ e2,k2.trans k3⟩,λz=>by cases z⟩
  have:(d6 a bs)[j]?=ba (jM bs u):=by unfold d6; rw[JY,hu]; rfl
  rw[KD,this];simp
 ·rintro ys ρ2 S2 ⟨_,rfl,e2,k2⟩;have hfl:(d6 a bs).length=((du a bs.length 3).map aI).length:=by unfold d6; rw[JO,JO]
  rw[<- hfl,KY];have hl216:(d6 a bs).length<=216:=by
   unfold d6;rw[JO,ff];exact(sd (k:=2) hpos h3 hb3.1 hb3.2 hmost (by decide)).2.2
  refine⟨pY (by rw[JO]; exact J3 ‹_› (Kc rfl)),Fh aj hne hk (CU aj h64 hnd (λu hu=>rY (hmem u hu)) ?_)⟩
  have kk:=((k2.trans (Ka.push (o:=O.lst ((d6 a bs).map aI)))).trans (Ka.push (o:=O.stt (us.map cH)))).trans (Ka.push (o:=O.lst ((cV us).map aI)));exact k us _ _ hnd h64 hmem aj (((k2.trans (Ka.push (o:=O.lst ((d6 a bs).map aI)))).trans (Ka.push (o:=O.stt (us.map cH)))).len) kk
theorem Fi (hfu:20 < fuel)(G:Gen defs)(F:Full defs)(hf:Fl S r)(k:∀w S',eZ w->Fl S' r->Kp r S S'->Q (w,S')):wO (bF (aq defs fuel (d+8)) "_law_full_rule" 1 [.ref r] S) Q:=by
 refine aC F.full rfl rfl λQ' hR=>?_
 replace k:∀w S',eZ w->Fl S' r->Kp r S S'->Q' (.rt w,S'):=λz S' a b c=>hR _ _ (k z S' a b c)
 clear hR;show wZ _ _ de [ba (.ref r),gV,gV,gV,gV] S Q';dsimp only[de];refine bw λK hK=>?_
 dsimp only[wS,wE,wA,wV,wG,J4];refine bu (d:=d+6) G.pick hf (by decide) (by decide) λv S1 v0 v7 f1 k1=>hK _ _ ?_
 clear hK K;refine bw λK hK=>?_
 dsimp only[wS,wT,wE,wV,wG,kH,bE,wB];refine aw (Q0:=Q') (λ_ Q2 _ hr=>?_) (λ_ Q2 hn _=>cq (hn _ _ (hK _ _ ?_)))
 ·refine st ?_;dsimp only[wS,wE,wA,wV,wG];exact Au (d:=d) hfu G f1 λw S2 hw f2 k2=>hr _ _ (k w S2 hw f2 (k1.trans k2))
 clear hK K hn;refine bw λK hK=>?_
 dsimp only[wS,wT,wE,wV,wG,Cw,bE,wB];refine aw (Q0:=Q') (λ_ Q2 _ hr=>?_) (λ_ Q2 hn _=>cq (hn _ _ (hK _ _ ?_)))
 ·refine st ?_;dsimp only[wS,wE,wA,wV,wG];exact t4 (d:=d+1) hfu G f1 λw S2 hw f2 k2=>hr _ _ (k w S2 hw f2 (k1.trans k2))
 clear hK K hn;refine bw λK hK=>?_
 dsimp only[wS,wE,wA,wV,wG];refine pS (d:=d+5) G f1 λa n S2 a1 a3 n1 n3 an f2 k2=>?_
 dsimp only[wU];refine ae (show eR [2,3] [.int a,.int n] [ba (.ref r),ba (.int v),gV,gV,gV]=ba [ba (.ref r),ba (.int v),ba (.int a),ba (.int n),gV]from rfl) (hK _ _ ?_)
 clear hK K;refine bw λK hK=>?_
 dsimp only[wS,wE,wA,wV,wG,J4];refine pT (d:=d+5) G f2 n1 n3 λbs S3 hb hbl f3 k3=>?_
 have hsz:SizeOk a bs:=⟨by omega,hb,by rw[hbl]; exact an,a3⟩
 refine gh (d:=d+2) hfu G f3 a3 (by omega) λms ns S4 hml hnl hnm f4 k4=>hK _ _ ?_
 clear hK K;have k14:Kp r S S4:=k1.trans (k2.trans (k3.trans k4));clear k1 k2 k3 k4;refine st ?_;dsimp only[wS,wE,wA,wV,wG];refine am (by decide) rfl (am (by decide) rfl ?_)
 refine mo rfl rfl rfl ?_;dsimp only[wE,wA,wV,wG];refine xl (d:=d+3) G F hsz hml hnl λus q S5 hnd h64 hmem e5 hq k5=>?_
 have f5:=f4.ka k5;have hrq:r < q:=Kq f4.lt hq;refine⟨q,(cV us).map aI,λj ys ρ2 S6=>(∃a1,ρ2=[gV,a1,ba (.ref r)])/\(∃vs:JM Wd,ys=vs.map aI/\vs.Sublist ((cV us).take j))/\S6[q]?=ba (.lst ((cV us).map aI))/\Fl S6 r/\Kp r S S6,rfl,⟨⟨gV,rfl⟩,⟨[],rfl,by simp⟩,e5,f5,k14.trans (k5.kp r)⟩,λj ys ρ2 S6 h=>h.2.2.1,?_,?_⟩
 ·rintro j w ys ρ2 S6 hw ⟨⟨a1,rfl⟩,⟨vs,rfl,hsub⟩,e6,f6,k6⟩;rw[JY,JR]at hw;obtain⟨u,hu,rfl⟩:=hw;refine ae (show gm (.nm 1) (aI u) [gV,a1,ba (.ref r)] S6=ba ([gV,ba (aI u),ba (.ref r)],S6)from rfl) ?_
  dsimp only[kB,wC,wE,wA,wV,wG];refine bu (d:=d+6) G.pick f6 (by decide) (by decide) λv S7 _ _ f7 k7=>?_
  dsimp only[kH,bE,wB];have e7:=k7.get _ _ (KC ‹_›) e6;refine⟨λ_=>⟨⟨_,rfl⟩,⟨vs++[u],by rw[KN]; rfl,?_⟩,e7,f7,k6.trans k7⟩,λ_=>⟨⟨_,rfl⟩,⟨vs,rfl,?_⟩,e7,f7,k6.trans k7⟩⟩
  ·rw[KD,hu];exact hsub.append (SZ _)
  ·rw[KD];exact hsub.trans (List.sublist_append_left _ _)
 ·rintro ys ρ2 S6 ⟨_,⟨vs,rfl,hsub⟩,e6,f6,k6⟩;rw[JO,KY]at hsub;have pu:(cV us).Perm us:=eP;have hvl:vs.length<=us.length:=by rw[<- pu.length_eq]; exact hsub.length_le
  have hvs:=xk hnd hsub;refine⟨pY (by rw[JO]; omega),fD aj (k _ _ ⟨a,bs,ms,ns,vs,by rw[hvs]; rfl,hsz,hml,hnl,hnm,hsub.nodup (pu.nodup_iff.mpr hnd),λg hg=>hmem g (pu.mem_iff.mp (hsub.subset hg))⟩ (f6.ka .push) (k6.trans .push))⟩
end
section
variable{Φ:Kd->FF}{ρ:Fm}{S:aa}
theorem AC {α:Type}{elt:E}{it:Ie}{cs:Es}{cap:JM (JU JW)}{mi:MI}{S1:aa}{Q:QW}(L:JM α)(f:α->W)(p:α->Kt)(g:α->W)(R:Fm)(oe:eF elt=true)(oc:qo cs=true)(hc:fX cap ρ=gV::gV::R)(hl:L.length<=1000000)(hi:ll Φ it ρ S=ba (mi,S1))(k1:Ka S S1)(hat:∀i S',Ka S1 S'->mi.at S' i=ba (L.map f)[i]?)(hn:mi.len S1=ba (L.map f).length)
  (hstep:∀x∈L,∀S',Ka S S'->kB Φ elt cs (gV::ba (f x)::R) S' (λy _ S2=>p x=true/\y=g x/\Ka S' S2) (λ_ S2=>p x=false/\Ka S' S2))
  (k:∀S',Ka S S'->Q (.ref S'.length,S'++[.lst ((L.filter p).map g)])):Wp (aH Φ (.comp elt (.nm 1) it cs cap) ρ S) Q:=by
 rw[zF];refine⟨_,hi,_,hn,?_⟩;refine(eh (xs:=L.map f) (Q:=λq=>q.1.length<=sizeLine/\Q (.ref q.2.length,q.2++[.lst q.1])) (λi ys ρ' S'=>(∃a1,ρ'=gV::a1::R)/\ys=((L.take i).filter p).map g/\Ka S1 S') (λi ys ρ' S' h=>hat i S' h.2.2) (λi w ys ρ' S' hw h=>?_) (λys ρ' S' h=>?_) (L.map f).length 0 [] _ S1 (by omega) ⟨⟨gV,hc⟩,rfl,.refl⟩).mono λq hq=>by simpa using hq
 ·obtain⟨⟨a1,rfl⟩,rfl,k2⟩:=h;rw[JY,JR]at hw;obtain⟨x,hx,rfl⟩:=hw;refine IT.mpr ?_;refine(Dt oc (hstep x (Ke hx) S' (k1.trans k2))).mono λc hc=>⟨λz=>(bK elt oe (hc.1 z)).mono λy hy=>⟨⟨_,rfl⟩,?_,k2.trans hy.2.2⟩,λz=>⟨⟨_,rfl⟩,?_,k2.trans (hc.2 z).2⟩⟩
  ·rw[KD,hx,OA,show(R1 (ba x)).filter p=[x]from List.filter_cons_of_pos hy.1,KN,hy.2.1]; rfl
  ·rw[KD,hx,OA,show(R1 (ba x)).filter p=[]from List.filter_cons_of_neg (by rw[(hc.2 z).1]; exact Kr),LK]
 ·obtain⟨_,rfl,k2⟩:=h;dsimp only;rw[show(L.map f).length=L.length from JO ..,KY]
  refine⟨pY ?_,k S' (k1.trans k2)⟩;rw[JO];exact J3 (MY _ _) hl
theorem Fj {α:Type}{elt e:E}{cs:Es}{cap:JM (JU JW)}{Q:QW}(L:JM α)(f:α->W)(p:α->Kt)(g:α->W)(R:Fm)(oi:eF e=true)(oe:eF elt=true)(oc:qo cs=true)(hc:fX cap ρ=gV::gV::R)(hl:L.length<=1000000)
  (he:wE Φ e ρ S λq=>∃t,q.1=.ref t/\q.2[t]?=ba (.lst (L.map f))/\Ka S q.2)
  (hstep:∀x∈L,∀S',Ka S S'->kB Φ elt cs (gV::ba (f x)::R) S' (λy _ S2=>p x=true/\y=g x/\Ka S' S2) (λ_ S2=>p x=false/\Ka S' S2))
  (k:∀S',Ka S S'->Q (.ref S'.length,S'++[.lst ((L.filter p).map g)])):Wp (aH Φ (.comp elt (.nm 1) (.seq e) cs cap) ρ S) Q:=by
 obtain⟨w,S1,e1,t,rfl,ht,k1⟩:=cJ oi he;exact AC (mi:=.live t) L f p g R oe oc hc hl (by simp only[ll,fK,e1,aM ht]) k1 (λi S' h=>by simp only[MI.at,aM (h.get _ _ ht)]) (by simp only[MI.len,aM ht,KR]) hstep k
theorem sr (n:JW):dE 0 n=(Ky n).map λi=>W.int (i:JW):=by
 unfold dE;refine MJ λi _=>?_
 rw[Od]
theorem Fk {elt e:E}{cs:Es}{cap:JM (JU JW)}{Q:QW}(n:JW)(p:JW->Kt)(g:JW->W)(R:Fm)(oi:eF e=true)(oe:eF elt=true)(oc:qo cs=true)(hc:fX cap ρ=gV::gV::R)(hl:n<=1000000)
  (he:wE Φ e ρ S λq=>q.1=.int n/\Ka S q.2)
  (hstep:∀x < n,∀S',Ka S S'->kB Φ elt cs (gV::ba (.int (x:JW))::R) S' (λy _ S2=>p x=true/\y=g x/\Ka S' S2) (λ_ S2=>p x=false/\Ka S' S2))
  (k:∀S',Ka S S'->Q (.ref S'.length,S'++[.lst (((Ky n).filter p).map g)])):Wp (aH Φ (.comp elt (.nm 1) (.rng (.cons e .nil)) cs cap) ρ S) Q:=by
 obtain⟨w,S1,e1,rfl,k1⟩:=cJ oi he;refine AC (mi:=.its (dE 0 n)) (Ky n) (λi=>W.int (i:JW)) p g R oe oc hc (by rw[KJ]; exact hl) ?_ k1 (λi S' _=>by rw[<- sr]; rfl) (by rw[<- sr]; rfl) (λx hx=>hstep x (KP.mp hx)) k
 simp only[ll,dI,eQ,jC,tM,e1];rw[Ko ⟨by omega,by omega⟩]; rfl
theorem AD {α:Type}(L:JM α):L.filter (λ_=>true)=L:=List.filter_eq_self.mpr λ_ _=>rfl
end
theorem Fn {bs:JM J5}{a:JW}{v:Wd}{i j:JW}(hb:GoodB bs)(hv:GoodW a bs.length v)(hi:i < v.length)(hj:j < v.length)(hij:i≠j):0<=gc bs v i j/\gc bs v i j < (bs.length:J5):=by
 unfold gc
 by_cases h:j < i
 ·rw[Ko h];have hp:=aB (d:=(0,[])) hi;have hw:j < (v.getD i (0,[])).2.length:=by rw[hv.len i _ hp]; exact h
  exact hv.way i _ hp _ (Ke (aB (d:=0) hw))
 ·rw[Kw h];have hp:=aB (d:=(0,[])) hj;have hw:i < (v.getD j (0,[])).2.length:=by rw[hv.len j _ hp]; omega
  obtain⟨g1,g2⟩:=hv.way j _ hp _ (Ke (aB (d:=0) hw));exact(hb.at g1 g2).2
theorem xm {bs:JM J5}{a:JW}{v:Wd}{ps:JM JW}(hb:GoodB bs)(hv:GoodW a bs.length v)(hps:∀p∈ps,p < v.length)(hnd:ps.Nodup):GoodW a bs.length (bp bs v ps):=by
 have at':∀(k:JW) (q:Pt),(bp bs v ps)[k]?=ba q->∃hk:k < ps.length,q=((v.getD ps[k] (0,[])).1,(ps.take k).map λj=>gc bs v ps[k] j):=λk q e=>by
  have hk:k < ps.length:=by
   have:=(J1.mp e).1;rw[fO]at this; exact this
  refine⟨hk,?_⟩;unfold bp at e;rw[JY,Mj hk,KR,show ps.getD k 0=ps[k] by simp[hk]]at e
  exact(Ld e).symm
 refine⟨λk q e=>?_,λk q e=>?_,λk q e=>?_⟩
 ·obtain⟨hk,rfl⟩:=at' k q e;have:=hv.mark _ _ (aB (d:=(0,[])) (hps _ (K7 hk)));exact this
 ·obtain⟨hk,rfl⟩:=at' k q e;dsimp only;rw[JO,KA]; omega
 ·obtain⟨hk,rfl⟩:=at' k q e;intro w hw;obtain⟨j,hj,rfl⟩:=Kl.mp hw;have hjm:=L9 hj;refine Fn hb hv (hps _ (K7 hk)) (hps _ hjm) λe=>?_
  obtain⟨m,hm,e2⟩:=M6.mp hj;rw[KA]at hm;rw[ON]at e2;have:=(NP hnd).mp (e.trans e2.symm);omega
section
variable{defs:JM (Kd×Df)}{fuel d:JW}{S:aa}{Q:QW}
theorem Fo (hd:Is defs ("_law_flow" : Kd) 1 1 eX){ns:JM J5}{u:JW}(hu:S[u]?=ba (.fro (ns.map W.int)))(k:∀r S',Ka S S'->Fl S' r->Q (.ref r,S')) :
  wO (bF (aq defs fuel (d+1)) "_law_flow" 1 [.ref u] S) Q:=by
 refine aC hd rfl rfl λQ' hR=>?_
 show wZ _ _ eX [ba (.ref u)] S Q';dsimp only[eX];refine st ?_;dsimp only[wS,wE,wA,wV,wG];have e:Bi.list.fn [.ref u] S=ba (.ref S.length,S++[.lst (ns.map W.int)]):=by
  have h1:BK S u=gV:=by simp[BK,hu]
  simp only[Bi.fn,Dc,n0,h1,iQ,ft,Cy hu]
 refine ae e (hR _ _ (k _ _ (Ka.push.trans .push) ⟨S.length,ns,0,0,1,0,?_,?_,?_,by decide,by decide,by decide,by decide⟩))
 ·exact aj
 ·exact ap aj
 ·simp
end
noncomputable def bY:Ss:=
 (.cons (.set 4 (.tup (.cons (.ix (.ix (.v 0) (.v 1)) (.c (.int 0))) (.cons (.tup .nil) .nil))))
 (.cons (.set 5 (.tup (.cons (.ix (.ix (.v 0) (.v 2)) (.c (.int 0))) (.cons (.tup (.cons (.ix (.ix (.ix (.v 0) (.v 2)) (.c (.int 1))) (.v 1)) .nil)) .nil))))
 (.cons (.ret (.tup (.cons (.v 4) (.cons (.v 5) (.cons (.tup (.cons (.ix (.ix (.v 0) (.v 3)) (.c (.int 0))) (.cons (.tup (.cons (.ix (.ix (.ix (.v 0) (.v 3)) (.c (.int 1))) (.v 1)) (.cons (.ix (.ix (.ix (.v 0) (.v 3)) (.c (.int 1))) (.v 2)) .nil))) .nil))) .nil)))))
 .nil)))
noncomputable def gI (u:Wd)(i j k:JW):Wd:=[((u.getD i (0,[])).1,[]),((u.getD j (0,[])).1,[(u.getD j (0,[])).2.getD i 0]),((u.getD k (0,[])).1,[(u.getD k (0,[])).2.getD i 0,(u.getD k (0,[])).2.getD j 0])]
section
variable{defs:JM (Kd×Df)}{fuel d:JW}{S:aa}{Q:QW}
theorem vG (hg:Is defs ("three_at" : Kd) 4 6 bY){a n:JW}{u:Wd}{i j k:JW}(hu:GoodW a n u)(h1:i < j)(h2:j < k)(h3:k < u.length)(q:Q (aI (gI u i j k),S)) :
  wO (bF (aq defs fuel (d+1)) "three_at" 4 [aI u,.int i,.int j,.int k] S) Q:=by
 refine aC hg rfl rfl λQ' hR=>?_
 replace q:=hR _ _ q;clear hR;show wZ _ _ bY [ba (aI u),ba (.int i),ba (.int j),ba (.int k),gV,gV] S Q';have hi:i < u.length:=by omega
 have hj:j < u.length:=by exact NE ‹_› ‹_›
 have lj:i < (u.getD j (0,[])).2.length:=by rw[hu.len j _ (aB (d:=(0,[])) hj)]; exact h1
 have lk:j < (u.getD k (0,[])).2.length:=by rw[hu.len k _ (aB (d:=(0,[])) h3)]; exact h2
 have lki:i < (u.getD k (0,[])).2.length:=by omega
 have w:∀ {p m:JW},m < (u.getD p (0,[])).2.length->((u.getD p (0,[])).2.map W.int)[((m:JW):J5).toNat]?=ba (.int ((u.getD p (0,[])).2.getD m 0)):=λ{p m} h=>by
  rw[Kh,JY,aB (d:=0) h]; rfl
 dsimp only[bY];refine st ?_;dsimp only[wS,wE,wA,wV,wG,J4];refine am (Kg i) (dW hi) (am (by decide) rfl ?_)
 refine st ?_;dsimp only[wS,wE,wA,wV,wG,J4];refine am (Kg j) (dW hj) (am (by decide) rfl (am (Kg j) (dW hj) (am (by decide) rfl (am (Kg i) (w lj) ?_))))
 refine st ?_;dsimp only[wS,wE,wA,wV,wG,J4];exact am (Kg k) (dW h3) (am (by decide) rfl (am (Kg k) (dW h3) (am (by decide) rfl (am (Kg i) (w lki) (am (Kg k) (dW h3) (am (by decide) rfl (am (Kg j) (w lk) q)))))))
end
noncomputable def bf (i j k i' j' k':JW):Prop:=i' < i\/(i'=i/\(j' < j\/(j'=j/\k' < k)))
noncomputable def Fp (P:JW->JW->JW->Kt)(n i j k:JW):Prop:=i < j/\j < k/\k < n/\P i j k=true/\∀i' j' k',i' < j'->j' < k'->k' < n->bf i j k i' j' k'->P i' j' k'=false
noncomputable def Ans (P:JW->JW->JW->Kt)(n:JW)(w:W):Prop:=(w=.non/\∀i j k,i < j->j < k->k < n->P i j k=false)\/∃i j k:JW,w=.tup [.int i,.int j,.int k]/\Fp P n i j k
theorem Ans.congr {P P':JW->JW->JW->Kt}{n:JW}{w:W}(e:∀i j k,i < j->j < k->k < n->P i j k=P' i j k)(h:Ans P n w):Ans P' n w:=by
 rcases h with⟨rfl,h⟩|⟨i,j,k,rfl,a1,a2,a3,a4,a5⟩
 ·exact .inl ⟨rfl,λi j k b1 b2 b3=>by rw[<- e i j k b1 b2 b3]; exact h i j k b1 b2 b3⟩
 ·exact .inr ⟨i,j,k,rfl,a1,a2,a3,by rw[<- e i j k a1 a2 a3]; exact a4,λi' j' k' b1 b2 b3 b4=>by rw[<- e i' j' k' b1 b2 b3]; exact a5 i' j' k' b1 b2 b3 b4⟩
noncomputable def cw:Ss:=
 (.cons (.loop (.nm 2) (.rng (.cons (.bi .len (.cons (.v 1) .nil)) .nil)) (.cons (.loop (.nm 3) (.rng2 (.cons (.op .add (.v 2) (.c (.int 1))) (.cons (.bi .len (.cons (.v 1) .nil)) .nil))) (.cons (.loop (.nm 4) (.rng2 (.cons (.op .add (.v 3) (.c (.int 1))) (.cons (.bi .len (.cons (.v 1) .nil)) .nil))) (.cons (.ite (.cmp .isin (.own "three_at" 4 (.cons (.v 1) (.cons (.v 2) (.cons (.v 3) (.cons (.v 4) .nil))))) (.v 0)) (.cons (.ret (.tup (.cons (.v 2) (.cons (.v 3) (.cons (.v 4) .nil)))))
 .nil) .nil)
 .nil))
 .nil))
 .nil))
 (.cons (.ret (.c .non))
 .nil))
noncomputable def kI (kvs:JM (T×W))(u:Wd)(i j k:JW):Kt:=(cy kvs (cH (gI u i j k))).isSome
section
variable{defs:JM (Kd×Df)}{fuel d:JW}{S:aa}{Q:QW}
theorem nr (h3:Is defs ("three_at" : Kd) 4 6 bY)(hg:Is defs ("first_three" : Kd) 2 5 cw){a n q:JW}{u:Wd}{kvs:JM (T×W)}(hu:GoodW a n u)(hl:u.length<=1000)(e:S[q]?=ba (.dic kvs))(kk:∀w,Ans (kI kvs u) u.length w->Q (w,S)) :
  wO (bF (aq defs fuel (d+2)) "first_three" 2 [.ref q,aI u] S) Q:=by
 refine aC hg rfl rfl λQ' hR=>?_
 replace kk:∀w,Ans (kI kvs u) u.length w->Q' (.rt w,S):=λw h=>hR _ _ (kk w h)
 clear hR;show wZ _ _ cw [ba (.ref q),ba (aI u),gV,gV,gV] S Q';have ul:(u.map dZ).length=u.length:=JO ..;dsimp only[cw];refine bw λK hK=>?_
 refine cm (u.length:J5) (λi ρ S'=>(∃a2 a3 a4,ρ=[ba (.ref q),ba (aI u),a2,a3,a4])/\S'=S/\∀i' j' k',i' < i->i' < j'->j' < k'->k' < u.length->kI kvs u i' j' k'=false) rfl rfl (by omega) ?_ ?_ ?_
 ·dsimp only[wE,wA,wV,wG];refine bS ?_;rw[ul];exact⟨rfl,⟨_,_,_,rfl⟩,rfl,λi' _ _ z=>by omega⟩
 ·rintro i ρ S1 hi ⟨⟨a2,a3,a4,rfl⟩,rfl,no⟩ Q2 hn hr;clear hK;dsimp only[J4];refine bw λK hK=>?_
  refine gE ((i:J5)+1) (u.length:J5) (λm ρ S'=>(∃a3 a4,ρ=[ba (.ref q),ba (aI u),ba (.int i),a3,a4])/\S'=S1/\∀j' k',j' < i+1+m->i < j'->j' < k'->k' < u.length->kI kvs u i j' k'=false) rfl rfl rfl (by omega) ?_ ?_ ?_
  ·dsimp only[wE,wA,wV,wG];refine ae dk ⟨rfl,bS ?_⟩;rw[ul];exact⟨rfl,⟨_,_,rfl⟩,rfl,λj' k' z1 z2=>by omega⟩
  ·rintro m ρ S2 hm ⟨⟨a3,a4,rfl⟩,rfl,no2⟩ Q3 hn3 hr3;clear hK;have ej:(i:J5)+1+m=((i+1+m:JW):J5):=by omega
   rw[ej];generalize hj:i+1+m=j at no2 hn3 ej;have hij:i < j:=by omega
   have hju:j < u.length:=by omega
   dsimp only[J4];refine bw λK hK=>?_
   refine gE ((j:J5)+1) (u.length:J5) (λl ρ S'=>(∃a4,ρ=[ba (.ref q),ba (aI u),ba (.int i),ba (.int j),a4])/\S'=S2/\∀k',k' < j+1+l->j < k'->k' < u.length->kI kvs u i j k'=false) rfl rfl rfl (by omega) ?_ ?_ ?_
   ·dsimp only[wE,wA,wV,wG];refine ae dk ⟨rfl,bS ?_⟩;rw[ul];exact⟨rfl,⟨_,rfl⟩,rfl,λk' z1 z2=>by omega⟩
   ·rintro l ρ S3 hl3 ⟨⟨a4,rfl⟩,rfl,no3⟩ Q4 hn4 hr4;clear hK;have ek:(j:J5)+1+l=((j+1+l:JW):J5):=by omega
    rw[ek];generalize hk:j+1+l=k at no3 hn4 ek;have hjk:j < k:=by omega
    have hku:k < u.length:=by omega
    dsimp only[J4];refine bw λK hK=>?_
    dsimp only[wS,wT,wE,wA,wV,wG];refine vG (d:=d) h3 hu hij hjk hku ?_;refine ae (show cg .isin (aI (gI u i j k)) (.ref q) S3=ba (.bl (kI kvs u i j k),S3) by simp only[cg,cO e,pP]; rfl) ?_
    dsimp only[wB];refine aw (Q0:=Q4) (λh Q5 _ hr5=>?_) (λh Q5 hn5 _=>cq (hn5 _ _ (hK _ _ (cq (hn4 _ _ ⟨⟨_,rfl⟩,rfl,λk' z1 z2 z3=>?_⟩)))))
    ·refine st ?_;dsimp only[wS,wE,wA,wV,wG];refine hr5 _ _ (hr4 _ _ (hr3 _ _ (hr _ _ (kk _ (.inr ⟨i,j,k,rfl,hij,hjk,hku,h,λi' j' k' b1 b2 b3 b4=>?_⟩)))))
     rcases b4 with b|⟨rfl,b|⟨rfl,b⟩⟩
     ·exact no i' j' k' b b1 b2 b3
     ·exact no2 j' k' b b1 b2 b3
     ·exact no3 k' b b2 b3
    ·by_cases ek2:k'=k
     ·rw[ek2]; exact h
     ·exact no3 k' (by omega) z2 z3
   ·rintro ρ S3 ⟨⟨a4,rfl⟩,rfl,no3⟩;refine hK _ _ (cq (hn3 _ _ ⟨⟨_,_,rfl⟩,rfl,λj' k' z1 z2 z3 z4=>?_⟩))
    by_cases ej2:j'=j
    ·rw[ej2]; exact no3 k' (by omega) (by omega) z4
    ·exact no2 j' k' (by omega) z2 z3 z4
  ·rintro ρ S2 ⟨⟨a3,a4,rfl⟩,rfl,no2⟩;refine hK _ _ (cq (hn _ _ ⟨⟨_,_,_,rfl⟩,rfl,λi' j' k' z1 z2 z3 z4=>?_⟩))
   by_cases ei:i'=i
   ·rw[ei]; exact no2 j' k' (by omega) (by omega) z3 z4
   ·exact no i' j' k' (by omega) z2 z3 z4
 ·rintro ρ S1 ⟨⟨a2,a3,a4,rfl⟩,rfl,no⟩;refine hK _ _ (st ?_);dsimp only[wS,wE];exact kk _ (.inl ⟨rfl,λi j k b1 b2 b3=>no i j k (by omega) b1 b2 b3⟩)
end
structure HasD (kvs:JM (T×W))(L:JM Wd):Prop where
 iff:∀t,t∈kvs.map (·.1)↔t∈L.map cH
 len:kvs.length<=L.length
theorem AE {kvs:JM (T×W)}{t:T}:(cy kvs t).isSome=true↔t∈kvs.map (·.1):=by
 constructor
 ·intro h;obtain⟨v,hv⟩:=K1.mp h;exact Kl.mpr ⟨_,mj hv,rfl⟩
 ·intro h;obtain⟨p,hp,rfl⟩:=Kl.mp h;obtain⟨v,hv⟩:=vB hp;rw[hv]; rfl
theorem HasD.get {kvs:JM (T×W)}{L:JM Wd}(h:HasD kvs L)(t:T):(cy kvs t).isSome=decide (t∈L.map cH):=by
 rw[N3,AE,h.iff,Ki]
theorem HasD.nil:HasD [] []:=⟨λt=>by simp,JZ _⟩
theorem HasD.put {kvs:JM (T×W)}{L:JM Wd}{f:Wd}{v:W}(h:HasD kvs L):HasD (fm kvs (cH f) v) (L++[f]):=by
 refine⟨λt=>?_,?_⟩
 ·rw[jN,KN,KF,<- h.iff t]
  by_cases hk:cH f∈kvs.map (·.1)
  ·rw[Ko hk];constructor
   ·exact .inl
   ·rintro(z|z)
    ·exact z
    ·rw[J8.mp z]; exact hk
  ·rw[Kw hk,KF]; rfl
 ·have:=di kvs (cH f) v;have:=h.len;rw[J0,Lr]; omega
noncomputable def fP:Ss:=
 (.cons (.set 1 .dnew)
 (.cons (.loop (.nm 2) (.seq (.ix (.v 0) (.c (.int 2)))) (.cons (.loop (.nm 3) (.seq (.own "_law_turns" 0 .nil)) (.cons (.put (.v 1) (.own "_law_part" 3 (.cons (.v 0) (.cons (.v 2) (.cons (.v 3) .nil)))) (.c (.bl true)))
 .nil))
 .nil))
 (.cons (.ret (.v 1))
 .nil)))
noncomputable def dt (bs:JM J5)(gs:JM Wd):JM Wd:=gs.flatMap λg=>au.map (bp bs g)
theorem mq (bs:JM J5):∀gs:JM Wd,(dt bs gs).length=6*gs.length
 | []=>rfl
 | g::gs=>by
  have:=mq bs gs;unfold dt at this ⊢;rw[M1,J0,this,K5,JO,show au.length=6 from rfl]; omega
section
variable{defs:JM (Kd×Df)}{fuel d:JW}{S:aa}{Q:QW}
theorem Hv (G:Gen defs)(hg:Is defs ("_law_bad" : Kd) 1 4 fP){m0:W}{ns:JM Kd}{bs:JM J5}{a:JW}{gs:JM Wd}(hb:GoodB bs)(hnl:ns.length=bs.length)(hgs:∀g∈gs,GoodW a bs.length g/\g.length=3)(h64:gs.length<=100)
  (k:∀(q:JW) (kvs:JM (T×W)) (S':aa),S'[q]?=ba (.dic kvs)->HasD kvs (dt bs gs)->S.length<=q->Ka S S'->Q (.ref q,S')) :
  wO (bF (aq defs fuel (d+3)) "_law_bad" 1 [.tup [m0,.tup (Km bQ ns bs),.tup (gs.map aI)]] S) Q:=by
 refine aC hg rfl rfl λQ' hR=>?_
 replace k:∀(q:JW) (kvs:JM (T×W)) (S':aa),S'[q]?=ba (.dic kvs)->HasD kvs (dt bs gs)->S.length<=q->Ka S S'->Q' (.rt (.ref q),S'):=λa b c e f g h=>hR _ _ (k a b c e f g h)
 clear hR;show wZ _ _ fP [ba (.tup [m0,.tup (Km bQ ns bs),.tup (gs.map aI)]),gV,gV,gV] S Q';generalize hR0:W.tup [m0,.tup (Km bQ ns bs),.tup (gs.map aI)]=R;dsimp only[fP];refine st ?_;dsimp only[wS,wE,J4];refine bw λK hK=>?_
 refine for_tup (gs.map aI) (λi ρ S'=>(∃a2 a3,ρ=[ba R,ba (.ref S.length),a2,a3])/\(∃kvs,S'[S.length]?=ba (.dic kvs)/\HasD kvs (dt bs (gs.take i)))/\Ka S S') rfl rfl ?_ ?_ ?_
 ·dsimp only[wE,wV,wG];subst hR0;exact am (by decide) rfl ⟨rfl,⟨_,_,rfl⟩,⟨[],aj,.nil⟩,.push⟩
 ·rintro i w ρ S1 hw ⟨⟨a2,a3,rfl⟩,⟨kvs,e1,h1⟩,k1⟩;clear hK k;rw[JY,JR]at hw;obtain⟨g,hg1,rfl⟩:=hw;obtain⟨gg,g3⟩:=hgs g (Ke hg1);have hi:i < gs.length:=(J1.mp hg1).1;refine ae (show gm (.nm 2) (aI g) [ba R,ba (.ref S.length),a2,a3] S1=ba ([ba R,ba (.ref S.length),ba (aI g),a3],S1)from rfl) ?_
  intro Q2 hn _;refine bw λK hK=>?_
  refine jg rfl rfl ?_;dsimp only[wE,wA];refine lq (d:=d+1) G ?_;refine⟨S1.length,au.map (λt=>W.tup (aD t)),(λj ρ S'=>(∃a3,ρ=[ba R,ba (.ref S.length),ba (aI g),a3])/\(∃kvs,S'[S.length]?=ba (.dic kvs)/\HasD kvs (dt bs (gs.take i)++(au.take j).map (bp bs g)))/\S'[S1.length]?=ba (.lst (au.map λt=>W.tup (aD t)))/\Ka S S'),rfl,⟨⟨_,rfl⟩,⟨kvs,ap e1,by rw[RH,Qw,LK]; exact h1⟩,aj,k1.trans .push⟩,λj ρ S' h=>h.2.2.1,?_,?_⟩
  ·rintro j w ρ S2 hw ⟨⟨a3,rfl⟩,⟨kvs2,e2,h2⟩,el,k2⟩;clear hK hn;rw[JY,JR]at hw;obtain⟨t,ht,rfl⟩:=hw;have htm:=Ke ht;have tk:t.length<=3/\t.Nodup/\∀p∈t,p < 3:=by
    have:∀t∈au,t.length<=3/\t.Nodup/\∀p∈t,p < 3:=by decide
    exact this t htm
   refine ae (show gm (.nm 3) (.tup (aD t)) [ba R,ba (.ref S.length),ba (aI g),a3] S2=ba ([ba R,ba (.ref S.length),ba (aI g),ba (.tup (aD t))],S2)from rfl) ?_
   intro Q3 hn3 _;refine st ?_;dsimp only[wS,wE,wA,wV,wG];subst hR0;refine zY (d:=d) G hb hnl gg (λp hp=>by have:=tk.2.2 p hp; omega) tk.2.1 (by omega) λS3 k3=>?_
   have e3:=k3.get _ _ e2;have hlt:kvs2.length < sizeLine:=by
    have b1:=h2.len;have b2:=mq bs (gs.take i);rw[J0,b2,JO,KA,KA,show au.length=6 from rfl]at b1
    rw[KZ]; omega
   refine ae (Ae e3 hlt) (cq (hn3 _ _ ⟨⟨_,rfl⟩,⟨_,bW e3,?_⟩,?_,(k2.trans k3).late (JZ _)⟩))
   ·rw[KD,ht,KN,<- LW];exact h2.put
   ·rw[ce (by have:=k1.len; have:=cU e1; exact Kk ‹_›)]; exact k3.get _ _ el
  ·rintro ρ S2 ⟨⟨a3,rfl⟩,⟨kvs2,e2,h2⟩,el,k2⟩;rw[JO,KY]at h2;refine hK _ _ (cq (hn _ _ ⟨⟨_,_,rfl⟩,⟨kvs2,e2,?_⟩,k2⟩));unfold dt at h2 ⊢;rw[KD,hg1,Mk]
   simpa using h2
 ·rintro ρ S1 ⟨⟨a2,a3,rfl⟩,⟨kvs,e1,h1⟩,k1⟩;rw[JO,KY]at h1;exact hK _ _ (st (k _ kvs S1 e1 h1 (JZ _) k1))
end
noncomputable def bG:Ss:=
 (.cons (.set 1 (.lst (.cons (.tup .nil) .nil)))
 (.cons (.whl (.cmp .lt (.bi .len (.cons (.ix (.v 1) (.c (.int 0))) .nil)) (.c (.int 3))) (.cons (.set 1 (.own "longer_orders" 2 (.cons (.v 1) (.cons (.c (.int 3)) .nil))))
 .nil))
 (.cons (.set 2 .dnew)
 (.cons (.loop (.nm 3) (.seq (.ix (.v 0) (.c (.int 2)))) (.cons (.loop (.nm 4) (.seq (.v 1)) (.cons (.put (.v 2) (.own "part" 3 (.cons (.v 0) (.cons (.v 3) (.cons (.v 4) .nil)))) (.c (.bl true)))
 .nil))
 .nil))
 (.cons (.ret (.v 2))
 .nil)))))
noncomputable def xn:JW->JM (JM JW)
 | 0=>[[]]
 | i+1=>gH 3 (xn i)
theorem xo:xn 3=au:=by decide
theorem Fq:∀i,i<=3->(∃o,(xn i)[0]?=ba o/\o.length=i)/\(xn i).length<=6/\∀o∈xn i,o.length<=3:=λi hi=>by
 rcases(show i=0\/i=1\/i=2\/i=3 by omega)with rfl|rfl|rfl|rfl
 ·exact⟨⟨[],rfl,rfl⟩,by decide,by decide⟩
 ·exact⟨⟨[0],rfl,rfl⟩,by decide,by decide⟩
 ·exact⟨⟨[0,1],rfl,rfl⟩,by decide,by decide⟩
 ·exact⟨⟨[0,1,2],rfl,rfl⟩,by decide,by decide⟩
section
variable{defs:JM (Kd×Df)}{fuel d:JW}{S:aa}{Q:QW}
theorem su (hfu:20 < fuel)(P:Parts defs)(hp:Is defs ("part" : Kd) 3 3 gG)(hl:Is defs ("longer_orders" : Kd) 2 4 br)(hg:Is defs ("barred_threes" : Kd) 1 5 bG){m0:W}{ns:JM Kd}{bs:JM J5}{a:JW}{gs:JM Wd}(hb:GoodB bs)(hnl:ns.length=bs.length)(hgs:∀g∈gs,GoodW a bs.length g/\g.length=3)(h64:gs.length<=100)
  (k:∀(q:JW) (kvs:JM (T×W)) (S':aa),S'[q]?=ba (.dic kvs)->HasD kvs (dt bs gs)->S.length<=q->Ka S S'->Q (.ref q,S')) :
  wO (bF (aq defs fuel (d+4)) "barred_threes" 1 [.tup [m0,.tup (Km bQ ns bs),.tup (gs.map aI)]] S) Q:=by
 refine aC hg rfl rfl λQ' hR=>?_
 replace k:∀(q:JW) (kvs:JM (T×W)) (S':aa),S'[q]?=ba (.dic kvs)->HasD kvs (dt bs gs)->S.length<=q->Ka S S'->Q' (.rt (.ref q),S'):=λa b c e f g h=>hR _ _ (k a b c e f g h)
 clear hR;show wZ _ _ bG [ba (.tup [m0,.tup (Km bQ ns bs),.tup (gs.map aI)]),gV,gV,gV,gV] S Q';generalize hR0:W.tup [m0,.tup (Km bQ ns bs),.tup (gs.map aI)]=R;dsimp only[bG];refine st ?_;dsimp only[wS,wE,wA,J4];refine bw λK hK=>?_
 refine Ds (λm ρ S'=>∃(i q:JW),i+m=3/\ρ=[ba R,ba (.ref q),gV,gV,gV]/\S'[q]?=ba (.lst (cW (xn i)))/\S.length<=q/\Ka S S') 3 rfl rfl (by omega) ⟨0,S.length,rfl,rfl,aj,JZ _,.push⟩ ?_
 rintro m ρ S1 ⟨i,q,him,rfl,e1,hq,k1⟩;obtain⟨⟨o,ho,hol⟩,l6,l3⟩:=Fq i (by omega)
 dsimp only[wT,wE,wA,wV,wG];refine gC (w:=.tup (aD o)) e1 (by decide) (by unfold cW; rw[JY,show((0:J5).toNat)=0 from rfl,ho]; rfl) (bS ?_)
 rw[show(aD o).length=o.length from JO ..,hol]
 dsimp only[Cw,bE,wB];refine⟨λh=>?_,λh=>?_⟩
 ·have h:(i:J5) < 3:=K4 h;refine⟨m - 1,by omega,λQ2 hn _=>?_⟩
  clear hK k;refine st ?_;dsimp only[wS,wE,wA,wV,wG,J4];refine AA (n:=3) (d:=d+2) hl e1 (by decide) (λo ho=>by have:=l3 o ho; exact J3 ‹_› (Kc rfl)) (by omega) λq2 S2 e2 hq2 k2=>cq (hn _ _ ⟨i+1,q2,by omega,rfl,e2,?_,k1.trans k2⟩)
  exact J3 k1.len hq2
 ·have h:¬ (i:J5) < 3:=MU h;obtain rfl:i=3:=by omega
  rw[xo]at e1;refine hK _ _ ?_;clear hK K l6 l3 ho hol h him;refine st ?_;dsimp only[wS,wE,J4];refine bw λK hK=>?_
  have hq1:=cU e1;refine for_tup (gs.map aI) (λi ρ S'=>(∃a3 a4,ρ=[ba R,ba (.ref q),ba (.ref S1.length),a3,a4])/\(∃kvs,S'[S1.length]?=ba (.dic kvs)/\HasD kvs (dt bs (gs.take i)))/\S'[q]?=ba (.lst (cW au))/\Ka S S') rfl rfl ?_ ?_ ?_
  ·dsimp only[wE,wV,wG];subst hR0;exact am (by decide) rfl ⟨rfl,⟨_,_,rfl⟩,⟨[],aj,.nil⟩,ap e1,k1.trans .push⟩
  ·rintro i w ρ S2 hw ⟨⟨a3,a4,rfl⟩,⟨kvs,e2,h2⟩,el2,k2⟩;clear hK k;rw[JY,JR]at hw;obtain⟨g,hg1,rfl⟩:=hw;obtain⟨gg,g3⟩:=hgs g (Ke hg1);have hi:i < gs.length:=(J1.mp hg1).1;refine ae (show gm (.nm 3) (aI g) [ba R,ba (.ref q),ba (.ref S1.length),a3,a4] S2=ba ([ba R,ba (.ref q),ba (.ref S1.length),ba (aI g),a4],S2)from rfl) ?_
   intro Q2 hn _;refine bw λK hK=>?_
   refine pO q (cW au) (λj ρ S'=>(∃a4,ρ=[ba R,ba (.ref q),ba (.ref S1.length),ba (aI g),a4])/\(∃kvs,S'[S1.length]?=ba (.dic kvs)/\HasD kvs (dt bs (gs.take i)++(au.take j).map (bp bs g)))/\S'[q]?=ba (.lst (cW au))/\Ka S S') rfl rfl ⟨rfl,⟨_,rfl⟩,⟨kvs,e2,by rw[RH,Qw,LK]; exact h2⟩,el2,k2⟩ (λj ρ S' h=>h.2.2.1) ?_ ?_
   ·rintro j w ρ S3 hw ⟨⟨a4,rfl⟩,⟨kvs3,e3,h3⟩,el3,k3⟩;clear hK hn;unfold cW at hw;rw[JY,JR]at hw;obtain⟨t,ht,rfl⟩:=hw;have tk:t.length<=3/\t.Nodup/\∀p∈t,p < 3:=by
     have:∀t∈au,t.length<=3/\t.Nodup/\∀p∈t,p < 3:=by decide
     exact this t (Ke ht)
    refine ae (show gm (.nm 4) (.tup (aD t)) [ba R,ba (.ref q),ba (.ref S1.length),ba (aI g),a4] S3=ba ([ba R,ba (.ref q),ba (.ref S1.length),ba (aI g),ba (.tup (aD t))],S3)from rfl) ?_
    intro Q3 hn3 _;refine st ?_;dsimp only[wS,wE,wA,wV,wG];subst hR0;refine Ht (d:=d) P hp hb hnl gg (λp hp=>by have:=tk.2.2 p hp; omega) tk.2.1 (by omega) λS4 k4=>?_
    have e4:=k4.get _ _ e3;have hlt:kvs3.length < sizeLine:=by
     have b1:=h3.len;have b2:=mq bs (gs.take i);rw[J0,b2,JO,KA,KA,show au.length=6 from rfl]at b1
     rw[KZ]; omega
    refine ae (Ae e4 hlt) (cq (hn3 _ _ ⟨⟨_,rfl⟩,⟨_,bW e4,?_⟩,?_,(k3.trans k4).late k1.len⟩))
    ·rw[KD,ht,KN,<- LW];exact h3.put
    ·rw[ce (KC ‹_›)]; exact k4.get _ _ el3
   ·rintro ρ S3 ⟨⟨a4,rfl⟩,⟨kvs3,e3,h3⟩,el3,k3⟩;rw[show(cW au).length=au.length from JO ..,KY]at h3
    refine hK _ _ (cq (hn _ _ ⟨⟨_,_,rfl⟩,⟨kvs3,e3,?_⟩,el3,k3⟩));unfold dt at h3 ⊢;rw[KD,hg1,Mk]
    simpa using h3
  ·rintro ρ S2 ⟨⟨a3,a4,rfl⟩,⟨kvs,e2,h2⟩,el2,k2⟩;rw[JO,KY]at h2;exact hK _ _ (st (k _ kvs S2 e2 h2 k1.len k2))
end
noncomputable def cf:Ss:=
 (.cons (.loop (.nm 6) (.rng2 (.cons (.bi .len (.cons (.v 5) .nil)) (.cons (.bi .len (.cons (.v 3) .nil)) .nil))) (.cons (.set 7 (.lst .nil))
 (.cons (.loop (.nm 8) (.rng (.cons (.bi .len (.cons (.ix (.v 1) (.c (.int 1))) .nil)) .nil)) (.cons (.set 9 (.lst .nil))
 (.cons (.loop (.nm 10) (.rng (.cons (.v 6) .nil)) (.cons (.ex (.me .append (.v 9) (.cons (.cmp .isin (.tup (.cons (.tup (.cons (.ix (.ix (.v 3) (.v 10)) (.c (.int 0))) (.cons (.tup .nil) .nil))) (.cons (.tup (.cons (.ix (.ix (.v 3) (.v 6)) (.c (.int 0))) (.cons (.tup (.cons (.ix (.ix (.ix (.v 3) (.v 6)) (.c (.int 1))) (.v 10)) .nil)) .nil))) (.cons (.tup (.cons (.v 4) (.cons (.tup (.cons (.ix (.v 5) (.v 10)) (.cons (.v 8) .nil))) .nil))) .nil)))) (.v 2)) .nil)))
 .nil))
 (.cons (.ite (.cmp .notin (.c (.bl true)) (.v 9)) (.cons (.ex (.me .append (.v 7) (.cons (.v 8) .nil)))
 .nil) .nil)
 .nil))))
 (.cons (.ite (.cmp .eq (.v 7) (.lst .nil)) (.cons (.ret (.c .non))
 .nil) .nil)
 (.cons (.set 5 (.op .add (.v 5) (.tup (.cons (.ix (.v 7) (.own "_law_pick" 2 (.cons (.v 0) (.cons (.bi .len (.cons (.v 7) .nil)) .nil)))) .nil))))
 .nil)))))
 (.cons (.ret (.v 5))
 .nil))
theorem AF {S:aa}{l:JW}{bl:JM Kt}(h:S[l]?=ba (.lst (bl.map W.bl))):∃b,cg .notin (.bl true) (.ref l) S=ba (.bl b,S):=by
 have hf:(cr (.bl true)&&(bl.map W.bl).all cr)=true:=by
  simp only[cr,No,Kj];intro x hx;obtain⟨z,_,rfl⟩:=Kl.mp hx;rfl
 refine⟨!(bl.map W.bl).any λz=>yi z (.bl true),?_⟩
 simp only[cg,i8 h,iP,El,BF,ft,aM h,hf,LH,KR]
section
variable{defs:JM (Kd×Df)}{fuel d:JW}{S:aa}{r:JW}{Q:QW}
theorem uc (G:Gen defs)(hg:Is defs ("_law_new_ways" : Kd) 6 11 cf){m0 b0:W}{N:JM W}{a n q:JW}{u:Wd}{mk:J5}{kvs:JM (T×W)}(hN:N.length=n)(hn3:n<=3)(hu:GoodW a n u)(hl:u.length<=900)(e:S[q]?=ba (.dic kvs))(hqr:q≠r)(hf:Fl S r)
  (k:∀w S',(w=.non\/∃to:JM J5,w=.tup (af to)/\to.length=u.length/\∀x∈to,0<=x/\x < (n:J5))->Fl S' r->Kp r S S'->Q (w,S')) :
  wO (bF (aq defs fuel (d+2)) "_law_new_ways" 6 [.ref r,.tup [m0,.tup N,b0],.ref q,aI u,.int mk,.tup []] S) Q:=by
 refine aC hg rfl rfl λQ' hR=>?_
 replace k:∀w S',(w=.non\/∃to:JM J5,w=.tup (af to)/\to.length=u.length/\∀x∈to,0<=x/\x < (n:J5))->Fl S' r->Kp r S S'->Q' (.rt w,S'):=λw S' h1 h2 h3=>hR _ _ (k w S' h1 h2 h3)
 clear hR;show wZ _ _ cf [ba (.ref r),ba (.tup [m0,.tup N,b0]),ba (.ref q),ba (aI u),ba (.int mk),ba (.tup (af [])),gV,gV,gV,gV,gV] S Q';generalize hR0:W.tup [m0,.tup N,b0]=R;have ul:(u.map dZ).length=u.length:=JO ..;have hqS:=cU e;have hrS:=hf.lt;dsimp only[cf];refine bw λK hK=>?_
 refine gE 0 (u.length:J5) (λm ρ S'=>∃(to:JM J5) (a6 a7 a8 a9 a10:JU W),ρ=[ba (.ref r),ba R,ba (.ref q),ba (aI u),ba (.int mk),ba (.tup (af to)),a6,a7,a8,a9,a10]/\to.length=m/\(∀x∈to,0<=x/\x < (n:J5))/\Fl S' r/\Kp r S S') rfl rfl rfl (by omega) ?_ ?_ ?_
 ·dsimp only[wE,wA,wV,wG];refine bS ⟨rfl,bS ?_⟩;rw[ul];exact⟨rfl,[],_,_,_,_,_,rfl,rfl,(λx hx=>nomatch hx),hf,.refl⟩
 ·rintro m ρ S1 hm ⟨to,a6,a7,a8,a9,a10,rfl,htl,hto,f1,k1⟩ Q2 hn2 hr2;clear hK;rw[Od];have hmu:m < u.length:=by omega
  have e1:S1[q]?=ba (.dic kvs):=k1.get _ _ hqr e;have s1:S.length<=S1.length:=k1.len;have lm:=hu.len m _ (aB (d:=(0,[])) hmu);dsimp only[J4];refine st ?_;dsimp only[wS,wE,wA,J4];refine bw λK hK=>?_
  refine cm (n:J5) (λx ρ S'=>(∃a8 a9 a10,ρ=[ba (.ref r),ba R,ba (.ref q),ba (aI u),ba (.int mk),ba (.tup (af to)),ba (.int m),ba (.ref S1.length),a8,a9,a10])/\(∃ls:JM J5,S'[S1.length]?=ba (.lst (af ls))/\ls.length<=x/\∀y∈ls,0<=y/\y < (n:J5))/\S'[q]?=ba (.dic kvs)/\Fl S' r/\Kp r S S') rfl rfl (by omega) ?_ ?_ ?_
  ·dsimp only[wE,wA,wV,wG];subst hR0;refine am (by decide) rfl (bS ?_)
   rw[hN];exact⟨rfl,⟨_,_,_,rfl⟩,⟨[],aj,JZ _,(λy hy=>nomatch hy)⟩,ap e1,f1.ka .push,k1.trans .push⟩
  ·rintro x ρ S2 hx ⟨⟨a8,a9,a10,rfl⟩,⟨ls,e2,hll,hls⟩,q2,f2,k2⟩ Q3 hn3' hr3;clear hK;have l2:=cU e2;dsimp only[J4];refine st ?_;dsimp only[wS,wE,wA,J4];refine bw λK hK=>?_
   refine cm (m:J5) (λi ρ S'=>(∃a10,ρ=[ba (.ref r),ba R,ba (.ref q),ba (aI u),ba (.int mk),ba (.tup (af to)),ba (.int m),ba (.ref S1.length),ba (.int x),ba (.ref S2.length),a10])/\(∃bl:JM Kt,S'[S2.length]?=ba (.lst (bl.map W.bl))/\bl.length=i)/\S'[S1.length]?=ba (.lst (af ls))/\S'[q]?=ba (.dic kvs)/\Fl S' r/\Kp r S S') rfl rfl (by omega) ⟨rfl,⟨_,rfl⟩,⟨[],aj,rfl⟩,ap e2,ap q2,f2.ka .push,k2.trans .push⟩ ?_ ?_
   ·rintro i ρ S3 hi ⟨⟨a10,rfl⟩,⟨bl,e3,hbl⟩,el3,q3,f3,k3⟩ Q4 hn4 _;clear hK;have hiu:i < u.length:=by omega
    have him:i < (u.getD m (0,[])).2.length:=by omega
    have hit:i < to.length:=by omega
    dsimp only[J4];refine st ?_;dsimp only[wS,wE,wA,wV,wG];refine⟨dL e3,?_⟩;refine am (Kg i) (dW hiu) (am (by decide) rfl (am (Kg m) (dW hmu) (am (by decide) rfl (am (Kg m) (dW hmu) (am (by decide) rfl (am (w:=.int ((u.getD m (0,[])).2.getD i 0)) (Kg i) (by rw[Kh,JY,aB (d:=0) him]; rfl) (am (w:=.int (to.getD i 0)) (Kg i) (by rw[Kh]; unfold af; rw[JY,aB (d:=0) hit]; rfl) ?_)))))))
    refine ae (a:=(.bl (cy kvs (cH [((u.getD i (0,[])).1,[]),((u.getD m (0,[])).1,[(u.getD m (0,[])).2.getD i 0]),(mk,[to.getD i 0,(x:J5)])])).isSome,S3)) ?_ ?_
    ·show cg .isin (aI [((u.getD i (0,[])).1,[]),((u.getD m (0,[])).1,[(u.getD m (0,[])).2.getD i 0]),(mk,[to.getD i 0,(x:J5)])]) (.ref q) S3=_;simp only[cg,cO q3,pP]; rfl
    refine l4 e3 (by rw[JO]; omega) (cq (hn4 _ _ ⟨⟨_,rfl⟩,⟨bl++[(cy kvs (cH [((u.getD i (0,[])).1,[]),((u.getD m (0,[])).1,[(u.getD m (0,[])).2.getD i 0]),(mk,[to.getD i 0,(x:J5)])])).isSome],?_,by rw[J0,hbl]; rfl⟩,?_,?_,f3.own (by omega),k3.late (by omega)⟩))
    ·rw[bW e3,KN]; rfl
    ·rw[ce (KC ‹_›)]; exact el3
    ·rw[ce (by omega)]; exact q3
   ·rintro ρ S3 ⟨⟨a10,rfl⟩,⟨bl,e3,hbl⟩,el3,q3,f3,k3⟩;refine hK _ _ ?_;clear hK K;refine bw λK hK=>?_
    dsimp only[wS,wT,wE,wA,wV,wG];obtain⟨b,eb⟩:=AF e3;refine ae eb ?_;dsimp only[wB];refine aw (Q0:=Q3) (λ_ Q5 hn5 _=>?_) (λ_ Q5 hn5 _=>cq (hn5 _ _ (hK _ _ (cq (hn3' _ _ ⟨⟨_,_,_,rfl⟩,⟨ls,el3,by exact Mf ‹_›,hls⟩,q3,f3,k3⟩)))))
    refine st ?_;dsimp only[wS,wE,wA,wV,wG];refine⟨dL el3,l4 el3 (by unfold af; rw[JO]; omega) (cq (hn5 _ _ (hK _ _ (cq (hn3' _ _ ⟨⟨_,_,_,rfl⟩,⟨ls++[(x:J5)],?_,by rw[J0,Lr]; omega,λy hy=>?_⟩,?_,f3.own (Kq ‹_› ‹_›),k3.late ‹_›⟩)))))⟩
    ·rw[bW el3]; unfold af; rw[KN]; rfl
    ·rcases KF.mp hy with h|h
     ·exact hls y h
     ·rw[J8.mp h]; omega
    ·rw[ce (by omega)]; exact q3
  ·rintro ρ S2 ⟨⟨a8,a9,a10,rfl⟩,⟨ls,e2,hll,hls⟩,q2,f2,k2⟩;refine hK _ _ ?_;clear hK K;rw[Kh]at hll;refine bw λK hK=>?_
   dsimp only[wS,wT,wE,wA,wV,wG];refine ae (Dv (ap e2) aj) ?_;dsimp only[wB];refine aw (Q0:=Q2) (λ_ Q5 _ hr5=>?_) (λhne Q5 hn5 _=>cq (hn5 _ _ (hK _ _ ?_)))
   ·refine st ?_;dsimp only[wS,wE];exact hr5 _ _ (hr2 _ _ (k _ _ (.inl rfl) (f2.ka .push) (k2.trans .push)))
   clear hn5 hK;have hpos:0 < ls.length:=by
    cases ls with
    | nil=>cases hne
    | cons _ _=>simp
   refine st ?_;dsimp only[wS,wE,wA,wV,wG,J4];have e2':=ap (u:=O.lst []) e2;refine jc e2' ?_;rw[show(af ls).length=ls.length from JO ..]
   refine bu (d:=d) G.pick (f2.ka .push) (by omega) (by omega) λv S4 v0 v1 f4 k4=>?_
   have hv:v.toNat < ls.length:=by omega
   have e4:=k4.get _ _ (by have:=cU e2; omega) e2'
   refine gC (w:=.int ls[v.toNat]) e4 v0 (by unfold af; rw[JY,J6 hv]; rfl) ?_
   refine ae (gA (pY (by rw[J0,show(af to).length=to.length from JO ..]; show _+1<=_; omega))) (cq (hn2 _ _ ⟨to++[ls[v.toNat]],ba (.int m),ba (.ref S1.length),a8,a9,a10,?_,by rw[J0,htl]; rfl,λy hy=>?_,f4,(k2.trans .push).trans k4⟩))
   ·rw[show af to++[W.int ls[v.toNat]]=af (to++[ls[v.toNat]]) by unfold af; rw[KN]; rfl]
   ·rcases KF.mp hy with h|h
    ·exact hto y h
    ·rw[J8.mp h]; exact hls _ (K7 hv)
 ·rintro ρ S1 ⟨to,a6,a7,a8,a9,a10,rfl,htl,hto,f1,k1⟩;refine hK _ _ (st ?_);dsimp only[wS,wE,wV,wG];exact k _ _ (.inr ⟨to,rfl,by omega,hto⟩) f1 k1
end
noncomputable def dY:Ss:=
 (.cons (.set 4 (.tup .nil))
 (.cons (.loop (.nm 5) (.rng (.cons (.v 3) .nil)) (.cons (.set 6 (.own "_law_pick" 2 (.cons (.v 0) (.cons (.bi .len (.cons (.ix (.v 1) (.c (.int 0))) .nil)) .nil))))
 (.cons (.set 7 (.own "_law_new_ways" 6 (.cons (.v 0) (.cons (.v 1) (.cons (.v 2) (.cons (.v 4) (.cons (.v 6) (.cons (.tup .nil) .nil))))))))
 (.cons (.ite (.cmp .isnot (.v 7) (.c .non)) (.cons (.set 4 (.op .add (.v 4) (.tup (.cons (.tup (.cons (.v 6) (.cons (.v 7) .nil))) .nil))))
 .nil) .nil)
 .nil))))
 (.cons (.ret (.v 4))
 .nil)))
noncomputable def cM:Ss:=
 (.cons (.ret (.own "first_three" 2 (.cons (.own "barred_threes" 1 (.cons (.v 0) .nil)) (.cons (.v 1) .nil))))
 .nil)
section
variable{defs:JM (Kd×Df)}{fuel d:JW}{S:aa}{r:JW}{Q:QW}
theorem CV (G:Gen defs)(hw:Is defs ("_law_new_ways" : Kd) 6 11 cf)(hg:Is defs ("_law_world" : Kd) 4 8 dY){M N:JM W}{b0:W}{a n q many:JW}{kvs:JM (T×W)}(hM:M.length=a)(ha1:0 < a)(ha3:a<=3)(hN:N.length=n)(hn3:n<=3)(hm:many<=900)(e:S[q]?=ba (.dic kvs))(hqr:q≠r)(hf:Fl S r)
  (k:∀(u:Wd) S',u.length<=many->GoodW a n u->Fl S' r->Kp r S S'->Q (aI u,S')) :
  wO (bF (aq defs fuel (d+3)) "_law_world" 4 [.ref r,.tup [.tup M,.tup N,b0],.ref q,.int many] S) Q:=by
 refine aC hg rfl rfl λQ' hR=>?_
 replace k:∀(u:Wd) S',u.length<=many->GoodW a n u->Fl S' r->Kp r S S'->Q' (.rt (aI u),S'):=λu S' h1 h2 h3 h4=>hR _ _ (k u S' h1 h2 h3 h4)
 clear hR;show wZ _ _ dY [ba (.ref r),ba (.tup [.tup M,.tup N,b0]),ba (.ref q),ba (.int many),gV,gV,gV,gV] S Q';generalize hR0:W.tup [.tup M,.tup N,b0]=R;dsimp only[dY];refine st ?_;dsimp only[wS,wE,wA,J4];refine bw λK hK=>?_
 refine cm (many:J5) (λi ρ S'=>∃(u:Wd) (a5 a6 a7:JU W),ρ=[ba (.ref r),ba R,ba (.ref q),ba (.int many),ba (aI u),a5,a6,a7]/\u.length<=i/\GoodW a n u/\Fl S' r/\Kp r S S') rfl rfl (by omega) ⟨rfl,[],_,_,_,rfl,JZ _,.nil,hf,.refl⟩ ?_ ?_
 ·rintro i ρ S1 hi ⟨u,a5,a6,a7,rfl,hul,hu,f1,k1⟩ Q2 hn _;clear hK;have e1:=k1.get _ _ hqr e;dsimp only[J4];refine st ?_;dsimp only[wS,wE,wA,wV,wG,J4];subst hR0;refine am (by decide) rfl (bS ?_)
  rw[hM];refine bu (d:=d+1) G.pick f1 (by omega) (by omega) λv S2 v0 v1 f2 k2=>?_
  have e2:=k2.get _ _ hqr e1;refine st ?_;dsimp only[wS,wE,wA,wV,wG,J4];refine uc (d:=d) G hw hN hn3 hu (by omega) e2 hqr f2 λw S3 hw3 f3 k3=>?_
  refine bw λK hK=>?_
  dsimp only[wS,wT,wE,wA,wV,wG];rcases hw3 with rfl|⟨to,rfl,htl,hto⟩
  ·refine ae (show cg .isnot .non .non S3=ba (.bl false,S3)from rfl) ?_
   dsimp only[wB];exact aw (Q0:=Q2) (λz=>by cases z) (λ_ Q5 hn5 _=>cq (hn5 _ _ (hK _ _ (cq (hn _ _ ⟨u,_,_,_,rfl,by exact Mf ‹_›,hu,f3,(k1.trans k2).trans k3⟩)))))
  ·refine ae (show cg .isnot (.tup (af to)) .non S3=ba (.bl true,S3)from rfl) ?_
   dsimp only[wB];refine aw (Q0:=Q2) (λ_ Q5 hn5 _=>?_) (λz=>by cases z)
   refine st ?_;dsimp only[wS,wE,wA,wV,wG,J4,aI];refine ae (gA (pY (by rw[J0,JO]; show _+1<=_; omega))) (cq (hn5 _ _ (hK _ _ (cq (hn _ _ ⟨u++[(v,to)],ba (.int i),ba (.int v),ba (.tup (af to)),?_,?_,hu.snoc ⟨v0,v1⟩ htl hto,f3,(k1.trans k2).trans k3⟩)))))
   ·unfold aI;rw[KN]; rfl
   ·rw[J0,Lr]; omega
 ·rintro ρ S1 ⟨u,a5,a6,a7,rfl,hul,hu,f1,k1⟩;rw[Kh]at hul;refine hK _ _ (st ?_);dsimp only[wS,wE,wV,wG];exact k u S1 hul hu f1 k1
theorem mr (hfu:20 < fuel)(P:Parts defs)(hp:Is defs ("part" : Kd) 3 3 gG)(hl:Is defs ("longer_orders" : Kd) 2 4 br)(hbt:Is defs ("barred_threes" : Kd) 1 5 bG)(h3:Is defs ("three_at" : Kd) 4 6 bY)(hft:Is defs ("first_three" : Kd) 2 5 cw)(hg:Is defs ("first_barred" : Kd) 2 2 cM)
  {m0:W} {ns:JM Kd} {bs:JM J5} {a:JW} {gs:JM Wd} {u:Wd} (hb:GoodB bs) (hnl:ns.length=bs.length) (hgs:∀g∈gs,GoodW a bs.length g/\g.length=3) (h64:gs.length<=100) (hu:GoodW a bs.length u) (hul:u.length<=1000)
  (k:∀w S',Ans (λi j k=>decide (cH (gI u i j k)∈(dt bs gs).map cH)) u.length w->Ka S S'->Q (w,S')) :
  wO (bF (aq defs fuel (d+5)) "first_barred" 2 [.tup [m0,.tup (Km bQ ns bs),.tup (gs.map aI)],aI u] S) Q:=by
 refine aC hg rfl rfl λQ' hR=>?_
 show wZ _ _ cM [ba (.tup [m0,.tup (Km bQ ns bs),.tup (gs.map aI)]),ba (aI u)] S Q';dsimp only[cM];refine st ?_;dsimp only[wS,wE,wA,wV,wG];refine su (d:=d) hfu P hp hl hbt hb hnl hgs h64 λq kvs S1 e1 h1 _ k1=>?_
 refine nr (d:=d+2) h3 hft hu hul e1 λw hw=>hR _ _ (k w S1 ?_ k1)
 exact hw.congr λi j k _ _ _=>h1.get _
end
theorem fQ {n:JW}{x:J5}(h:x∈mh n):0<=x/\x < n:=by
 obtain⟨k,hk,rfl⟩:=Kl.mp h;have:=KP.mp hk;omega
theorem ud {a n:JW}{u:Wd}(h:u∈rW a n):GoodW a n u/\u.length=3:=by
 unfold rW at h;simp only[MR,Kl]at h;obtain⟨m0,h0,m1,h1,m2,h2,w1,g1,w2,g2,w3,g3,rfl⟩:=h;refine⟨?_,rfl⟩;have s1:GoodW a n ([]++[(m0,[])]):=GoodW.nil.snoc (fQ h0) rfl (λw hw=>nomatch hw)
 have s2:GoodW a n ([(m0,[])]++[(m1,[w1])]):=s1.snoc (fQ h1) rfl (λw hw=>by rw[J8.mp hw]; exact fQ g1)
 exact s2.snoc (fQ h2) rfl (λw hw=>by
  simp only[Kv,Lc,MA]at hw;rcases hw with rfl|rfl
  ·exact fQ g2
  ·exact fQ g3)
theorem xp {a:JW}{bs:JM J5}{g:Wd}(hb:GoodB bs)(h:g∈bq a bs):GoodW a bs.length g/\g.length=3:=by
 unfold bq at h;rw[Oy]at h;obtain⟨u,hu,rfl⟩:=Kl.mp h;obtain⟨gu,u3⟩:=ud hu;unfold jM;have hm:pi ((au.map (bp bs u)).map cH) < (au.map (bp bs u)).length:=by
  unfold pi;refine Mr (gf _ _) ?_;rw[JO,JO]; decide
 have:=Ke (aB (d:=[]) hm);obtain⟨t,ht,e⟩:=Kl.mp this;rw[<- e];have tk:∀t∈au,t.length=3/\t.Nodup/\∀p∈t,p < 3:=by decide
 obtain⟨t1,t2,t3⟩:=tk t ht;exact⟨xm hb gu (λp hp=>by have:=t3 p hp; omega) t2,by rw[fO]; exact t1⟩
noncomputable def iq (kvs:JM (T×W))(u:Wd)(h:Pt)(p q:JW):Kt:=(cy kvs (cH [((u.getD p (0,[])).1,[]),((u.getD q (0,[])).1,[(u.getD q (0,[])).2.getD p 0]),(h.1,[h.2.getD p 0,h.2.getD q 0])])).isSome
theorem mw {u:Wd}{h:Pt}{p:JW}(hp:p < u.length):(u++[h]).getD p (0,[])=u.getD p (0,[]):=by
 rw[Lu,Lu,KT hp]
theorem ue {u:Wd}{h:Pt}:(u++[h]).getD u.length (0,[])=h:=by
 rw[Lu,LV (JZ _),Nat.sub_self]; rfl
theorem sv {kvs:JM (T×W)}{u:Wd}{h:Pt}{p q:JW}(h1:p < q)(h2:q < u.length):kI kvs (u++[h]) p q u.length=iq kvs u h p q:=by
 unfold kI iq gI;rw[mw (NE h1 h2),mw h2,ue]
theorem fj {u:Wd}{p s:JW}(h:p < s):(u.take s).getD p (0,[])=u.getD p (0,[]):=by
 rw[Lu,Lu,OP h]
noncomputable def mx (kvs:JM (T×W))(v:Wd):Kt:=(Ky (v.length - 2)).all λp=>!kI kvs v p (v.length - 2) (v.length - 1)
theorem xq {kvs:JM (T×W)}{u:Wd}{h:Pt}{s:JW}(hs:s < u.length):mx kvs (u.take (s+1)++[h])=(Ky s).all λp=>!iq kvs u h p s:=by
 have hl:(u.take (s+1)).length=s+1:=by rw[KA]; omega
 unfold mx;rw[J0,hl,Lr,show s+1+1 - 2=s by omega,show s+1+1 - 1=s+1 by omega,N3,Kj,Kj]
 refine P3 λp=>P3 λhp=>?_
 have hp:=KP.mp hp;have e:=sv (kvs:=kvs) (u:=u.take (s+1)) (h:=h) (p:=p) (q:=s) hp (by omega)
 rw[hl]at e;rw[e];unfold iq;rw[fj (by omega),fj (by omega)]
noncomputable def dC (n:JW)(hs:JM Pt):JM Pt:=hs.flatMap λh=>(Ky n).map λ(w:JW)=>(h.1,h.2++[(w:J5)])
noncomputable def dD (kvs:JM (T×W))(u:Wd)(n:JW)(m:J5):JW->JM Pt
 | 0=>[(m,[])]
 | s+1=>(dC n (dD kvs u n m s)).filter λh=>mx kvs (u.take (s+1)++[h])
noncomputable def kD (kvs:JM (T×W))(u:Wd)(a n:JW):JM Pt:=(Ky a).flatMap λ(m:JW)=>dD kvs u n (m:J5) u.length
theorem my {ws:JM J5}{x:J5}{p:JW}(hp:p < ws.length):(ws++[x]).getD p 0=ws.getD p 0:=by
 rw[Lu,Lu,KT hp]
theorem mz {kvs:JM (T×W)}{u:Wd}{m x:J5}{ws:JM J5}{p q:JW}(h1:p < q)(h2:q < ws.length):iq kvs u (m,ws++[x]) p q=iq kvs u (m,ws) p q:=by
 unfold iq;dsimp only;rw[my (NE h1 h2),my h2]
theorem eG {kvs:JM (T×W)}{u:Wd}{n:JW}{m:J5}:∀ {s:JW} {h:Pt},s<=u.length->(h∈dD kvs u n m s↔h.1=m/\h.2.length=s/\(∀w∈h.2,0<=w/\w < (n:J5))/\∀p q,p < q->q < s->iq kvs u h p q=false)
 | 0,h,_=>by
  rw[dD,J8];constructor
  ·rintro rfl;exact⟨rfl,rfl,(λw hw=>nomatch hw),λp q _ h=>absurd h (Nat.not_lt_zero _)⟩
  ·rintro⟨h1,h2,_⟩;rw[<- h1,<- List.eq_nil_of_length_eq_zero h2]
 | s+1,h,hs=>by
  rw[dD,Nq,xq (by omega),Kj]
  unfold dC;rw[MR];constructor
  ·rintro⟨⟨h0,hm,hw⟩,hb⟩;obtain⟨w,hwr,rfl⟩:=Kl.mp hw;obtain⟨h1,h2,h3,h4⟩:=(eG (by omega)).mp hm
   have hwr:=KP.mp hwr;refine⟨h1,by rw[J0,h2]; rfl,λx hx=>?_,λp q hpq hq=>?_⟩
   ·rcases KF.mp hx with z|z
    ·exact h3 x z
    ·rw[J8.mp z]; omega
   ·by_cases e:q=s
    ·subst e;have:=hb p (KP.mpr hpq)
     simpa using this
    ·rw[mz hpq (by omega)]; exact h4 p q hpq (by omega)
  ·rintro⟨h1,h2,h3,h4⟩;obtain⟨m',ws⟩:=h;dsimp only at h1 h2 h3 h4;have hne:ws≠[]:=λz=>by rw[z]at h2; cases h2
   have hd:=List.dropLast_concat_getLast hne;have hx:=h3 _ (List.getLast_mem hne);generalize ws.getLast hne=x at hd hx;have hdl:ws.dropLast.length=s:=by rw[List.length_dropLast]; omega
   generalize ws.dropLast=vs at hd hdl;subst hd;refine⟨⟨(m',vs),(eG (by omega)).mpr ⟨h1,hdl,λw hw=>h3 w (L6 _ hw),λp q hpq hq=>?_⟩,?_⟩,λp hp=>?_⟩
   ·rw[<- mz (x:=x) hpq (by omega)]; exact h4 p q hpq (by omega)
   ·exact Kl.mpr ⟨x.toNat,KP.mpr (by omega),by dsimp only; rw[show((x.toNat:JW):J5)=x by omega]⟩
   ·rw[h4 p s (KP.mp hp) (by omega)]; rfl
theorem gW {kvs:JM (T×W)}{u:Wd}{n:JW}{m:J5}:∀s:JW,(dD kvs u n m s).length<=n ^ s
 | 0=>JZ _
 | s+1=>by
  rw[dD];refine J3 (MY _ _) ?_;have:=gW (kvs:=kvs) (u:=u) (n:=n) (m:=m) s;have e:∀hs:JM Pt,(dC n hs).length=hs.length*n:=λhs=>by
   unfold dC
   induction hs with
   | nil=>simp
   | cons h hs ih=>rw[M1,J0,ih,JO,KJ,K5,Oa]; omega
  rw[e,Sk];exact NZ _ this
theorem oO {n:JW}(hs:JM Pt):(dC n hs).length=hs.length*n:=by
 unfold dC
 induction hs with
 | nil=>simp
 | cons h hs ih=>rw[M1,J0,ih,JO,KJ,K5,Oa]; omega
theorem AG {kvs:JM (T×W)}{u:Wd}{a n:JW}{h:Pt}:h∈kD kvs u a n↔(0<=h.1/\h.1 < a)/\h.2.length=u.length/\(∀w∈h.2,0<=w/\w < (n:J5))/\∀p q,p < q->q < u.length->iq kvs u h p q=false:=by
 unfold kD;rw[MR];constructor
 ·rintro⟨m,hm,hh⟩;obtain⟨h1,h2⟩:=(eG (JZ _)).mp hh;have:=KP.mp hm;exact⟨by omega,h2⟩
 ·rintro⟨h1,h2⟩;exact⟨h.1.toNat,KP.mpr (by omega),(eG (JZ _)).mpr ⟨by omega,h2⟩⟩
noncomputable def cN:Ss:=
 (.cons (.set 2 (.op .sub (.bi .len (.cons (.v 1) .nil)) (.c (.int 1))))
 (.cons (.loop (.nm 3) (.rng (.cons (.op .sub (.v 2) (.c (.int 1))) .nil)) (.cons (.ite (.cmp .isin (.own "three_at" 4 (.cons (.v 1) (.cons (.v 3) (.cons (.op .sub (.v 2) (.c (.int 1))) (.cons (.v 2) .nil))))) (.v 0)) (.cons (.ret (.v 3))
 .nil) .nil)
 .nil))
 (.cons (.ret (.c .non))
 .nil)))
noncomputable def gJ:Ss:=
 (.cons (.ret (.own "wishes_over" 3 (.cons (.v 0) (.cons (.own "barred_threes" 1 (.cons (.v 0) .nil)) (.cons (.v 1) .nil)))))
 .nil)
noncomputable def cx:Ss:=
 (.cons (.set 3 (.lst .nil))
 (.cons (.loop (.nm 4) (.rng (.cons (.bi .len (.cons (.ix (.v 0) (.c (.int 0))) .nil)) .nil)) (.cons (.set 5 (.lst (.cons (.tup (.cons (.v 4) (.cons (.tup .nil) .nil))) .nil)))
 (.cons (.loop (.nm 6) (.rng2 (.cons (.c (.int 1)) (.cons (.op .add (.bi .len (.cons (.v 2) .nil)) (.c (.int 1))) .nil))) (.cons (.set 5 (.comp (.v 1) (.nm 1) (.seq (.own "longer_wishes" 2 (.cons (.v 0) (.cons (.v 5) .nil)))) (.cons (.cmp .is (.own "first_bar" 2 (.cons (.v 2) (.cons (.op .add (.sl (.v 4) .no (.yes (.v 3))) (.tup (.cons (.v 1) .nil))) .nil))) (.c .non)) .nil) [gV,gV,ba 1,ba 6,ba 2]))
 .nil))
 (.cons (.ex (.me .extend (.v 3) (.cons (.v 5) .nil)))
 .nil))))
 (.cons (.ret (.v 3))
 .nil)))
noncomputable def bH:Ss:=
 (.cons (.set 2 (.lst .nil))
 (.cons (.loop (.tp [3,4]) (.seq (.v 1)) (.cons (.ex (.me .extend (.v 2) (.cons (.comp (.tup (.cons (.v 2) (.cons (.op .add (.v 3) (.tup (.cons (.v 1) .nil))) .nil))) (.nm 1) (.rng (.cons (.bi .len (.cons (.ix (.v 0) (.c (.int 1))) .nil)) .nil)) .nil [gV,gV,ba 3,ba 4]) .nil)))
 .nil))
 (.cons (.ret (.v 2))
 .nil)))
theorem sw {kvs:JM (T×W)}{v:Wd}{s:JW}(hs:v.length=s+2):mx kvs v=true↔∀i < s,kI kvs v i s (s+1)=false:=by
 unfold mx;rw[hs,show s+2 - 2=s from rfl,show s+2 - 1=s+1 from rfl,Kj]
 refine P3 λi=>?_
 rw[KP,NI]
theorem jR {a n s:JW}{u:Wd}(hu:GoodW a n u):GoodW a n (u.take s):=by
 have key:∀(k:JW) (x:Pt),(u.take s)[k]?=ba x->u[k]?=ba x:=λk x e=>by
  rw[List.getElem?_take]at e;split at e
  ·exact e
  ·cases e
 exact⟨λk x e=>hu.mark k x (key k x e),λk x e=>hu.len k x (key k x e),λk x e=>hu.way k x (key k x e)⟩
section
variable{defs:JM (Kd×Df)}{fuel d:JW}{S:aa}{Q:QW}
theorem sx (h3:Is defs ("three_at" : Kd) 4 6 bY)(hg:Is defs ("first_bar" : Kd) 2 4 cN){a n q:JW}{v:Wd}{kvs:JM (T×W)}(hv:GoodW a n v)(h2:2<=v.length)(hl:v.length<=1000)(e:S[q]?=ba (.dic kvs))(k:∀w,((w=.non/\mx kvs v=true)\/∃i:J5,w=.int i/\mx kvs v=false)->Q (w,S)) :
  wO (bF (aq defs fuel (d+2)) "first_bar" 2 [.ref q,aI v] S) Q:=by
 refine aC hg rfl rfl λQ' hR=>?_
 replace k:∀w,((w=.non/\mx kvs v=true)\/∃i:J5,w=.int i/\mx kvs v=false)->Q' (.rt w,S):=λw h=>hR _ _ (k w h)
 clear hR;show wZ _ _ cN [ba (.ref q),ba (aI v),gV,gV] S Q';have ul:(v.map dZ).length=v.length:=JO ..;obtain⟨s,hs⟩ : ∃s,v.length=s+2:=⟨v.length - 2,by omega⟩
 dsimp only[cN];refine st ?_;dsimp only[wS,wE,wA,wV,wG,J4];refine bS (ae rN ?_);rw[ul,show((v.length:JW):J5) - 1=((s+1:JW):J5) by omega]
 refine bw λK hK=>?_
 refine cm (s:J5) (λi ρ S'=>(∃a3,ρ=[ba (.ref q),ba (aI v),ba (.int ((s+1:JW):J5)),a3])/\S'=S/\∀i' < i,kI kvs v i' s (s+1)=false) rfl rfl (by omega) ?_ ?_ ?_
 ·dsimp only[wE,wV,wG];refine ae rN ⟨?_,⟨_,rfl⟩,rfl,λi' z=>by omega⟩
  dsimp only;rw[show((s+1:JW):J5) - 1=(s:J5) by omega]
 ·rintro i ρ S1 hi ⟨⟨a3,rfl⟩,rfl,no⟩ Q2 hn hr;clear hK;dsimp only[J4];refine bw λK hK=>?_
  dsimp only[wS,wT,wE,wA,wV,wG];refine ae rN ?_;dsimp only;rw[show((s+1:JW):J5) - 1=(s:J5) by omega]
  refine vG (d:=d) h3 hv (LL.mp ‹_›) (Ll s) (by omega) ?_
  refine ae (show cg .isin (aI (gI v i s (s+1))) (.ref q) S1=ba (.bl (kI kvs v i s (s+1)),S1) by simp only[cg,cO e,pP]; rfl) ?_
  dsimp only[wB];refine aw (Q0:=Q2) (λh Q5 _ hr5=>?_) (λh Q5 hn5 _=>cq (hn5 _ _ (hK _ _ (cq (hn _ _ ⟨⟨_,rfl⟩,rfl,λi' z=>?_⟩)))))
  ·refine st ?_;dsimp only[wS,wE,wV,wG];refine hr5 _ _ (hr _ _ (k _ (.inr ⟨i,rfl,?_⟩)));rw[Bool.eq_false_iff];intro z;rw[(sw hs).mp z i (LL.mp ‹_›)]at h;cases h
  ·by_cases ei:i'=i
   ·rw[ei]; exact h
   ·exact no i' (by omega)
 ·rintro ρ S1 ⟨⟨a3,rfl⟩,rfl,no⟩;refine hK _ _ (st ?_);dsimp only[wS,wE];exact k _ (.inl ⟨rfl,(sw hs).mpr no⟩)
theorem kJ (hg:Is defs ("longer_wishes" : Kd) 2 5 bH){m0 b0:W}{N:JM W}{n l:JW}{hs:JM Pt}(hN:N.length=n)(hn:n<=3)(e:S[l]?=ba (.lst (hs.map dZ)))(hol:∀h∈hs,h.2.length<=100)(hos:hs.length<=10000)
  (k:∀(q:JW) (S':aa),S'[q]?=ba (.lst ((dC n hs).map dZ))->S.length<=q->Ka S S'->Q (.ref q,S')) :
  wO (bF (aq defs fuel (d+1)) "longer_wishes" 2 [.tup [m0,.tup N,b0],.ref l] S) Q:=by
 refine aC hg rfl rfl λQ' hR=>?_
 replace k:∀(q:JW) (S':aa),S'[q]?=ba (.lst ((dC n hs).map dZ))->S.length<=q->Ka S S'->Q' (.rt (.ref q),S'):=λa b c e f=>hR _ _ (k a b c e f)
 clear hR;show wZ _ _ bH [ba (.tup [m0,.tup N,b0]),ba (.ref l),gV,gV,gV] S Q';generalize hR0:W.tup [m0,.tup N,b0]=R;have hlS:=cU e;dsimp only[bH];refine st ?_;dsimp only[wS,wE,wA,J4];refine bw λK hK=>?_
 refine pO l (hs.map dZ) (λi ρ S'=>(∃a3 a4,ρ=[ba R,ba (.ref l),ba (.ref S.length),a3,a4])/\S'[l]?=ba (.lst (hs.map dZ))/\S'[S.length]?=ba (.lst ((dC n (hs.take i)).map dZ))/\Ka S S') rfl rfl ⟨rfl,⟨gV,gV,rfl⟩,ap e,aj,.push⟩ (λi ρ S' h=>h.2.1) ?_ ?_
 ·rintro i w ρ S1 hw ⟨⟨a3,a4,rfl⟩,e0,e1,k1⟩;clear hK k;rw[JY,JR]at hw;obtain⟨h,ho,rfl⟩:=hw;have hol:=hol h (Ke ho);refine ae (show gm (.tp [3,4]) (dZ h) [ba R,ba (.ref l),ba (.ref S.length),a3,a4] S1=ba ([ba R,ba (.ref l),ba (.ref S.length),ba (.int h.1),ba (.tup (af h.2))],S1)from rfl) ?_
  intro Q2 hn2 _;refine st ?_;dsimp only[wS,wE,wA,wV,wG];refine⟨dL e1,?_⟩;refine Fk n (λ_=>true) (λ(w:JW)=>dZ (h.1,h.2++[(w:J5)])) [ba (.int h.1),ba (.tup (af h.2))] rfl rfl rfl rfl (by exact J3 ‹_› (Kc rfl)) ?_ (λx hx S2 k2=>?_) λS2 k2=>?_
  ·dsimp only[wE,wA,wV,wG];subst hR0;refine am (by decide) rfl (bS ?_)
   rw[hN];exact⟨rfl,.refl⟩
  ·dsimp only[kB,wC,wE,wA,wV,wG];refine⟨λ_=>ae (gA (pY ?_)) ⟨rfl,?_,.refl⟩,λz=>by cases z⟩
   ·rw[J0,show(af h.2).length=h.2.length from JO ..]; show _+1<=_; omega
   ·simp[dZ,af]
  ·rw[AD];have e1':=ap (u:=O.lst ((Ky n).map λ(w:JW)=>dZ (h.1,h.2++[(w:J5)]))) (k2.get _ _ e1)
   have hle:(dC n (hs.take i)).length<=30000:=by
    rw[oO,KA];exact J3 (PK (show min i hs.length<=10000 by omega) hn) (by decide)
   refine ub e1' aj (by rw[JO,JO,KJ]; omega) (cq (hn2 _ _ ⟨⟨_,_,rfl⟩,?_,?_,((k1.trans k2).trans .push).late (JZ _)⟩))
   ·rw[ce (KC ‹_›)]; exact ap (k2.get _ _ e0)
   ·rw[bW e1'];unfold dC;rw[KD,ho];simp
 ·rintro ρ S1 ⟨⟨a3,a4,rfl⟩,e0,e1,k1⟩;rw[JO,KY]at e1;exact hK _ _ (st (k _ _ e1 (JZ _) k1))
theorem pZ {n s:JW}(hn:n<=3)(hs:s<=5):n ^ s<=243:=J3 (N9 hn s) (NY (n:=3) (by decide) hs)
theorem uf {kvs:JM (T×W)}{u:Wd}{n i:JW}(hn:n<=3)(hu:u.length<=5):((Ky i).flatMap λ(m:JW)=>dD kvs u n (m:J5) u.length).length<=i*243:=by
 induction i with
 | zero=>simp
 | succ i ih=>
  rw[Nt,Mk,J0,M1,List.flatMap_nil,LK];have:=J3 (gW (kvs:=kvs) (u:=u) (n:=n) (m:=(i:JW)) u.length) (pZ hn hu);omega
theorem nu (h3:Is defs ("three_at" : Kd) 4 6 bY)(hfb:Is defs ("first_bar" : Kd) 2 4 cN)(hlw:Is defs ("longer_wishes" : Kd) 2 5 bH)(hg:Is defs ("wishes_over" : Kd) 3 7 cx){M N:JM W}{b0:W}{a n q:JW}{u:Wd}{kvs:JM (T×W)}(hM:M.length=a)(hN:N.length=n)(ha3:a<=3)(hn3:n<=3)(hu:GoodW a n u)(hul:u.length<=5)(e:S[q]?=ba (.dic kvs))
  (k:∀(l:JW) (S':aa),S'[l]?=ba (.lst ((kD kvs u a n).map dZ))->S.length<=l->Ka S S'->Q (.ref l,S')) :
  wO (bF (aq defs fuel (d+3)) "wishes_over" 3 [.tup [.tup M,.tup N,b0],.ref q,aI u] S) Q:=by
 refine aC hg rfl rfl λQ' hR=>?_
 replace k:∀(l:JW) (S':aa),S'[l]?=ba (.lst ((kD kvs u a n).map dZ))->S.length<=l->Ka S S'->Q' (.rt (.ref l),S'):=λa b c e f=>hR _ _ (k a b c e f)
 clear hR;show wZ _ _ cx [ba (.tup [.tup M,.tup N,b0]),ba (.ref q),ba (aI u),gV,gV,gV,gV] S Q';generalize hR0:W.tup [.tup M,.tup N,b0]=R;have hqS:=cU e;have ul:(u.map dZ).length=u.length:=JO ..;dsimp only[cx];refine st ?_;dsimp only[wS,wE,wA,J4];refine bw λK hK=>?_
 refine cm (a:J5) (λi ρ S'=>(∃a4 a5 a6,ρ=[ba R,ba (.ref q),ba (aI u),ba (.ref S.length),a4,a5,a6])/\S'[S.length]?=ba (.lst (((Ky i).flatMap λ(m:JW)=>dD kvs u n (m:J5) u.length).map dZ))/\Ka S S') rfl rfl (by omega) ?_ ?_ ?_
 ·dsimp only[wE,wA,wV,wG];subst hR0;refine am (by decide) rfl (bS ?_)
  rw[hM];exact⟨rfl,⟨_,_,_,rfl⟩,aj,.push⟩
 ·rintro i ρ S1 hi ⟨⟨a4,a5,a6,rfl⟩,e1,k1⟩ Q2 hn2 _;clear hK k;have hl1:=cU e1;dsimp only[J4];refine st ?_;dsimp only[wS,wE,wA,wV,wG,J4];refine bw λK hK=>?_
  refine gE 1 ((u.length:J5)+1) (λm ρ S'=>∃(t:JW) (a6:JU W),ρ=[ba R,ba (.ref q),ba (aI u),ba (.ref S.length),ba (.int i),ba (.ref t),a6]/\S'[t]?=ba (.lst ((dD kvs u n i m).map dZ))/\Ka S1 S') rfl rfl rfl (by omega) ?_ ?_ ?_
  ·dsimp only[wE,wA,wV,wG];refine⟨rfl,bS (ae dk ?_)⟩;rw[ul];exact⟨rfl,S1.length,a6,rfl,aj,.push⟩
  ·rintro m ρ S2 hm ⟨t,a6,rfl,e2,k2⟩ Q3 hn3 _;clear hK hn2;have hmu:m < u.length:=by omega
   rw[show(1:J5)+m=((m+1:JW):J5) by omega]
   have hhl:(dD kvs u n i m).length<=243:=J3 (gW m) (pZ ‹n<=3› (by omega))
   have hll:(dC n (dD kvs u n i m)).length<=729:=by rw[oO]; exact PK hhl ‹n<=3›
   dsimp only[J4];refine st ?_;dsimp only[wS,wE,J4];refine Fj (dC n (dD kvs u n i m)) dZ (λh=>mx kvs (u.take (m+1)++[h])) dZ [ba (.ref q),ba (.int ((m+1:JW):J5)),ba (aI u)] rfl rfl rfl rfl (by exact J3 ‹_› (Kc rfl)) ?_ (λh hh S4 k4=>?_) λS4 k4=>?_
   ·dsimp only[wE,wA,wV,wG];subst hR0;exact kJ (d:=d+1) hlw hN ‹n<=3› e2 (λh hh=>by have:=((eG (LU ‹_›)).mp hh).2.1; omega) (by exact J3 ‹_› (Kc rfl)) λl S3 e3 _ k3=>⟨l,rfl,e3,k3⟩
   ·have hgd:GoodW a n (u.take (m+1)++[h]):=by
     unfold dC at hh;obtain⟨h0,hm0,hw⟩:=MR.mp hh;obtain⟨w,hwr,rfl⟩:=Kl.mp hw;obtain⟨g1,g2,g3,_⟩:=(eG (LU ‹_›)).mp hm0;have hwr:=KP.mp hwr;refine(jR hu).snoc (by rw[g1]; omega) (by rw[J0,g2,KA,Lr]; omega) λx hx=>?_
     rcases KF.mp hx with z|z
     ·exact g3 x z
     ·rw[J8.mp z]; omega
    have hvl:(u.take (m+1)++[h]).length=m+2:=by rw[J0,KA,Lr]; omega
    dsimp only[kB,wC,wT,wE,wA,wP,wV,wG,wN];refine ae (show sU (aI u) gV (ba ((m+1:JW):J5)) S4=ba (.tup ((u.map dZ).take (m+1)),S4) by simp only[aI,sU,gD]) ?_
    dsimp only;have ev:(u.map dZ).take (m+1)++[dZ h]=(u.take (m+1)++[h]).map dZ:=by rw[KN,NV]; rfl
    refine ae (gA (pY (by rw[ev,JO]; omega))) ?_
    dsimp only;rw[ev];refine sx (d:=d) (v:=u.take (m+1)++[h]) h3 hfb hgd (by omega) (by omega) (k4.get _ _ (k2.get _ _ (k1.get _ _ e))) λw hw=>?_
    refine ae (show cg .is w .non S4=ba (.bl (mx kvs (u.take (m+1)++[h])),S4) by rcases hw with⟨rfl,hb⟩|⟨i,rfl,hb⟩ <;> rw[hb] <;> rfl) ?_
    dsimp only[wB];exact⟨λz=>⟨z,rfl,.refl⟩,λz=>⟨z,.refl⟩⟩
   ·exact cq (hn3 _ _ ⟨_,_,rfl,aj,(k2.trans k4).trans .push⟩)
  ·rintro ρ S2 ⟨t,a6,rfl,e2,k2⟩;rw[show((u.length:J5)+1 - 1).toNat=u.length by omega]at e2
   refine hK _ _ ?_;clear hK K;have e1':=k2.get _ _ e1;have hhl:(dD kvs u n i u.length).length<=243:=J3 (gW _) (pZ hn3 hul);have hfl:=uf (kvs:=kvs) (i:=i) hn3 hul;refine st ?_;dsimp only[wS,wE,wA,wV,wG];refine⟨dL e1',ub e1' e2 (by rw[JO,JO]; omega) (cq (hn2 _ _ ⟨⟨_,_,_,rfl⟩,?_,(k1.trans k2).late (JZ _)⟩))⟩
   rw[bW e1',Nt,Mk,KN];simp
 ·rintro ρ S1 ⟨⟨a4,a5,a6,rfl⟩,e1,k1⟩;rw[Kh]at e1;exact hK _ _ (st (k _ _ e1 (JZ _) k1))
theorem AH (hfu:20 < fuel)(P:Parts defs)(hp:Is defs ("part" : Kd) 3 3 gG)(hl:Is defs ("longer_orders" : Kd) 2 4 br)(hbt:Is defs ("barred_threes" : Kd) 1 5 bG)(h3:Is defs ("three_at" : Kd) 4 6 bY)(hfb:Is defs ("first_bar" : Kd) 2 4 cN)(hlw:Is defs ("longer_wishes" : Kd) 2 5 bH)(hwo:Is defs ("wishes_over" : Kd) 3 7 cx)(hg:Is defs ("wishes" : Kd) 2 2 gJ)
  {ms ns:JM Kd} {bs:JM J5} {a:JW} {gs:JM Wd} {u:Wd} (hml:ms.length=a) (ha3:a<=3) (hb:GoodB bs) (hnl:ns.length=bs.length) (hgs:∀g∈gs,GoodW a bs.length g/\g.length=3) (h64:gs.length<=100) (hu:GoodW a bs.length u) (hul:u.length<=5)
  (k:∀(l:JW) (kvs:JM (T×W)) (S':aa),HasD kvs (dt bs gs)->S'[l]?=ba (.lst ((kD kvs u a bs.length).map dZ))->S.length<=l->Ka S S'->Q (.ref l,S')) :
  wO (bF (aq defs fuel (d+5)) "wishes" 2 [.tup [.tup (ms.map W.str),.tup (Km bQ ns bs),.tup (gs.map aI)],aI u] S) Q:=by
 refine aC hg rfl rfl λQ' hR=>?_
 show wZ _ _ gJ [ba (.tup [.tup (ms.map W.str),.tup (Km bQ ns bs),.tup (gs.map aI)]),ba (aI u)] S Q';have hb3:bs.length<=3:=by rcases hb with rfl|rfl|rfl|rfl|rfl|rfl <;> decide
 dsimp only[gJ];refine st ?_;dsimp only[wS,wE,wA,wV,wG];refine su (d:=d) hfu P hp hl hbt hb hnl hgs h64 λq kvs S1 e1 h1 _ k1=>?_
 exact nu (d:=d+1) (M:=ms.map W.str) (N:=Km bQ ns bs) (n:=bs.length) h3 hfb hlw hwo (by rw[JO,hml]) (by rw[MK,hnl]; omega) ha3 hb3 hu hul e1 λl S2 e2 hl2 k2=>hR _ _ (k l kvs S2 h1 e2 (J3 k1.len hl2) (k1.trans k2))
end
noncomputable def lu:Ss:=
 (.cons (.set 1 (.own "_law_flow" 1 (.cons (.v 0) .nil)))
 (.cons (.set 2 (.own "_law_full_rule" 1 (.cons (.v 1) .nil)))
 (.cons (.set 3 (.own "_law_pick" 2 (.cons (.v 1) (.cons (.ix (.lst (.cons (.c (.int 6)) (.cons (.c (.int 5)) .nil))) (.bi .int (.cons (.cmp .gt (.bi .len (.cons (.ix (.v 2) (.c (.int 1))) .nil)) (.c (.int 2))) .nil))) .nil))))
 (.cons (.set 4 (.own "_law_any_world" 3 (.cons (.v 1) (.cons (.v 2) (.cons (.v 3) .nil)))))
 (.cons (.ite (.cmp .eq (.own "_law_pick" 2 (.cons (.v 1) (.cons (.c (.int 2)) .nil))) (.c (.int 0))) (.cons (.set 4 (.own "_law_world" 4 (.cons (.v 1) (.cons (.v 2) (.cons (.own "_law_bad" 1 (.cons (.v 2) .nil)) (.cons (.v 3) .nil))))))
 .nil) .nil)
 (.cons (.loop (.nm 5) (.rng (.cons (.bi .len (.cons (.v 4) .nil)) .nil)) (.cons (.set 6 (.own "wishes" 2 (.cons (.v 2) (.cons (.sl (.v 4) .no (.yes (.v 5))) .nil))))
 (.cons (.set 7 (.own "first_barred" 2 (.cons (.v 2) (.cons (.sl (.v 4) .no (.yes (.op .add (.v 5) (.c (.int 1))))) .nil))))
 (.cons (.ite (.cmp .ne (.cmp .isin (.ix (.v 4) (.v 5)) (.v 6)) (.cmp .is (.v 7) (.c .non))) (.cons (.ret (.c (.bl false)))
 .nil) .nil)
 (.cons (.ite (.cmp .isnot (.v 7) (.c .non)) (.cons (.ret (.and (.cmp .eq (.ix (.v 7) (.c (.int 2))) (.v 5)) (.cmp .isnot (.own "first_barred" 2 (.cons (.v 2) (.cons (.v 4) .nil))) (.c .non))))
 .nil) .nil)
 .nil)))))
 (.cons (.ret (.cmp .is (.own "first_barred" 2 (.cons (.v 2) (.cons (.v 4) .nil))) (.c .non)))
 .nil)))))))
structure Lw16 (defs:JM (Kd×Df)):Prop where
 gen:Gen defs
 full:Full defs
 parts:Parts defs
 part:Is defs ("part" : Kd) 3 3 gG
 longer:Is defs ("longer_orders" : Kd) 2 4 br
 barred:Is defs ("barred_threes" : Kd) 1 5 bG
 three:Is defs ("three_at" : Kd) 4 6 bY
 fthree:Is defs ("first_three" : Kd) 2 5 cw
 fbarred:Is defs ("first_barred" : Kd) 2 2 cM
 fbar:Is defs ("first_bar" : Kd) 2 4 cN
 lwish:Is defs ("longer_wishes" : Kd) 2 5 bH
 wover:Is defs ("wishes_over" : Kd) 3 7 cx
 wishes:Is defs ("wishes" : Kd) 2 2 gJ
 flow:Is defs ("_law_flow" : Kd) 1 1 eX
 any:Is defs ("_law_any_world" : Kd) 3 6 cv
 bad:Is defs ("_law_bad" : Kd) 1 4 fP
 ways:Is defs ("_law_new_ways" : Kd) 6 11 cf
 world:Is defs ("_law_world" : Kd) 4 8 dY
 law:Is defs ("law" : Kd) 1 8 lu
theorem Fs (L:JM Pt):W.ts (L.map dZ)=ba (L.map nj):=by rw[<- tX]; exact T.ws_ts _
theorem Jo (p:Pt):W.t (dZ p)=ba (nj p):=by rw[<- Du]; exact T.w_t _
theorem AI {S:aa}{i:JW}{p:Pt}{L:JM Pt}(h:S[i]?=ba (.lst (L.map dZ))):cg .isin (dZ p) (.ref i) S=ba (.bl (decide (p∈L)),S):=by
 have e:FC (dZ p) i S=ba (decide (p∈L)):=by
  unfold FC;rw[Jo,aM h];dsimp only;rw[Fs];dsimp only;rw[Ko ⟨by rw[rR]; decide,J3 (jK L) (by decide)⟩]
  congr 1;rw[N3,Ki,Ki,Kl];exact⟨λ⟨x,hx,e⟩=>vA e ▸ hx,λh=>⟨p,h,rfl⟩⟩
 unfold dZ at e ⊢;simp only[cg,i8 h,e];rfl
noncomputable def ug (X:JM T)(v:Wd)(i j l:JW):Kt:=decide (cH (gI v i j l)∈X)
theorem gX {X:JM T}{u:Wd}{i j l s:JW}(h1:i < j)(h2:j < l)(h3:l < s):ug X (u.take s) i j l=ug X u i j l:=by
 unfold ug gI;rw[fj (by omega),fj (NE ‹_› ‹_›),fj h3]
theorem xr {u:Wd}{i:JW}(hi:i < u.length):u.take i++[u.getD i (0,[])]=u.take (i+1):=by
 rw[KD,aB (d:=(0,[])) hi]; rfl
theorem AJ {bs:JM J5}{gs:JM Wd}{kvs:JM (T×W)}{a n i:JW}{u:Wd}(hk:HasD kvs (dt bs gs))(hu:GoodW a n u)(hi:i < u.length):u.getD i (0,[])∈kD kvs (u.take i) a n↔∀p q,p < q->q < i->ug ((dt bs gs).map cH) u p q i=false:=by
 have hl:(u.take i).length=i:=by rw[KA]; omega
 have gi:=aB (d:=(0,[])) hi;have hb:∀p q,p < q->q < i->iq kvs (u.take i) (u.getD i (0,[])) p q=ug ((dt bs gs).map cH) u p q i:=λp q h1 h2=>by
  rw[<- sv h1 (by omega),hl,xr hi]
  exact(hk.get _).trans (gX (X:=(dt bs gs).map cH) h1 h2 (Ll i))
 rw[AG,hl];exact⟨λh p q h1 h2=>by rw[<- hb p q h1 h2]; exact h.2.2.2 p q h1 h2,λh=>⟨hu.mark _ _ gi,hu.len _ _ gi,hu.way _ _ gi,λp q h1 h2=>by rw[hb p q h1 h2]; exact h p q h1 h2⟩⟩
section
variable{defs:JM (Kd×Df)}{fuel d:JW}
theorem AK (hfu:50 < fuel)(L:Lw16 defs){zs:JM J5}:∃S',aq defs fuel (d+9) "law" [.ref 0] [.fro (zs.map W.int)]=ba (.bl true,S'):=by
 suffices h:wO (bF (aq defs fuel (d+9)) "law" 1 [.ref 0] [.fro (zs.map W.int)]) (λp=>p.1=.bl true) by
  obtain⟨⟨v,S'⟩,e,q⟩:=c7 h;cases(show v=.bl true from q)
  exact⟨S',e⟩
 have G:=L.gen;refine aC L.law rfl rfl λQ' hR=>?_
 show wZ _ _ lu [ba (.ref 0),gV,gV,gV,gV,gV,gV,gV] [.fro (zs.map W.int)] Q';unfold lu;refine bw λK hK=>?_
 dsimp only[wS,wE,wA,wV,wG,J4];refine Fo (d:=d+7) L.flow (ns:=zs) rfl λr S1 _ f1=>hK _ _ ?_
 clear hK K;refine bw λK hK=>?_
 dsimp only[wS,wE,wA,wV,wG,J4];refine Fi (d:=d) (by omega) G L.full f1 λw S2 hw f2 _=>hK _ _ ?_
 clear hK K f1;obtain⟨a,bs,ms,ns,gs0,rfl,hr⟩:=hw;have hb:=hr.size.good;have hnl:=hr.nl;have hml:=hr.ml;have hpos:=hr.size.pos;have ha3:=hr.size.a3;have pm:(cV gs0).Perm gs0:=eP;have hgs:∀g∈cV gs0,GoodW a bs.length g/\g.length=3:=λg hg=>xp hb (hr.mem g (pm.mem_iff.mp hg))
 have h64:(cV gs0).length<=100:=by
  have h1:=l9 gs0 _ hr.nd hr.mem;have h2:=lr hr.size;rw[pm.length_eq]; omega
 clear hr pm;unfold d8;generalize cV gs0=gs at hgs h64;clear gs0;have hb3:bs.length<=3:=by rcases hb with rfl|rfl|rfl|rfl|rfl|rfl <;> decide
 have fb:∀(u:Wd) (S:aa) (Q:QW),GoodW a bs.length u->u.length<=1000->(∀w S',Ans (ug ((dt bs gs).map cH) u) u.length w->Ka S S'->Q (w,S'))->wO (bF (aq defs fuel (d+8)) "first_barred" 2 [.tup [.tup (ms.map W.str),.tup (Km bQ ns bs),.tup (gs.map aI)],aI u] S) Q:=λu S Q h1 h2 h3=>mr (d:=d+3) (by omega) L.parts L.part L.longer L.barred L.three L.fthree L.fbarred hb hnl hgs h64 h1 h2 h3
 refine bw λK hK=>?_
 dsimp only[wS,wE,wA,wV,wG,J4];refine am (by decide) rfl (bS (ae E6 ?_))
 dsimp only;generalize decide (((Km bQ ns bs).length:J5) > 2)=c;obtain⟨g,hg1,eg⟩ : ∃g:JW,g<=1/\∀S,Bi.int.fn [.bl c] S=ba (.int (g:J5),S):=by
  cases c
  ·exact⟨0,by decide,λ_=>rfl⟩
  ·exact⟨1,by decide,λ_=>rfl⟩
 refine ae (eg _) ?_;dsimp only;obtain⟨z,z5,z6,ez⟩ : ∃z:JW,5<=z/\z<=6/\([W.int 6,W.int 5])[g]?=ba (.int (z:J5)):=by
  rcases(show g=0\/g=1 by omega)with rfl|rfl
  ·exact⟨6,by decide,by decide,rfl⟩
  ·exact⟨5,by decide,by decide,rfl⟩
 refine eY aj ez ?_;refine bu (d:=d+7) G.pick (f2.ka .push) (by omega) (by omega) λv S3 v0 v1 f3 _=>hK _ _ ?_
 clear hK K f2 eg ez;obtain⟨n,rfl⟩ : ∃n:JW,v=n:=⟨v.toNat,by omega⟩
 have hn5:n<=5:=by omega
 refine bw λK hK=>?_
 dsimp only[wS,wE,wA,wV,wG,J4];refine rV (d:=d+6) G L.any f3 hpos ha3 hb hml hnl (by exact J3 ‹_› (Kc rfl)) λy S4 hy1 hy f4 _=>hK _ _ ?_
 have hy5:y.length<=5:=by omega
 clear hK K f3 hy1;refine bw λK hK=>?_
 have tl:∀(u:Wd) (S5:aa),GoodW a bs.length u->u.length<=5->K [ba (.ref 0),ba (.ref r),ba (.tup [.tup (ms.map W.str),.tup (Km bQ ns bs),.tup (gs.map aI)]),ba (.int (n:J5)),ba (aI u),gV,gV,gV] S5:=by
  intro u S5 hu hu5;refine hK _ _ ?_;clear hK K f4 hy hy5 y;have ul:(u.map dZ).length=u.length:=JO ..;have slt:∀(s:JW) (S:aa),sU (aI u) gV (ba (s:J5)) S=ba (aI (u.take s),S):=λs S=>by simp only[aI,sU,gD,NV]
  generalize hX:(dt bs gs).map cH=X at fb;refine bw λK hK=>?_
  refine cm (u.length:J5) (λi ρ S'=>(∃a5 a6 a7,ρ=[ba (.ref 0),ba (.ref r),ba (.tup [.tup (ms.map W.str),.tup (Km bQ ns bs),.tup (gs.map aI)]),ba (.int (n:J5)),ba (aI u),a5,a6,a7])/\∀i' j' l',i' < j'->j' < l'->l' < i->ug X u i' j' l'=false) rfl rfl (by omega) ?_ ?_ ?_
  ·dsimp only[wE,wA,wV,wG];refine bS ?_;rw[ul];exact⟨rfl,⟨_,_,_,rfl⟩,λi' _ _ _ _ z=>by omega⟩
  ·rintro i ρ S6 hi ⟨⟨a5,a6,a7,rfl⟩,no⟩ Q2 hn2 hr2;clear hK;have hi:i < u.length:=by exact LL.mp ‹_›
   dsimp only[J4];refine bw λK hK=>?_
   dsimp only[wS,wE,wA,wP,wV,wG,wN,J4];refine ae (slt i _) ?_;dsimp only;refine AH (d:=d+3) (by omega) L.parts L.part L.longer L.barred L.three L.fbar L.lwish L.wover L.wishes hml ha3 hb hnl hgs h64 (jR hu) (by rw[KA]; omega) λl kvs S7 hk e7 _ k7=>hK _ _ ?_
   clear hK K;have wm:=AJ hk hu hi;rw[hX]at wm;refine bw λK hK=>?_
   dsimp only[wS,wE,wA,wP,wV,wG,wN,J4];refine ae dk ?_;dsimp only;rw[show(i:J5)+1=((i+1:JW):J5) by omega]
   refine ae (slt (i+1) _) ?_;dsimp only;refine fb (u.take (i+1)) _ _ (jR hu) (by rw[KA]; omega) λw S8 hw k8=>hK _ _ ?_
   clear hK K;have e8:=k8.get _ _ e7;rw[show(u.take (i+1)).length=i+1 by rw[KA]; omega]at hw
   rcases hw with⟨rfl,hw⟩|⟨i',j',l',rfl,h1,h2,h3,h4,_⟩
   ·have wt:u.getD i (0,[])∈kD kvs (u.take i) a bs.length:=wm.mpr λp q h1 h2=>by
     rw[<- gX h1 h2 (Ll i)]; exact hw p q i h1 h2 (Ll i)
    refine bw λK hK=>?_
    dsimp only[wS,wT,wE,wV,wG];refine am (Kg i) (dW hi) (ae (AI e8) ?_);refine ae (show cg .is .non .non S8=ba (.bl true,S8)from rfl) ?_
    dsimp only;rw[LX wt];refine ae (show cg .ne (.bl true) (.bl true) S8=ba (.bl false,S8)from rfl) ?_
    dsimp only[wB];refine aw (Q0:=Q2) (λz=>by cases z) (λ_ Q3 hn3 _=>cq (hn3 _ _ (hK _ _ ?_)))
    clear hn3 hK K;refine bw λK hK=>?_
    dsimp only[wS,wT,wE,wV,wG];refine ae (show cg .isnot .non .non S8=ba (.bl false,S8)from rfl) ?_
    dsimp only[wB];refine aw (Q0:=Q2) (λz=>by cases z) (λ_ Q3 hn3 _=>cq (hn3 _ _ (hK _ _ (cq (hn2 _ _ ⟨⟨_,_,_,rfl⟩,λi' j' l' h1 h2 h3=>?_⟩)))))
    rw[<- gX h1 h2 h3]; exact hw i' j' l' h1 h2 h3
   ·rw[gX h1 h2 h3]at h4;have el:l'=i:=by
     rcases Sj l' i with z|z
     ·rw[no i' j' l' h1 h2 z]at h4; cases h4
     ·omega
    subst el;have wf:u.getD l' (0,[])∉kD kvs (u.take l') a bs.length:=λz=>by
     rw[wm.mp z i' j' h1 h2]at h4; cases h4
    refine bw λK hK=>?_
    dsimp only[wS,wT,wE,wV,wG];refine am (Kg l') (dW hi) (ae (AI e8) ?_);refine ae (show cg .is (.tup [.int i',.int j',.int l']) .non S8=ba (.bl false,S8)from rfl) ?_
    dsimp only;rw[Kz wf];refine ae (show cg .ne (.bl false) (.bl false) S8=ba (.bl false,S8)from rfl) ?_
    dsimp only[wB];refine aw (Q0:=Q2) (λz=>by cases z) (λ_ Q3 hn3 _=>cq (hn3 _ _ (hK _ _ ?_)))
    clear hn3 hK K;refine bw λK hK=>?_
    dsimp only[wS,wT,wE,wV,wG];refine ae (show cg .isnot (.tup [.int i',.int j',.int l']) .non S8=ba (.bl true,S8)from rfl) ?_
    dsimp only[wB];refine aw (Q0:=Q2) (λ_ Q3 _ hr3=>?_) (λz=>by cases z)
    refine st ?_;dsimp only[wS,wE,wA,wV,wG];refine am (by decide) rfl (ae kH ?_)
    dsimp only[wB];rw[Lk];refine⟨λ_=>?_,λz=>by cases z⟩
    refine fb u _ _ hu (by exact J3 ‹_› (Kc rfl)) λw S9 hw _=>?_
    have en:cg .isnot w .non S9=ba (.bl true,S9):=by
     rcases hw with⟨rfl,hw⟩|⟨i2,j2,l2,rfl,_⟩
     ·rw[hw i' j' l' h1 h2 hi]at h4; cases h4
     ·rfl
    exact ae en (hr3 _ _ (hr2 _ _ (hR _ _ rfl)))
  ·rintro ρ S6 ⟨⟨a5,a6,a7,rfl⟩,no⟩;rw[Kh]at no;refine hK _ _ (st ?_);dsimp only[wS,wE,wA,wV,wG];refine fb u _ _ hu (by exact J3 ‹_› (Kc rfl)) λw S9 hw _=>?_
   have en:cg .is w .non S9=ba (.bl true,S9):=by
    rcases hw with⟨rfl,_⟩|⟨i2,j2,l2,rfl,h1,h2,h3,h4,_⟩
    ·rfl
    ·rw[no i2 j2 l2 h1 h2 h3]at h4; cases h4
   exact ae en (hR _ _ rfl)
 dsimp only[wS,wT,wE,wA,wV,wG];refine bu (d:=d+7) G.pick f4 (by decide) (by decide) λv2 S5 _ _ f5 _=>?_
 dsimp only[kH,bE,wB];refine aw (Q0:=Q') (λ_ Q2 hn2 _=>?_) (λ_ Q2 hn2 _=>cq (hn2 _ _ (tl y S5 hy hy5)))
 refine st ?_;dsimp only[wS,wE,wA,wV,wG,J4];refine Hv (d:=d+5) G L.bad hb hnl hgs h64 λq kvs S6 e6 _ hq k6=>?_
 have hqr:q≠r:=by have:=f5.lt; omega
 exact CV (d:=d+5) G L.ways L.world (M:=ms.map W.str) (N:=Km bQ ns bs) (n:=bs.length) (by rw[JO,hml]) hpos ha3 (by rw[MK,hnl]; omega) hb3 (by exact J3 ‹_› (Kc rfl)) e6 hqr (f5.ka k6) λu S7 hul hu _ _=>cq (hn2 _ _ (tl u S7 hu (J3 ‹_› ‹_›)))
end
noncomputable def ah (i:JW):MC:=PySem.Challenge.pw_layworld_k16_whole_point_by_point.main.body.getD i (.Pass ⟨0,0,0,0⟩)
noncomputable def ir:Df:=⟨["rule","world","i","j"],["rule","world","i","j"],vE⟩
noncomputable def fH:Df:=⟨["rule","world","points"],["rule","world","points"],gG⟩
noncomputable def bx:Df:=⟨["rule","world","ahead","point"],["rule","world","ahead","point"],eC⟩
noncomputable def aO:Df:=⟨["orders","size"],["orders","size","longer","order"],br⟩
noncomputable def aP:Df:=⟨["rule"],["rule","orders","barred","figure","order"],bG⟩
noncomputable def bZ:Df:=⟨["world","i","j","k"],["world","i","j","k","one","two"],bY⟩
noncomputable def aU:Df:=⟨["rule","world"],["rule","world"],cM⟩
noncomputable def bc:Df:=⟨["barred","world"],["barred","world","i","j","k"],cw⟩
noncomputable def bL:Df:=⟨["barred","world"],["barred","world","last","point"],cN⟩
noncomputable def c8:Df:=⟨["rule","world"],["rule","world"],gJ⟩
noncomputable def be:Df:=⟨["rule","barred","world"],["rule","barred","world","found","mark","heads","size"],cx⟩
noncomputable def aQ:Df:=⟨["rule","heads"],["rule","heads","longer","mark","ways"],bH⟩
noncomputable def bM:Df:=⟨["_law_script"],["_law_script"],eX⟩
noncomputable def bN:Df:=⟨["_law_flow_here","_law_many"],["_law_flow_here","_law_many","_law_cell","_law_digit"],dh⟩
noncomputable def aV:Df:=⟨["_law_flow_here","_law_many"],["_law_flow_here","_law_many"],dN⟩
noncomputable def bO:Df:=⟨["_law_flow_here","_law_stem"],["_law_flow_here","_law_stem","_law_near"],fZ⟩
noncomputable def bz:Df:=⟨["_law_flow_here","_law_many"],["_law_flow_here","_law_many","_law_stem","_law_names_here","_law_k","_law_name_here","_law_spare"],dq⟩
noncomputable def aW:Df:=⟨["_law_rule","_law_world_here","_law_i","_law_j"],["_law_rule","_law_world_here","_law_i","_law_j"],dO⟩
noncomputable def bP:Df:=⟨["_law_rule","_law_world_here","_law_points"],["_law_rule","_law_world_here","_law_points","_law_told","_law_k","_law_i"],ga⟩
noncomputable def bA:Df:=⟨[],[],gB⟩
noncomputable def bg:Df:=⟨["_law_rule","_law_three"],["_law_rule","_law_three"],ey⟩
noncomputable def b6:Df:=⟨["_law_rule"],["_law_rule","_law_bad_here","_law_three","_law_points"],fP⟩
noncomputable def bB:Df:=⟨["_law_flow_here","_law_many"],["_law_flow_here","_law_many","_law_menu"],fA⟩
noncomputable def aX:Df:=⟨["_law_flow_here","_law_marks","_law_backs_here","_law_barred"],["_law_flow_here","_law_marks","_law_backs_here","_law_barred","_law_names_here","_law_ways"],dP⟩
noncomputable def aF:Df:=⟨["_law_flow_here","_law_marks","_law_ways"],["_law_flow_here","_law_marks","_law_ways","_law_told","_law_k"],cQ⟩
noncomputable def bC:Df:=⟨["_law_flow_here"],["_law_flow_here","_law_menu"],fB⟩
noncomputable def aR:Df:=⟨["_law_flow_here"],["_law_flow_here","_law_marks","_law_ways","_law_rule","_law_barred","_law_k"],dz⟩
noncomputable def ay:Df:=⟨["_law_flow_here"],["_law_flow_here","_law_menu"],cD⟩
noncomputable def bh:Df:=⟨["_law_backs_here","_law_must","_law_to_one","_law_to_two","_law_between_here"],["_law_backs_here","_law_must","_law_to_one","_law_to_two","_law_between_here","_law_to","_law_pair","_law_x","_law_y","_law_z"],eA⟩
noncomputable def aS:Df:=⟨["_law_flow_here","_law_backs_here","_law_must"],["_law_flow_here","_law_backs_here","_law_must","_law_many","_law_menu","_law_some","_law_numbers","_law_told","_law_k","_law_other","_law_u","_law_v"],bR⟩
noncomputable def az:Df:=⟨["_law_flow_here"],["_law_flow_here","_law_form","_law_backs_here","_law_must","_law_most","_law_marks","_law_rule","_law_barred","_law_many","_law_at","_law_one","_law_two","_law_between_here","_law_some","_law_first"],cF⟩
noncomputable def bj:Df:=⟨["_law_marks"],["_law_marks","_law_told","_law_i","_law_j"],eB⟩
noncomputable def aJ:Df:=⟨["_law_flow_here"],["_law_flow_here","_law_marks","_law_ways","_law_rule","_law_k","_law_own","_law_free","_law_barred","_law_three"],dc⟩
noncomputable def ar:Df:=⟨["_law_flow_here"],["_law_flow_here","_law_marks","_law_barred"],cp⟩
noncomputable def aK:Df:=⟨["_law_flow_here","_law_rule","_law_many"],["_law_flow_here","_law_rule","_law_many","_law_told","_law_k","_law_mark"],cv⟩
noncomputable def aT:Df:=⟨["_law_flow_here","_law_rule","_law_bad_here","_law_world_here","_law_mark","_law_to"],["_law_flow_here","_law_rule","_law_bad_here","_law_world_here","_law_mark","_law_to","_law_k","_law_left","_law_w","_law_seen","_law_i"],cf⟩
noncomputable def bD:Df:=⟨["_law_flow_here","_law_rule","_law_bad_here","_law_many"],["_law_flow_here","_law_rule","_law_bad_here","_law_many","_law_world_here","_law_k","_law_mark","_law_to"],dY⟩
noncomputable def bm:Df:=⟨["_law_many","_law_size"],["_law_many","_law_size","_law_told","_law_k"],cR⟩
noncomputable def bn:Df:=⟨["_law_rule","_law_size"],["_law_rule","_law_size","_law_told","_law_k","_law_points","_law_mark"],dB⟩
noncomputable def aY:Df:=⟨["_law_rule"],["_law_rule"],dQ⟩
noncomputable def aL:Df:=⟨["_law_flow_here"],["_law_flow_here","_law_form","_law_marks","_law_many","_law_rule"],de⟩
noncomputable def iu:Df:=⟨["_law_script"],["_law_script","_law_flow_here","_law_rule","_law_size","_law_world_here","_law_k","_law_told","_law_three"],lu⟩
noncomputable def kE:JM (Kd×Df):=[(("way" : Kd),ir),(("part" : Kd),fH),(("point_over" : Kd),bx),(("longer_orders" : Kd),aO),(("barred_threes" : Kd),aP),(("three_at" : Kd),bZ),(("first_barred" : Kd),aU),(("first_three" : Kd),bc),(("first_bar" : Kd),bL),(("wishes" : Kd),c8),(("wishes_over" : Kd),be),(("longer_wishes" : Kd),aQ),(("_law_flow" : Kd),bM),(("_law_pick" : Kd),bN),(("_law_letters" : Kd),aV),(("_law_name" : Kd),bO),(("_law_names" : Kd),bz),(("_law_between" : Kd),aW),(("_law_part" : Kd),bP),(("_law_turns" : Kd),bA),(("_law_figure" : Kd),bg),(("_law_bad" : Kd),b6),(("_law_backs" : Kd),bB),(("_law_rule_of" : Kd),aX),(("_law_free_three" : Kd),aF),(("_law_sizes" : Kd),bC),(("_law_any_rule" : Kd),aR),(("_law_laying_kind" : Kd),ay),(("_law_breaks" : Kd),bh),(("_law_numbered" : Kd),aS),(("_law_laying_rule" : Kd),az),(("_law_rising" : Kd),bj),(("_law_free_rule" : Kd),aJ),(("_law_one_way_rule" : Kd),ar),(("_law_any_world" : Kd),aK),(("_law_new_ways" : Kd),aT),(("_law_world" : Kd),bD),(("_law_digits" : Kd),bm),(("_law_worlds" : Kd),bn),(("_law_figures" : Kd),aY),(("_law_full_rule" : Kd),aL),(("law" : Kd),iu)]
noncomputable def CW:JM (Kd×JW):=[(("way" : Kd),4),(("part" : Kd),3),(("point_over" : Kd),4),(("longer_orders" : Kd),2),(("barred_threes" : Kd),1),(("three_at" : Kd),4),(("first_barred" : Kd),2),(("first_three" : Kd),2),(("first_bar" : Kd),2),(("wishes" : Kd),2),(("wishes_over" : Kd),3),(("longer_wishes" : Kd),2),(("_law_flow" : Kd),1),(("_law_pick" : Kd),2),(("_law_letters" : Kd),2),(("_law_name" : Kd),2),(("_law_names" : Kd),2),(("_law_between" : Kd),4),(("_law_part" : Kd),3),(("_law_turns" : Kd),0),(("_law_figure" : Kd),2),(("_law_bad" : Kd),1),(("_law_backs" : Kd),2),(("_law_rule_of" : Kd),4),(("_law_free_three" : Kd),3),(("_law_sizes" : Kd),1),(("_law_any_rule" : Kd),1),(("_law_laying_kind" : Kd),1),(("_law_breaks" : Kd),5),(("_law_numbered" : Kd),3),(("_law_laying_rule" : Kd),1),(("_law_rising" : Kd),1),(("_law_free_rule" : Kd),1),(("_law_one_way_rule" : Kd),1),(("_law_any_world" : Kd),3),(("_law_new_ways" : Kd),6),(("_law_world" : Kd),4),(("_law_digits" : Kd),2),(("_law_worlds" : Kd),2),(("_law_figures" : Kd),1),(("_law_full_rule" : Kd),1),(("law" : Kd),1)]
noncomputable def Ft:JM Kd:=["range","len","list","tuple","int","set","sorted","isinstance","bool","str","all","min","enumerate"]
noncomputable def eH:Md:=⟨CW,Ft⟩
theorem Fu:bV eH (ah 1) ir:=by rfl
theorem Fv:FnScope ir.N ir.ps (ag (ah 1)):=⟨rfl,rfl,rfl,by decide +kernel,rfl,by decide +kernel,by decide +kernel⟩
theorem CY:bV eH (ah 3) fH:=by rfl
theorem CZ:FnScope fH.N fH.ps (ag (ah 3)):=⟨rfl,rfl,rfl,by decide +kernel,rfl,by decide +kernel,by decide +kernel⟩
theorem nv:bV eH (ah 4) bx:=by rfl
theorem nw:FnScope bx.N bx.ps (ag (ah 4)):=⟨rfl,rfl,rfl,by decide +kernel,rfl,by decide +kernel,by decide +kernel⟩
theorem jS:bV eH (ah 5) aO:=by rfl
theorem jT:FnScope aO.N aO.ps (ag (ah 5)):=⟨rfl,rfl,rfl,by decide +kernel,rfl,by decide +kernel,by decide +kernel⟩
theorem jU:bV eH (ah 7) aP:=by rfl
theorem jV:FnScope aP.N aP.ps (ag (ah 7)):=⟨rfl,rfl,rfl,by decide +kernel,rfl,by decide +kernel,by decide +kernel⟩
theorem sy:bV eH (ah 8) bZ:=by rfl
theorem sA:FnScope bZ.N bZ.ps (ag (ah 8)):=⟨rfl,rfl,rfl,by decide +kernel,rfl,by decide +kernel,by decide +kernel⟩
theorem kK:bV eH (ah 9) aU:=by rfl
theorem kL:FnScope aU.N aU.ps (ag (ah 9)):=⟨rfl,rfl,rfl,by decide +kernel,rfl,by decide +kernel,by decide +kernel⟩
theorem mB:bV eH (ah 10) bc:=by rfl
theorem mC:FnScope bc.N bc.ps (ag (ah 10)):=⟨rfl,rfl,rfl,by decide +kernel,rfl,by decide +kernel,by decide +kernel⟩
theorem p4:bV eH (ah 11) bL:=by rfl
theorem p7:FnScope bL.N bL.ps (ag (ah 11)):=⟨rfl,rfl,rfl,by decide +kernel,rfl,by decide +kernel,by decide +kernel⟩
theorem xt:bV eH (ah 12) c8:=by rfl
theorem xu:FnScope c8.N c8.ps (ag (ah 12)):=⟨rfl,rfl,rfl,by decide +kernel,rfl,by decide +kernel,by decide +kernel⟩
theorem mD:bV eH (ah 13) be:=by rfl
theorem mE:FnScope be.N be.ps (ag (ah 13)):=⟨rfl,rfl,rfl,by decide +kernel,rfl,by decide +kernel,by decide +kernel⟩
theorem jW:bV eH (ah 14) aQ:=by rfl
theorem jX:FnScope aQ.N aQ.ps (ag (ah 14)):=⟨rfl,rfl,rfl,by decide +kernel,rfl,by decide +kernel,by decide +kernel⟩
theorem p8:bV eH (ah 16) bM:=by rfl
theorem p9:FnScope bM.N bM.ps (ag (ah 16)):=⟨rfl,rfl,rfl,by decide +kernel,rfl,by decide +kernel,by decide +kernel⟩
theorem qa:bV eH (ah 17) bN:=by rfl
theorem qb:FnScope bN.N bN.ps (ag (ah 17)):=⟨rfl,rfl,rfl,by decide +kernel,rfl,by decide +kernel,by decide +kernel⟩
theorem kM:bV eH (ah 18) aV:=by rfl
theorem kN:FnScope aV.N aV.ps (ag (ah 18)):=⟨rfl,rfl,rfl,by decide +kernel,rfl,by decide +kernel,by decide +kernel⟩
theorem qc:bV eH (ah 19) bO:=by rfl
theorem qd:FnScope bO.N bO.ps (ag (ah 19)):=⟨rfl,rfl,rfl,by decide +kernel,rfl,by decide +kernel,by decide +kernel⟩
theorem ny:bV eH (ah 20) bz:=by rfl
theorem nz:FnScope bz.N bz.ps (ag (ah 20)):=⟨rfl,rfl,rfl,by decide +kernel,rfl,by decide +kernel,by decide +kernel⟩
theorem kO:bV eH (ah 21) aW:=by rfl
theorem kP:FnScope aW.N aW.ps (ag (ah 21)):=⟨rfl,rfl,rfl,by decide +kernel,rfl,by decide +kernel,by decide +kernel⟩
theorem qf:bV eH (ah 22) bP:=by rfl
theorem qg:FnScope bP.N bP.ps (ag (ah 22)):=⟨rfl,rfl,rfl,by decide +kernel,rfl,by decide +kernel,by decide +kernel⟩
theorem nA:bV eH (ah 23) bA:=by rfl
theorem nB:FnScope bA.N bA.ps (ag (ah 23)):=⟨rfl,rfl,rfl,by decide +kernel,rfl,by decide +kernel,by decide +kernel⟩
theorem mF:bV eH (ah 24) bg:=by rfl
theorem mG:FnScope bg.N bg.ps (ag (ah 24)):=⟨rfl,rfl,rfl,by decide +kernel,rfl,by decide +kernel,by decide +kernel⟩
theorem sB:bV eH (ah 25) b6:=by rfl
theorem sC:FnScope b6.N b6.ps (ag (ah 25)):=⟨rfl,rfl,rfl,by decide +kernel,rfl,by decide +kernel,by decide +kernel⟩
theorem nC:bV eH (ah 26) bB:=by rfl
theorem nD:FnScope bB.N bB.ps (ag (ah 26)):=⟨rfl,rfl,rfl,by decide +kernel,rfl,by decide +kernel,by decide +kernel⟩
theorem kQ:bV eH (ah 27) aX:=by rfl
theorem kR:FnScope aX.N aX.ps (ag (ah 27)):=⟨rfl,rfl,rfl,by decide +kernel,rfl,by decide +kernel,by decide +kernel⟩
theorem iI:bV eH (ah 28) aF:=by rfl
theorem iJ:FnScope aF.N aF.ps (ag (ah 28)):=⟨rfl,rfl,rfl,by decide +kernel,rfl,by decide +kernel,by decide +kernel⟩
theorem nE:bV eH (ah 29) bC:=by rfl
theorem nF:FnScope bC.N bC.ps (ag (ah 29)):=⟨rfl,rfl,rfl,by decide +kernel,rfl,by decide +kernel,by decide +kernel⟩
theorem jY:bV eH (ah 30) aR:=by rfl
theorem jZ:FnScope aR.N aR.ps (ag (ah 30)):=⟨rfl,rfl,rfl,by decide +kernel,rfl,by decide +kernel,by decide +kernel⟩
theorem hG:bV eH (ah 31) ay:=by rfl
theorem hW:FnScope ay.N ay.ps (ag (ah 31)):=⟨rfl,rfl,rfl,by decide +kernel,rfl,by decide +kernel,by decide +kernel⟩
theorem mH:bV eH (ah 32) bh:=by rfl
theorem mI:FnScope bh.N bh.ps (ag (ah 32)):=⟨rfl,rfl,rfl,by decide +kernel,rfl,by decide +kernel,by decide +kernel⟩
theorem j3:bV eH (ah 33) aS:=by rfl
theorem j4:FnScope aS.N aS.ps (ag (ah 33)):=⟨rfl,rfl,rfl,by decide +kernel,rfl,by decide +kernel,by decide +kernel⟩
theorem hZ:bV eH (ah 34) az:=by rfl
theorem ib:FnScope az.N az.ps (ag (ah 34)):=⟨rfl,rfl,rfl,by decide +kernel,rfl,by decide +kernel,by decide +kernel⟩
theorem mJ:bV eH (ah 35) bj:=by rfl
theorem mK:FnScope bj.N bj.ps (ag (ah 35)):=⟨rfl,rfl,rfl,by decide +kernel,rfl,by decide +kernel,by decide +kernel⟩
theorem ji:bV eH (ah 36) aJ:=by rfl
theorem jj:FnScope aJ.N aJ.ps (ag (ah 36)):=⟨rfl,rfl,rfl,by decide +kernel,rfl,by decide +kernel,by decide +kernel⟩
theorem gK:bV eH (ah 37) ar:=by rfl
theorem gL:FnScope ar.N ar.ps (ag (ah 37)):=⟨rfl,rfl,rfl,by decide +kernel,rfl,by decide +kernel,by decide +kernel⟩
theorem jk:bV eH (ah 38) aK:=by rfl
theorem jl:FnScope aK.N aK.ps (ag (ah 38)):=⟨rfl,rfl,rfl,by decide +kernel,rfl,by decide +kernel,by decide +kernel⟩
theorem j5:bV eH (ah 39) aT:=by rfl
theorem j6:FnScope aT.N aT.ps (ag (ah 39)):=⟨rfl,rfl,rfl,by decide +kernel,rfl,by decide +kernel,by decide +kernel⟩
theorem nG:bV eH (ah 40) bD:=by rfl
theorem nH:FnScope bD.N bD.ps (ag (ah 40)):=⟨rfl,rfl,rfl,by decide +kernel,rfl,by decide +kernel,by decide +kernel⟩
theorem mL:bV eH (ah 41) bm:=by rfl
theorem mM:FnScope bm.N bm.ps (ag (ah 41)):=⟨rfl,rfl,rfl,by decide +kernel,rfl,by decide +kernel,by decide +kernel⟩
theorem mN:bV eH (ah 42) bn:=by rfl
theorem mO:FnScope bn.N bn.ps (ag (ah 42)):=⟨rfl,rfl,rfl,by decide +kernel,rfl,by decide +kernel,by decide +kernel⟩
theorem kS:bV eH (ah 43) aY:=by rfl
theorem kU:FnScope aY.N aY.ps (ag (ah 43)):=⟨rfl,rfl,rfl,by decide +kernel,rfl,by decide +kernel,by decide +kernel⟩
theorem jm:bV eH (ah 44) aL:=by rfl
theorem jn:FnScope aL.N aL.ps (ag (ah 44)):=⟨rfl,rfl,rfl,by decide +kernel,rfl,by decide +kernel,by decide +kernel⟩
theorem AL:bV eH (ah 45) iu:=by rfl
theorem AM:FnScope iu.N iu.ps (ag (ah 45)):=⟨rfl,rfl,rfl,by decide +kernel,rfl,by decide +kernel,by decide +kernel⟩
theorem ak {α:Type}{x y:Kd}{n m:α}{L:JM (Kd×α)}(h:((y,m)::L).lookup x=ba n):(x=y/\n=m)\/L.lookup x=ba n:=by
 rw[LR]at h;split at h
 ·rename_i e;cases h;exact .inl ⟨eq_of_beq e,rfl⟩
 ·exact .inr h
theorem Hw:Lw16 kE:=⟨⟨⟨bN,rfl,rfl,rfl,rfl⟩,⟨aV,rfl,rfl,rfl,rfl⟩,⟨bO,rfl,rfl,rfl,rfl⟩,⟨bz,rfl,rfl,rfl,rfl⟩,⟨aW,rfl,rfl,rfl,rfl⟩,⟨bP,rfl,rfl,rfl,rfl⟩,⟨bA,rfl,rfl,rfl,rfl⟩,⟨bg,rfl,rfl,rfl,rfl⟩,⟨bB,rfl,rfl,rfl,rfl⟩,⟨aX,rfl,rfl,rfl,rfl⟩,⟨aF,rfl,rfl,rfl,rfl⟩,⟨bC,rfl,rfl,rfl,rfl⟩,⟨aR,rfl,rfl,rfl,rfl⟩,⟨ay,rfl,rfl,rfl,rfl⟩,⟨bh,rfl,rfl,rfl,rfl⟩,⟨aS,rfl,rfl,rfl,rfl⟩,⟨az,rfl,rfl,rfl,rfl⟩,⟨bj,rfl,rfl,rfl,rfl⟩,⟨aJ,rfl,rfl,rfl,rfl⟩,⟨ar,rfl,rfl,rfl,rfl⟩⟩,⟨⟨bm,rfl,rfl,rfl,rfl⟩,⟨bn,rfl,rfl,rfl,rfl⟩,⟨aY,rfl,rfl,rfl,rfl⟩,⟨aL,rfl,rfl,rfl,rfl⟩⟩,⟨⟨ir,rfl,rfl,rfl,rfl⟩,⟨bx,rfl,rfl,rfl,rfl⟩⟩,⟨fH,rfl,rfl,rfl,rfl⟩,⟨aO,rfl,rfl,rfl,rfl⟩,⟨aP,rfl,rfl,rfl,rfl⟩,⟨bZ,rfl,rfl,rfl,rfl⟩,⟨bc,rfl,rfl,rfl,rfl⟩,⟨aU,rfl,rfl,rfl,rfl⟩,⟨bL,rfl,rfl,rfl,rfl⟩,⟨aQ,rfl,rfl,rfl,rfl⟩,⟨be,rfl,rfl,rfl,rfl⟩,⟨c8,rfl,rfl,rfl,rfl⟩,⟨bM,rfl,rfl,rfl,rfl⟩,⟨aK,rfl,rfl,rfl,rfl⟩,⟨b6,rfl,rfl,rfl,rfl⟩,⟨aT,rfl,rfl,rfl,rfl⟩,⟨bD,rfl,rfl,rfl,rfl⟩,⟨iu,rfl,rfl,rfl,rfl⟩⟩
noncomputable def BD (x:Kd)(st:MC)(df:Df):Prop:=∀(kV doc pm:JP) (an:JU JX) (cdv ct:JP) (us:JM JP),us.length=df.ps.length->bindArgs (L4 x x (ee st) (dv st) (ag st) .none kV doc pm an cdv ct) ⟨us,[]⟩=pure (df.ps.zip us)
theorem JI {us:JM JP}(h:us.length=0):us=[]:=match us,h with|[],_=>rfl
theorem xv {us:JM JP}(h:us.length=1):∃a,us=[a]:=match us,h with|[a],_=>⟨a,rfl⟩
theorem vH {us:JM JP}(h:us.length=2):∃a b,us=[a,b]:=match us,h with|[a,b],_=>⟨a,b,rfl⟩
theorem FL {us:JM JP}(h:us.length=3):∃a b c,us=[a,b,c]:=match us,h with|[a,b,c],_=>⟨a,b,c,rfl⟩
theorem FM {us:JM JP}(h:us.length=4):∃a b c d,us=[a,b,c,d]:=match us,h with|[a,b,c,d],_=>⟨a,b,c,d,rfl⟩
theorem JJ {us:JM JP}(h:us.length=5):∃a b c d e,us=[a,b,c,d,e]:=match us,h with|[a,b,c,d,e],_=>⟨a,b,c,d,e,rfl⟩
theorem JK {us:JM JP}(h:us.length=6):∃a b c d e f,us=[a,b,c,d,e,f]:=match us,h with|[a,b,c,d,e,f],_=>⟨a,b,c,d,e,f,rfl⟩
theorem Fw:BD "way" (ah 1) ir:=λ_ _ _ _ _ _ us h=>by
 obtain⟨x0,x1,x2,x3,rfl⟩:=FM h;rfl
theorem C0:BD "part" (ah 3) fH:=λ_ _ _ _ _ _ us h=>by
 obtain⟨x0,x1,x2,rfl⟩:=FL h;rfl
theorem nI:BD "point_over" (ah 4) bx:=λ_ _ _ _ _ _ us h=>by
 obtain⟨x0,x1,x2,x3,rfl⟩:=FM h;rfl
theorem j7:BD "longer_orders" (ah 5) aO:=λ_ _ _ _ _ _ us h=>by
 obtain⟨x0,x1,rfl⟩:=vH h;rfl
theorem j8:BD "barred_threes" (ah 7) aP:=λ_ _ _ _ _ _ us h=>by
 obtain⟨x0,rfl⟩:=xv h;rfl
theorem sD:BD "three_at" (ah 8) bZ:=λ_ _ _ _ _ _ us h=>by
 obtain⟨x0,x1,x2,x3,rfl⟩:=FM h;rfl
theorem kW:BD "first_barred" (ah 9) aU:=λ_ _ _ _ _ _ us h=>by
 obtain⟨x0,x1,rfl⟩:=vH h;rfl
theorem mP:BD "first_three" (ah 10) bc:=λ_ _ _ _ _ _ us h=>by
 obtain⟨x0,x1,rfl⟩:=vH h;rfl
theorem qh:BD "first_bar" (ah 11) bL:=λ_ _ _ _ _ _ us h=>by
 obtain⟨x0,x1,rfl⟩:=vH h;rfl
theorem xw:BD "wishes" (ah 12) c8:=λ_ _ _ _ _ _ us h=>by
 obtain⟨x0,x1,rfl⟩:=vH h;rfl
theorem mQ:BD "wishes_over" (ah 13) be:=λ_ _ _ _ _ _ us h=>by
 obtain⟨x0,x1,x2,rfl⟩:=FL h;rfl
theorem j9:BD "longer_wishes" (ah 14) aQ:=λ_ _ _ _ _ _ us h=>by
 obtain⟨x0,x1,rfl⟩:=vH h;rfl
theorem qi:BD "_law_flow" (ah 16) bM:=λ_ _ _ _ _ _ us h=>by
 obtain⟨x0,rfl⟩:=xv h;rfl
theorem qj:BD "_law_pick" (ah 17) bN:=λ_ _ _ _ _ _ us h=>by
 obtain⟨x0,x1,rfl⟩:=vH h;rfl
theorem kX:BD "_law_letters" (ah 18) aV:=λ_ _ _ _ _ _ us h=>by
 obtain⟨x0,x1,rfl⟩:=vH h;rfl
theorem qk:BD "_law_name" (ah 19) bO:=λ_ _ _ _ _ _ us h=>by
 obtain⟨x0,x1,rfl⟩:=vH h;rfl
theorem nJ:BD "_law_names" (ah 20) bz:=λ_ _ _ _ _ _ us h=>by
 obtain⟨x0,x1,rfl⟩:=vH h;rfl
theorem kY:BD "_law_between" (ah 21) aW:=λ_ _ _ _ _ _ us h=>by
 obtain⟨x0,x1,x2,x3,rfl⟩:=FM h;rfl
theorem ql:BD "_law_part" (ah 22) bP:=λ_ _ _ _ _ _ us h=>by
 obtain⟨x0,x1,x2,rfl⟩:=FL h;rfl
theorem nK:BD "_law_turns" (ah 23) bA:=λ_ _ _ _ _ _ us h=>by
 obtain rfl:=JI h;rfl
theorem mR:BD "_law_figure" (ah 24) bg:=λ_ _ _ _ _ _ us h=>by
 obtain⟨x0,x1,rfl⟩:=vH h;rfl
theorem sE:BD "_law_bad" (ah 25) b6:=λ_ _ _ _ _ _ us h=>by
 obtain⟨x0,rfl⟩:=xv h;rfl
theorem nL:BD "_law_backs" (ah 26) bB:=λ_ _ _ _ _ _ us h=>by
 obtain⟨x0,x1,rfl⟩:=vH h;rfl
theorem kZ:BD "_law_rule_of" (ah 27) aX:=λ_ _ _ _ _ _ us h=>by
 obtain⟨x0,x1,x2,x3,rfl⟩:=FM h;rfl
theorem iK:BD "_law_free_three" (ah 28) aF:=λ_ _ _ _ _ _ us h=>by
 obtain⟨x0,x1,x2,rfl⟩:=FL h;rfl
theorem nM:BD "_law_sizes" (ah 29) bC:=λ_ _ _ _ _ _ us h=>by
 obtain⟨x0,rfl⟩:=xv h;rfl
theorem ke:BD "_law_any_rule" (ah 30) aR:=λ_ _ _ _ _ _ us h=>by
 obtain⟨x0,rfl⟩:=xv h;rfl
theorem ic:BD "_law_laying_kind" (ah 31) ay:=λ_ _ _ _ _ _ us h=>by
 obtain⟨x0,rfl⟩:=xv h;rfl
theorem mS:BD "_law_breaks" (ah 32) bh:=λ_ _ _ _ _ _ us h=>by
 obtain⟨x0,x1,x2,x3,x4,rfl⟩:=JJ h;rfl
theorem kg:BD "_law_numbered" (ah 33) aS:=λ_ _ _ _ _ _ us h=>by
 obtain⟨x0,x1,x2,rfl⟩:=FL h;rfl
theorem ie:BD "_law_laying_rule" (ah 34) az:=λ_ _ _ _ _ _ us h=>by
 obtain⟨x0,rfl⟩:=xv h;rfl
theorem mT:BD "_law_rising" (ah 35) bj:=λ_ _ _ _ _ _ us h=>by
 obtain⟨x0,rfl⟩:=xv h;rfl
theorem jo:BD "_law_free_rule" (ah 36) aJ:=λ_ _ _ _ _ _ us h=>by
 obtain⟨x0,rfl⟩:=xv h;rfl
theorem gM:BD "_law_one_way_rule" (ah 37) ar:=λ_ _ _ _ _ _ us h=>by
 obtain⟨x0,rfl⟩:=xv h;rfl
theorem jp:BD "_law_any_world" (ah 38) aK:=λ_ _ _ _ _ _ us h=>by
 obtain⟨x0,x1,x2,rfl⟩:=FL h;rfl
theorem kh:BD "_law_new_ways" (ah 39) aT:=λ_ _ _ _ _ _ us h=>by
 obtain⟨x0,x1,x2,x3,x4,x5,rfl⟩:=JK h;rfl
theorem nN:BD "_law_world" (ah 40) bD:=λ_ _ _ _ _ _ us h=>by
 obtain⟨x0,x1,x2,x3,rfl⟩:=FM h;rfl
theorem mU:BD "_law_digits" (ah 41) bm:=λ_ _ _ _ _ _ us h=>by
 obtain⟨x0,x1,rfl⟩:=vH h;rfl
theorem mV:BD "_law_worlds" (ah 42) bn:=λ_ _ _ _ _ _ us h=>by
 obtain⟨x0,x1,rfl⟩:=vH h;rfl
theorem la:BD "_law_figures" (ah 43) aY:=λ_ _ _ _ _ _ us h=>by
 obtain⟨x0,rfl⟩:=xv h;rfl
theorem jq:BD "_law_full_rule" (ah 44) aL:=λ_ _ _ _ _ _ us h=>by
 obtain⟨x0,rfl⟩:=xv h;rfl
theorem Fx:BD "law" (ah 45) iu:=λ_ _ _ _ _ _ us h=>by
 obtain⟨x0,rfl⟩:=xv h;rfl
section
variable{P:Kx}{w:KO}{K:J2}{mg:Kd->JU JP}{base:KW}
noncomputable def al (K:J2)(mg:Kd->JU JP)(x:Kd)(st:MC)(df:Df):Prop:=∃(f:JX) (fd:Mp),Fun K x x st f fd/\mg x=ba (.ref f)/\LC K (.ref f)=true/\Binds K fd df.ps []
theorem AN {h:KW}{x:Kd}{st:MC}{df:Df}{f:JX}{oc:JP}{od an:JU JX}{osl:Ku (JU JP)}{kV doc pm cdv ct:JP}(X:K.In h)(G:h.Ns mainGlobals mg)
  (b:BD x st df)
  (a:Lx K mainGlobals x=ba (ba (.ref f))) (l:K.lookup f=ba ⟨oc,od,.func (L4 x x (ee st) (dv st) (ag st) .none kV doc pm an cdv ct),osl⟩) (c:M4 K cdv x=true) (k:LC K (.ref f)=true):al K mg x st df:=
 have F:=ya (st:=st) l c k
 ⟨f,_,F,R3 X G a,k,F.binds b⟩
theorem AO {fuel:JW}(hb:MdOk w K mg eH)(D:∀x n,CW.lookup x=ba n->∃st df,kE.lookup x=ba df/\df.ps.length=n/\FnScope df.N df.ps (ag st)/\bV eH st df/\al K mg x st df):∀d,Dh P w K mg base eH kE fuel d
 | 0=>λf n h=>by
  obtain⟨st,df,h1,h2,h3,h4,fa,fd,F,m,kp,b⟩:=D f n h;refine⟨fa,fd,df.ps,⟨λvs H Q E z=>?_,λA outer s H args us vs Q E hr he hbd hv z=>?_⟩,m,kp,b⟩
  all_goals
   obtain⟨_,_,_,_,_,_,_,_,z,_⟩:=z;cases z
 | d+1=>λf n h=>by
  obtain⟨st,df,h1,h2,h3,h4,fa,fd,F,m,kp,b⟩:=D f n h;refine⟨fa,fd,df.ps,?_,m,kp,b⟩;rw[<- h2];exact Di F h3 h1 h4 hb (AO hb D d)
theorem Hx (D1:al K mg "way" (ah 1) ir)(D3:al K mg "part" (ah 3) fH)(D4:al K mg "point_over" (ah 4) bx)(D5:al K mg "longer_orders" (ah 5) aO)(D7:al K mg "barred_threes" (ah 7) aP)(D8:al K mg "three_at" (ah 8) bZ)(D9:al K mg "first_barred" (ah 9) aU)(D10:al K mg "first_three" (ah 10) bc)(D11:al K mg "first_bar" (ah 11) bL)(D12:al K mg "wishes" (ah 12) c8)(D13:al K mg "wishes_over" (ah 13) be)(D14:al K mg "longer_wishes" (ah 14) aQ)(D16:al K mg "_law_flow" (ah 16) bM)(D17:al K mg "_law_pick" (ah 17) bN)(D18:al K mg "_law_letters" (ah 18) aV)(D19:al K mg "_law_name" (ah 19) bO)(D20:al K mg "_law_names" (ah 20) bz)(D21:al K mg "_law_between" (ah 21) aW)(D22:al K mg "_law_part" (ah 22) bP)(D23:al K mg "_law_turns" (ah 23) bA)(D24:al K mg "_law_figure" (ah 24) bg)(D25:al K mg "_law_bad" (ah 25) b6)(D26:al K mg "_law_backs" (ah 26) bB)(D27:al K mg "_law_rule_of" (ah 27) aX)(D28:al K mg "_law_free_three" (ah 28) aF)(D29:al K mg "_law_sizes" (ah 29) bC)(D30:al K mg "_law_any_rule" (ah 30) aR)(D31:al K mg "_law_laying_kind" (ah 31) ay)(D32:al K mg "_law_breaks" (ah 32) bh)(D33:al K mg "_law_numbered" (ah 33) aS)(D34:al K mg "_law_laying_rule" (ah 34) az)(D35:al K mg "_law_rising" (ah 35) bj)(D36:al K mg "_law_free_rule" (ah 36) aJ)(D37:al K mg "_law_one_way_rule" (ah 37) ar)(D38:al K mg "_law_any_world" (ah 38) aK)(D39:al K mg "_law_new_ways" (ah 39) aT)(D40:al K mg "_law_world" (ah 40) bD)(D41:al K mg "_law_digits" (ah 41) bm)(D42:al K mg "_law_worlds" (ah 42) bn)(D43:al K mg "_law_figures" (ah 43) aY)(D44:al K mg "_law_full_rule" (ah 44) aL)(D45:al K mg "law" (ah 45) iu):∀x n,CW.lookup x=ba n->∃st df,kE.lookup x=ba df/\df.ps.length=n/\FnScope df.N df.ps (ag st)/\bV eH st df/\al K mg x st df:=by
 intro x n h;unfold CW at h;rcases ak h with⟨rfl,rfl⟩|h
 ·exact⟨ah 1,ir,by rfl,rfl,Fv,Fu,D1⟩
 rcases ak h with⟨rfl,rfl⟩|h
 ·exact⟨ah 3,fH,by rfl,rfl,CZ,CY,D3⟩
 rcases ak h with⟨rfl,rfl⟩|h
 ·exact⟨ah 4,bx,by rfl,rfl,nw,nv,D4⟩
 rcases ak h with⟨rfl,rfl⟩|h
 ·exact⟨ah 5,aO,by rfl,rfl,jT,jS,D5⟩
 rcases ak h with⟨rfl,rfl⟩|h
 ·exact⟨ah 7,aP,by rfl,rfl,jV,jU,D7⟩
 rcases ak h with⟨rfl,rfl⟩|h
 ·exact⟨ah 8,bZ,by rfl,rfl,sA,sy,D8⟩
 rcases ak h with⟨rfl,rfl⟩|h
 ·exact⟨ah 9,aU,by rfl,rfl,kL,kK,D9⟩
 rcases ak h with⟨rfl,rfl⟩|h
 ·exact⟨ah 10,bc,by rfl,rfl,mC,mB,D10⟩
 rcases ak h with⟨rfl,rfl⟩|h
 ·exact⟨ah 11,bL,by rfl,rfl,p7,p4,D11⟩
 rcases ak h with⟨rfl,rfl⟩|h
 ·exact⟨ah 12,c8,by rfl,rfl,xu,xt,D12⟩
 rcases ak h with⟨rfl,rfl⟩|h
 ·exact⟨ah 13,be,by rfl,rfl,mE,mD,D13⟩
 rcases ak h with⟨rfl,rfl⟩|h
 ·exact⟨ah 14,aQ,by rfl,rfl,jX,jW,D14⟩
 rcases ak h with⟨rfl,rfl⟩|h
 ·exact⟨ah 16,bM,by rfl,rfl,p9,p8,D16⟩
 rcases ak h with⟨rfl,rfl⟩|h
 ·exact⟨ah 17,bN,by rfl,rfl,qb,qa,D17⟩
 rcases ak h with⟨rfl,rfl⟩|h
 ·exact⟨ah 18,aV,by rfl,rfl,kN,kM,D18⟩
 rcases ak h with⟨rfl,rfl⟩|h
 ·exact⟨ah 19,bO,by rfl,rfl,qd,qc,D19⟩
 rcases ak h with⟨rfl,rfl⟩|h
 ·exact⟨ah 20,bz,by rfl,rfl,nz,ny,D20⟩
 rcases ak h with⟨rfl,rfl⟩|h
 ·exact⟨ah 21,aW,by rfl,rfl,kP,kO,D21⟩
 rcases ak h with⟨rfl,rfl⟩|h
 ·exact⟨ah 22,bP,by rfl,rfl,qg,qf,D22⟩
 rcases ak h with⟨rfl,rfl⟩|h
 ·exact⟨ah 23,bA,by rfl,rfl,nB,nA,D23⟩
 rcases ak h with⟨rfl,rfl⟩|h
 ·exact⟨ah 24,bg,by rfl,rfl,mG,mF,D24⟩
 rcases ak h with⟨rfl,rfl⟩|h
 ·exact⟨ah 25,b6,by rfl,rfl,sC,sB,D25⟩
 rcases ak h with⟨rfl,rfl⟩|h
 ·exact⟨ah 26,bB,by rfl,rfl,nD,nC,D26⟩
 rcases ak h with⟨rfl,rfl⟩|h
 ·exact⟨ah 27,aX,by rfl,rfl,kR,kQ,D27⟩
 rcases ak h with⟨rfl,rfl⟩|h
 ·exact⟨ah 28,aF,by rfl,rfl,iJ,iI,D28⟩
 rcases ak h with⟨rfl,rfl⟩|h
 ·exact⟨ah 29,bC,by rfl,rfl,nF,nE,D29⟩
 rcases ak h with⟨rfl,rfl⟩|h
 ·exact⟨ah 30,aR,by rfl,rfl,jZ,jY,D30⟩
 rcases ak h with⟨rfl,rfl⟩|h
 ·exact⟨ah 31,ay,by rfl,rfl,hW,hG,D31⟩
 rcases ak h with⟨rfl,rfl⟩|h
 ·exact⟨ah 32,bh,by rfl,rfl,mI,mH,D32⟩
 rcases ak h with⟨rfl,rfl⟩|h
 ·exact⟨ah 33,aS,by rfl,rfl,j4,j3,D33⟩
 rcases ak h with⟨rfl,rfl⟩|h
 ·exact⟨ah 34,az,by rfl,rfl,ib,hZ,D34⟩
 rcases ak h with⟨rfl,rfl⟩|h
 ·exact⟨ah 35,bj,by rfl,rfl,mK,mJ,D35⟩
 rcases ak h with⟨rfl,rfl⟩|h
 ·exact⟨ah 36,aJ,by rfl,rfl,jj,ji,D36⟩
 rcases ak h with⟨rfl,rfl⟩|h
 ·exact⟨ah 37,ar,by rfl,rfl,gL,gK,D37⟩
 rcases ak h with⟨rfl,rfl⟩|h
 ·exact⟨ah 38,aK,by rfl,rfl,jl,jk,D38⟩
 rcases ak h with⟨rfl,rfl⟩|h
 ·exact⟨ah 39,aT,by rfl,rfl,j6,j5,D39⟩
 rcases ak h with⟨rfl,rfl⟩|h
 ·exact⟨ah 40,bD,by rfl,rfl,nH,nG,D40⟩
 rcases ak h with⟨rfl,rfl⟩|h
 ·exact⟨ah 41,bm,by rfl,rfl,mM,mL,D41⟩
 rcases ak h with⟨rfl,rfl⟩|h
 ·exact⟨ah 42,bn,by rfl,rfl,mO,mN,D42⟩
 rcases ak h with⟨rfl,rfl⟩|h
 ·exact⟨ah 43,aY,by rfl,rfl,kU,kS,D43⟩
 rcases ak h with⟨rfl,rfl⟩|h
 ·exact⟨ah 44,aL,by rfl,rfl,jn,jm,D44⟩
 rcases ak h with⟨rfl,rfl⟩|h
 ·exact⟨ah 45,iu,by rfl,rfl,AM,AL,D45⟩
 cases h
theorem Hy {h:KW}(X:K.In h)(G:h.Ns mainGlobals mg)(z0:Lx K mainGlobals "range" = ba gV)(z1:Lx K mainGlobals "len" = ba gV)(z2:Lx K mainGlobals "list" = ba gV)(z3:Lx K mainGlobals "tuple" = ba gV)(z4:Lx K mainGlobals "int" = ba gV)(z5:Lx K mainGlobals "set" = ba gV)(z6:Lx K mainGlobals "sorted" = ba gV)(z7:Lx K mainGlobals "isinstance" = ba gV)(z8:Lx K mainGlobals "bool" = ba gV)(z9:Lx K mainGlobals "str" = ba gV)(z10:Lx K mainGlobals "all" = ba gV)(z11:Lx K mainGlobals "min" = ba gV)(z12:Lx K mainGlobals "enumerate" = ba gV):MdOk w K mg eH:=by
 refine⟨?_⟩;show ∀y∈Ft,mg y=gV;intro y hy;unfold Ft at hy;simp only[Kv,Lc,MA]at hy;rcases hy with rfl|rfl|rfl|rfl|rfl|rfl|rfl|rfl|rfl|rfl|rfl|rfl|rfl
 ·exact Lf X G z0
 ·exact Lf X G z1
 ·exact Lf X G z2
 ·exact Lf X G z3
 ·exact Lf X G z4
 ·exact Lf X G z5
 ·exact Lf X G z6
 ·exact Lf X G z7
 ·exact Lf X G z8
 ·exact Lf X G z9
 ·exact Lf X G z10
 ·exact Lf X G z11
 ·exact Lf X G z12
end
theorem Fy {l:Pd}{w:KO}{K:J2}{h:KW}{mg:Kd->JU JP}{fa f:JX}(X:K.In h)(G:h.Ns mainGlobals mg)(hfa:mg "law" = ba (.ref fa))(hb:MdOk w K mg eH)
  (D1:al K mg "way" (ah 1) ir) (D3:al K mg "part" (ah 3) fH) (D4:al K mg "point_over" (ah 4) bx) (D5:al K mg "longer_orders" (ah 5) aO) (D7:al K mg "barred_threes" (ah 7) aP) (D8:al K mg "three_at" (ah 8) bZ) (D9:al K mg "first_barred" (ah 9) aU) (D10:al K mg "first_three" (ah 10) bc) (D11:al K mg "first_bar" (ah 11) bL) (D12:al K mg "wishes" (ah 12) c8) (D13:al K mg "wishes_over" (ah 13) be) (D14:al K mg "longer_wishes" (ah 14) aQ) (D16:al K mg "_law_flow" (ah 16) bM) (D17:al K mg "_law_pick" (ah 17) bN) (D18:al K mg "_law_letters" (ah 18) aV) (D19:al K mg "_law_name" (ah 19) bO) (D20:al K mg "_law_names" (ah 20) bz) (D21:al K mg "_law_between" (ah 21) aW) (D22:al K mg "_law_part" (ah 22) bP) (D23:al K mg "_law_turns" (ah 23) bA) (D24:al K mg "_law_figure" (ah 24) bg) (D25:al K mg "_law_bad" (ah 25) b6) (D26:al K mg "_law_backs" (ah 26) bB) (D27:al K mg "_law_rule_of" (ah 27) aX) (D28:al K mg "_law_free_three" (ah 28) aF) (D29:al K mg "_law_sizes" (ah 29) bC) (D30:al K mg "_law_any_rule" (ah 30) aR) (D31:al K mg "_law_laying_kind" (ah 31) ay) (D32:al K mg "_law_breaks" (ah 32) bh) (D33:al K mg "_law_numbered" (ah 33) aS) (D34:al K mg "_law_laying_rule" (ah 34) az) (D35:al K mg "_law_rising" (ah 35) bj) (D36:al K mg "_law_free_rule" (ah 36) aJ) (D37:al K mg "_law_one_way_rule" (ah 37) ar) (D38:al K mg "_law_any_world" (ah 38) aK) (D39:al K mg "_law_new_ways" (ah 39) aT) (D40:al K mg "_law_world" (ah 40) bD) (D41:al K mg "_law_digits" (ah 41) bm) (D42:al K mg "_law_worlds" (ah 42) bn) (D43:al K mg "_law_figures" (ah 43) aY) (D44:al K mg "_law_full_rule" (ah 44) aL)
  {oc:JP} {od an:JU JX} {osl:Ku (JU JP)} {kV doc pm cdv ct:JP} (a:Lx K mainGlobals "law" = ba (ba (.ref f))) (l':K.lookup f=ba ⟨oc,od,.func (L4 "law" "law" (ee (ah 45)) (dv (ah 45)) (ag (ah 45)) .none kV doc pm an cdv ct),osl⟩) (c:M4 K cdv "law" = true) (k:LC K (.ref f)=true) :
  ∃fd:Mp,(∀(s:JS) (v:JP),Qp s fd ⟨[v],[]⟩ [("_law_script",v)])/\∀base:KW,K.In base->base.Ns mainGlobals mg->FnOk l.prog w K mg base xy 9 fa fd ["_law_script"] (y9 w K 1 (aq kE 100 9 "law")):=by
 have e:=hfa.symm.trans (R3 X G a);cases e;have D45:al K mg "law" (ah 45) iu:=AN X G Fx a l' c k;have F:=ya (st:=ah 45) l' c k;exact⟨L4 "law" "law" (ee (ah 45)) (dv (ah 45)) (ag (ah 45)) .none kV doc pm an cdv ct,λs v=>.of_eq rfl,λbase _ _=>Di (df:=iu) F AM (by rfl) AL hb (AO hb (Hx D1 D3 D4 D5 D7 D8 D9 D10 D11 D12 D13 D14 D16 D17 D18 D19 D20 D21 D22 D23 D24 D25 D26 D27 D28 D29 D30 D31 D32 D33 D34 D35 D36 D37 D38 D39 D40 D41 D42 D43 D44 D45) 8)⟩
theorem Jp {l:Pd}{q:Kx}{loose:JM Kd}{XP:(Kd->JU JP)->KW->Prop}{YP:KO->KW->Prop}{d:DefRec}{K:Rv->J2}(hn:l.most=ba 63)(hdf:d.params.defaults=[])
  (hY:∀(w:KO) (h:KW),YP w h->(K w.params).In h)
  (F:∀(w:KO) (mg:Kd->JU JP) (fa:JX) (h:KW),(K w.params).In h->h.Ns mainGlobals mg->mg d.name=ba (.ref fa)->
   ∃fd:Mp,(∀(s:JS) (u:JP),Qp s fd ⟨[u],[]⟩ [("_law_script",u)])/\∀base:KW,(K w.params).In base->base.Ns mainGlobals mg->FnOk l.prog w (K w.params) mg base xy 9 fa fd ["_law_script"] (y9 w (K w.params) 1 (aq kE 100 9 "law"))) :
  RQ q loose XP YP l.row.toRowW d [] (λf vs=>Rw f vs):=
 L2.Br (n:=63) (k:=9) (x:="_law_script") (CX:=λ_=>xy) (sp:=λw=>y9 w (K w.params) 1 (aq kE 100 9 "law")) hn (by decide) hdf ⟨rfl,by decide,by decide⟩ hY F
  (λw H a ns hl hO hS=>ET (AK (defs:=kE) (fuel:=100) (d:=0) (by decide) Hw) hO hS) λ_ _ _ _ _ z=>z
end Mi
open PySem PySem.W PyProof.Rows L2
set_option maxHeartbeats 0
namespace Mi
section
noncomputable def pw:Kx:=Oe
noncomputable def ge (P:Rv)(n:Kd)(t:JW)(v:JP):Mg:=⟨PyData.keyHash P n,.str n t,v⟩
noncomputable def kd (a:JW)(es:JM Mg)(n:JW):JX×LF:=(a,⟨.type "dict",gV,.dict es.toArray n,#[]⟩)
noncomputable def kt (a:JW)(c:JP)(vs:JM JP)(n:JW):JX×LF:=(a,⟨c,gV,.seq vs.toArray n,#[]⟩)
noncomputable def kc (a:JW)(vs:JM JP):JX×LF:=(a,⟨.type "code",gV,.fields vs.toArray,#[]⟩)
noncomputable def kf (a:JW)(st:MC)(n:Kd)(pm cd:JP):JX×LF:=(a,⟨.type "function",gV,.func (L4 n n (ee st) (dv st) (ag st) .none .none .none pm gV cd .none),#[]⟩)
noncomputable def K0 (P:Rv):J2:=[kd 3 [ge P "__name__" 165 (.str "law_layworld_k16_whole_point_by_point" 293),ge P "__doc__" 166 .none,ge P "__package__" 167 .none,ge P "__loader__" 168 (.builtin "__main__.__loader__#opaque"),ge P "__spec__" 169 .none,ge P "__annotations__" 170 (.ref 6),ge P "__builtins__" 171 (.ref 4),ge P "__file__" 173 (.str "/claim/cut.py" 172),ge P "__cached__" 174 .none,ge P "way" 198 (.ref 21),ge P "part" 206 (.ref 26),ge P "point_over" 212 (.ref 31),ge P "longer_orders" 218 (.ref 36),ge P "barred_threes" 231 (.ref 43),ge P "three_at" 243 (.ref 50),ge P "first_barred" 251 (.ref 57),ge P "first_three" 262 (.ref 64),ge P "first_bar" 272 (.ref 71),ge P "wishes" 280 (.ref 78),ge P "wishes_over" 286 (.ref 83),ge P "longer_wishes" 292 (.ref 88),ge P "_law_flow" 301 (.ref 95),ge P "_law_pick" 311 (.ref 102),ge P "_law_letters" 317 (.ref 107),ge P "_law_name" 326 (.ref 114),ge P "_law_names" 339 (.ref 121),ge P "_law_between" 349 (.ref 128),ge P "_law_part" 355 (.ref 133),ge P "_law_turns" 361 (.ref 140),ge P "_law_figure" 367 (.ref 145),ge P "_law_bad" 377 (.ref 152),ge P "_law_backs" 386 (.ref 159),ge P "_law_rule_of" 392 (.ref 164),ge P "_law_free_three" 398 (.ref 169),ge P "_law_sizes" 406 (.ref 176),ge P "_law_any_rule" 418 (.ref 183),ge P "_law_laying_kind" 426 (.ref 190),ge P "_law_breaks" 442 (.ref 197),ge P "_law_numbered" 448 (.ref 202),ge P "_law_laying_rule" 469 (.ref 209),ge P "_law_rising" 475 (.ref 214),ge P "_law_free_rule" 481 (.ref 219),ge P "_law_one_way_rule" 487 (.ref 224),ge P "_law_any_world" 493 (.ref 229),ge P "_law_new_ways" 510 (.ref 236),ge P "_law_world" 524 (.ref 243),ge P "_law_digits" 530 (.ref 248),ge P "_law_worlds" 536 (.ref 253),ge P "_law_figures" 542 (.ref 258),ge P "_law_full_rule" 548 (.ref 263),ge P "law" 562 (.ref 270)] 51,
 kc 20 [(.str "way" 189),(.str "way" 190),(.str "/claim/cut.py" 191),(.int 2 0),(.int 4 0),(.int 0 0),(.int 0 0),(.int 3 0),(.ref 15),(.bool true),(.int 181 0),(.ref 16),.none,(.ref 17),(.ref 18),(.ref 19),(.int 196 0),(.int 2 0),(.str "/claim/cut.py" 197)],
 kf 21 (ah 1) "way" (.str "layworld.worlds" 187) (.ref 20),
 kc 25 [(.str "part" 201),(.str "part" 202),(.str "/claim/cut.py" 203),(.int 7 0),(.int 3 0),(.int 0 0),(.int 0 0),(.int 3 0),(.ref 22),(.bool true),(.int 181 0),(.ref 23),.none,.none,.none,(.ref 24),(.int 204 0),(.int 7 0),(.str "/claim/cut.py" 205)],
 kf 26 (ah 3) "part" (.str "layworld.parts" 199) (.ref 25),
 kc 30 [(.str "point_over" 207),(.str "point_over" 208),(.str "/claim/cut.py" 209),(.int 9 0),(.int 4 0),(.int 0 0),(.int 0 0),(.int 3 0),(.ref 27),(.bool true),(.int 181 0),(.ref 28),.none,.none,.none,(.ref 29),(.int 210 0),(.int 9 0),(.str "/claim/cut.py" 211)],
 kf 31 (ah 4) "point_over" (.str "layworld.parts" 199) (.ref 30),
 kc 35 [(.str "longer_orders" 213),(.str "longer_orders" 214),(.str "/claim/cut.py" 215),(.int 11 0),(.int 2 0),(.int 0 0),(.int 0 0),(.int 3 0),(.ref 32),(.bool true),(.int 181 0),(.ref 33),.none,.none,.none,(.ref 34),(.int 216 0),(.int 11 0),(.str "/claim/cut.py" 217)],
 kf 36 (ah 5) "longer_orders" (.str "layworld.parts" 199) (.ref 35),
 kc 42 [(.str "barred_threes" 221),(.str "barred_threes" 222),(.str "/claim/cut.py" 223),(.int 17 0),(.int 1 0),(.int 0 0),(.int 0 0),(.int 3 0),(.ref 37),(.bool true),(.int 181 0),(.ref 38),.none,(.ref 39),(.ref 40),(.ref 41),(.int 229 0),(.int 17 0),(.str "/claim/cut.py" 230)],
 kf 43 (ah 7) "barred_threes" (.str "layworld.threes" 219) (.ref 42),
 kc 49 [(.str "three_at" 232),(.str "three_at" 233),(.str "/claim/cut.py" 234),(.int 26 0),(.int 4 0),(.int 0 0),(.int 0 0),(.int 3 0),(.ref 44),(.bool true),(.int 181 0),(.ref 45),.none,(.ref 46),(.ref 47),(.ref 48),(.int 241 0),(.int 26 0),(.str "/claim/cut.py" 242)],
 kf 50 (ah 8) "three_at" (.str "layworld.threes" 219) (.ref 49),
 kc 56 [(.str "first_barred" 244),(.str "first_barred" 245),(.str "/claim/cut.py" 246),(.int 30 0),(.int 2 0),(.int 0 0),(.int 0 0),(.int 3 0),(.ref 51),(.bool true),(.int 181 0),(.ref 52),.none,(.ref 53),(.ref 54),(.ref 55),(.int 249 0),(.int 30 0),(.str "/claim/cut.py" 250)],
 kf 57 (ah 9) "first_barred" (.str "layworld.threes" 219) (.ref 56),
 kc 63 [(.str "first_three" 252),(.str "first_three" 253),(.str "/claim/cut.py" 254),(.int 32 0),(.int 2 0),(.int 0 0),(.int 0 0),(.int 3 0),(.ref 58),(.bool true),(.int 181 0),(.ref 59),.none,(.ref 60),(.ref 61),(.ref 62),(.int 260 0),(.int 32 0),(.str "/claim/cut.py" 261)],
 kf 64 (ah 10) "first_three" (.str "layworld.threes" 219) (.ref 63),
 kc 70 [(.str "first_bar" 263),(.str "first_bar" 264),(.str "/claim/cut.py" 265),(.int 39 0),(.int 2 0),(.int 0 0),(.int 0 0),(.int 3 0),(.ref 65),(.bool true),(.int 181 0),(.ref 66),.none,(.ref 67),(.ref 68),(.ref 69),(.int 270 0),(.int 39 0),(.str "/claim/cut.py" 271)],
 kf 71 (ah 11) "first_bar" (.str "layworld.threes" 219) (.ref 70),
 kc 77 [(.str "wishes" 273),(.str "wishes" 274),(.str "/claim/cut.py" 275),(.int 45 0),(.int 2 0),(.int 0 0),(.int 0 0),(.int 3 0),(.ref 72),(.bool true),(.int 181 0),(.ref 73),.none,(.ref 74),(.ref 75),(.ref 76),(.int 278 0),(.int 45 0),(.str "/claim/cut.py" 279)],
 kf 78 (ah 12) "wishes" (.str "layworld.threes" 219) (.ref 77),
 kc 82 [(.str "wishes_over" 281),(.str "wishes_over" 282),(.str "/claim/cut.py" 283),(.int 47 0),(.int 3 0),(.int 0 0),(.int 0 0),(.int 3 0),(.ref 79),(.bool true),(.int 181 0),(.ref 80),.none,.none,.none,(.ref 81),(.int 284 0),(.int 47 0),(.str "/claim/cut.py" 285)],
 kf 83 (ah 13) "wishes_over" (.str "layworld.threes" 219) (.ref 82),
 kc 87 [(.str "longer_wishes" 287),(.str "longer_wishes" 288),(.str "/claim/cut.py" 289),(.int 55 0),(.int 2 0),(.int 0 0),(.int 0 0),(.int 3 0),(.ref 84),(.bool true),(.int 181 0),(.ref 85),.none,.none,.none,(.ref 86),(.int 290 0),(.int 55 0),(.str "/claim/cut.py" 291)],
 kf 88 (ah 14) "longer_wishes" (.str "layworld.threes" 219) (.ref 87),
 kc 94 [(.str "_law_flow" 295),(.str "_law_flow" 296),(.str "/claim/cut.py" 297),(.int 61 0),(.int 1 0),(.int 0 0),(.int 0 0),(.int 3 0),(.ref 89),(.bool true),(.int 181 0),(.ref 90),.none,(.ref 91),(.ref 92),(.ref 93),(.int 299 0),(.int 61 0),(.str "/claim/cut.py" 300)],
 kf 95 (ah 16) "_law_flow" (.str "law_layworld_k16_whole_point_by_point" 293) (.ref 94),
 kc 101 [(.str "_law_pick" 302),(.str "_law_pick" 303),(.str "/claim/cut.py" 304),(.int 63 0),(.int 2 0),(.int 0 0),(.int 0 0),(.int 3 0),(.ref 96),(.bool true),(.int 181 0),(.ref 97),.none,(.ref 98),(.ref 99),(.ref 100),(.int 309 0),(.int 63 0),(.str "/claim/cut.py" 310)],
 kf 102 (ah 17) "_law_pick" (.str "law_layworld_k16_whole_point_by_point" 293) (.ref 101),
 kc 106 [(.str "_law_letters" 312),(.str "_law_letters" 313),(.str "/claim/cut.py" 314),(.int 78 0),(.int 2 0),(.int 0 0),(.int 0 0),(.int 3 0),(.ref 103),(.bool true),(.int 181 0),(.ref 104),.none,.none,.none,(.ref 105),(.int 315 0),(.int 78 0),(.str "/claim/cut.py" 316)],
 kf 107 (ah 18) "_law_letters" (.str "law_layworld_k16_whole_point_by_point" 293) (.ref 106),
 kc 113 [(.str "_law_name" 318),(.str "_law_name" 319),(.str "/claim/cut.py" 320),(.int 80 0),(.int 2 0),(.int 0 0),(.int 0 0),(.int 3 0),(.ref 108),(.bool true),(.int 181 0),(.ref 109),.none,(.ref 110),(.ref 111),(.ref 112),(.int 324 0),(.int 80 0),(.str "/claim/cut.py" 325)],
 kf 114 (ah 19) "_law_name" (.str "law_layworld_k16_whole_point_by_point" 293) (.ref 113),
 kc 120 [(.str "_law_names" 327),(.str "_law_names" 328),(.str "/claim/cut.py" 329),(.int 88 0),(.int 2 0),(.int 0 0),(.int 0 0),(.int 3 0),(.ref 115),(.bool true),(.int 181 0),(.ref 116),.none,(.ref 117),(.ref 118),(.ref 119),(.int 337 0),(.int 88 0),(.str "/claim/cut.py" 338)],
 kf 121 (ah 20) "_law_names" (.str "law_layworld_k16_whole_point_by_point" 293) (.ref 120),
 kc 127 [(.str "_law_between" 340),(.str "_law_between" 341),(.str "/claim/cut.py" 342),(.int 101 0),(.int 4 0),(.int 0 0),(.int 0 0),(.int 3 0),(.ref 122),(.bool true),(.int 181 0),(.ref 123),.none,(.ref 124),(.ref 125),(.ref 126),(.int 347 0),(.int 101 0),(.str "/claim/cut.py" 348)],
 kf 128 (ah 21) "_law_between" (.str "law_layworld_k16_whole_point_by_point" 293) (.ref 127),
 kc 132 [(.str "_law_part" 350),(.str "_law_part" 351),(.str "/claim/cut.py" 352),(.int 105 0),(.int 3 0),(.int 0 0),(.int 0 0),(.int 3 0),(.ref 129),(.bool true),(.int 181 0),(.ref 130),.none,.none,.none,(.ref 131),(.int 353 0),(.int 105 0),(.str "/claim/cut.py" 354)],
 kf 133 (ah 22) "_law_part" (.str "law_layworld_k16_whole_point_by_point" 293) (.ref 132),
 kc 139 [(.str "_law_turns" 356),(.str "_law_turns" 357),(.str "/claim/cut.py" 358),(.int 111 0),(.int 0 0),(.int 0 0),(.int 0 0),(.int 3 0),(.ref 134),(.bool true),(.int 181 0),(.ref 135),.none,(.ref 136),(.ref 137),(.ref 138),(.int 359 0),(.int 111 0),(.str "/claim/cut.py" 360)],
 kf 140 (ah 23) "_law_turns" (.str "law_layworld_k16_whole_point_by_point" 293) (.ref 139),
 kc 144 [(.str "_law_figure" 362),(.str "_law_figure" 363),(.str "/claim/cut.py" 364),(.int 113 0),(.int 2 0),(.int 0 0),(.int 0 0),(.int 3 0),(.ref 141),(.bool true),(.int 181 0),(.ref 142),.none,.none,.none,(.ref 143),(.int 365 0),(.int 113 0),(.str "/claim/cut.py" 366)],
 kf 145 (ah 24) "_law_figure" (.str "law_layworld_k16_whole_point_by_point" 293) (.ref 144),
 kc 151 [(.str "_law_bad" 368),(.str "_law_bad" 369),(.str "/claim/cut.py" 370),(.int 115 0),(.int 1 0),(.int 0 0),(.int 0 0),(.int 3 0),(.ref 146),(.bool true),(.int 181 0),(.ref 147),.none,(.ref 148),(.ref 149),(.ref 150),(.int 375 0),(.int 115 0),(.str "/claim/cut.py" 376)],
 kf 152 (ah 25) "_law_bad" (.str "law_layworld_k16_whole_point_by_point" 293) (.ref 151),
 kc 158 [(.str "_law_backs" 378),(.str "_law_backs" 379),(.str "/claim/cut.py" 380),(.int 121 0),(.int 2 0),(.int 0 0),(.int 0 0),(.int 3 0),(.ref 153),(.bool true),(.int 181 0),(.ref 154),.none,(.ref 155),(.ref 156),(.ref 157),(.int 384 0),(.int 121 0),(.str "/claim/cut.py" 385)],
 kf 159 (ah 26) "_law_backs" (.str "law_layworld_k16_whole_point_by_point" 293) (.ref 158),
 kc 163 [(.str "_law_rule_of" 387),(.str "_law_rule_of" 388),(.str "/claim/cut.py" 389),(.int 124 0),(.int 4 0),(.int 0 0),(.int 0 0),(.int 3 0),(.ref 160),(.bool true),(.int 181 0),(.ref 161),.none,.none,.none,(.ref 162),(.int 390 0),(.int 124 0),(.str "/claim/cut.py" 391)],
 kf 164 (ah 27) "_law_rule_of" (.str "law_layworld_k16_whole_point_by_point" 293) (.ref 163),
 kc 168 [(.str "_law_free_three" 393),(.str "_law_free_three" 394),(.str "/claim/cut.py" 395),(.int 128 0),(.int 3 0),(.int 0 0),(.int 0 0),(.int 3 0),(.ref 165),(.bool true),(.int 181 0),(.ref 166),.none,.none,.none,(.ref 167),(.int 396 0),(.int 128 0),(.str "/claim/cut.py" 397)],
 kf 169 (ah 28) "_law_free_three" (.str "law_layworld_k16_whole_point_by_point" 293) (.ref 168),
 kc 175 [(.str "_law_sizes" 399),(.str "_law_sizes" 400),(.str "/claim/cut.py" 401),(.int 133 0),(.int 1 0),(.int 0 0),(.int 0 0),(.int 3 0),(.ref 170),(.bool true),(.int 181 0),(.ref 171),.none,(.ref 172),(.ref 173),(.ref 174),(.int 404 0),(.int 133 0),(.str "/claim/cut.py" 405)],
 kf 176 (ah 29) "_law_sizes" (.str "law_layworld_k16_whole_point_by_point" 293) (.ref 175),
 kc 182 [(.str "_law_any_rule" 407),(.str "_law_any_rule" 408),(.str "/claim/cut.py" 409),(.int 136 0),(.int 1 0),(.int 0 0),(.int 0 0),(.int 3 0),(.ref 177),(.bool true),(.int 181 0),(.ref 178),.none,(.ref 179),(.ref 180),(.ref 181),(.int 416 0),(.int 136 0),(.str "/claim/cut.py" 417)],
 kf 183 (ah 30) "_law_any_rule" (.str "law_layworld_k16_whole_point_by_point" 293) (.ref 182),
 kc 189 [(.str "_law_laying_kind" 419),(.str "_law_laying_kind" 420),(.str "/claim/cut.py" 421),(.int 143 0),(.int 1 0),(.int 0 0),(.int 0 0),(.int 3 0),(.ref 184),(.bool true),(.int 181 0),(.ref 185),.none,(.ref 186),(.ref 187),(.ref 188),(.int 424 0),(.int 143 0),(.str "/claim/cut.py" 425)],
 kf 190 (ah 31) "_law_laying_kind" (.str "law_layworld_k16_whole_point_by_point" 293) (.ref 189),
 kc 196 [(.str "_law_breaks" 427),(.str "_law_breaks" 428),(.str "/claim/cut.py" 429),(.int 152 0),(.int 5 0),(.int 0 0),(.int 0 0),(.int 3 0),(.ref 191),(.bool true),(.int 181 0),(.ref 192),.none,(.ref 193),(.ref 194),(.ref 195),(.int 440 0),(.int 152 0),(.str "/claim/cut.py" 441)],
 kf 197 (ah 32) "_law_breaks" (.str "law_layworld_k16_whole_point_by_point" 293) (.ref 196),
 kc 201 [(.str "_law_numbered" 443),(.str "_law_numbered" 444),(.str "/claim/cut.py" 445),(.int 160 0),(.int 3 0),(.int 0 0),(.int 0 0),(.int 3 0),(.ref 198),(.bool true),(.int 181 0),(.ref 199),.none,.none,.none,(.ref 200),(.int 446 0),(.int 160 0),(.str "/claim/cut.py" 447)],
 kf 202 (ah 33) "_law_numbered" (.str "law_layworld_k16_whole_point_by_point" 293) (.ref 201),
 kc 208 [(.str "_law_laying_rule" 449),(.str "_law_laying_rule" 450),(.str "/claim/cut.py" 451),(.int 175 0),(.int 1 0),(.int 0 0),(.int 0 0),(.int 3 0),(.ref 203),(.bool true),(.int 181 0),(.ref 204),.none,(.ref 205),(.ref 206),(.ref 207),(.int 467 0),(.int 175 0),(.str "/claim/cut.py" 468)],
 kf 209 (ah 34) "_law_laying_rule" (.str "law_layworld_k16_whole_point_by_point" 293) (.ref 208),
 kc 213 [(.str "_law_rising" 470),(.str "_law_rising" 471),(.str "/claim/cut.py" 472),(.int 195 0),(.int 1 0),(.int 0 0),(.int 0 0),(.int 3 0),(.ref 210),(.bool true),(.int 181 0),(.ref 211),.none,.none,.none,(.ref 212),(.int 473 0),(.int 195 0),(.str "/claim/cut.py" 474)],
 kf 214 (ah 35) "_law_rising" (.str "law_layworld_k16_whole_point_by_point" 293) (.ref 213),
 kc 218 [(.str "_law_free_rule" 476),(.str "_law_free_rule" 477),(.str "/claim/cut.py" 478),(.int 201 0),(.int 1 0),(.int 0 0),(.int 0 0),(.int 3 0),(.ref 215),(.bool true),(.int 181 0),(.ref 216),.none,.none,.none,(.ref 217),(.int 479 0),(.int 201 0),(.str "/claim/cut.py" 480)],
 kf 219 (ah 36) "_law_free_rule" (.str "law_layworld_k16_whole_point_by_point" 293) (.ref 218),
 kc 223 [(.str "_law_one_way_rule" 482),(.str "_law_one_way_rule" 483),(.str "/claim/cut.py" 484),(.int 214 0),(.int 1 0),(.int 0 0),(.int 0 0),(.int 3 0),(.ref 220),(.bool true),(.int 181 0),(.ref 221),.none,.none,.none,(.ref 222),(.int 485 0),(.int 214 0),(.str "/claim/cut.py" 486)],
 kf 224 (ah 37) "_law_one_way_rule" (.str "law_layworld_k16_whole_point_by_point" 293) (.ref 223),
 kc 228 [(.str "_law_any_world" 488),(.str "_law_any_world" 489),(.str "/claim/cut.py" 490),(.int 218 0),(.int 3 0),(.int 0 0),(.int 0 0),(.int 3 0),(.ref 225),(.bool true),(.int 181 0),(.ref 226),.none,.none,.none,(.ref 227),(.int 491 0),(.int 218 0),(.str "/claim/cut.py" 492)],
 kf 229 (ah 38) "_law_any_world" (.str "law_layworld_k16_whole_point_by_point" 293) (.ref 228),
 kc 235 [(.str "_law_new_ways" 494),(.str "_law_new_ways" 495),(.str "/claim/cut.py" 496),(.int 224 0),(.int 6 0),(.int 0 0),(.int 0 0),(.int 3 0),(.ref 230),(.bool true),(.int 181 0),(.ref 231),.none,(.ref 232),(.ref 233),(.ref 234),(.int 508 0),(.int 224 0),(.str "/claim/cut.py" 509)],
 kf 236 (ah 39) "_law_new_ways" (.str "law_layworld_k16_whole_point_by_point" 293) (.ref 235),
 kc 242 [(.str "_law_world" 511),(.str "_law_world" 512),(.str "/claim/cut.py" 513),(.int 237 0),(.int 4 0),(.int 0 0),(.int 0 0),(.int 3 0),(.ref 237),(.bool true),(.int 181 0),(.ref 238),.none,(.ref 239),(.ref 240),(.ref 241),(.int 522 0),(.int 237 0),(.str "/claim/cut.py" 523)],
 kf 243 (ah 40) "_law_world" (.str "law_layworld_k16_whole_point_by_point" 293) (.ref 242),
 kc 247 [(.str "_law_digits" 525),(.str "_law_digits" 526),(.str "/claim/cut.py" 527),(.int 245 0),(.int 2 0),(.int 0 0),(.int 0 0),(.int 3 0),(.ref 244),(.bool true),(.int 181 0),(.ref 245),.none,.none,.none,(.ref 246),(.int 528 0),(.int 245 0),(.str "/claim/cut.py" 529)],
 kf 248 (ah 41) "_law_digits" (.str "law_layworld_k16_whole_point_by_point" 293) (.ref 247),
 kc 252 [(.str "_law_worlds" 531),(.str "_law_worlds" 532),(.str "/claim/cut.py" 533),(.int 250 0),(.int 2 0),(.int 0 0),(.int 0 0),(.int 3 0),(.ref 249),(.bool true),(.int 181 0),(.ref 250),.none,.none,.none,(.ref 251),(.int 534 0),(.int 250 0),(.str "/claim/cut.py" 535)],
 kf 253 (ah 42) "_law_worlds" (.str "law_layworld_k16_whole_point_by_point" 293) (.ref 252),
 kc 257 [(.str "_law_figures" 537),(.str "_law_figures" 538),(.str "/claim/cut.py" 539),(.int 258 0),(.int 1 0),(.int 0 0),(.int 0 0),(.int 3 0),(.ref 254),(.bool true),(.int 181 0),(.ref 255),.none,.none,.none,(.ref 256),(.int 540 0),(.int 258 0),(.str "/claim/cut.py" 541)],
 kf 258 (ah 43) "_law_figures" (.str "law_layworld_k16_whole_point_by_point" 293) (.ref 257),
 kc 262 [(.str "_law_full_rule" 543),(.str "_law_full_rule" 544),(.str "/claim/cut.py" 545),(.int 260 0),(.int 1 0),(.int 0 0),(.int 0 0),(.int 3 0),(.ref 259),(.bool true),(.int 181 0),(.ref 260),.none,.none,.none,(.ref 261),(.int 546 0),(.int 260 0),(.str "/claim/cut.py" 547)],
 kf 263 (ah 44) "_law_full_rule" (.str "law_layworld_k16_whole_point_by_point" 293) (.ref 262),
 kc 269 [(.str "law" 549),(.str "law" 550),(.str "/claim/cut.py" 551),(.int 269 0),(.int 1 0),(.int 0 0),(.int 0 0),(.int 3 0),(.ref 264),(.bool true),(.int 181 0),(.ref 265),.none,(.ref 266),(.ref 267),(.ref 268),(.int 560 0),(.int 269 0),(.str "/claim/cut.py" 561)],
 kf 270 (ah 45) "law" (.str "law_layworld_k16_whole_point_by_point" 293) (.ref 269)]
noncomputable def Jy:JM JW:=[3,20,21,25,26,30,31,35,36,42,43,49,50,56,57,63,64,70,71,77,78,82,83,87,88,94,95,101,102,106,107,113,114,120,121,127,128,132,133,139,140,144,145,151,152,158,159,163,164,168,169,175,176,182,183,189,190,196,197,201,202,208,209,213,214,218,219,223,224,228,229,235,236,242,243,247,248,252,253,257,258,262,263,269,270]
noncomputable def vq:Kx:={ pw with main:={ pw.main with body:=[ah 45] } }
noncomputable def lo:JM Kd:=[("way" : Kd),("part" : Kd),("point_over" : Kd),("longer_orders" : Kd),("barred_threes" : Kd),("three_at" : Kd),("first_barred" : Kd),("first_three" : Kd),("first_bar" : Kd),("wishes" : Kd),("wishes_over" : Kd),("longer_wishes" : Kd),("_law_flow" : Kd),("_law_pick" : Kd),("_law_letters" : Kd),("_law_name" : Kd),("_law_names" : Kd),("_law_between" : Kd),("_law_part" : Kd),("_law_turns" : Kd),("_law_figure" : Kd),("_law_bad" : Kd),("_law_backs" : Kd),("_law_rule_of" : Kd),("_law_free_three" : Kd),("_law_sizes" : Kd),("_law_any_rule" : Kd),("_law_laying_kind" : Kd),("_law_breaks" : Kd),("_law_numbered" : Kd),("_law_laying_rule" : Kd),("_law_rising" : Kd),("_law_free_rule" : Kd),("_law_one_way_rule" : Kd),("_law_any_world" : Kd),("_law_new_ways" : Kd),("_law_world" : Kd),("_law_digits" : Kd),("_law_worlds" : Kd),("_law_figures" : Kd),("_law_full_rule" : Kd)]
theorem aE {K:J2}{h:KW}{mg:Kd->JU JP}{x:Kd}{st:MC}{df:Df}(a:JW)(pm cd:JP)(X:K.In h)(G:h.Ns mainGlobals mg)
  (b:BD x st df)
  (e:Lx K mainGlobals x=ba (ba (.ref a))) (l:K.lookup a=ba (kf a st x pm cd).2) (c:M4 K cd x=true) (k:LC K (.ref a)=true):al K mg x st df:=AN X G b e l c k
theorem eK:∀P,Jy=(K0 P).map (·.1):=λ_=>by kernel_rfl
noncomputable def hk:PySem.W.Hook:=PySem.W.kHook K0 Jy eK
theorem hl:PySem.W.LeftO pw vq lo (λs=>Sl vq [] s&&R4 [] s) hk.obs hk.val 2706:=λw=>by kernel_rfl
end
end Mi
end ZZ.Lean
open ZZ.Lean
theorem PySem.Challenge.cw_layworld_k16_whole_point_by_point_holds : PySem.Challenge.rw_layworld_k16_whole_point_by_point.Holds := by
 w_on
 refine PySem.W.holds_law (by kernel_rfl) (λsaid=>?_)
 refine PySem.W.holds_open (q:=Mi.vq) (loose:=Mi.lo) (Xt:=λs=>Sl Mi.vq [] s&&R4 [] s) (XP:=PySem.W.XL Mi.vq []) (Yf:=Mi.hk.obs) (Ya:=Mi.hk.val) (YP:=Mi.hk.says) (N:=2706) Mi.hl Mi.hk.of Mi.hk.keeps (λs e=>PySem.W.xl_of s (PL.mp e).1) Te (by rfl) (by rfl) (by rfl) (λs e=>PySem.W.recFacts_of (PL.mp e).2) (by rfl) said (by decide +kernel) ⟨rfl,rfl,rfl,rfl,rfl,by decide +kernel⟩ ?hw ?hc
 case hw=>w_witness2
 case hc=>
 refine Mi.Jp (l:=Of) (K:=Mi.K0) rfl rfl (λw h Y=>PySem.W.kIn_of Y) ?F
 case F=>
  intro w mg fa h KX G hmg;exact Mi.Fy KX G hmg (Mi.Hy KX G (by kernel_rfl) (by kernel_rfl) (by kernel_rfl) (by kernel_rfl) (by kernel_rfl) (by kernel_rfl) (by kernel_rfl) (by kernel_rfl) (by kernel_rfl) (by kernel_rfl) (by kernel_rfl) (by kernel_rfl) (by kernel_rfl))
   (Mi.aE 21 (.str "layworld.worlds" 187) (.ref 20) (x:="way") (st:=Mi.ah 1) (df:=Mi.ir) KX G Mi.Fw (by kernel_rfl) (by kernel_rfl) (by kernel_rfl) (by kernel_rfl))
   (Mi.aE 26 (.str "layworld.parts" 199) (.ref 25) (x:="part") (st:=Mi.ah 3) (df:=Mi.fH) KX G Mi.C0 (by kernel_rfl) (by kernel_rfl) (by kernel_rfl) (by kernel_rfl))
   (Mi.aE 31 (.str "layworld.parts" 199) (.ref 30) (x:="point_over") (st:=Mi.ah 4) (df:=Mi.bx) KX G Mi.nI (by kernel_rfl) (by kernel_rfl) (by kernel_rfl) (by kernel_rfl))
   (Mi.aE 36 (.str "layworld.parts" 199) (.ref 35) (x:="longer_orders") (st:=Mi.ah 5) (df:=Mi.aO) KX G Mi.j7 (by kernel_rfl) (by kernel_rfl) (by kernel_rfl) (by kernel_rfl))
   (Mi.aE 43 (.str "layworld.threes" 219) (.ref 42) (x:="barred_threes") (st:=Mi.ah 7) (df:=Mi.aP) KX G Mi.j8 (by kernel_rfl) (by kernel_rfl) (by kernel_rfl) (by kernel_rfl))
   (Mi.aE 50 (.str "layworld.threes" 219) (.ref 49) (x:="three_at") (st:=Mi.ah 8) (df:=Mi.bZ) KX G Mi.sD (by kernel_rfl) (by kernel_rfl) (by kernel_rfl) (by kernel_rfl))
   (Mi.aE 57 (.str "layworld.threes" 219) (.ref 56) (x:="first_barred") (st:=Mi.ah 9) (df:=Mi.aU) KX G Mi.kW (by kernel_rfl) (by kernel_rfl) (by kernel_rfl) (by kernel_rfl))
   (Mi.aE 64 (.str "layworld.threes" 219) (.ref 63) (x:="first_three") (st:=Mi.ah 10) (df:=Mi.bc) KX G Mi.mP (by kernel_rfl) (by kernel_rfl) (by kernel_rfl) (by kernel_rfl))
   (Mi.aE 71 (.str "layworld.threes" 219) (.ref 70) (x:="first_bar") (st:=Mi.ah 11) (df:=Mi.bL) KX G Mi.qh (by kernel_rfl) (by kernel_rfl) (by kernel_rfl) (by kernel_rfl))
   (Mi.aE 78 (.str "layworld.threes" 219) (.ref 77) (x:="wishes") (st:=Mi.ah 12) (df:=Mi.c8) KX G Mi.xw (by kernel_rfl) (by kernel_rfl) (by kernel_rfl) (by kernel_rfl))
   (Mi.aE 83 (.str "layworld.threes" 219) (.ref 82) (x:="wishes_over") (st:=Mi.ah 13) (df:=Mi.be) KX G Mi.mQ (by kernel_rfl) (by kernel_rfl) (by kernel_rfl) (by kernel_rfl))
   (Mi.aE 88 (.str "layworld.threes" 219) (.ref 87) (x:="longer_wishes") (st:=Mi.ah 14) (df:=Mi.aQ) KX G Mi.j9 (by kernel_rfl) (by kernel_rfl) (by kernel_rfl) (by kernel_rfl))
   (Mi.aE 95 (.str "law_layworld_k16_whole_point_by_point" 293) (.ref 94) (x:="_law_flow") (st:=Mi.ah 16) (df:=Mi.bM) KX G Mi.qi (by kernel_rfl) (by kernel_rfl) (by kernel_rfl) (by kernel_rfl))
   (Mi.aE 102 (.str "law_layworld_k16_whole_point_by_point" 293) (.ref 101) (x:="_law_pick") (st:=Mi.ah 17) (df:=Mi.bN) KX G Mi.qj (by kernel_rfl) (by kernel_rfl) (by kernel_rfl) (by kernel_rfl))
   (Mi.aE 107 (.str "law_layworld_k16_whole_point_by_point" 293) (.ref 106) (x:="_law_letters") (st:=Mi.ah 18) (df:=Mi.aV) KX G Mi.kX (by kernel_rfl) (by kernel_rfl) (by kernel_rfl) (by kernel_rfl))
   (Mi.aE 114 (.str "law_layworld_k16_whole_point_by_point" 293) (.ref 113) (x:="_law_name") (st:=Mi.ah 19) (df:=Mi.bO) KX G Mi.qk (by kernel_rfl) (by kernel_rfl) (by kernel_rfl) (by kernel_rfl))
   (Mi.aE 121 (.str "law_layworld_k16_whole_point_by_point" 293) (.ref 120) (x:="_law_names") (st:=Mi.ah 20) (df:=Mi.bz) KX G Mi.nJ (by kernel_rfl) (by kernel_rfl) (by kernel_rfl) (by kernel_rfl))
   (Mi.aE 128 (.str "law_layworld_k16_whole_point_by_point" 293) (.ref 127) (x:="_law_between") (st:=Mi.ah 21) (df:=Mi.aW) KX G Mi.kY (by kernel_rfl) (by kernel_rfl) (by kernel_rfl) (by kernel_rfl))
   (Mi.aE 133 (.str "law_layworld_k16_whole_point_by_point" 293) (.ref 132) (x:="_law_part") (st:=Mi.ah 22) (df:=Mi.bP) KX G Mi.ql (by kernel_rfl) (by kernel_rfl) (by kernel_rfl) (by kernel_rfl))
   (Mi.aE 140 (.str "law_layworld_k16_whole_point_by_point" 293) (.ref 139) (x:="_law_turns") (st:=Mi.ah 23) (df:=Mi.bA) KX G Mi.nK (by kernel_rfl) (by kernel_rfl) (by kernel_rfl) (by kernel_rfl))
   (Mi.aE 145 (.str "law_layworld_k16_whole_point_by_point" 293) (.ref 144) (x:="_law_figure") (st:=Mi.ah 24) (df:=Mi.bg) KX G Mi.mR (by kernel_rfl) (by kernel_rfl) (by kernel_rfl) (by kernel_rfl))
   (Mi.aE 152 (.str "law_layworld_k16_whole_point_by_point" 293) (.ref 151) (x:="_law_bad") (st:=Mi.ah 25) (df:=Mi.b6) KX G Mi.sE (by kernel_rfl) (by kernel_rfl) (by kernel_rfl) (by kernel_rfl))
   (Mi.aE 159 (.str "law_layworld_k16_whole_point_by_point" 293) (.ref 158) (x:="_law_backs") (st:=Mi.ah 26) (df:=Mi.bB) KX G Mi.nL (by kernel_rfl) (by kernel_rfl) (by kernel_rfl) (by kernel_rfl))
   (Mi.aE 164 (.str "law_layworld_k16_whole_point_by_point" 293) (.ref 163) (x:="_law_rule_of") (st:=Mi.ah 27) (df:=Mi.aX) KX G Mi.kZ (by kernel_rfl) (by kernel_rfl) (by kernel_rfl) (by kernel_rfl))
   (Mi.aE 169 (.str "law_layworld_k16_whole_point_by_point" 293) (.ref 168) (x:="_law_free_three") (st:=Mi.ah 28) (df:=Mi.aF) KX G Mi.iK (by kernel_rfl) (by kernel_rfl) (by kernel_rfl) (by kernel_rfl))
   (Mi.aE 176 (.str "law_layworld_k16_whole_point_by_point" 293) (.ref 175) (x:="_law_sizes") (st:=Mi.ah 29) (df:=Mi.bC) KX G Mi.nM (by kernel_rfl) (by kernel_rfl) (by kernel_rfl) (by kernel_rfl))
   (Mi.aE 183 (.str "law_layworld_k16_whole_point_by_point" 293) (.ref 182) (x:="_law_any_rule") (st:=Mi.ah 30) (df:=Mi.aR) KX G Mi.ke (by kernel_rfl) (by kernel_rfl) (by kernel_rfl) (by kernel_rfl))
   (Mi.aE 190 (.str "law_layworld_k16_whole_point_by_point" 293) (.ref 189) (x:="_law_laying_kind") (st:=Mi.ah 31) (df:=Mi.ay) KX G Mi.ic (by kernel_rfl) (by kernel_rfl) (by kernel_rfl) (by kernel_rfl))
   (Mi.aE 197 (.str "law_layworld_k16_whole_point_by_point" 293) (.ref 196) (x:="_law_breaks") (st:=Mi.ah 32) (df:=Mi.bh) KX G Mi.mS (by kernel_rfl) (by kernel_rfl) (by kernel_rfl) (by kernel_rfl))
   (Mi.aE 202 (.str "law_layworld_k16_whole_point_by_point" 293) (.ref 201) (x:="_law_numbered") (st:=Mi.ah 33) (df:=Mi.aS) KX G Mi.kg (by kernel_rfl) (by kernel_rfl) (by kernel_rfl) (by kernel_rfl))
   (Mi.aE 209 (.str "law_layworld_k16_whole_point_by_point" 293) (.ref 208) (x:="_law_laying_rule") (st:=Mi.ah 34) (df:=Mi.az) KX G Mi.ie (by kernel_rfl) (by kernel_rfl) (by kernel_rfl) (by kernel_rfl))
   (Mi.aE 214 (.str "law_layworld_k16_whole_point_by_point" 293) (.ref 213) (x:="_law_rising") (st:=Mi.ah 35) (df:=Mi.bj) KX G Mi.mT (by kernel_rfl) (by kernel_rfl) (by kernel_rfl) (by kernel_rfl))
   (Mi.aE 219 (.str "law_layworld_k16_whole_point_by_point" 293) (.ref 218) (x:="_law_free_rule") (st:=Mi.ah 36) (df:=Mi.aJ) KX G Mi.jo (by kernel_rfl) (by kernel_rfl) (by kernel_rfl) (by kernel_rfl))
   (Mi.aE 224 (.str "law_layworld_k16_whole_point_by_point" 293) (.ref 223) (x:="_law_one_way_rule") (st:=Mi.ah 37) (df:=Mi.ar) KX G Mi.gM (by kernel_rfl) (by kernel_rfl) (by kernel_rfl) (by kernel_rfl))
   (Mi.aE 229 (.str "law_layworld_k16_whole_point_by_point" 293) (.ref 228) (x:="_law_any_world") (st:=Mi.ah 38) (df:=Mi.aK) KX G Mi.jp (by kernel_rfl) (by kernel_rfl) (by kernel_rfl) (by kernel_rfl))
   (Mi.aE 236 (.str "law_layworld_k16_whole_point_by_point" 293) (.ref 235) (x:="_law_new_ways") (st:=Mi.ah 39) (df:=Mi.aT) KX G Mi.kh (by kernel_rfl) (by kernel_rfl) (by kernel_rfl) (by kernel_rfl))
   (Mi.aE 243 (.str "law_layworld_k16_whole_point_by_point" 293) (.ref 242) (x:="_law_world") (st:=Mi.ah 40) (df:=Mi.bD) KX G Mi.nN (by kernel_rfl) (by kernel_rfl) (by kernel_rfl) (by kernel_rfl))
   (Mi.aE 248 (.str "law_layworld_k16_whole_point_by_point" 293) (.ref 247) (x:="_law_digits") (st:=Mi.ah 41) (df:=Mi.bm) KX G Mi.mU (by kernel_rfl) (by kernel_rfl) (by kernel_rfl) (by kernel_rfl))
   (Mi.aE 253 (.str "law_layworld_k16_whole_point_by_point" 293) (.ref 252) (x:="_law_worlds") (st:=Mi.ah 42) (df:=Mi.bn) KX G Mi.mV (by kernel_rfl) (by kernel_rfl) (by kernel_rfl) (by kernel_rfl))
   (Mi.aE 258 (.str "law_layworld_k16_whole_point_by_point" 293) (.ref 257) (x:="_law_figures") (st:=Mi.ah 43) (df:=Mi.aY) KX G Mi.la (by kernel_rfl) (by kernel_rfl) (by kernel_rfl) (by kernel_rfl))
   (Mi.aE 263 (.str "law_layworld_k16_whole_point_by_point" 293) (.ref 262) (x:="_law_full_rule") (st:=Mi.ah 44) (df:=Mi.aL) KX G Mi.jq (by kernel_rfl) (by kernel_rfl) (by kernel_rfl) (by kernel_rfl))
   (f:=270) (oc:=.type "function") (od:=gV) (an:=gV) (osl:=#[]) (kV:=.none) (doc:=.none) (pm:=(.str "law_layworld_k16_whole_point_by_point" 293)) (cdv:=(.ref 269)) (ct:=.none) (by kernel_rfl) (by kernel_rfl) (by kernel_rfl) (by kernel_rfl)
