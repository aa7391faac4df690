import PyProof.Rows.All
import Wide.All
import OpenK.AllK
import Wide.FinOn
import Lean
import PyProof.EqAt
import PyProof.EqKinds
import PyProof.TupleCall
import KE.KDictList
import PyProof.SetKind
import PyProof.IsRules
import KE.KSortTup
import PyProof.ZipIter
import PyProof.Draws
import PyProof.EnumMake
import PyProof.WalksEnum
import PySem.Challenge.RW_layworld_k14_the_first_barred_three
noncomputable section
open Option renaming some→ba,none→gV
open _root_ renaming List→Jf,Option→Jn,Nat→Jp,Int→Jy,decide_eq_true_eq→JK,if_pos→JN,Array→JV,Bool→JW,if_neg→JX,decide_eq_false→JZ,of_decide_eq_true→Kn,beq_self_eq_true→Ko,if_false→KH,False→KN,String→KQ,if_true→K6,decide_eq_true→Lr,or_false→Lu,of_decide_eq_false→LO,DecidableEq→Mo,beq_eq_false_iff_ne→Nn,decide_eq_false_iff_not→Oc,bne_self_eq_false→P2,True→Qc,decide_true→Qt,decide_false→RA,not_or→R8,dif_pos→Se,Unit→Sy
open PySem renaming wpAny_bind→Jg,Value→Jh,Shared→Jk,wpAny_pure→Jm,Addr→Jq,Str→JG,Expr→JQ,Program→JY,Around→J1,World→J6,wpAny_newObj_type→J7,Heap→Kg,sizeLine_eq→Ki,wpAny_holding→Ku,wpAny_callSpecial?_slot→Kw,wpAny_call_entry→Kx,codeAny_builtin→KA,SetTable→KG,wpAny_setState_of→KM,Obj→K2,wpAny_mono→Lc,NameKind→Le,plainId_quiet→Lh,wpAny_field→Lq,wpAny_seqItems→Ls,wpAny_typeNameOfWhole_keyiter→Lw,wpAny_truthy_bool→Ly,DictEntry→LA,Spec→LJ,Pos→LK,FuncData→LL,wpAny_passesOwn→LR,Stmt→L0,wpAny_typeNameOf_keyiter→L4,mem_of_lookup→L5,wpAny_askSetting→L9,wpAny_typeOf→Mg,wpAny_ite_split→Mj,Scope→Mm,Builtin→Mn,wpAny_forIn_list→Mx,wpAny_isInstance→My,wpAny_updateSeq→MO,wpAny_Call_Name_kw→MP,wpAny_of_eq→MU,codeAny_mono→MW,wpAny_runValue→M0,wpAny_pyIter_list→M3,wpAny_dictEntries→M4,wpAny_standAt→Nc,wpAny_attempt→Nd,wpAny_letGo→Ng,wpAny_loadPart'→Ni,wpAny_setEntries_of→No,IsPart→Nx,call_meets→NA,wpAny_fieldsOf→ND,wpAny_setField→NH,wpAny_tryCatch→NI,wpAny_pyIter_slot→NU,wpAny_newList→N5,wpAny_comprehension_free→N6,noFill_tuple_add→N8,Paired→Oe,wpAny_rule→Og,wpAny_load→Oh,ItemsOf→On,wpAny_execs_nil→Os,codeAny_of_tree→Ow,wpAny_specialOf→Ox,wpAny_dictEpoch→Oz,builtinLookup_eq_fast→OF,wpAny_isSame_ref_self→OH,wpAny_isOneOf_keyiter→OL,GenState→OP,isSubtype_stop→OR,wpAny_newTuple→OS,wpAny_pyIter_keyiter→OW,PassesOwn→O4,rangeSize_one→Pc,seq_tuple_add→Pd,wpAny_handled→Pf,sub_set_self→Po,wpAny_setField_rec→Pp,wpAny_pyIter_tuple→Px,Env→PC,wpAny_assign_Name→PD,Operator→PH,BindsTo→PJ,concat_meets→PK,wpAny_sequenceKey→PL,seqIndex_neg→PM,list_append→PN,wpAny_setEpoch_of→PY,wpAny_pyIter_enum→P6,wpAny_pyHash_int→Qa,wpAny_pyHash_str→Qb,Result→Qe,seqIndex_of→Qp,wpAny_throw→Qq,Walks→Qr,wpAny_mkInt→Qs,typeLookup_type→Qz,Keyword→QH,wpAny_Name→QJ,wpAny_bindName→QK,typeIs_int→QM,fitsIndex_both→QP,Params→QR,call→QS,isSubtype_type→QV,entryFor_alias→QX,intBits_le_64→Re,evalPart_none→Rg,call_list_seq→Rh,small_one→Rt,CmpOp→Ru,call_range_1→Rx,Sem→RI,IsRangeIter→RJ,wpAny_alloc→RQ,BoolOp→R9,IsEnum→Sb,IsRange→Sg,Fin→Sk,Drawn→Sw,Model→Sx,Tok→SI
open List renaming length_map→Ji,getElem?_map→Jr,length_append→Jt,getElem?_eq_some_iff→Ju,getElem?_eq_getElem→Jw,set→Jx,size_toArray→Jz,mem_singleton→JC,mem_of_getElem?→JI,zipWith→JL,all_eq_true→JO,mem_cons→JP,mem_map→JT,mem_append_right→J0,replicate→J8,mem_append→J9,map_append→Kd,take_add_one→Kf,range→Kh,length_range→Kj,length_take→Kk,not_mem_nil→Kl,getElem_mem→Kq,take_length→Kr,getElem?_append_left→Kt,all_cons→Kv,length_cons→Ky,getElem?_eq_none_iff→KD,map_cons→KF,mem_range→KJ,mem_cons_of_mem→KL,mem_cons_self→KO,replicate_succ→K5,getElem?_set→K7,lookup_cons→Lg,append_assoc→Lj,length_nil→Lk,length_singleton→Ln,mem_of_mem_take→Lv,length_eq_zero_iff→LB,append_nil→LC,nodup_cons→LD,getElem?_range→LF,any_cons→LI,getElem?_append_right→LM,mem_append_left→LV,flatten_cons→LW,map_map→LZ,length_drop→L7,foldlM_cons→Mc,zip_cons_cons→Mh,find?_cons→Mk,getElem?_eq_none→Ml,mem_iff_getElem→Ms,mem_of_mem_drop→Mv,pairwise_iff_getElem→MC,filterMap_cons→MD,map_congr_left→MF,length_zipWith→MG,flatMap_append→MH,drop_of_length_le→M2,take_of_length_le→M5,getElem_inj→M8,ext_getElem→Na,mem_filter→Nh,mem_filterMap→Nw,length_eraseIdx_of_lt→NC,nodup_nil→NK,mem_eraseDups→NL,extract_eq_take_drop→NO,rel_of_pairwise_cons→NP,ext_getElem?→NV,pairwise_map→NY,getElem_take→NZ,mem_flatMap→Od,getElem?_set_self→Of,range_succ_eq_map→Ol,of_mem_zip→Ot,forIn_cons→Oy,find?_some→OC,range_succ→OD,length_replicate→OE,take_append_drop→ON,length_filter_le→OO,getElem?_set_ne→OQ,drop_zero→OU,length_dropLast→O0,eraseDups_cons→Pa,map_take→Pg,pairwise_cons→Pw,map_nil→PU,zip_nil_left→PV,nodup_append→P7,flatMap_cons→P8,getElem_map→Ql,isEmpty_iff→Qn,length_set→Qw,nil_append→Qy,foldr_cons→QF,foldl→QN,forIn_nil→Q7,take_zero→Q8,all_map→Ry,extract→RE,map_set→RG,length→RK,Nodup→Sc
open PySem.Heap renaming get?_push_of_some→Jj,get?_push_size→JA,lt_size→JE,get?_update_other→Kc,get?_update_self→KU,SameBut→K9,size_push→Ma,get?_update_ne→ME,ExtBut→OV,size_update→Qk
open Option renaming map_eq_some_iff→Jl,map_some→Kb,isSome_iff_exists→Km,map_eq_none_iff→MZ,getD_none→Qg,getD_some→Qm,map_map→QY
open Bool renaming and_eq_true→Jo,false_eq_true→JS,false_ne_true→JU,or_eq_true→La,not_true→L3,and_true→MK,true_and→MM,and_false→NB,not_eq_true'→NW,false_or→N3,and_eq_false_iff→OG,not_false→OT,and_eq_true_iff→O1,or_false→Pe,eq_iff_iff→QE
open Nat renaming le_refl→Js,le_trans→JF,le_of_ble_eq_true→JJ,ne_of_lt→JM,lt_of_lt_of_le→JR,ne_of_gt→J2,lt_irrefl→KT,zero_le→KY,lt_succ_self→Lf,div_lt_of_lt_mul→Lx,le_succ_of_le→Lz,le_of_lt→LG,lt_of_le_of_lt→LP,le_succ→LX,lt_succ_of_lt→LY,mul_comm→Mw,succ_le_succ→M9,eq_zero_or_pos→NM,le_add_right→N9,lt_trans→Oj,mod_lt→Om,mul_zero→Oq,pow_le_pow_right→OY,mul_le_mul_right→OZ,pow_le_pow_left→Pb,not_lt→Pr,lt_or_gt_of_ne→Pu,succ_le_of_lt→PP,succ_mul→PR,zero_lt_of_lt→P3,le_of_not_lt→Qi,succ_ne_zero→Qj,min_eq_right→Qo,min_eq_left→QG,add_assoc→Rn,min_self→Rz,sub_zero→RF,ble→SK
open PySem.W renaming Frag→Jv,mg_none_of→KC,nsIn→KS,keepIn→KZ,fnOf→Lo,kia_one→LS,kas_sort→Mf,codeIn→Mq,methodObj→NR,cellsFrom_some→Oi,OpenLaw→Ou,kat_nil→OB,KdlSrc→OX,WalkO→Ri,Looks→Rq,mg_of→Rr,recOk→Rs,xlAt→RH
open Array renaming length_toList→JB,getElem?_toList→KI,size_map→KP,getElem?_eq_some_iff→K1,getElem?_eq_getElem→Lm,map→Mb,mem_toList_iff→Mt,toList_extract→Mu,getD→MQ,forIn_toList→MR,mem_of_getElem?→M6,getElem_toList→Nf,toList_append→Np,getElem?_map→NF,perm_iff_toList_perm→NJ,toList_push→NT,toList_map→Ob,append_assoc→Pj,filterMap→QA,map_map→Ro,toList→Rw
open Int renaming natCast_nonneg→JD,toNat_natCast→JH,ofNat_lt→Li,emod_lt_of_pos→LN,emod_nonneg→LU,ediv_nonneg→Nk,zero_add→Op,natCast_mul→Ov,toNat_of_nonneg→O7
open PySem.Value renaming ref→J3,none→Ke,type→K4,bool→Mp,str→M7,int→N7
open PySem.SetTable renaming insertAt→J4,below→L8,grown→M1,Probe→NE,sizeAbove→NG,layClean→P4,fits→Rk,sameMemory→R3,relaid→Sr,laid→SG
open Option.some renaming injEq→J5,inj→Kz
open PySem.Around renaming under_plainId→Ks
open PySem.Obj renaming mapSeq→KR,data_mapFields→MS,isFreed_of_fields→OM,cls_mapFields→P0,mapFields→Rp
open PySem.Builtin.List renaming listExtendWith→KW,listTooLong→L1,listLengthHint→Nr,listSameRef→N2,listFitsIndex→QQ
open PySem.Builtin.Tuple renaming tupleExact→K8,tupleItemsOf→Mr,tupleHashOf→MA,tupleCompareSizes→P9,tupleIsExact→QT
open ForInStep renaming yield→Lb
open PySem.Builtin.Range renaming rangeSize→Ld,small→Nq
open PyProof.Rows renaming slot_tuple_getitem→Ll,callWith_type1→LH,subscriptTail_builtinR→MY,assignInOrder_cons→Nv,AllBare→NS,listUpdate_at→N4,SortKind→Oa,get?_update_seq→OA,entry_tuple_getitem→O6,lt_int→O8,args_tuple_getitem→Pl,IsTup→PB,assignInOrder_nil→PF,listItems_at→P1,callWith_builtin1→Qf,seqEpoch_at→Qu,entry_list_sort→QD,IntsAre→QI,slicePart_none→QL,slot_list_sort→Q1,args_list_sort→Q6,tupleItemsOf_→Rf,plain_sorted→RB,entry_sorted→RC,args_sorted1→RD,kind_sorted→RS
open PySem.Str renaming ofString→Lp,length→R5,join→SD
open PySem.Builtin.Slice renaming slicePlaces→LQ,sliceAdjust→Mz,sliceApplied→Ny,slicePartIndex→Qv,sliceFields→Q9
open PySem.Heap.SameBut renaming update→L6,refl→PZ
open PySem.Calls renaming call_function_entry→MB,Name_function_global→Nu,Constant_str→Pk
open PySem.F renaming args_tuple_add_2→MJ,entry_tuple_add→MT,plainAttrs_list→MV,slot_tuple_add→MX,slot_dict_get→OI
open PySem.Builtin.SmallTypes renaming ownedTupleIsFree→ML,nextOf→NQ,ownedTupleHandOut→O9
open PySem.NameKind renaming free→MN,cell→SH
open True renaming intro→Nb
open PySem.Builtin.Dict_items renaming ownsTuple→Nj
open PySem.Challenge renaming pw_layworld_k14_the_first_barred_three→Nl,rw_layworld_k14_the_first_barred_three→Nm
open PySem.Builtin.Builtins renaming bindParams→Nt
open PySem.SeqAt renaming EqAt→Nz,notIn_listAt→Pn,in_listAt→Qx
open Classical renaming byContradiction→NN,propDecidable→Rv
open PySem.SetTable.probe renaming go→NX
open PySem.Paired renaming length→N1
open PySem.Env renaming kindOf→Oo
open PySem.Builtin.Dict renaming showsAll→OJ,dictSlotNone→Rb,pendingCount→Rc
open Sum renaming inl→O2,inr→O3
open PySem.Expr renaming Name→O5
open PySem.SeqAt.EqAt renaming int_str→Ph,str_int→Pi,none_bool→RL,bool_none→RM,bool_bool→RN,none_int→RT,none_str→RV,bool_int→RW,bool_str→RX,int_none→RY,int_bool→RZ,str_none→R0,str_bool→R1,int_int→R6,str_str→R7,same→Sq
open PUnit renaming unit→Pq
open PySem.Code renaming quiet_builtin→Ps
open PySem.ScopeKind renaming function→Py
open PySem.AutoListH renaming list___mul___list_int_3→Pz
open PySem.AutoSeq1 renaming list_extend_list_list_0→PQ,sub_tuple_tuple→Rj
open PySem.SetTable.below renaming go→PX
open Function renaming comp_def→P5
open PyProof.Rows.IsTup renaming new→Qd
open PySem.IsL renaming update→Qh
open PySem.Builtin.Frozenset renaming updateFrom→QC,newClass→QU,sizeOf→Rl
open PySem.Walks renaming list→QZ
open PySem.Builtin.Str renaming tooLong→Ra,glued→Sh
open PySem.Moved renaming eq_with→Rm
open PySem.MeetsSeq renaming list_pop_at→RO
open PySem.Txt renaming join→RP,mul→SJ
open PySem.Heap.IsSliceOf renaming new→R4
open List.Pairwise renaming nil→Sd
open List.Sublist renaming refl→Si
open PySem.Flow renaming next→Sj
open PySem.W.Looks renaming ld→Sl
open List.Perm renaming nil_eq→Sn,swap→SC,map→SF
open PySem.W.XL renaming keeps→So
open PySem.PassesOwn renaming never→Su
open List.cons renaming injEq→Sv
open Prod renaming ext→Sz
open Or renaming inr→SA
set_option genSizeOf false
namespace ZZ.Lean
set_option Elab.async false
set_option linter.all false
set_option maxRecDepth 100000
namespace L2
open PySem PySem.Spec PyProof.Rows
noncomputable abbrev oF:=Sum Jy JG
noncomputable def Cq:oF->Jh->JW
 | .inl k,v=>Value.isInt k v
 | .inr x,v=>Value.isStrOf x v
noncomputable def He (w:J6):oF->Jy
 | .inl k=>hashInt k
 | .inr x=>hashStr w x
theorem bY:∀ {k:oF} {v:Jh},Cq k v=true->(∃i t,k=O2 i/\v=N7 i t)\/(∃x t,k=O3 x/\v=M7 x t)
 | .inl i,v,h=>by
  obtain⟨t,e⟩:=Value.isInt_shape (k:=i) (v:=v) h;exact .inl ⟨i,t,rfl,e⟩
 | .inr x,v,h=>by
  obtain⟨t,e⟩:=Value.isStrOf_shape (x:=x) (v:=v) h;exact .inr ⟨x,t,rfl,e⟩
theorem CW (a b:Jy):decide ((O2 a:oF)=O2 b)=(a==b):=by
 by_cases e:a=b
 ·subst e; simp
 ·have h:¬ (O2 a:oF)=O2 b:=λq=>e (Sum.inl.inj q)
  rw[JZ h];exact(Nn.mpr e).symm
theorem CY (a b:JG):decide ((O3 a:oF)=O3 b)=decide (a=b):=by
 by_cases e:a=b
 ·subst e; simp
 ·have h:¬ (O3 a:oF)=O3 b:=λq=>e (Sum.inr.inj q)
  rw[JZ h,JZ e]
theorem CZ (a:Jy)(b:JG):decide ((O2 a:oF)=O3 b)=false:=JZ (λq=>nomatch q)
theorem C0 (a:JG)(b:Jy):decide ((O3 a:oF)=O2 b)=false:=JZ (λq=>nomatch q)
noncomputable def oG (prog:JY)(w:J6):PySem.KeyKind prog w oF where
 is:=Cq
 hash:=He w
 inj:=λv a b ha hb=>by
  rcases bY ha with⟨i,t,rfl,rfl⟩|⟨x,t,rfl,rfl⟩
  ·rcases bY hb with⟨j,u,rfl,e⟩|⟨y,u,rfl,e⟩
   ·injection e with e1 _; rw[e1]
   ·exact nomatch e
  ·rcases bY hb with⟨j,u,rfl,e⟩|⟨y,u,rfl,e⟩
   ·exact nomatch e
   ·injection e with e1 _; rw[e1]
 byValue:=λk v h=>by
  rcases bY h with⟨i,t,rfl,rfl⟩|⟨x,t,rfl,rfl⟩ <;> rfl
 pyHash:=λhv h=>by
  rcases bY hv with⟨i,t,rfl,rfl⟩|⟨x,t,rfl,rfl⟩
  ·exact Qa h
  ·exact Qb h
 eqBool:=λhu hv h=>by
  rcases bY hu with⟨i,t,rfl,rfl⟩|⟨x,t,rfl,rfl⟩
  ·rcases bY hv with⟨j,u,rfl,rfl⟩|⟨y,u,rfl,rfl⟩
   ·rw[CW]at h; exact wpAny_eqBool_int h
   ·rw[CZ]at h; exact Ph i t y u _ _ _ _ h
  ·rcases bY hv with⟨j,u,rfl,rfl⟩|⟨y,u,rfl,rfl⟩
   ·rw[C0]at h; exact Pi x t j u _ _ _ _ h
   ·rw[CY]at h; exact wpAny_eqBool_str h
 «strs»:=λk x t v h=>by
  rcases bY h with⟨i,u,rfl,e⟩|⟨y,u,rfl,e⟩
  ·exact nomatch e
  ·injection e with e1 _
   subst e1;cases v <;> rfl
set_option genInjectivity false in
inductive V where
 | non|bl (b:JW)|int (i:Jy)|str (x:JG)|byt (b:JV UInt8)|flt (b:UInt64)|ref (a:Jq)|ty (n:KQ)
 deriving Mo
noncomputable def RelV:V->Jh->Prop
 | .non,u=>u=Ke
 | .bl b,u=>u=Mp b
 | .int i,u=>∃t,u=N7 i t
 | .str x,u=>∃t,u=M7 x t
 | .byt b,u=>∃t,u=Value.bytes b t
 | .flt b,u=>∃t,u=Value.float b t
 | .ref a,u=>u=J3 a
 | .ty n,u=>u=K4 n
noncomputable abbrev Vals:Jf V->Jf Jh->Prop:=Oe RelV
theorem Vals.length {xs:Jf V}{us:Jf Jh}(r:Vals xs us):xs.length=us.length:=N1 r
theorem Vals.get:∀ {xs:Jf V} {us:Jf Jh} {i:Jp} {x:V},Vals xs us->xs[i]?=ba x->∃u,us[i]?=ba u/\RelV x u
 | _,_,_,_,.nil,e=>by simp at e
 | _,_,0,_,.cons r _,e=>by simp at e; subst e; exact⟨_,rfl,r⟩
 | _,_,i+1,x,.cons _ t,e=>by
  obtain⟨u,h1,h2⟩:=Vals.get (i:=i) (x:=x) t (by simpa using e)
  exact⟨u,by simpa using h1,h2⟩
theorem Vals.set {x:V}{u:Jh}(r:RelV x u):∀ {xs:Jf V} {us:Jf Jh} (i:Jp),Vals xs us->Vals (xs.set i x) (us.set i u)
 | _,_,_,.nil=>.nil
 | _,_,0,.cons _ t=>.cons r t
 | _,_,i+1,.cons q t=>.cons q (Vals.set r i t)
theorem Vals.append:∀ {xs ys:Jf V} {us ws:Jf Jh},Vals xs us->Vals ys ws->Vals (xs++ys) (us++ws)
 | _,_,_,_,.nil,s=>s
 | _,_,_,_,.cons r t,s=>.cons r (Vals.append t s)
theorem Vals.take:∀ {xs:Jf V} {us:Jf Jh} (n:Jp),Vals xs us->Vals (xs.take n) (us.take n)
 | _,_,0,_=>.nil
 | _,_,_+1,.nil=>.nil
 | _,_,n+1,.cons r t=>.cons r (Vals.take n t)
theorem Vals.drop:∀ {xs:Jf V} {us:Jf Jh} (n:Jp),Vals xs us->Vals (xs.drop n) (us.drop n)
 | _,_,0,r=>r
 | _,_,_+1,.nil=>.nil
 | _,_,n+1,.cons _ t=>Vals.drop n t
noncomputable def E8:Jn V->Jn Jh->Prop
 | some v,ba u=>RelV v u
 | none,gV=>Qc
 | _,_=>KN
noncomputable def KV {κ:Type}:Jf (κ×V)->Jf (κ×Jh)->Prop:=Oe λ(p:κ×V) (q:κ×Jh)=>p.1=q.1/\RelV p.2 q.2
noncomputable def kV:oF->V
 | .inl i=>.int i
 | .inr x=>.str x
set_option genInjectivity false in
inductive HO where
 | lst (xs:Jf V)
 | tup (xs:Jf V)
 | dK (kvs:Jf (oF×V))|dT (kvs:Jf (Jf oF×V))
 | set (S:Jy->JW) (n:Jp)
 | ins (C dx:Jq) (fs:Jf (JG×V))
 | own (x:Jq)
 | xd (fs:Jf (JG×V))
 | met (f x:Jq)
 | rng (lo hi:Jy)
 | frz (o:K2) (u:HO)
 | tbl (ps:JV Jh)
 | ext (φ:Kg->Prop)
noncomputable abbrev Hp:=Jq->Jn HO
noncomputable def cj (H:Hp)(a:Jq)(o:HO):Hp:=λb=>if b=a then ba o else H b
theorem bv {H:Hp}{a:Jq}{o:HO}:cj H a o a=ba o:=by unfold cj; rw[JN rfl]
theorem aN {H:Hp}{a b:Jq}{o:HO}(h:b≠a):cj H a o b=H b:=by unfold cj; rw[JX h]
theorem ev {H:Hp}{a b:Jq}{o:HO}(h:H a=ba o)(h':H b=gV):a≠b:=by
 intro e; subst e; rw[h]at h'; cases h'
section
variable (P:JY) (w:J6)
noncomputable def ObjOk (H:Hp)(h:Kg)(a:Jq):HO->Prop
 | .lst xs=>xs.length<=sizeLine/\∃(its:Jf Jh) (n:Jp),Vals xs its/\h.get? a=ba { cls:=.type "list",data:=.seq its.toArray n }
 | .tup xs=>xs.length<=sizeLine/\∃its:Jf Jh,Vals xs its/\PB h a its.toArray
 | .dK kvs=>kvs.length<=sizeLine/\(a==sysModules)=false/\∃vs,KV kvs vs/\h.DictOf (oG P w) a vs
 | .dT kvs=>kvs.length<=sizeLine/\(a==sysModules)=false/\∃xs:Jf (Jf oF×Jq×Jh),
   Oe (λ(p:Jf oF×V) (q:Jf oF×Jq×Jh)=>p.1=q.1/\H q.2.1=ba (.tup (p.1.map kV))/\RelV p.2 q.2.2) kvs xs/\
   ∃o es ep,h.get? a=ba o/\o.ExactDict/\o.data=.dict es ep/\es.toList=xs.map (entryOfKey (tupleKind (oG P w)))/\(xs.map (·.1)).Nodup
 | .set S n=>h.SetOf (intKind P w) a S n
 | .ins C dx fs=>H dx=ba (.own a)/\fs.length<=1000/\dx≠a/\h.get? a=ba (PySem.W.instObj C dx)/\
   ∃mA,h.Ns1 dx mA/\(∀f,E8 (fs.lookup f) (mA f))/\PySem.Within mA (fs.map (·.1))
 | .own _=>∃o,h.get? a=ba o
 | .xd fs=>∃mA,h.Ns1 a mA/\∀f,E8 (fs.lookup f) (mA f)
 | .rng lo hi=>∃t u v,h.get? a=ba { cls:=.type "range",data:=.fields [.int lo t,.int hi u,.int 1 v].toArray }
 | .frz o u=>h.get? a=ba o/\ObjOk H h a u
 | .tbl ps=>h.get? a=ba { cls:=.none,data:=.fields ps }
 | .met f x=>h.get? a=ba (NR (.ref f) (.ref x))
 | .ext φ=>φ h/\(∃o,h.get? a=ba o)/\∀h1 h2:Kg,φ h1->(∀o,h1.get? a=ba o->h2.get? a=ba o)->φ h2
noncomputable def HOk (H:Hp)(h:Kg):Prop:=∀a o,H a=ba o->ObjOk P w H h a o
end
section
variable{P:JY}{w:J6}{H H':Hp}{h h':Kg}{a:Jq}{o:HO}
theorem ObjOk.lt (x:ObjOk P w H h a o):a < h.objs.size:=by
 cases o with
 | lst xs=>obtain⟨_,_,_,_,e⟩:=x; exact JE e
 | tup xs=>obtain⟨_,_,_,p⟩:=x; exact p.lt
 | dK kvs=>obtain⟨_,_,_,_,o,_,_,e,_⟩:=x; exact JE e
 | dT kvs=>obtain⟨_,_,_,_,o,_,_,e,_⟩:=x; exact JE e
 | set S n=>obtain⟨o,_,_,_,e,_⟩:=x; exact JE e
 | ins C dx fs=>obtain⟨_,_,_,e,_⟩:=x; exact JE e
 | own y=>obtain⟨_,e⟩:=x; exact JE e
 | xd fs=>obtain⟨_,⟨_,_,_,e,_⟩,_⟩:=x; exact JE e
 | rng lo hi=>obtain⟨_,_,_,e⟩:=x; exact JE e
 | frz ob u=>obtain⟨e,_⟩:=x; exact JE e
 | tbl ps=>exact JE (show h.get? a=ba _ from x)
 | met f y=>exact JE (show h.get? a=ba _ from x)
 | ext φ=>obtain⟨_,⟨_,e⟩,_⟩:=x; exact JE e
theorem Paired.mapP {α β:Type}{F G:α->β->Prop}:∀ {l₁:Jf α} {l₂:Jf β},Oe F l₁ l₂->(∀a b,F a b->G a b)->Oe G l₁ l₂
 | _,_,.nil,_=>.nil
 | _,_,.cons r t,f=>.cons (f _ _ r) (Paired.mapP t f)
theorem ObjOk.stay (x:ObjOk P w H h a o)(k:∀b u,(b=a\/H b=ba (.own a))->h.get? b=ba u->h'.get? b=ba u)
  (ho:∀b,H b=ba (.own a)->H' b=ba (.own a)) (ht:∀b xs,H b=ba (.tup xs)->H' b=ba (.tup xs)):ObjOk P w H' h' a o:=by
 induction o with
 | lst xs=>obtain⟨z,its,n,r,e⟩:=x; exact⟨z,its,n,r,k _ _ (.inl rfl) e⟩
 | tup xs=>obtain⟨z,its,r,ob,e,c⟩:=x; exact⟨z,its,r,ob,k _ _ (.inl rfl) e,c⟩
 | dK kvs=>obtain⟨z,y,vs,r,ob,es,ep,e,c⟩:=x; exact⟨z,y,vs,r,ob,es,ep,k _ _ (.inl rfl) e,c⟩
 | dT kvs=>
  obtain⟨z,y,xs,r,ob,es,ep,e,c⟩:=x;exact⟨z,y,xs,Paired.mapP r λp q z=>⟨z.1,ht _ _ z.2.1,z.2.2⟩,ob,es,ep,k _ _ (.inl rfl) e,c⟩
 | set S n=>obtain⟨ob,es,ep,t,e,c⟩:=x; exact⟨ob,es,ep,t,k _ _ (.inl rfl) e,c⟩
 | ins C dx fs=>
  obtain⟨d,z,ne,e,mA,⟨od,es,ep,e2,c⟩,r⟩:=x;exact⟨ho _ d,z,ne,k _ _ (.inl rfl) e,mA,⟨od,es,ep,k _ _ (.inr d) e2,c⟩,r⟩
 | own y=>obtain⟨ob,e⟩:=x; exact⟨ob,k _ _ (.inl rfl) e⟩
 | xd fs=>obtain⟨mA,⟨od,es,ep,e,c⟩,r⟩:=x; exact⟨mA,⟨od,es,ep,k _ _ (.inl rfl) e,c⟩,r⟩
 | rng lo hi=>obtain⟨t,u,v,e⟩:=x; exact⟨t,u,v,k _ _ (.inl rfl) e⟩
 | frz ob u ih=>obtain⟨e,q⟩:=x; exact⟨k _ _ (.inl rfl) e,ih q⟩
 | tbl ps=>
  have e:h.get? a=ba { cls:=.none,data:=.fields ps }:=x;show h'.get? a=ba { cls:=.none,data:=.fields ps };exact k a _ (.inl rfl) e
 | met f y=>
  have e:h.get? a=ba (NR (.ref f) (.ref y)):=x;show h'.get? a=ba (NR (.ref f) (.ref y));exact k a _ (.inl rfl) e
 | ext φ=>obtain⟨p,⟨o,e⟩,st⟩:=x; exact⟨st _ _ p λo q=>k _ _ (.inl rfl) q,⟨o,k _ _ (.inl rfl) e⟩,st⟩
theorem HOk.lt (x:HOk P w H h)(e:H a=ba o):a < h.objs.size:=(x a o e).lt
theorem HOk.fresh (x:HOk P w H h)(e:h.objs.size<=a):H a=gV:=by
 cases q:H a with
 | none=>rfl
 | some u=>exact absurd (JR (x.lt q) e) (KT _)
theorem HOk.kept (x:HOk P w H h)(k:∀b u,h.get? b=ba u->h'.get? b=ba u):HOk P w H h':=λa o e=>
 (x a o e).stay (λb u _ q=>k b u q) (λ_ q=>q) λ_ _ q=>q
theorem HOk.laid (x:HOk P w H h)(k:∀b u,h.get? b=ba u->h'.get? b=ba u)(hp:h.objs.size<=a)(new:ObjOk P w (cj H a o) h' a o):HOk P w (cj H a o) h':=λb u e=>by
 have hn:=x.fresh hp
 by_cases hb:b=a
 ·subst hb; rw[bv]at e; cases e; exact new
 ·rw[aN hb]at e;exact(x b u e).stay (λc v _ q=>k c v q) (λc q=>by rw[aN (ev q hn)]; exact q) λc xs q=>by rw[aN (ev q hn)]; exact q
end
noncomputable def Rd (H:Hp)(a:Jq)(u:HO):Prop:=H a=ba u\/∃o,H a=ba (.frz o u)
theorem Rd.ok {P:JY}{w:J6}{H:Hp}{h:Kg}{a:Jq}{u:HO}(r:Rd H a u)(x:HOk P w H h):ObjOk P w H h a u:=by
 rcases r with r|⟨o,r⟩
 ·exact x a u r
 ·obtain⟨_,q⟩:=x a _ r;exact q
noncomputable def E9:Jn HO->Prop
 | some (.lst _)=>Qc
 | some (.dK _)=>Qc
 | some (.dT _)=>Qc
 | some (.set _ _)=>Qc
 | some (.ins _ _ _)=>Qc
 | some (.ext _)=>Qc
 | _=>KN
section
variable{P:JY}{w:J6}{H:Hp}{h h':Kg}{x e:Jq}{o':HO}
theorem HOk.write (ok:HOk P w H h)(mu:E9 (H x))(he:e=x\/H e=ba (.own x))(k:∀b u,b≠e->h.get? b=ba u->h'.get? b=ba u)(heo:∃u,h'.get? e=ba u)
  (new:ObjOk P w (cj H x o') h' x o'):HOk P w (cj H x o') h':=λb u q=>by
 have nown:∀c y,H c=ba (.own y)->c≠x:=λc y r z=>by subst z; rw[r]at mu; exact mu
 have ntup:∀c xs,H c=ba (.tup xs)->c≠x:=λc xs r z=>by subst z; rw[r]at mu; exact mu
 by_cases hb:b=x
 ·subst hb; rw[bv]at q; cases q; exact new
 ·rw[aN hb]at q
  by_cases hbe:b=e
  ·have q':H b=ba (.own x):=by
    rcases he with z|z
    ·exact absurd (hbe.trans z) hb
    ·rw[hbe]; exact z
   rw[q]at q'; cases q'
   obtain⟨v,hv⟩:=heo;exact⟨v,by rw[hbe]; exact hv⟩
  ·refine(ok b u q).stay (λc v hc r=>k c v ?_ r) (λc r=>by rw[aN (nown c b r)]; exact r) λc xs r=>by rw[aN (ntup c xs r)]; exact r
   rcases hc with rfl|hc
   ·exact hbe
   ·rintro rfl;rcases he with z|z
    ·exact nown c b hc z
    ·rw[hc]at z; cases z; exact hb rfl
end
structure Un (fs ex:Jf Jq)(H H':Hp)(h h':Kg):Prop where
 keep:∀b o,h.get? b=ba o->H b=gV->b∉fs->b∉ex->h'.get? b=ba o
 slot:∀b o,h.get? b=ba o->H b=gV->b∈fs->b∉ex->∃sl,h'.get? b=ba { o with slots:=sl }
 free:∀b o,h.get? b=ba o->H b=gV->b∉ex->H' b=gV
 there:∀b o,h.get? b=ba o->b∉ex->∃o',h'.get? b=ba o'
 tups:∀b xs,H b=ba (.tup xs)->H' b=ba (.tup xs)
 frzs:∀b o u,H b=ba (.frz o u)->H' b=ba (.frz o u)
 tbls:∀b ps,H b=ba (.tbl ps)->∃more,H' b=ba (.tbl (ps++more))
section
variable{fs fs' ex ex':Jf Jq}{H H1 H2:Hp}{h h1 h2 h':Kg}{a x e:Jq}{o:HO}
theorem Un.any (u:Un fs ex H H1 h h1){b:Jq}{ob:K2}(q:h.get? b=ba ob)(n:H b=gV)(hx:b∉ex):∃sl,h1.get? b=ba { ob with slots:=sl }:=by
 by_cases hb:b∈fs
 ·exact u.slot b ob q n hb hx
 ·exact⟨ob.slots,u.keep b ob q n hb hx⟩
theorem Un.trans (a:Un fs ex H H1 h h1)(b:Un fs ex H1 H2 h1 h2):Un fs ex H H2 h h2 where
 keep:=λc ob q n hc hx=>b.keep c ob (a.keep c ob q n hc hx) (a.free c ob q n hx) hc hx
 slot:=λc ob q n hc hx=>by
  obtain⟨sl,e1⟩:=a.slot c ob q n hc hx;obtain⟨sl',e2⟩:=b.slot c _ e1 (a.free c ob q n hx) hc hx;exact⟨sl',e2⟩
 free:=λc ob q n hx=>by
  obtain⟨o',e1⟩:=a.there c ob q hx;exact b.free c o' e1 (a.free c ob q n hx) hx
 there:=λc ob q hx=>by
  obtain⟨o',e1⟩:=a.there c ob q hx;exact b.there c o' e1 hx
 tups:=λc xs q=>b.tups c xs (a.tups c xs q)
 frzs:=λc ob xs q=>b.frzs c ob xs (a.frzs c ob xs q)
 tbls:=λc ps q=>by
  obtain⟨m1,e1⟩:=a.tbls c ps q;obtain⟨m2,e2⟩:=b.tbls c _ e1;exact⟨m1++m2,by rw[e2,Pj]⟩
theorem Un.kept (k:∀b u,h.get? b=ba u->h'.get? b=ba u):Un fs ex H H h h':=
 ⟨λb ob q _ _ _=>k b ob q,λb ob q _ _ _=>⟨ob.slots,k b ob q⟩,λ_ _ _ n _=>n,λb ob q _=>⟨ob,k b ob q⟩,λ_ _ q=>q,λ_ _ _ q=>q,λ_ ps q=>⟨#[],by rw[q]; simp⟩⟩
theorem Un.refl:Un fs ex H H h h:=Un.kept λ_ _ q=>q
theorem Un.laid (k:∀b u,h.get? b=ba u->h'.get? b=ba u)(hp:h.objs.size<=a)(hn:H a=gV):Un fs ex H (cj H a o) h h' where
 keep:=λb u q _ _ _=>k b u q
 slot:=λb u q _ _ _=>⟨u.slots,k b u q⟩
 free:=λb u q n _=>by rw[aN (JM (JR (JE q) hp))]; exact n
 there:=λb u q _=>⟨u,k b u q⟩
 tups:=λb xs q=>by rw[aN (ev q hn)]; exact q
 frzs:=λb u xs q=>by rw[aN (ev q hn)]; exact q
 tbls:=λb ps q=>⟨#[],by rw[aN (ev q hn),q]; simp⟩
theorem Un.write (mu:E9 (H x))(he:e=x\/H e=ba (.own x))(k:∀b u,b≠e->h.get? b=ba u->h'.get? b=ba u)(heo:∃u,h'.get? e=ba u):Un fs ex H (cj H x o) h h':=by
 have hx:∀b,H b=gV->b≠x:=λb n z=>by subst z; rw[n]at mu; exact mu
 have hb:∀b,H b=gV->b≠e:=λb n z=>by
  subst z;rcases he with r|r
  ·exact hx b n r
  ·rw[n]at r; cases r
 have hm:∀b u,H b=ba u->¬ E9 (ba u)->b≠x:=λb u q nm z=>by subst z; rw[q]at mu; exact nm mu
 refine⟨λb u q n _ _=>k b u (hb b n) q,λb u q n _ _=>⟨u.slots,k b u (hb b n) q⟩,λb u q n _=>by rw[aN (hx b n)]; exact n,λb u q _=>?_,
  λb xs q=>by rw[aN (hm b _ q λz=>z)]; exact q,λb u xs q=>by rw[aN (hm b _ q λz=>z)]; exact q,λb ps q=>⟨#[],by rw[aN (hm b _ q λz=>z),q]; simp⟩⟩
 by_cases hbe:b=e
 ·subst hbe; exact heo
 ·exact⟨u,k b u hbe q⟩
end
noncomputable def G2 (h:Kg)(H:Hp):Jf Jq:=(Kh h.objs.size).filter λa=>(H a).isSome
noncomputable def oH (h:Kg)(H:Hp):Kg:=PySem.W.hideAll h (G2 h H)
theorem u7 (h:Kg)(H:Hp):(oH h H).objs.size=h.objs.size:=PySem.W.hideAll_size _ _
theorem wK {h:Kg}{H:Hp}{b:Jq}{o:K2}(e:h.get? b=ba o)(n:H b=gV):(oH h H).get? b=ba o:=
 PySem.W.hideAll_get _ e λhm=>by
  have q:(H b).isSome=true:=(Nh.mp hm).2;rw[n]at q; simp at q
theorem Ah {h:Kg}{H:Hp}{b:Jq}{o:K2}(e:(oH h H).get? b=ba o):h.get? b=ba o/\H b=gV:=by
 have e':h.get? b=ba o:=PySem.W.of_hideAll (G2 h H) e;refine⟨e',?_⟩;cases q:H b with
 | none=>rfl
 | some x=>
  have hm:b∈G2 h H:=Nh.mpr ⟨KJ.mpr (JE e'),by simp[q]⟩
  have z:(oH h H).get? b=gV:=PySem.W.hideAll_none (G2 h H) hm;rw[z]at e; cases e
noncomputable def Ai (g h:Kg)(L:Jq):Jf (Jq×K2):=(Kh h.objs.size).filterMap λa=>if a=L\/(g.get? a).isSome=true then gV else(h.get? a).map λo=>(a,o)
noncomputable def cb (g h:Kg)(L d:Jq):Jf (Jq×K2):=(Ai g h L).filter λp=>decide (p.1≠d)
structure Mod (K:Jv)(mg:JG->Jn Jh)(base:Kg):Prop where
 kin:K.In base
 glob:base.Ns mainGlobals mg
 blt:∃mb,base.Ns builtinsNs mb/\∀x:JG,x≠"__name__"->mb x=bootBuiltins x
 nolimit:base.NoLimit
structure Cx where
 prog:JY
 w:J6
 K:Jv
 mg:JG->Jn Jh
 base:Kg
 A:J1
 N:Jf JG
 s₀:Jk
 H₀:Hp
 env:PC
 outer:Jf PC
 stack:Jf PC
 ex:Jf Jq
 fn:JG->JW
 calm:JW
 pn:Jf (Jq×K2)
 xe:Jh->Jk->Prop
noncomputable def sd (l:Jf PC):Jf Jq:=l.filterMap (·.frame)
noncomputable abbrev Cx.fs (X:Cx):Jf Jq:=sd X.outer
noncomputable def G3 (sc:Mm)(x:JG):Prop:=sc.names.lookup x=ba .local\/sc.names.lookup x=ba .cell\/sc.names.lookup x=ba .free
noncomputable def Aj (sc:Mm)(x:JG):Prop:=sc.names.lookup x=ba .local\/sc.names.lookup x=ba .cell
noncomputable def Hf (env:PC)(h:Kg)(m:JG->Jn Jh)(x:JG)(u:Jh):Prop:=
 (env.kindOf x=ba .local/\m x=ba u)\/((env.kindOf x=ba .cell\/env.kindOf x=ba .free)/\∃c,env.cells.lookup x=ba c/\h.IsCell c (ba u))
structure Cx.Ok (X:Cx):Prop where
 mod:Mod X.K X.mg X.base
 kind:X.env.scope.kind=.function
 glob:X.env.globals=mainGlobals
 blt:X.env.builtins=builtinsNs
 above:X.s₀.heap.objs.size<=X.env.locals
 inj:∀x y c,X.env.cells.lookup x=ba c->X.env.cells.lookup y=ba c->x=y
 has:∀x,(X.env.kindOf x=ba .cell\/X.env.kindOf x=ba .free)->∃c,X.env.cells.lookup x=ba c
 cab:∀x c,X.fn x=true->X.env.cells.lookup x=ba c->X.s₀.heap.objs.size<=c
 hd:X.calm=true->X.A.handled=gV
 frames:X.A.frames=ba X.stack
 stk:X.stack=X.outer\/(X.stack=X.env::X.outer/\X.env.frame=ba X.env.locals)
 exf:∀b∈X.ex,b≠X.env.locals/\∀x c,X.env.cells.lookup x=ba c->c≠b
 bs:∀b o,X.base.get? b=ba o->X.s₀.heap.get? b=ba o/\X.H₀ b=gV
 bsz:X.base.objs.size<=X.s₀.heap.objs.size
 noex:∀b o,X.base.get? b=ba o->b∉X.ex
 exfs:∀b∈X.ex,b∉X.fs
 funs:X.s₀.heap.FunFrames X.base X.outer
 frf:∀b∈X.fs,X.H₀ b=gV
structure Inv (X:Cx)(pins:Jf (Jq×K2))(σ:Jf (Jn V))(H:Hp)(s:Jk):Prop where
 ok:X.Ok
 os:s.os=X.s₀.os
 bare:NS s.gens
 base:Un X.fs X.ex X.H₀ H X.s₀.heap s.heap
 loc:∃m,s.heap.Ns X.env.locals m/\∀(i:Jp) (x:JG) (v:V),X.N[i]?=ba x->σ[i]?=ba (ba v)->G3 X.env.scope x->∃u,RelV v u/\Hf X.env s.heap m x u
 cell:∀x c,X.env.cells.lookup x=ba c->∃v,s.heap.IsCell c v
 free:H X.env.locals=gV
 freeC:∀x c,X.env.cells.lookup x=ba c->H c=gV
 pin:∀p∈X.pn++pins,s.heap.get? p.1=ba p.2/\H p.1=gV/\p.1≠X.env.locals/\p.1∉X.fs/\∀v,p.2.data≠.cell v
 hok:HOk X.prog X.w H s.heap
 len:σ.length=X.N.length
section
variable{X:Cx}{pins:Jf (Jq×K2)}{σ:Jf (Jn V)}{H H':Hp}{s:Jk}{h':Kg}
theorem Cx.Ok.nofr (ok:X.Ok){b:Jq}{o:K2}(e:X.base.get? b=ba o):b∉X.fs:=λhb=>by
 have:=(ok.funs.mem hb).1;rw[e]at this; cases this
theorem Inv.bs (I:Inv X pins σ H s):∀b o,X.base.get? b=ba o->s.heap.get? b=ba o/\H b=gV:=λb o e=>
 ⟨I.base.keep b o (I.ok.bs b o e).1 (I.ok.bs b o e).2 (I.ok.nofr e) (I.ok.noex b o e),I.base.free b o (I.ok.bs b o e).1 (I.ok.bs b o e).2 (I.ok.noex b o e)⟩
theorem Inv.bk (I:Inv X pins σ H s):∀b o,X.base.get? b=ba o->s.heap.get? b=ba o:=λb o e=>(I.bs b o e).1
theorem Inv.mod (I:Inv X pins σ H s):Mod X.K X.mg X.base:=I.ok.mod
theorem Inv.kIn (I:Inv X pins σ H s):X.K.In s.heap:=I.ok.mod.kin.keeps I.bk
theorem Inv.lt (I:Inv X pins σ H s):X.env.locals < s.heap.objs.size:=let ⟨_,hn,_⟩:=I.loc; hn.lt
theorem Inv.sz (I:Inv X pins σ H s):X.s₀.heap.objs.size<=s.heap.objs.size:=JF I.ok.above (LG I.lt)
theorem Inv.nofs (I:Inv X pins σ H s){a:Jq}(h:s.heap.objs.size<=a):a∉X.fs:=λhb=>by
 obtain⟨_,o,ho,_⟩:=I.ok.funs.mem hb;exact absurd (JR (JE ho) (JF I.sz h)) (KT _)
theorem Inv.cne (I:Inv X pins σ H s):∀x c,X.env.cells.lookup x=ba c->c≠X.env.locals:=λx c e z=>by
 obtain⟨v,o,ho,hd⟩:=I.cell x c e;obtain⟨m,⟨o',es,ep,ho',hd',_⟩,_⟩:=I.loc;rw[z,ho']at ho; cases ho; rw[hd']at hd; cases hd
theorem Inv.funs (I:Inv X pins σ H s):s.heap.FunFrames X.base X.outer:=by
 have all:∀(l:Jf PC),(∀b∈sd l,b∈X.fs)->X.s₀.heap.FunFrames X.base l->s.heap.FunFrames X.base l:=by
  intro l
  induction l with
  | nil=>intro _ _; trivial
  | cons env r ih=>
   intro hs hl;obtain⟨hk,⟨L,o,hf,hn,ho,hd⟩,hr⟩:=hl;have hL:L∈X.fs:=hs L (by unfold sd; rw[MD,hf]; exact KO)
   obtain⟨sl,e⟩:=I.base.slot L o ho (I.ok.frf L hL) hL λz=>I.ok.exfs L z hL
   exact⟨hk,⟨L,_,hf,hn,e,hd⟩,ih (λb hb=>hs b (by unfold sd; rw[MD,hf]; exact KL _ hb)) hr⟩
 exact all X.outer (λ_ hb=>hb) I.ok.funs
theorem Inv.stack (I:Inv X pins σ H s):s.heap.FunFrames X.base X.stack:=by
 rcases I.ok.stk with e|⟨e,hf⟩
 ·rw[e]; exact I.funs
 ·rw[e];obtain⟨m,hn,_⟩:=I.loc;refine .cons (by rw[I.ok.kind]; decide) hf hn ?_ I.funs
  exact Heap.get?_none_of_le (JF I.ok.bsz I.ok.above)
theorem Inv.stkSub (I:Inv X pins σ H s):∀b∈sd X.stack,b∈X.env.locals::X.fs:=λb hb=>by
 rcases I.ok.stk with e|⟨e,hf⟩
 ·rw[e]at hb; exact KL _ hb
 ·rw[e]at hb;unfold sd at hb;rw[MD,hf]at hb;exact hb
theorem Inv.stkFree (I:Inv X pins σ H s):∀b∈sd X.stack,H b=gV:=λb hb=>by
 rcases JP.mp (I.stkSub b hb)with e|hb
 ·rw[e]; exact I.free
 ·obtain⟨_,o,ho,_⟩:=I.ok.funs.mem hb;exact I.base.free b o ho (I.ok.frf b hb) λz=>I.ok.exfs b z hb
theorem Inv.step {g':JV OP}{t':Jp}{d':Sw}{ch:Jf Jq}(I:Inv X pins σ H s)
  (hch:∀b∈ch,(b∈X.ex\/X.s₀.heap.objs.size<=b)/\b≠X.env.locals/\(∀x c,X.env.cells.lookup x=ba c->c≠b)/\∀p∈X.pn++pins,p.1≠b)
  (keep:∀b o,b≠X.env.locals->b∉X.fs->b∉ch->s.heap.get? b=ba o->H b=gV->h'.get? b=ba o)
  (slot:∀b o,b≠X.env.locals->b∈X.fs->b∉ch->s.heap.get? b=ba o->H b=gV->∃sl,h'.get? b=ba { o with slots:=sl }) (free:∀b o,b∉ch->s.heap.get? b=ba o->H b=gV->H' b=gV)
  (there:∀b o,b∉ch->s.heap.get? b=ba o->∃o',h'.get? b=ba o')
  (tups:∀b xs,H b=ba (.tup xs)->H' b=ba (.tup xs)) (frzs:∀b o u,H b=ba (.frz o u)->H' b=ba (.frz o u)) (tbls:∀b ps,H b=ba (.tbl ps)->∃more,H' b=ba (.tbl (ps++more)))
  (ns:∀m,s.heap.Ns X.env.locals m->h'.Ns X.env.locals m) (hok:HOk X.prog X.w H' h') (hg:NS g') :
  Inv X pins σ H' { s with heap:=h',gens:=g',drawn:=d',toks:=t' }:=by
 have neL:∀b o,X.s₀.heap.get? b=ba o->b≠X.env.locals:=λb o e=>JM (JR (JE e) I.ok.above)
 have neC:∀b o,X.s₀.heap.get? b=ba o->b∉X.ex->b∉ch:=λb o e hx hb=>by
  rcases(hch b hb).1 with z|z
  ·exact hx z
  ·exact absurd (JR (JE e) z) (KT _)
 have cellK:∀x c,X.env.cells.lookup x=ba c->∀v,s.heap.IsCell c v->h'.IsCell c v:=λx c e v ⟨o,ho,hd⟩=>by
  have nch:c∉ch:=λz=>(hch c z).2.2.1 x c e rfl
  by_cases hc:c∈X.fs
  ·obtain⟨sl,q⟩:=slot c o (I.cne x c e) hc nch ho (I.freeC x c e);exact⟨_,q,hd⟩
  ·exact⟨o,keep c o (I.cne x c e) hc nch ho (I.freeC x c e),hd⟩
 refine⟨I.ok,I.os,hg,⟨λb o e n hb hx=>?_,λb o e n hb hx=>?_,λb o e n hx=>?_,λb o e hx=>?_,λb xs e=>tups b xs (I.base.tups b xs e),λb o xs e=>frzs b o xs (I.base.frzs b o xs e),λb ps e=>?_⟩,?_,λx c e=>?_,?_,λx c e=>?_,λp hp=>?_,hok,I.len⟩
 ·exact keep b o (neL b o e) hb (neC b o e hx) (I.base.keep b o e n hb hx) (I.base.free b o e n hx)
 ·obtain⟨sl,e1⟩:=I.base.slot b o e n hb hx;obtain⟨sl',e2⟩:=slot b _ (neL b o e) hb (neC b o e hx) e1 (I.base.free b o e n hx);exact⟨sl',e2⟩
 ·obtain⟨o',e1⟩:=I.base.there b o e hx;exact free b o' (neC b o e hx) e1 (I.base.free b o e n hx)
 ·obtain⟨o',e1⟩:=I.base.there b o e hx;exact there b o' (neC b o e hx) e1
 ·obtain⟨m1,e1⟩:=I.base.tbls b ps e;obtain⟨m2,e2⟩:=tbls b _ e1;exact⟨m1++m2,by rw[e2,Pj]⟩
 ·obtain⟨m,hn,hl⟩:=I.loc;refine⟨m,ns m hn,λi x v e1 e2 e3=>?_⟩
  obtain⟨u,r,l⟩:=hl i x v e1 e2 e3;refine⟨u,r,?_⟩;rcases l with l|⟨k,c,e,z⟩
  ·exact .inl l
  ·exact .inr ⟨k,c,e,cellK x c e _ z⟩
 ·obtain⟨v,z⟩:=I.cell x c e;exact⟨v,cellK x c e v z⟩
 ·obtain⟨m,⟨o,_,_,ho,_⟩,_⟩:=I.loc;exact free _ o (λz=>(hch _ z).2.1 rfl) ho I.free
 ·obtain⟨v,o,ho,hd⟩:=I.cell x c e;exact free c o (λz=>(hch c z).2.2.1 x c e rfl) ho (I.freeC x c e)
 ·obtain⟨e,n,ne,nf,d⟩:=I.pin p hp;have nch:p.1∉ch:=λz=>(hch p.1 z).2.2.2 p hp rfl
  exact⟨keep p.1 p.2 ne nf nch e n,free p.1 p.2 nch e n,ne,nf,d⟩
theorem Inv.un {t':Jp}(I:Inv X pins σ H s)(u:Un X.fs [] H H' s.heap h')(hok:HOk X.prog X.w H' h'):Inv X pins σ H' { s with heap:=h',toks:=t' }:=by
 obtain⟨m,⟨o,es,ep,ho,r⟩,_⟩:=id I.loc;obtain⟨sl,hL⟩:=u.any ho I.free (by simp)
 exact I.step (g':=s.gens) (d':=s.drawn) (ch:=[]) (λ_ z=>nomatch z) (λb o _ hb _ e n=>u.keep b o e n hb (by simp)) (λb o _ hb _ e n=>u.slot b o e n hb (by simp)) (λb o _ e n=>u.free b o e n (by simp)) (λb o _ e=>u.there b o e (by simp)) u.tups u.frzs u.tbls (λm' hm=>by
  obtain⟨o',es',ep',ho',r'⟩:=hm;rw[ho]at ho'; cases ho'
  exact⟨_,es',ep',hL,r'⟩) hok I.bare
theorem Inv.call {g':JV OP}{t':Jp}{d':Sw}{ch:Jf Jq}(I:Inv X pins σ H s)(u:Un (sd X.stack) ch H H' s.heap h')(hok:HOk X.prog X.w H' h')(hg:NS g')
  (hch:∀b∈ch,(b∈X.ex\/X.s₀.heap.objs.size<=b)/\b≠X.env.locals/\(∀x c,X.env.cells.lookup x=ba c->c≠b)/\∀p∈X.pn++pins,p.1≠b) :
  Inv X pins σ H' { s with heap:=h',gens:=g',drawn:=d',toks:=t' }:=by
 obtain⟨m,⟨o,es,ep,ho,r⟩,_⟩:=id I.loc;obtain⟨sl,hL⟩:=u.any ho I.free λz=>(hch _ z).2.1 rfl
 exact I.step (ch:=ch) hch (λb o hL hb hc e n=>u.keep b o e n (λz=>(JP.mp (I.stkSub b z)).elim hL hb) hc) (λb o _ _ hc e n=>u.any e n hc) (λb o hc e n=>u.free b o e n hc) (λb o hc e=>u.there b o e hc) u.tups u.frzs u.tbls (λm' hm=>by
  obtain⟨o',es',ep',ho',r'⟩:=hm;rw[ho]at ho'; cases ho'
  exact⟨_,es',ep',hL,r'⟩) hok hg
theorem Inv.turned {t':Jp}{it:Jq}(I:Inv X pins σ H s)(k:∀b o,b≠it->s.heap.get? b=ba o->h'.get? b=ba o)(hn:H it=gV)(hL:it≠X.env.locals)
  (h1:it∈X.ex\/X.s₀.heap.objs.size<=it) (h2:∀x c,X.env.cells.lookup x=ba c->c≠it) (h3:∀p∈X.pn++pins,p.1≠it):Inv X pins σ H { s with heap:=h',toks:=t' }:=by
 have nit:∀b u,H b=ba u->b≠it:=λb u e z=>by rw[z,hn]at e; cases e
 refine I.step (g':=s.gens) (d':=s.drawn) (ch:=[it]) (λb hb=>?_) (λb o _ _ hc e _=>k b o (λz=>hc (by simp[z])) e) (λb o _ _ hc e _=>⟨o.slots,k b o (λz=>hc (by simp[z])) e⟩) (λ_ _ _ _ n=>n)
  (λb o hc e=>⟨o,k b o (λz=>hc (by simp[z])) e⟩) (λ_ _ e=>e) (λ_ _ _ e=>e) (λb ps e=>⟨#[],by rw[e]; simp⟩) (λm hm=>?_) (λb u e=>?_) I.bare
 ·have e:b=it:=by simpa using hb
  subst e;exact⟨h1,hL,h2,h3⟩
 ·obtain⟨o,es,ep,ho,r⟩:=hm;exact⟨o,es,ep,k _ o (Ne.symm hL) ho,r⟩
 ·refine(I.hok b u e).stay (λc v hc q=>k c v ?_ q) (λ_ q=>q) λ_ _ q=>q
  rcases hc with z|z
  ·rw[z]; exact nit b u e
  ·exact nit c _ z
theorem Inv.tok (I:Inv X pins σ H s)(t:Jp):Inv X pins σ H { s with toks:=t }:=I.un (h':=s.heap) (t':=t) Un.refl I.hok
theorem Inv.kept {t':Jp}(I:Inv X pins σ H s)(k:∀b u,s.heap.get? b=ba u->h'.get? b=ba u):Inv X pins σ H { s with heap:=h',toks:=t' }:=I.un (Un.kept k) (I.hok.kept k)
theorem Inv.laid {a:Jq}{o:HO}{t':Jp}(I:Inv X pins σ H s)(k:∀b u,s.heap.get? b=ba u->h'.get? b=ba u)(hp:s.heap.objs.size<=a)(new:ObjOk X.prog X.w (cj H a o) h' a o) :
  Inv X pins σ (cj H a o) { s with heap:=h',toks:=t' }:=I.un (Un.laid k hp (I.hok.fresh hp)) (I.hok.laid k hp new)
theorem Inv.write {x e:Jq}{o:HO}{t':Jp}(I:Inv X pins σ H s)(mu:E9 (H x))(he:e=x\/H e=ba (.own x))(k:∀b u,b≠e->s.heap.get? b=ba u->h'.get? b=ba u)(heo:∃u,h'.get? e=ba u)
  (new:ObjOk X.prog X.w (cj H x o) h' x o):Inv X pins σ (cj H x o) { s with heap:=h',toks:=t' }:=I.un (Un.write mu he k heo) (I.hok.write mu he k heo new)
theorem Inv.pins_of {pins':Jf (Jq×K2)}(I:Inv X pins σ H s)(h:∀p∈pins',s.heap.get? p.1=ba p.2/\H p.1=gV/\p.1≠X.env.locals/\p.1∉X.fs/\∀v,p.2.data≠.cell v):Inv X pins' σ H s:=
 ⟨I.ok,I.os,I.bare,I.base,I.loc,I.cell,I.free,I.freeC,λp hp=>(J9.mp hp).elim (λz=>I.pin p (LV _ z)) (h p),I.hok,I.len⟩
theorem qa {N:Jf JG}(hN:N.Nodup){i j:Jp}{x:JG}(a:N[i]?=ba x)(b:N[j]?=ba x):i=j:=by
 obtain⟨h1,e1⟩:=Ju.mp a;obtain⟨h2,e2⟩:=Ju.mp b;exact(M8 hN).mp (e1.trans e2.symm)
theorem u8 {M:Sx}{A:J1}{E:Jh->Jk->Prop}{i:Jp}{x:JG}{v:V}{u:Jh}{Q:Sy->Jk->Prop}(I:Inv X pins σ H s)(hN:X.N.Nodup)(hi:X.N[i]?=ba x)(hx:Aj X.env.scope x)(r:RelV v u)
  (h:∀s',Inv X pins (σ.set i (ba v)) H s'->(∃a,K9 a s.heap s'.heap/\(a=X.env.locals\/X.env.cells.lookup x=ba a))->Q () s') (hf:X.fn x=true\/X.env.scope.names.lookup x=ba .local):wpAny M A (storeName X.env x u) Q E s:=by
 obtain⟨m,hn,hl⟩:=id I.loc;have hcls:(X.env.scope.kind==.class||(X.env.scope.kind==.module&&X.env.locals != X.env.globals))=false:=by rw[I.ok.kind]; rfl
 have hiσ:i < σ.length:=by rw[I.len]; exact(Ju.mp hi).1
 have cne:=I.cne;have tracked:∀ {a:Jq} {h':Kg},(∃o,s.heap.get? a=ba o/\H a=gV)->K9 a s.heap h'->HOk X.prog X.w H h':=λ{a h'} ha hs b ob e=>by
  obtain⟨_,_,hfree⟩:=ha;refine(I.hok b ob e).stay (λc w' hc q=>(hs.2 c ?_).trans q) (λ_ q=>q) λ_ _ q=>q
  rintro rfl;rcases hc with rfl|hc
  ·rw[hfree]at e; cases e
  ·rw[hfree]at hc; cases hc
 rcases hx with hk|hk
 ·refine wpAny_storeName_local hk hn (λh' hn' hs=>?_) hcls
  obtain⟨oL,_,_,hoL,_⟩:=id hn;refine h _ ⟨I.ok,I.os,I.bare,⟨λb o e n hb hx=>?_,λb o e n hb hx=>?_,I.base.free,λb o e hx=>?_,I.base.tups,I.base.frzs,I.base.tbls⟩,⟨_,hn',λj y v' e1 e2 e3=>?_⟩,λy c e=>?_,I.free,I.freeC,λp hp=>?_,tracked ⟨oL,hoL,I.free⟩ hs,by simpa using I.len⟩ ⟨_,hs,.inl rfl⟩
  ·exact(hs.2 b (JM (JR (JE e) I.ok.above))).trans (I.base.keep b o e n hb hx)
  ·obtain⟨sl,e1⟩:=I.base.slot b o e n hb hx;exact⟨sl,(hs.2 b (JM (JR (JE e) I.ok.above))).trans e1⟩
  ·obtain⟨o',e1⟩:=I.base.there b o e hx;exact⟨o',(hs.2 b (JM (JR (JE e) I.ok.above))).trans e1⟩
  ·by_cases hj:j=i
   ·subst hj;rw[hi]at e1; cases e1
    rw[Of hiσ]at e2;cases e2;exact⟨u,r,.inl ⟨hk,by simp⟩⟩
   ·rw[OQ (Ne.symm hj)]at e2;obtain⟨u',r',q⟩:=hl j y v' e1 e2 e3;refine⟨u',r',?_⟩;rcases q with⟨k,e⟩|⟨k,c,e,z⟩
    ·refine .inl ⟨k,?_⟩;have:y≠x:=λe=>hj (qa hN e1 (e ▸ hi))
     simp[this,e]
    ·exact .inr ⟨k,c,e,z.sameBut hs (cne y c e)⟩
  ·obtain⟨w',z⟩:=I.cell y c e;exact⟨w',z.sameBut hs (cne y c e)⟩
  ·obtain⟨e,n,ne,nf,d⟩:=I.pin p hp;exact⟨(hs.2 p.1 ne).trans e,n,ne,nf,d⟩
 ·have hfn:X.fn x=true:=by
   rcases hf with z|z
   ·exact z
   ·rw[z]at hk; cases hk
  obtain⟨c,hc⟩:=I.ok.has x (.inl hk);obtain⟨w',z⟩:=I.cell x c hc;refine wpAny_storeName_cell I.ok.kind hk hc z (λh' hc' hs=>?_)
  obtain⟨oc,hoc,hocd⟩:=id z;refine h { s with heap:=h' } ⟨I.ok,I.os,I.bare,⟨λb o e n hb hx=>?_,λb o e n hb hx=>?_,I.base.free,λb o e hx=>?_,I.base.tups,I.base.frzs,I.base.tbls⟩,⟨m,hn.sameBut hs (Ne.symm (cne x c hc)),λj y v' e1 e2 e3=>?_⟩,λy c' e=>?_,I.free,I.freeC,λp hp=>?_,tracked ⟨oc,hoc,I.freeC x c hc⟩ hs,by simpa using I.len⟩ ⟨c,hs,.inr hc⟩
  ·exact(hs.2 b (JM (JR (JE e) (I.ok.cab x c hfn hc)))).trans (I.base.keep b o e n hb hx)
  ·obtain⟨sl,e1⟩:=I.base.slot b o e n hb hx;exact⟨sl,(hs.2 b (JM (JR (JE e) (I.ok.cab x c hfn hc)))).trans e1⟩
  ·obtain⟨o',e1⟩:=I.base.there b o e hx;exact⟨o',(hs.2 b (JM (JR (JE e) (I.ok.cab x c hfn hc)))).trans e1⟩
  ·by_cases hj:j=i
   ·subst hj;rw[hi]at e1; cases e1
    rw[Of hiσ]at e2;cases e2;exact⟨u,r,.inr ⟨.inl hk,c,hc,hc'⟩⟩
   ·rw[OQ (Ne.symm hj)]at e2;obtain⟨u',r',q⟩:=hl j y v' e1 e2 e3;refine⟨u',r',?_⟩;rcases q with q|⟨k,c',e,z'⟩
    ·exact .inl q
    ·refine .inr ⟨k,c',e,z'.sameBut hs ?_⟩;rintro rfl;exact hj (qa hN e1 (I.ok.inj _ _ _ e hc ▸ hi))
  ·by_cases hcc:c'=c
   ·subst hcc; exact⟨_,hc'⟩
   ·obtain⟨w2,z2⟩:=I.cell y c' e;exact⟨w2,z2.sameBut hs hcc⟩
  ·obtain⟨e,n,ne,nf,d⟩:=I.pin p hp;refine⟨(hs.2 p.1 ?_).trans e,n,ne,nf,d⟩;intro q;rw[q,hoc]at e;have q':oc=p.2:=Kz e;exact d w' (by rw[<- q']; exact hocd)
theorem iI {M:Sx}{A:J1}{E:Jh->Jk->Prop}{i:Jp}{x:JG}{v:V}{u:Jh}{Q:Sy->Jk->Prop}(I:Inv X pins σ H s)(hN:X.N.Nodup)(hi:X.N[i]?=ba x)(hx:Aj X.env.scope x)(r:RelV v u)
  (h:∀s',Inv X pins (σ.set i (ba v)) H s'->Q () s') (hf:X.fn x=true\/X.env.scope.names.lookup x=ba .local):wpAny M A (storeName X.env x u) Q E s:=
 u8 I hN hi hx r (λs' I' _=>h s' I') hf
theorem Inv.call' {s':Jk}{ch:Jf Jq}(I:Inv X pins σ H s)(ho:s'.os=s.os)(u:Un (sd X.stack) ch H H' s.heap s'.heap)(hok:HOk X.prog X.w H' s'.heap)(hg:NS s'.gens)
  (hch:∀b∈ch,(b∈X.ex\/X.s₀.heap.objs.size<=b)/\b≠X.env.locals/\(∀x c,X.env.cells.lookup x=ba c->c≠b)/\∀p∈X.pn++pins,p.1≠b):Inv X pins σ H' s':=by
 obtain⟨h',g',d',t',o'⟩:=s';have e:o'=s.os:=ho;subst e;exact I.call (g':=g') (t':=t') (d':=d') u hok hg hch
end
noncomputable abbrev XK:=Jh->Jn Jq->Hp->Prop
noncomputable abbrev St:=Jf (Jn V)
noncomputable abbrev VK:=V->Hp->Prop
noncomputable abbrev TE:=St->Hp->VK->Prop
noncomputable abbrev TT:=St->Hp->(JW->Hp->Prop)->Prop
noncomputable abbrev TA:=St->Hp->(Jf V->Hp->Prop)->Prop
set_option genInjectivity false in
structure Ends where
 nx:St->Hp->Prop
 rt:VK
 bk:St->Hp->Prop:=λ_ _=>KN
 ct:St->Hp->Prop:=λ_ _=>KN
noncomputable abbrev TS:=Ends->St->Hp->Prop
noncomputable def EP (X:Cx)(pins:Jf (Jq×K2))(σ:St)(Q:VK)(u:Jh)(s':Jk):Prop:=∃v H',Inv X pins σ H' s'/\RelV v u/\Q v H'
noncomputable def TP (X:Cx)(pins:Jf (Jq×K2))(σ:St)(Q:JW->Hp->Prop)(b:JW)(s':Jk):Prop:=∃H',Inv X pins σ H' s'/\Q b H'
noncomputable def AP (X:Cx)(pins:Jf (Jq×K2))(σ:St)(Q:Jf V->Hp->Prop)(us:Jf Jh)(s':Jk):Prop:=∃vs H',Inv X pins σ H' s'/\Vals vs us/\Q vs H'
noncomputable def SP (X:Cx)(pins:Jf (Jq×K2))(D:Ends)(f:Flow)(s':Jk):Prop:=
 match f with
 | .next=>∃σ' H',Inv X pins σ' H' s'/\D.nx σ' H'
 | .brk=>∃σ' H',Inv X pins σ' H' s'/\D.bk σ' H'
 | .cont=>∃σ' H',Inv X pins σ' H' s'/\D.ct σ' H'
 | .ret u=>∃v σ' H',Inv X pins σ' H' s'/\RelV v u/\D.rt v H'
noncomputable def PE (X:Cx)(e:JQ)(t:TE):Prop:=
 ∀(pins:Jf (Jq×K2)) (s:Jk) (σ:St) (H:Hp) (Q:VK),Inv X pins σ H s->t σ H Q->wpAny (model X.prog X.w) X.A (eval e X.env) (EP X pins σ Q) X.xe s
noncomputable def PT (X:Cx)(e:JQ)(t:TT):Prop:=
 ∀(pins:Jf (Jq×K2)) (s:Jk) (σ:St) (H:Hp) (Q:JW->Hp->Prop),Inv X pins σ H s->t σ H Q->wpAny (model X.prog X.w) X.A (isTrue e X.env (eval e X.env)) (TP X pins σ Q) X.xe s
noncomputable def PW (X:Cx)(e:JQ)(t:TT):Prop:=
 ∀(whole:RI Jh) (pins:Jf (Jq×K2)) (s:Jk) (σ:St) (H:Hp) (Q:JW->Hp->Prop),Inv X pins σ H s->t σ H Q->wpAny (model X.prog X.w) X.A (isTrue e X.env whole) (TP X pins σ Q) X.xe s
theorem PW.pt {X:Cx}{e:JQ}{t:TT}(h:PW X e t):PT X e t:=h _
noncomputable def PA (X:Cx)(es:Jf JQ)(t:TA):Prop:=
 ∀(pos:LK) (pins:Jf (Jq×K2)) (s:Jk) (σ:St) (H:Hp) (Q:Jf V->Hp->Prop),Inv X pins σ H s->t σ H Q->wpAny (model X.prog X.w) X.A (spliced (backTo pos (starEach es X.env))) (AP X pins σ Q) X.xe s
noncomputable def PS (X:Cx)(st:L0)(t:TS):Prop:=
 ∀(pins:Jf (Jq×K2)) (s:Jk) (σ:St) (H:Hp) (D:Ends),Inv X pins σ H s->t D σ H->wpAny (model X.prog X.w) X.A (exec st X.env) (SP X pins D) X.xe s
noncomputable def PSs (X:Cx)(st:Jf L0)(t:TS):Prop:=
 ∀(pins:Jf (Jq×K2)) (s:Jk) (σ:St) (H:Hp) (D:Ends),Inv X pins σ H s->t D σ H->wpAny (model X.prog X.w) X.A (execs st X.env) (SP X pins D) X.xe s
theorem b8 {α:Type}{t:RI α}{Q Q':α->Jk->Prop}{M:Sx}{A:J1}{E:Jh->Jk->Prop}{s:Jk}(h:wpAny M A t Q E s)(hQ:∀a s,Q a s->Q' a s):wpAny M A t Q' E s:=Lc h hQ λ_ _ x=>x
section
variable{X:Cx}
noncomputable def C3 (i:Jp):TE:=λσ H Q=>∃v,σ[i]?=ba (ba v)/\Q v H
noncomputable def tC (v:V):TE:=λ_ H Q=>Q v H
theorem wL {i:Jp}{x:JG}{pos:LK}(hN:X.N[i]?=ba x)(hv:G3 X.env.scope x)(hd:(x==("__debug__" : JG))=false:=by decide)(hcd:(x==("__classdict__" : JG))=false:=by decide):PE X (.Name x pos) (C3 i):=by
 intro pins s σ H Q I h;obtain⟨v,e,h⟩:=h;obtain⟨m,hn,hl⟩:=I.loc;obtain⟨u,r,l⟩:=hl i x v hN e hv;have fin:EP X pins σ Q u s:=⟨v,H,I,r,h⟩;rcases l with⟨hk,hm⟩|⟨hk,c,hc,hcell⟩
 ·exact QJ (wpAny_loadName_local I.ok.kind hk hn hm fin) hd
 ·rcases hk with hk|hk
  ·exact QJ (wpAny_loadName_cell I.ok.kind hk hc hcell fin) hd
  ·exact QJ (wpAny_loadName_free I.ok.kind hk hc hcell fin hcd) hd
theorem wM {i j pos}:PE X (.Constant (.int i) j pos) (tC (.int i)):=λ_ _ _ H _ I h=>wpAny_Constant_int ⟨.int i,H,I.tok _,⟨_,rfl⟩,h⟩
theorem Cr {b j pos}:PE X (.Constant (.bool b) j pos) (tC (.bl b)):=λ_ _ _ H _ I h=>Constant_bool ⟨.bl b,H,I,rfl,h⟩
theorem wQ {j pos}:PE X (.Constant .none j pos) (tC .non):=λ_ _ _ H _ I h=>Constant_none ⟨.non,H,I,rfl,h⟩
theorem wR {x j pos}:PE X (.Constant (.str x) j pos) (tC (.str x)):=λ_ _ _ H _ I h=>Pk ⟨.str x,H,I.tok _,⟨_,rfl⟩,h⟩
noncomputable def Gl (X:Cx)(x:JG):Prop:=X.env.kindOf x=ba .globalImplicit
theorem tF {E:Jh->Jk->Prop}{pins:Jf (Jq×K2)}{s:Jk}{σ:St}{H:Hp}{x:JG}{u:Jh}{pos:LK}{Q:Jh->Jk->Prop}(I:Inv X pins σ H s)(hg:Gl X x)(hm:X.mg x=ba u)(h:Q u s)
  (hd:(x==("__debug__" : JG))=false:=by decide):wpAny (model X.prog X.w) X.A (eval (.Name x pos) X.env) Q E s:=
 Nu I.ok.kind hg (Calls.loadGlobal_global (by rw[I.ok.glob]; exact I.mod.glob.keeps I.bk) hm h) hd
theorem jm {E:Jh->Jk->Prop}{pins:Jf (Jq×K2)}{s:Jk}{σ:St}{H:Hp}{x:JG}{u:Jh}{pos:LK}{Q:Jh->Jk->Prop}(I:Inv X pins σ H s)(hg:Gl X x)(hm:X.mg x=gV)(hv:bootBuiltins x=ba u)(h:Q u s)
  (hn:x≠"__name__":=by decide) (hd:(x==("__debug__" : JG))=false:=by decide):wpAny (model X.prog X.w) X.A (eval (.Name x pos) X.env) Q E s:=by
 obtain⟨mb,h1,h2⟩:=I.mod.blt;exact Nu I.ok.kind hg (Calls.loadGlobal_builtin (by rw[I.ok.glob]; exact I.mod.glob.keeps I.bk) hm (by rw[I.ok.blt]; exact h1.keeps I.bk) ((h2 x hn).trans hv) h) hd
theorem Ak {x:JG}{v:V}{u:Jh}{pos:LK}(hg:Gl X x)(hm:X.mg x=gV)(hv:bootBuiltins x=ba u)(r:RelV v u)(hn:x≠"__name__":=by decide)(hd:(x==("__debug__" : JG))=false:=by decide):PE X (.Name x pos) (tC v):=
 λ_ _ _ H _ I h=>jm I hg hm hv ⟨v,H,I,r,h⟩ hn hd
variable{a b:JQ}{ta tb:TE}{pos:LK}
variable{tA tB':TT}{cb:Jf JQ}
noncomputable def Fa (t u:TT):TT:=λσ H Q=>t σ H λc H1=>if c=true then u σ H1 Q else Q false H1
noncomputable def II (t u:TT):TT:=λσ H Q=>t σ H λc H1=>if c=true then Q true H1 else u σ H1 Q
noncomputable def Hg (t:TT):TT:=λσ H Q=>t σ H λc H1=>Q (!c) H1
theorem Al (ha:PT X a tA):PW X (.BoolOp .And [a] pos) tA:=by
 intro wh pins s σ H Q I h;refine isTrue_and (b8 (ha pins s σ H Q I h) λc s1 e=>?_)
 cases c with
 | true=>exact isTrue_and_nil e
 | false=>exact e
theorem C4 (ha:PT X a tA):PW X (.BoolOp .Or [a] pos) tA:=by
 intro wh pins s σ H Q I h;refine isTrue_or (b8 (ha pins s σ H Q I h) λc s1 e=>?_)
 cases c with
 | false=>exact isTrue_or_nil e
 | true=>exact e
theorem C5 (ha:PT X a tA)(hb:PW X (.BoolOp .And (b::cb) pos) tB'):PW X (.BoolOp .And (a::b::cb) pos) (Fa tA tB'):=by
 intro wh pins s σ H Q I h;refine isTrue_and (b8 (ha pins s σ H _ I h) λc s1 ⟨H1,I1,q1⟩=>?_)
 cases c with
 | true=>exact hb wh pins s1 σ H1 Q I1 q1
 | false=>exact⟨H1,I1,q1⟩
theorem Fb (ha:PT X a tA)(hb:PW X (.BoolOp .Or (b::cb) pos) tB'):PW X (.BoolOp .Or (a::b::cb) pos) (II tA tB'):=by
 intro wh pins s σ H Q I h;refine isTrue_or (b8 (ha pins s σ H _ I h) λc s1 ⟨H1,I1,q1⟩=>?_)
 cases c with
 | true=>exact⟨H1,I1,q1⟩
 | false=>exact hb wh pins s1 σ H1 Q I1 q1
theorem C6 (ha:PT X a tA):PT X (.UnaryOp .Not a pos) (Hg tA):=by
 intro pins s σ H Q I h;exact isTrue_not (ha pins s σ H (λc H1=>Q (!c) H1) I h)
noncomputable def Fc (ta tb:TE):TE:=λσ H Q=>ta σ H λx H1=>∃c,x=.bl c/\if c=true then tb σ H1 Q else Q (.bl false) H1
noncomputable def Hh (ta tb:TE):TE:=λσ H Q=>ta σ H λx H1=>∃c,x=.bl c/\if c=true then Q (.bl true) H1 else tb σ H1 Q
noncomputable def Fd (ta:TE):TE:=λσ H Q=>ta σ H λx H1=>∃c,x=.bl c/\Q (.bl (!c)) H1
theorem C7 {op}{t:TE}(h:PE X a t):PE X (.BoolOp op [a] pos) t:=λpins s σ H Q I hw=>BoolOp_one (h pins s σ H Q I hw)
theorem C8 (ha:PE X a ta)(hb:PE X (.BoolOp .And (b::cb) pos) tb):PE X (.BoolOp .And (a::b::cb) pos) (Fc ta tb):=by
 intro pins s σ H Q I h;refine BoolOp_and (b8 (ha pins s σ H _ I h) λv s1 ⟨x,H1,I1,r1,q1⟩=>?_)
 obtain⟨c,rfl,q1⟩:=q1;cases r1;refine Ly ?_;cases c with
 | true=>exact hb pins s1 σ H1 Q I1 q1
 | false=>exact⟨.bl false,H1,I1,rfl,q1⟩
theorem Fe (ha:PE X a ta)(hb:PE X (.BoolOp .Or (b::cb) pos) tb):PE X (.BoolOp .Or (a::b::cb) pos) (Hh ta tb):=by
 intro pins s σ H Q I h;refine BoolOp_or (b8 (ha pins s σ H _ I h) λv s1 ⟨x,H1,I1,r1,q1⟩=>?_)
 obtain⟨c,rfl,q1⟩:=q1;cases r1;refine Ly ?_;cases c with
 | false=>exact hb pins s1 σ H1 Q I1 q1
 | true=>exact⟨.bl true,H1,I1,rfl,q1⟩
theorem C9 (ha:PE X a ta):PE X (.UnaryOp .Not a pos) (Fd ta):=by
 intro pins s σ H Q I h;refine UnaryOp_ (b8 (ha pins s σ H _ I h) λv s1 ⟨x,H1,I1,r1,q1⟩=>?_)
 obtain⟨c,rfl,q1⟩:=q1;cases r1;exact not_of (Ly ⟨.bl (!c),H1,I1,rfl,q1⟩)
noncomputable def IS (t:TT)(ta tb:TE):TE:=λσ H Q=>t σ H λc H1=>if c=true then ta σ H1 Q else tb σ H1 Q
theorem wW {c:JQ}(hc:PT X c tA)(ha:PE X a ta)(hb:PE X b tb):PE X (.IfExp c a b pos) (IS tA ta tb):=by
 intro pins s σ H Q I h;refine wpAny_IfExp (b8 (hc pins s σ H _ I h) λd s1 ⟨H1,I1,q1⟩=>?_)
 cases d with
 | true=>exact ha pins s1 σ H1 Q I1 q1
 | false=>exact hb pins s1 σ H1 Q I1 q1
end
noncomputable def SqL (K:Jv)(H:Hp)(a:Jq)(xs:Jf V):Prop:=
 Rd H a (.lst xs)\/
  ∃(o:K2) (its:JV Jh) (n:Jp),K.lookup a=ba o/\o.cls=.type "list"/\o.dict=gV/\o.data=.seq its n/\its.size<=sizeLine/\Vals xs its.toList
noncomputable def SqT (K:Jv)(H:Hp)(a:Jq)(xs:Jf V):Prop:=
 Rd H a (.tup xs)\/
  ∃(o:K2) (its:JV Jh) (n:Jp),K.lookup a=ba o/\o.cls=.type "tuple"/\o.data=.seq its n/\its.size<=sizeLine/\Vals xs its.toList
noncomputable def Hi:Jh->Jn V
 | .none=>ba .non
 | .bool b=>ba (.bl b)
 | .int i _=>ba (.int i)
 | .str x _=>ba (.str x)
 | .bytes b _=>ba (.byt b)
 | .float b _=>ba (.flt b)
 | .ref a=>ba (.ref a)
 | .type n=>ba (.ty n)
 | _=>gV
theorem RelV.abs {x:V}{u:Jh}(r:RelV x u):Hi u=ba x:=by
 cases x with
 | non=>cases r; rfl
 | bl _=>cases r; rfl
 | int _=>obtain⟨t,rfl⟩:=r; rfl
 | str _=>obtain⟨t,rfl⟩:=r; rfl
 | byt _=>obtain⟨t,rfl⟩:=r; rfl
 | flt _=>obtain⟨t,rfl⟩:=r; rfl
 | ref _=>cases r; rfl
 | ty _=>cases r; rfl
theorem RelV.inj {x y:V}{u:Jh}(r:RelV x u)(q:RelV y u):x=y:=Kz (r.abs.symm.trans q.abs)
theorem Vals.inj:∀ {xs ys:Jf V} {us:Jf Jh},Vals xs us->Vals ys us->xs=ys
 | _,_,_,.nil,.nil=>rfl
 | _,_,_,.cons r t,.cons r' t'=>by rw[r.inj r',Vals.inj t t']
section
variable{X:Cx}{pins:Jf (Jq×K2)}{σ:St}{H:Hp}{s:Jk}{a:Jq}{xs ys:Jf V}
theorem SqL.of {K:Jv}(h:H a=ba (.lst xs)):SqL K H a xs:=.inl (.inl h)
theorem SqT.of {K:Jv}(h:H a=ba (.tup xs)):SqT K H a xs:=.inl (.inl h)
theorem Inv.list (I:Inv X pins σ H s)(h:SqL X.K H a xs):∃its:Jf Jh,Vals xs its/\PlainL s.heap a its.toArray/\xs.length<=sizeLine:=by
 rcases h with h|⟨o,its,n,hk,hc,hd,hs,hz,r⟩
 ·obtain⟨z,its,n,r,e⟩:=h.ok I.hok;exact⟨its,r,⟨_,n,e,rfl,rfl,rfl⟩,z⟩
 ·refine⟨its.toList,r,⟨o,n,I.kIn a o hk,hc,hd,by simpa using hs⟩,?_⟩
  have e:=r.length;simp only[JB]at e;omega
theorem Inv.tuple (I:Inv X pins σ H s)(h:SqT X.K H a xs):∃its:Jf Jh,Vals xs its/\PB s.heap a its.toArray/\xs.length<=sizeLine:=by
 rcases h with h|⟨o,its,n,hk,hc,hs,hz,r⟩
 ·obtain⟨z,its,r,p⟩:=h.ok I.hok;exact⟨its,r,p,z⟩
 ·refine⟨its.toList,r,⟨o,I.kIn a o hk,hc,n,by simpa using hs⟩,?_⟩
  have e:=r.length;simp only[JB]at e;omega
theorem Inv.list_inj (I:Inv X pins σ H s)(h:SqL X.K H a xs)(h':SqL X.K H a ys):xs=ys:=by
 obtain⟨its,r,⟨o,n,e,_,_,d⟩,_⟩:=I.list h;obtain⟨its',r',⟨o',n',e',_,_,d'⟩,_⟩:=I.list h';rw[e]at e'; cases e'
 rw[d]at d';injection d' with d1 _
 have:its=its':=by simpa using congrArg Rw d1
 subst this;exact r.inj r'
theorem Inv.tuple_inj (I:Inv X pins σ H s)(h:SqT X.K H a xs)(h':SqT X.K H a ys):xs=ys:=by
 obtain⟨its,r,⟨o,e,_,n,d⟩,_⟩:=I.tuple h;obtain⟨its',r',⟨o',e',_,n',d'⟩,_⟩:=I.tuple h';rw[e]at e'; cases e'
 rw[d]at d';injection d' with d1 _
 have:its=its':=by simpa using congrArg Rw d1
 subst this;exact r.inj r'
end
noncomputable abbrev Cx.wish (X:Cx)(E:Jh->Jk->Prop):Cx:={ X with xe:=E }
noncomputable abbrev Cx.nox (X:Cx):Cx:=X.wish λ_ _=>KN
theorem Cx.Ok.wish {X:Cx}(ok:X.Ok)(E:Jh->Jk->Prop):(X.wish E).Ok:=
 ⟨ok.mod,ok.kind,ok.glob,ok.blt,ok.above,ok.inj,ok.has,ok.cab,ok.hd,ok.frames,ok.stk,ok.exf,ok.bs,ok.bsz,ok.noex,ok.exfs,ok.funs,ok.frf⟩
theorem Cx.Ok.unwish {X:Cx}{E:Jh->Jk->Prop}(ok:(X.wish E).Ok):X.Ok:=
 ⟨ok.mod,ok.kind,ok.glob,ok.blt,ok.above,ok.inj,ok.has,ok.cab,ok.hd,ok.frames,ok.stk,ok.exf,ok.bs,ok.bsz,ok.noex,ok.exfs,ok.funs,ok.frf⟩
section
variable{X:Cx}{pins:Jf (Jq×K2)}{σ:St}{H:Hp}{s:Jk}{E:Jh->Jk->Prop}
theorem Inv.wish (I:Inv X pins σ H s)(E:Jh->Jk->Prop):Inv (X.wish E) pins σ H s:=⟨I.ok.wish E,I.os,I.bare,I.base,I.loc,I.cell,I.free,I.freeC,I.pin,I.hok,I.len⟩
theorem Inv.unwish (I:Inv (X.wish E) pins σ H s):Inv X pins σ H s:=⟨I.ok.unwish,I.os,I.bare,I.base,I.loc,I.cell,I.free,I.freeC,I.pin,I.hok,I.len⟩
theorem SP.unwish {D:Ends}{f:Flow}{s':Jk}(h:SP (X.wish E) pins D f s'):SP X pins D f s':=by
 cases f with
 | next=>obtain⟨σ',H',I,q⟩:=h; exact⟨σ',H',I.unwish,q⟩
 | brk=>obtain⟨σ',H',I,q⟩:=h; exact⟨σ',H',I.unwish,q⟩
 | cont=>obtain⟨σ',H',I,q⟩:=h; exact⟨σ',H',I.unwish,q⟩
 | ret u=>obtain⟨v,σ',H',I,r,q⟩:=h; exact⟨v,σ',H',I.unwish,r,q⟩
theorem PSs.nox {st:Jf L0}{t:TS}(h:PSs X.nox st t):PSs X st t:=λpins s σ H D I hw=>
 Lc (h pins s σ H D (I.wish _) hw) (λ_ _ q=>q.unwish) λ_ _ z=>KN.elim z
end
section
variable{X:Cx}{st:L0}{cb:Jf L0}{t u:TS}{e:JQ}{te:TE}{pos:LK}
noncomputable def wX:TS:=λD σ H=>D.nx σ H
noncomputable def Hj (t u:TS):TS:=λD σ H=>t { D with nx:=u D } σ H
theorem Am:PSs X [] wX:=λ_ _ σ H _ I h=>Os ⟨σ,H,I,h⟩
theorem wY (h1:PS X st t)(h2:PSs X cb u):PSs X (st::cb) (Hj t u):=by
 intro pins s σ H D I h;refine wpAny_execs_cons (b8 (h1 pins s σ H { D with nx:=u D } I h) λf s1 q=>?_)
 cases f with
 | next=>
  obtain⟨σ',H',I',q⟩:=q;exact h2 pins s1 σ' H' D I' q
 | ret v=>exact q
 | brk=>exact q
 | cont=>exact q
noncomputable def Da:TS:=λD σ H=>D.bk σ H
noncomputable def Ff:TS:=λD σ H=>D.ct σ H
theorem An:PS X (.Pass pos) wX:=λ_ _ σ H _ I h=>wpAny_Pass ⟨σ,H,I,h⟩
theorem w6:PS X (.Break pos) Da:=λ_ _ σ H _ I h=>wpAny_Break ⟨σ,H,I,h⟩
theorem qb:PS X (.Continue pos) Ff:=λ_ _ σ H _ I h=>wpAny_Continue ⟨σ,H,I,h⟩
theorem Inv.quiet {pins:Jf (Jq×K2)}{σ:St}{H:Hp}{s:Jk}(I:Inv X pins σ H s):interactive X.env=false:=by simp[interactive,I.ok.kind]
theorem Db {x j pos pos'}:PS X (.Expr (.Constant (.str x) j pos) pos') wX:=λ_ s σ H _ I h=>wpAny_Expr (Pk (show SP X _ _ .next { s with toks:=s.toks+1 } from⟨σ,H,I.tok _,h⟩)) I.quiet
noncomputable def Fg (te:TE):TS:=λD σ H=>te σ H λ_ H1=>D.nx σ H1
theorem Ao (he:PE X e te)(hs:swapsWith e gV pos.line X.env=pure false:=by rfl):PS X (.Expr e pos) (Fg te):=by
 intro pins s σ H D I h;exact wpAny_Expr_any (b8 (he pins s σ H _ I h) λv s1 ⟨x,H1,I1,r1,q1⟩=>⟨σ,H1,I1,q1⟩) I.quiet hs
noncomputable def Hk (te:TE):TS:=λD σ H=>te σ H D.rt
theorem Dc (he:PE X e te):PS X (.Return (ba e) pos) (Hk te):=by
 intro pins s σ H D I h;exact wpAny_Return_some (b8 (he pins s σ H _ I h) λv s1 ⟨x,H1,I1,r1,q1⟩=>⟨x,σ,H1,I1,r1,q1⟩)
noncomputable def Fh:TS:=λD _ H=>D.rt .non H
theorem Ap:PS X (.Return gV pos) Fh:=λ_ _ σ H _ I h=>wpAny_Return_none ⟨.non,σ,H,I,rfl,h⟩
noncomputable def Hl (c:TT)(t u:TS):TS:=λD σ H=>c σ H λb H1=>if b=true then t D σ H1 else u D σ H1
theorem Fi {c:JQ}{a b:Jf L0}{tc:TT}(hc:PT X c tc)(ha:PSs X a t)(hb:PSs X b u):PS X (.If c a b pos) (Hl tc t u):=by
 intro pins s σ H D I h;refine wpAny_If (b8 (hc pins s σ H _ I h) λd s1 ⟨H1,I1,q1⟩=>?_)
 cases d with
 | true=>exact ha pins s1 σ H1 D I1 q1
 | false=>exact hb pins s1 σ H1 D I1 q1
end
noncomputable abbrev TG:=V->St->Hp->(St->Hp->Prop)->Prop
noncomputable abbrev De:=Jf V->St->Hp->(St->Hp->Prop)->Prop
noncomputable def PG (X:Cx)(target:JQ)(t:TG):Prop:=
 ∀(pins:Jf (Jq×K2)) (s:Jk) (σ:St) (H:Hp) (v:V) (u:Jh) (Q:St->Hp->Prop),Inv X pins σ H s->RelV v u->t v σ H Q->
  wpAny (model X.prog X.w) X.A (assign target X.env u) (λ_ s'=>∃σ' H',Inv X pins σ' H' s'/\Q σ' H') X.xe s
noncomputable def Fj (X:Cx)(ts:Jf JQ)(t:De):Prop:=
 ∀(pins:Jf (Jq×K2)) (s:Jk) (σ:St) (H:Hp) (vs:Jf V) (us:Jf Jh) (Q:St->Hp->Prop),Inv X pins σ H s->Vals vs us->t vs σ H Q->
  wpAny (model X.prog X.w) X.A (assignInOrder ((assignEach ts X.env).map (·.2)) us) (λ_ s'=>∃σ' H',Inv X pins σ' H' s'/\Q σ' H') X.xe s
noncomputable abbrev Dg:=V->V->V->Hp->(Hp->Prop)->Prop
noncomputable def Dh (X:Cx)(t:Dg):Prop:=
 ∀(pins:Jf (Jq×K2)) (s:Jk) (σ:St) (H:Hp) (o i v:V) (ov iv u:Jh) (Q:Hp->Prop),Inv X pins σ H s->RelV o ov->RelV i iv->RelV v u->t o i v H Q->
  wpAny (model X.prog X.w) X.A (setItem ov iv u) (λ_ s'=>∃H',Inv X pins σ H' s'/\Q H') X.xe s
section
variable{X:Cx}{pos:LK}
noncomputable def Fk (i:Jp):TG:=λv σ H Q=>Q (σ.set i (ba v)) H
theorem tH {i:Jp}{x:JG}(hN:X.N.Nodup)(hi:X.N[i]?=ba x)(hx:Aj X.env.scope x)(hf:X.fn x=true\/X.env.scope.names.lookup x=ba .local):PG X (.Name x pos) (Fk i):=by
 intro pins s σ H v u Q I r h;exact PD (iI I hN hi hx r (λs' I'=>⟨_,H,I',h⟩) hf)
noncomputable def Hm:De:=λvs σ H Q=>vs=[]/\Q σ H
noncomputable def Fn (t:TG)(u:De):De:=λvs σ H Q=>∃v r,vs=v::r/\t v σ H λσ' H'=>u r σ' H' Q
theorem Aq:Fj X [] Hm:=by
 intro pins s σ H vs us Q I r h;obtain⟨e,h⟩:=h;subst e;cases r;exact PF ⟨σ,H,I,h⟩
theorem w8 {e:JQ}{es:Jf JQ}{t:TG}{u:De}(h1:PG X e t)(h2:Fj X es u)
  (hs:(assignEach (e::es) X.env).map (·.2)=assign e X.env::(assignEach es X.env).map (·.2):=by rfl):Fj X (e::es) (Fn t u):=by
 intro pins s σ H vs us Q I r h;obtain⟨v,vr,e1,h⟩:=h;subst e1;cases r with
 | cons r rr=>
  rw[hs];refine Nv (b8 (h1 pins s σ H _ _ _ I r h) λ_ s1 ⟨σ1,H1,I1,q1⟩=>?_)
  exact h2 pins s1 σ1 H1 _ _ Q I1 rr q1
noncomputable def Hn (K:Jv)(n:Jp)(t:De):TG:=λv σ H Q=>∃a xs,v=.ref a/\SqT K H a xs/\xs.length=n/\t xs σ H Q
theorem Di {es:Jf JQ}{k:Jp}{t:De}{n:Jp}(hc:X.calm=true)(h:Fj X es t)
  (hn:(assignEach es X.env).length=n:=by rfl) (hst:(assignEach es X.env).findIdx? (·.1)=gV:=by rfl):PG X (.Tuple es k pos) (Hn X.K n t):=by
 intro pins s σ H v u Q I r hw;obtain⟨a,xs,e1,hq,hl,hw⟩:=hw;subst e1;cases r;obtain⟨its,rv,ht,hz⟩:=I.tuple hq;refine assign_Tuple_tuple (I.ok.hd hc) ht (by simp[hn,<- hl,rv.length]) hst λh' hx=>?_
 have I1:Inv X pins σ H { s with heap:=h' }:=I.kept (t':=s.toks) λb o e=>hx b o (JM (JE e)) e
 exact h pins _ σ H xs _ Q I1 (by simpa using rv) hw
noncomputable def Ho (to ti:TE)(t:Dg):TG:=λv σ H Q=>to σ H λo H1=>ti σ H1 λi H2=>t o i v H2 λH3=>Q σ H3
theorem Dj {o i:JQ}{to ti:TE}{t:Dg}(ho:PE X o to)(hi:PE X i ti)(hs:Dh X t)
  (ha:∀v,assign (.Subscript o i pos) X.env v=(do
   let ov <- holding [v] (eval o X.env)
   let iv <- holding [v,ov] (eval i X.env)
   standAt pos
   holding [v,ov,iv] (setItem ov iv v)
   release [v,ov,iv] []):=by intro _; rfl):PG X (.Subscript o i pos) (Ho to ti t):=by
 intro pins s σ H v u Q I r h;rw[ha];refine Jg (Ku (b8 (ho pins s σ H _ I h) λov s1 ⟨x,H1,I1,r1,q1⟩=>?_))
 refine Jg (Ku (b8 (hi pins s1 σ H1 _ I1 q1) λiv s2 ⟨y,H2,I2,r2,q2⟩=>?_))
 refine Jg (Nc (Jg (Ku (b8 (hs pins s2 σ H2 x y v ov iv u _ I2 r1 r2 r q2) λ_ s3 ⟨H3,I3,q3⟩=>?_))))
 exact wpAny_release ⟨σ,H3,I3,q3⟩
noncomputable def Hq (te:TE)(g:TG):TS:=λD σ H=>te σ H λx H1=>g x σ H1 D.nx
theorem Dk {tg e:JQ}{te:TE}{g:TG}(he:PE X e te)(hg:PG X tg g)(hs:swapsWithSole [tg] e pos.line X.env=pure false:=by rfl)(hw:swappedStores [tg] e X.env=pure gV:=by rfl)
  (h1:(assignEach [tg] X.env).map (·.2)=[assign tg X.env]:=by rfl):PS X (.Assign [tg] e pos) (Hq te g):=by
 intro pins s σ H D I h;refine wpAny_Assign_stores (b8 (he pins s σ H _ I h) λv s1 ⟨x,H1,I1,r1,q1⟩=>?_) hs hw
 rw[h1];exact b8 (hg pins s1 σ H1 x v _ I1 r1 q1) λ_ s2 q=>q
noncomputable def Hr (i j:Jp)(ta:TA):TS:=λD σ H=>ta σ H λvs H1=>∃v w,vs=[v,w]/\D.nx ((σ.set i (ba v)).set j (ba w)) H1
theorem Dl {i j:Jp}{x y:JG}{a b:JQ}{ta:TA}{px py pt:LK}{kt k2 pt2}(hc:X.calm=true)(hN:X.N.Nodup)(hi:X.N[i]?=ba x)(hj:X.N[j]?=ba y)(hij:i≠j)
  (hx:X.env.scope.names.lookup x=ba .local) (hy:X.env.scope.names.lookup y=ba .local) (ha:PA X [a,b] ta)
  (hw:swappedStores [.Tuple [.Name x px,.Name y py] kt pt] (.Tuple [a,b] k2 pt2) X.env=pure (ba [x,y]))
  (hs:swapsWithSole [.Tuple [.Name x px,.Name y py] kt pt] (.Tuple [a,b] k2 pt2) pos.line X.env=pure false:=by rfl) :
  PS X (.Assign [.Tuple [.Name x px,.Name y py] kt pt] (.Tuple [a,b] k2 pt2) pos) (Hr i j ta):=by
 intro pins s σ H D I h;rw[exec_Assign_arm];refine Jg (Nc ?_);rw[hs];refine Jg (Jm ?_);rw[JX (by decide)]
 refine Jg (Tuple_ (b8 (ha _ pins s σ H _ I h) λus s1 ⟨vs,H1,I1,r1,q1⟩=>?_))
 obtain⟨v,w,e1,q1⟩:=q1;subst e1;obtain⟨u1,u2,rfl,rv,rw'⟩ : ∃u1 u2,us=[u1,u2]/\RelV v u1/\RelV w u2:=by
  cases r1 with
  | cons p q=>
   cases q with
   | cons p' q'=>
    cases q';exact⟨_,_,rfl,p,p'⟩
 refine J7 ?_ (by show 2<=sizeLine; decide)
 have I2:Inv X pins σ H1 { s1 with heap:=s1.heap.push { cls:=.type "tuple",data:=.seq [u1,u2].toArray } }:=I1.kept (t':=s1.toks) λb o e=>Jj _ e
 rw[hw];refine Jg (Jm ?_);show wpAny (model X.prog X.w) X.A (do rule "assign.swapped-stores"; let items <- unpackItems (.ref s1.heap.objs.size) 2 gV; assignInOrder [λv=>bindName X.env y v,λv=>bindName X.env x v] items.reverse; pure Sj) _ _ _
 refine Jg (Og (Jg (unpackItems_tuple (items:=[u1,u2].toArray) (I.ok.hd hc) (Qd s1.heap _) λh' hx'=>?_)))
 have I3:=I2.kept (h':=h') (t':=s1.toks) λb o e=>hx' b o (JM (JE e)) e
 show wpAny _ _ (assignInOrder [λv=>bindName X.env y v,λv=>bindName X.env x v] [u2,u1] >>= λ_=>pure Sj) _ _ _
 refine Jg (Nv (QK (iI I3 hN hj (.inl hy) rw' (λs2 I4=>?_) (.inr hy))))
 refine Nv (QK (iI I4 hN hi (.inl hx) rv (λs3 I5=>PF (Jm ?_)) (.inr hx)))
 rw[List.set_comm _ _ (Ne.symm hij)]at I5;exact⟨_,H1,I5,q1⟩
end
section
variable{X:Cx}{pos:LK}
noncomputable def Dm (c:TT)(tb:TS):TS:=λD σ H=>∃W:Jp->St->Hp->Prop,(∃m,W m σ H)/\∀m σ H,W m σ H->
 c σ H λb H1=>if b=true then ∃N:St->Hp->Prop,(∀σ' H',N σ' H'->∃m',m' < m/\W m' σ' H')/\tb { D with nx:=N,ct:=N,bk:=D.nx } σ H1 else D.nx σ H1
theorem w9 {c:JQ}{body:Jf L0}{tc:TT}{tb:TS}(hp:O4 (model X.prog X.w) X.A X.env X.xe)(hc:PT X c tc)(hb:PSs X body tb):PS X (.While c body [] pos) (Dm tc tb):=by
 intro pins s σ H D I h;obtain⟨W,⟨m0,w0⟩,turn⟩:=h;refine wpAny_While (codeAny_whileLoop (λn s'=>∃σ' H',Inv X pins σ' H' s'/\W n σ' H') ?_ m0 ⟨σ,H,I,w0⟩)
 rintro n s1 ⟨σ1,H1,I1,w1⟩;refine LR hp (b8 (hc pins s1 σ1 H1 _ I1 (turn n σ1 H1 w1)) λb s2 ⟨H2,I2,q2⟩=>?_)
 cases b with
 | true=>
  obtain⟨N,hN,q2⟩:=q2;rw[JN rfl];refine LR hp (b8 (hb pins s2 σ1 H2 _ I2 q2) λf s3 q3=>?_)
  cases f with
  | next=>
   obtain⟨σ3,H3,I3,n3⟩:=q3;obtain⟨m',hm,w3⟩:=hN σ3 H3 n3;exact⟨m',hm,σ3,H3,I3,w3⟩
  | cont=>
   obtain⟨σ3,H3,I3,n3⟩:=q3;obtain⟨m',hm,w3⟩:=hN σ3 H3 n3;exact⟨m',hm,σ3,H3,I3,w3⟩
  | brk=>exact q3
  | ret v=>exact q3
 | false=>
  rw[JX JU];exact Os ⟨σ1,H2,I2,q2⟩
end
set_option genInjectivity false in
structure It where
 go:Jp->Hp->Prop
 yld:Jp->Hp->V->Hp->Prop
 stop:Jp->Hp->Prop
noncomputable def jn (X:Cx)(pins:Jf (Jq×K2))(H:Hp)(b:Jq):Prop:=
 H b=gV/\b≠X.env.locals/\b∉X.fs/\(b∈X.ex\/X.s₀.heap.objs.size<=b)/\(∀x c,X.env.cells.lookup x=ba c->c≠b)/\∀p∈X.pn++pins,p.1≠b
theorem Inv.fpOk {X:Cx}{pins:Jf (Jq×K2)}{σ:St}{H H':Hp}{s:Jk}{b:Jq}(I:Inv X pins σ H s)(hb:s.heap.objs.size<=b)(hn:H' b=gV):jn X pins H' b:=by
 refine⟨hn,J2 (JR I.lt hb),I.nofs hb,.inr (JF I.sz hb),λx c e z=>?_,λp hp z=>?_⟩
 ·obtain⟨v,q⟩:=I.cell x c e;exact absurd (JR q.lt (by rw[z]; exact hb)) (KT _)
 ·exact absurd (JR (JE (I.pin p hp).1) (by rw[z]; exact hb)) (KT _)
structure Turn (P:JY)(w:J6)(K:Jv)(tg:JQ)(J:It)(fp:Jf Jq)(it:Jq)(tn:Jp->Kg->Prop):Prop where
 mem:it∈fp
 obj:∀i h,tn i h->∀b∈fp,∃o,h.get? b=ba o/\∀v,o.data≠.cell v
 keep:∀i h h',tn i h->(∀b∈fp,∀o,h.get? b=ba o->h'.get? b=ba o)->tn i h'
 item:∀(X:Cx),X.prog=P->X.w=w->X.K=K->X.calm=true->∀(i:Jp) (pins:Jf (Jq×K2)) (s:Jk) (σ:St) (H:Hp) (E:Jh->Jk->Prop),Inv X pins σ H s->(∀b∈fp,jn X pins H b)->tn i s.heap->J.go i H->
  wpAny (model P w) X.A (pyNext (.ref it)) (λr s1=>∃u,r=ba u/\
   wpAny (model P w) X.A (letOwnedTupleGo tg (.ref it) u) (λ_ s2=>∃x H',Inv X pins σ H' s2/\RelV x u/\J.yld i H x H'/\tn (i+1) s2.heap/\∀b∈fp,H' b=gV) E s1) E s
 done:∀(X:Cx),X.prog=P->X.w=w->X.K=K->X.calm=true->∀(i:Jp) (pins:Jf (Jq×K2)) (s:Jk) (σ:St) (H:Hp) (E:Jh->Jk->Prop),Inv X pins σ H s->(∀b∈fp,jn X pins H b)->tn i s.heap->J.stop i H->
  wpAny (model P w) X.A (pyNext (.ref it)) (λr s1=>r=gV/\Inv X pins σ H s1) E s
 self:∀(A:J1) (i:Jp) (s:Jk) (Q:Jh->Jk->Prop) (E:Jh->Jk->Prop),tn i s.heap->Q (.ref it) s->wpAny (model P w) A (pyIter (.ref it)) Q E s
noncomputable abbrev TI:=St->Hp->(It->Hp->Prop)->Prop
noncomputable def G4 (X:Cx)(pins:Jf (Jq×K2))(σ:St)(tg:JQ)(R:It->Hp->Prop)(itv:Jh)(s2:Jk):Prop:=
 ∃(it:Jq) (fp:Jf Jq) (tn:Jp->Kg->Prop) (J:It) (H':Hp),itv=.ref it/\Inv X pins σ H' s2/\Turn X.prog X.w X.K tg J fp it tn/\tn 0 s2.heap/\(∀b∈fp,jn X pins H' b)/\R J H'
noncomputable def PI (X:Cx)(tg iter:JQ)(wi:TI):Prop:=
 ∀(pins:Jf (Jq×K2)) (s:Jk) (σ:St) (H:Hp) (R:It->Hp->Prop),Inv X pins σ H s->wi σ H R->
  wpAny (model X.prog X.w) X.A (eval iter X.env) (λv s1=>wpAny (model X.prog X.w) X.A (pyIter v) (G4 X pins σ tg R) X.xe s1) X.xe s
theorem tJ {M:Sx}{A:J1}{E:Jh->Jk->Prop}{s:Jk}{tg:JQ}{it:Jq}{u:Jh}{o:K2}{n:KQ}{vs:JV Jh}{Q:Sy->Jk->Prop}(ho:s.heap.get? it=ba o)(hc:o.cls=.type n)(hd:o.data=.fields vs)
    (hn:["enumerate","zip","dict_itemiterator","dict_reverseitemiterator","odict_iterator","itertools.zip_longest","itertools.pairwise"].contains n=false) (hQ:Q () s):wpAny M A (letOwnedTupleGo tg (.ref it) u) Q E s:=by
  unfold letOwnedTupleGo;cases tg <;> first
    | exact Jm hQ
    | (cases u <;> first
        | exact Jm hQ
        | (refine Jg (Oh ho ?_)
           rw[hc,hd];show wpAny M A (if (["enumerate","zip","dict_itemiterator","dict_reverseitemiterator","odict_iterator","itertools.zip_longest","itertools.pairwise"].contains n&&vs[0]?==ba (rawInt _))=true then _ else _) Q E s
           rw[JX (by intro h; rw[hn,Bool.false_and]at h; cases h)]
           exact Jm hQ))
noncomputable def Hs (K:Jv)(a:Jq):It:=
 ⟨λi H=>∃xs x,SqL K H a xs/\xs[i]?=ba x,λi H x H'=>H'=H/\∀xs,SqL K H a xs->xs[i]?=ba x,λi H=>∃xs,SqL K H a xs/\xs.length<=i⟩
noncomputable def E1 (K:Jv)(a:Jq):It:=
 ⟨λi H=>∃xs x,SqT K H a xs/\xs[i]?=ba x,λi H x H'=>H'=H/\∀xs,SqT K H a xs->xs[i]?=ba x,λi H=>∃xs,SqT K H a xs/\xs.length<=i⟩
noncomputable def Fo (lo:Jy)(n:Jp):It:=⟨λi _=>i < n,λi H x H'=>H'=H/\x=.int (lo+i),λi _=>n<=i⟩
theorem u9 {P:JY}{w:J6}{K:Jv}{tg:JQ}(a it:Jq):Turn P w K tg (Hs K a) [it] it (λi h=>h.IsListIter it a i) where
 mem:=by simp
 obj:=λi h st b hb=>by
  have e:b=it:=by simpa using hb
  subst e;obtain⟨o,e,c,d⟩:=st;exact⟨o,e,λv z=>by rw[d]at z; cases z⟩
 keep:=λi h h' st k=>st.at λo e=>k it (by simp) o e
 item:=by
  intro X hP hw hK hc i pins s σ H E I hf st hg;subst hP hw hK;obtain⟨xs,x,hq,hx⟩:=hg;obtain⟨its,rv,p,hz⟩:=I.list hq;obtain⟨u,hu,ru⟩:=rv.get hx;obtain⟨f0,f1,f2,f3,f4,f5⟩:=hf it (by simp)
  refine wpAny_pyNext_list_item st p.isList (x:=u) (by simpa using hu) λh' st' sb=>?_
  have I1:Inv X pins σ H { s with heap:=h' }:=I.turned (t':=s.toks) (λb o hb e=>(sb.2 b hb).trans e) f0 f1 f3 f4 f5
  obtain⟨o,e,c,d⟩:=id st';exact⟨u,rfl,tJ (s:={ s with heap:=h' }) e c d (by decide) ⟨x,H,I1,ru,⟨rfl,λys hy=>by rw[I.list_inj hy hq]; exact hx⟩,st',λb hb=>(hf b hb).1⟩⟩
 done:=by
  intro X hP hw hK hc i pins s σ H E I hf st hg;subst hP hw hK;obtain⟨xs,hq,hx⟩:=hg;obtain⟨its,rv,p,hz⟩:=I.list hq;obtain⟨f0,f1,f2,f3,f4,f5⟩:=hf it (by simp)
  have hl:=rv.length;exact wpAny_pyNext_list_end (I.ok.hd hc) st p.isList (by simp; omega) λh' eb=>⟨rfl,I.turned (t':=s.toks) (λb o hb e=>eb b o hb e) f0 f1 f3 f4 f5⟩
 self:=λ_ _ _ _ _ st h=>wpAny_pyIter_listiter st h
theorem sf {P:JY}{w:J6}{K:Jv}{tg:JQ}(a it:Jq):Turn P w K tg (E1 K a) [it] it (λi h=>h.IsTupleIter it a i) where
 mem:=by simp
 obj:=λi h st b hb=>by
  have e:b=it:=by simpa using hb
  subst e;obtain⟨o,e,c,d⟩:=st;exact⟨o,e,λv z=>by rw[d]at z; cases z⟩
 keep:=λi h h' st k=>st.at λo e=>k it (by simp) o e
 item:=by
  intro X hP hw hK hc i pins s σ H E I hf st hg;subst hP hw hK;obtain⟨xs,x,hq,hx⟩:=hg;obtain⟨its,rv,p,hz⟩:=I.tuple hq;obtain⟨u,hu,ru⟩:=rv.get hx;obtain⟨f0,f1,f2,f3,f4,f5⟩:=hf it (by simp)
  refine wpAny_pyNext_tuple_item st (show s.heap.IsTuple a its.toArray from p) (x:=u) (by simpa using hu) λh' st' sb=>?_
  have I1:Inv X pins σ H { s with heap:=h' }:=I.turned (t':=s.toks) (λb o hb e=>(sb.2 b hb).trans e) f0 f1 f3 f4 f5
  obtain⟨o,e,c,d⟩:=id st';exact⟨u,rfl,tJ (s:={ s with heap:=h' }) e c d (by decide) ⟨x,H,I1,ru,⟨rfl,λys hy=>by rw[I.tuple_inj hy hq]; exact hx⟩,st',λb hb=>(hf b hb).1⟩⟩
 done:=by
  intro X hP hw hK hc i pins s σ H E I hf st hg;subst hP hw hK;obtain⟨xs,hq,hx⟩:=hg;obtain⟨its,rv,p,hz⟩:=I.tuple hq;obtain⟨f0,f1,f2,f3,f4,f5⟩:=hf it (by simp)
  have hl:=rv.length;exact wpAny_pyNext_tuple_end (I.ok.hd hc) st (show s.heap.IsTuple a its.toArray from p) (by simp; omega) λh' eb=>⟨rfl,I.turned (t':=s.toks) (λb o hb e=>eb b o hb e) f0 f1 f3 f4 f5⟩
 self:=λ_ _ _ _ _ st h=>wpAny_pyIter_tupleiter st h
theorem sg {P:JY}{w:J6}{K:Jv}{tg:JQ}(it:Jq)(lo:Jy)(n:Jp):Turn P w K tg (Fo lo n) [it] it (λi h=>RJ h it (lo+(i:Jp)*1) ((n:Jy) - (i:Jp)) 1) where
 mem:=by simp
 obj:=λi h st b hb=>by
  have e:b=it:=by simpa using hb
  subst e;exact⟨_,st,λv z=>by
   have z':Data.fields _=Data.cell v:=z;cases z'⟩
 keep:=λi h h' st k=>k it (by simp) _ st
 item:=by
  intro X hP hw hK hc i pins s σ H E I hf st hg;subst hP hw hK;obtain⟨f0,f1,f2,f3,f4,f5⟩:=hf it (by simp)
  have W:=Walks.range (prog:=X.prog) (w:=X.w) (I.ok.hd hc) it lo 1 n;refine W.item i s _ _ hg st λv h' tk hv st' kk=>?_
  obtain⟨t,rfl⟩:=hv;have I1:Inv X pins σ H { s with heap:=h',toks:=tk }:=I.turned (λb o hb e=>kk b o (by simpa using hb) e) f0 f1 f3 f4 f5
  refine⟨_,rfl,tJ (s:={ s with heap:=h',toks:=tk }) (n:="range_iterator") st' rfl rfl (by decide) ⟨.int (lo+i),H,I1,⟨t,?_⟩,⟨rfl,rfl⟩,st',λb hb=>(hf b hb).1⟩⟩
  rw[Int.mul_one]
 done:=by
  intro X hP hw hK hc i pins s σ H E I hf st hg;subst hP hw hK;obtain⟨f0,f1,f2,f3,f4,f5⟩:=hf it (by simp)
  exact wpAny_pyNext_range_end (I.ok.hd hc) st (by have:n<=i:=hg; omega) λh' eb=>⟨rfl,I.turned (t':=s.toks) (λb o hb e=>eb b o hb e) f0 f1 f3 f4 f5⟩
 self:=λ_ _ _ _ _ st h=>wpAny_pyIter_rangeiter st h
section
variable{X:Cx}{tg:JQ}
theorem qc {pins:Jf (Jq×K2)}{σ:St}{H:Hp}{s:Jk}{R:It->Hp->Prop}{E:Jh->Jk->Prop}{lo hi:Jy}{t u v:SI}{tk:Jp}(I:Inv X pins σ H s)(h1 : -(2 ^ 62)<=lo)(h2:lo < 2 ^ 62)(h3 : -(2 ^ 62)<=hi)(h4:hi < 2 ^ 62)
  (q:R (Fo lo (hi - lo).toNat) H):wpAny (model X.prog X.w) X.A (pyIter (.ref s.heap.objs.size)) (G4 X pins σ tg R) E { s with heap:=s.heap.push { cls:=.type "range",data:=.fields [.int lo t,.int hi u,.int 1 v].toArray },toks:=tk }:=by
 refine wpAny_pyIter_range (IsRange.new ..) (Rt h1 h2 h3 h4) ?_;have I1:Inv X pins σ H { s with heap:=s.heap.push { cls:=.type "range",data:=.fields [.int lo t,.int hi u,.int 1 v].toArray },toks:=tk }:=I.kept λb o e=>Jj _ e
 refine⟨(s.heap.push { cls:=.type "range",data:=.fields [.int lo t,.int hi u,.int 1 v].toArray }).objs.size,[(s.heap.push { cls:=.type "range",data:=.fields [.int lo t,.int hi u,.int 1 v].toArray }).objs.size],_,_,H,rfl,
  I1.kept (t':=tk) λb o e=>Jj _ e,sg _ lo (hi - lo).toNat,?_,λb hb=>?_,q⟩
 ·have e1:lo+((0:Jp):Jy)*1=lo:=by simp
  have e2:(((hi - lo).toNat:Jp):Jy) - ((0:Jp):Jy)=Ld lo hi 1:=by rw[Pc]; split <;> omega
  show RJ _ _ (lo+((0:Jp):Jy)*1) ((((hi - lo).toNat:Jp):Jy) - ((0:Jp):Jy)) 1;rw[e1,e2];exact JA _ rfl
 ·have e:b=(s.heap.push { cls:=.type "range",data:=.fields [.int lo t,.int hi u,.int 1 v].toArray }).objs.size:=by simpa using hb
  subst e;exact I1.fpOk (Js _) (I1.hok.fresh (Js _))
noncomputable def Fp (ta:TA):TI:=λσ H R=>ta σ H λvs H1=>∃j:Jy,vs=[.int j]/\-(2 ^ 62)<=j/\j < 2 ^ 62/\R (Fo 0 j.toNat) H1
noncomputable def iRng2 (ta:TA):TI:=λσ H R=>ta σ H λvs H1=>∃i j:Jy,vs=[.int i,.int j]/\(-(2 ^ 62)<=i/\i < 2 ^ 62/\-(2 ^ 62)<=j/\j < 2 ^ 62)/\R (Fo i (j - i).toNat) H1
theorem vc {a:JQ}{ta:TA}{p pos:LK}(hg:Gl X "range")(hm:X.mg "range" = gV)(ha:PA X [a] ta)(hs:starEach [a] X.env=[(false,eval a X.env)]:=by rfl):PI X tg (.Call (.Name "range" p) [a] [] pos) (Fp ta):=by
 intro pins s σ H R I h;refine Call_ (jm I hg hm boot_range (LH (b8 (ha pos pins s σ H _ I h) λus s1 ⟨vs,H1,I1,r1,q1⟩=>?_) hs rfl))
 obtain⟨j,e,q1,q2,q⟩:=q1;subst e;cases r1 with
 | cons r rr=>
  cases rr;obtain⟨t,rfl⟩:=r;exact Rx (qc I1 (by omega) (by omega) q1 q2 (by simpa using q))
theorem vd {a b:JQ}{ta:TA}{p pos:LK}(hg:Gl X "range")(hm:X.mg "range" = gV)(ha:PA X [a,b] ta)(hs:starEach [a,b] X.env=[(false,eval a X.env),(false,eval b X.env)]:=by rfl)(hs2:starEach [b] X.env=[(false,eval b X.env)]:=by rfl) :
  PI X tg (.Call (.Name "range" p) [a,b] [] pos) (iRng2 ta):=by
 intro pins s σ H R I h;refine Call_ (jm I hg hm boot_range (LH (b8 (ha pos pins s σ H _ I h) λus s1 ⟨vs,H1,I1,r1,q1⟩=>?_) (by rw[hs,hs2]) (by rw[hs2]; rfl)))
 obtain⟨i,j,e,⟨q1,q2,q3,q4⟩,q⟩:=q1;subst e;cases r1 with
 | cons r rr=>
  cases rr with
  | cons r' rr=>
   cases rr;obtain⟨t,rfl⟩:=r;obtain⟨t',rfl⟩:=r';exact call_range_2 (qc I1 q1 q2 q3 q4 q)
noncomputable def Ht (wi:TI)(g:TG)(tb:TS):TS:=λD σ H=>wi σ H λJ H1=>∃W:Jp->Jp->St->Hp->Prop,(∃m,W 0 m σ H1)/\∀i m σ H,W i m σ H->
 (J.stop i H/\D.nx σ H)\/(J.go i H/\∃N:St->Hp->Prop,(∀σ' H',N σ' H'->∃m',m' < m/\W (i+1) m' σ' H')/\∀x H',J.yld i H x H'->g x σ H' λσ2 H2=>tb { D with nx:=N,ct:=N,bk:=D.nx } σ2 H2)
noncomputable def jo (fp:Jf Jq)(h:Kg):Jf (Jq×K2):=fp.filterMap λb=>(h.get? b).map λo=>(b,o)
theorem fJ {fp:Jf Jq}{h:Kg}{b:Jq}{o:K2}(hb:b∈fp)(e:h.get? b=ba o):(b,o)∈jo fp h:=Nw.mpr ⟨b,hb,by rw[e]; rfl⟩
theorem ve {fp:Jf Jq}{h:Kg}{p:Jq×K2}(hp:p∈jo fp h):p.1∈fp/\h.get? p.1=ba p.2:=by
 obtain⟨b,hb,e⟩:=Nw.mp hp;cases q:h.get? b with
 | none=>rw[q]at e; cases e
 | some o=>
  rw[q]at e;have e':(b,o)=p:=Kz e;subst e';exact⟨hb,q⟩
theorem Inv.pinned {pins:Jf (Jq×K2)}{σ:St}{H:Hp}{s:Jk}{fp:Jf Jq}(I:Inv X pins σ H s)(hf:∀b∈fp,jn X pins H b)(ho:∀b∈fp,∃o,s.heap.get? b=ba o/\∀v,o.data≠.cell v):Inv X (pins++jo fp s.heap) σ H s:=
 I.pins_of λp hp=>(J9.mp hp).elim (λz=>I.pin p (J0 _ z)) λz=>by
  obtain⟨hb,e⟩:=ve z;obtain⟨f0,f1,f2,_⟩:=hf p.1 hb;obtain⟨o,e',d⟩:=ho p.1 hb;rw[e]at e'; cases e'
  exact⟨e,f0,f1,f2,d⟩
theorem Inv.unpinned {pins pl:Jf (Jq×K2)}{σ:St}{H:Hp}{s:Jk}(I:Inv X (pins++pl) σ H s):Inv X pins σ H s:=I.pins_of λp hp=>I.pin p (J0 _ (LV _ hp))
theorem Do {iter:JQ}{body:Jf L0}{wi:TI}{g:TG}{tb:TS}{pos:LK}(hp:O4 (model X.prog X.w) X.A X.env X.xe)(hc:X.calm=true)(hi:PI X tg iter wi)(hg:PG X tg g)(hb:PSs X body tb)
  (hs:∀x,foldedSetIterable iter X.env x=pure x:=by intro _; rfl):PS X (.For tg iter body [] pos) (Ht wi g tb):=by
 intro pins s σ H D I h;refine wpAny_For (b8 (hi pins s σ H _ I h) λv s1 h1=>b8 h1 λitv s2 h2=>?_) hs
 obtain⟨it,fp,tn,J,H2,e,I2,T,aZ,f2,W,⟨m0,w0⟩,turn⟩:=h2;subst e;have stat:∀ {H':Hp},(∀b∈fp,H' b=gV)->∀b∈fp,jn X pins H' b:=λhn b hb=>⟨hn b hb,(f2 b hb).2⟩
 refine codeAny_forLoop_any (λn s'=>∃i σ' H',Inv X pins σ' H' s'/\tn i s'.heap/\(∀b∈fp,H' b=gV)/\W i n σ' H') ?_ m0 ⟨0,σ,H2,I2,aZ,λb hb=>(f2 b hb).1,w0⟩
 rintro n s3 ⟨i,σ3,H3,I3,st3,fr3,w3⟩;rcases turn i n σ3 H3 w3 with⟨stop,qn⟩|⟨go,N,hN,step⟩
 ·refine LR hp (b8 (T.done X rfl rfl rfl hc i pins s3 σ3 H3 X.xe I3 (stat fr3) st3 stop) λr s4 ⟨hr,I4⟩=>?_)
  subst hr;exact Os ⟨σ3,H3,I4,qn⟩
 ·refine LR hp (b8 (T.item X rfl rfl rfl hc i pins s3 σ3 H3 X.xe I3 (stat fr3) st3 go) λr s4 ⟨u,hr,h4⟩=>?_)
  subst hr;refine LR hp (b8 h4 λ_ s5 ⟨x,H5,I5,r5,y5,st5,fr5⟩=>?_)
  have I5':=I5.pinned (stat fr5) (T.obj _ _ st5);refine LR hp (b8 (hg _ s5 σ3 H5 x u _ I5' r5 (step x H5 y5)) λ_ s6 ⟨σ6,H6,I6,q6⟩=>?_)
  refine LR hp (b8 (hb _ s6 σ6 H6 _ I6 q6) λf s7 q7=>?_)
  have again:∀ {σ7:St} {H7:Hp},Inv X (pins++jo fp s5.heap) σ7 H7 s7->N σ7 H7->∃m,m < n/\∃i σ' H',Inv X pins σ' H' s7/\tn i s7.heap/\(∀b∈fp,H' b=gV)/\W i m σ' H':=λ{σ7 H7} I7 n7=>by
   obtain⟨m',hm,w7⟩:=hN σ7 H7 n7;refine⟨m',hm,i+1,σ7,H7,I7.unpinned,T.keep _ _ _ st5 λb hb o e=>(I7.pin (b,o) (J0 _ (J0 _ (fJ hb e)))).1,λb hb=>?_,w7⟩
   obtain⟨o,e,d⟩:=T.obj _ _ st5 b hb;exact(I7.pin (b,o) (J0 _ (J0 _ (fJ hb e)))).2.1
  cases f with
  | next=>obtain⟨σ7,H7,I7,n7⟩:=q7; exact again I7 n7
  | cont=>obtain⟨σ7,H7,I7,n7⟩:=q7; exact again I7 n7
  | brk=>obtain⟨σ7,H7,I7,q7⟩:=q7; exact⟨σ7,H7,I7.unpinned,q7⟩
  | ret v=>obtain⟨x7,σ7,H7,I7,r7,q7⟩:=q7; exact⟨x7,σ7,H7,I7.unpinned,r7,q7⟩
end
noncomputable abbrev R2:=V->V->Hp->VK->Prop
noncomputable def OpR (X:Cx)(f:Jh->Jh->RI Jh)(r:R2):Prop:=
 ∀(pins:Jf (Jq×K2)) (s:Jk) (σ:St) (H:Hp) (x y:V) (v u:Jh) (Q:VK),Inv X pins σ H s->RelV x v->RelV y u->r x y H Q->
  wpAny (model X.prog X.w) X.A (f v u) (EP X pins σ Q) X.xe s
noncomputable def Hu (X:Cx)(f:Jh->RI Jh)(r:V->Hp->VK->Prop):Prop:=
 ∀(pins:Jf (Jq×K2)) (s:Jk) (σ:St) (H:Hp) (x:V) (v:Jh) (Q:VK),Inv X pins σ H s->RelV x v->r x H Q->
  wpAny (model X.prog X.w) X.A (f v) (EP X pins σ Q) X.xe s
noncomputable def CallR (X:Cx)(f:Jh)(r:Jf V->Hp->VK->Prop):Prop:=
 ∀(pins:Jf (Jq×K2)) (s:Jk) (σ:St) (H:Hp) (xs:Jf V) (us:Jf Jh) (Q:VK),Inv X pins σ H s->Vals xs us->r xs H Q->
  wpAny (model X.prog X.w) X.A (call f us) (EP X pins σ Q) X.xe s
noncomputable def Hv (X:Cx)(r:V->Hp->(JW->Hp->Prop)->Prop):Prop:=
 ∀(pins:Jf (Jq×K2)) (s:Jk) (σ:St) (H:Hp) (x:V) (v:Jh) (Q:JW->Hp->Prop),Inv X pins σ H s->RelV x v->r x H Q->
  wpAny (model X.prog X.w) X.A (truthy v) (TP X pins σ Q) X.xe s
noncomputable def G5 (r:R2)(ta tb:TE):TE:=λσ H Q=>ta σ H λx H1=>tb σ H1 λy H2=>r x y H2 Q
noncomputable def IT (r:V->Hp->VK->Prop)(ta:TE):TE:=λσ H Q=>ta σ H λx H1=>r x H1 Q
noncomputable def rI (C:Jy->Jy->Prop)(g:Jy->Jy->V):R2:=λx y H Q=>∃i j,x=.int i/\y=.int j/\C i j/\Q (g i j) H
noncomputable def Cs (g:Jy->Jy->V):R2:=λx y H Q=>∃i j,x=.int i/\y=.int j/\Q (g i j) H
noncomputable def rU (g:Jy->V):V->Hp->VK->Prop:=λx H Q=>∃i,x=.int i/\Q (g i) H
section
variable{X:Cx}{a b c:JQ}{ta tb tc:TE}{pos:LK}
theorem Dp (ha:PE X a ta)(hb:PE X b tb){pins:Jf (Jq×K2)}{s:Jk}{σ:St}{H:Hp}{R:V->V->Hp->Prop}(I:Inv X pins σ H s)
  (h:ta σ H λx H1=>tb σ H1 λy H2=>R x y H2) {Q:Jh->Jk->Prop} {f:Jh->Jh->RI Jh}
  (hf:∀v u s2 x y H2,Inv X pins σ H2 s2->RelV x v->RelV y u->R x y H2->wpAny (model X.prog X.w) X.A (f v u) Q X.xe s2) :
  wpAny (model X.prog X.w) X.A (eval a X.env) (λv s₁=>wpAny (model X.prog X.w) X.A (eval b X.env) (λu s₂=>wpAny (model X.prog X.w) X.A (f v u) Q X.xe s₂) X.xe s₁) X.xe s:=by
 refine b8 (ha pins s σ H _ I h) λv s1 ⟨x,H1,I1,r1,q1⟩=>?_
 refine b8 (hb pins s1 σ H1 _ I1 q1) λu s2 ⟨y,H2,I2,r2,q2⟩=>?_
 exact hf v u s2 x y H2 I2 r1 r2 q2
theorem Fq {op:PH}{r:R2}(ho:OpR X (binaryOp op) r)(ha:PE X a ta)(hb:PE X b tb):PE X (.BinOp a op b pos) (G5 r ta tb):=by
 intro pins s σ H Q I h;exact wpAny_BinOp (Dp ha hb I h λv u s2 x y H2 I2 rx ry q=>ho pins s2 σ H2 x y v u Q I2 rx ry q)
theorem Fs {op:UnaryOp}{r:V->Hp->VK->Prop}(ho:Hu X (unaryOp op) r)(ha:PE X a ta):PE X (.UnaryOp op a pos) (IT r ta):=by
 intro pins s σ H Q I h;exact UnaryOp_ (b8 (ha pins s σ H _ I h) λv s1 ⟨x,H1,I1,r1,q1⟩=>ho pins s1 σ H1 x v Q I1 r1 q1)
theorem G6 {f:Jh->Jh->RI Jh}{C:Jy->Jy->Prop}{g:Jy->Jy->Jy}
  (rule:∀(i j:Jy) (t u:SI) (s:Jk) (Q:Jh->Jk->Prop) (E:Jh->Jk->Prop),C i j->Q (.int (g i j) s.toks) { s with toks:=s.toks+1 }->wpAny (model X.prog X.w) X.A (f (.int i t) (.int j u)) Q E s) :
  OpR X f (rI C λi j=>.int (g i j)):=by
 intro pins s σ H x y v u Q I rx ry h;obtain⟨i,j,rfl,rfl,hc,q⟩:=h;obtain⟨t,rfl⟩:=rx;obtain⟨t',rfl⟩:=ry;exact rule i j t t' s _ _ hc ⟨.int (g i j),H,I.tok _,⟨_,rfl⟩,q⟩
theorem Ft {f:Jh->Jh->RI Jh}{g:Jy->Jy->Jy}
  (rule:∀(i j:Jy) (t u:SI) (s:Jk) (Q:Jh->Jk->Prop) (E:Jh->Jk->Prop),Q (.int (g i j) s.toks) { s with toks:=s.toks+1 }->wpAny (model X.prog X.w) X.A (f (.int i t) (.int j u)) Q E s) :
  OpR X f (Cs λi j=>.int (g i j)):=by
 intro pins s σ H x y v u Q I rx ry h;obtain⟨i,j,rfl,rfl,q⟩:=h;obtain⟨t,rfl⟩:=rx;obtain⟨t',rfl⟩:=ry;exact rule i j t t' s _ _ ⟨.int (g i j),H,I.tok _,⟨_,rfl⟩,q⟩
theorem Ar {f:Jh->Jh->RI Jh}{g:Jy->Jy->JW}
  (rule:∀(i j:Jy) (t u:SI) (s:Jk) (Q:Jh->Jk->Prop) (E:Jh->Jk->Prop),Q (.bool (g i j)) s->wpAny (model X.prog X.w) X.A (f (.int i t) (.int j u)) Q E s) :
  OpR X f (Cs λi j=>.bl (g i j)):=by
 intro pins s σ H x y v u Q I rx ry h;obtain⟨i,j,rfl,rfl,q⟩:=h;obtain⟨t,rfl⟩:=rx;obtain⟨t',rfl⟩:=ry;exact rule i j t t' s _ _ ⟨.bl (g i j),H,I,rfl,q⟩
noncomputable def Hw (i j:Jy):Prop:=0 < j/\j < 1073741824
noncomputable def Hx (i j:Jy):Prop:=0<=j/\j<=1000000/\i.natAbs < 2 ^ 64
noncomputable def CMul (i j:Jy):Prop:=(-(2 ^ 64) < i/\i < 2 ^ 64)\/(-(2 ^ 64) < j/\j < 2 ^ 64)
theorem CMul.ok {i j:Jy}(h:CMul i j):IntMulOk i j:=by
 rcases h with⟨h1,h2⟩|⟨h1,h2⟩
 ·exact .of_left (Re h1 h2)
 ·exact .of_right (Re h1 h2)
theorem Dq:OpR X (binaryOp .Add) (Cs λi j=>.int (i+j)):=Ft λ_ _ _ _ _ _ _ q=>add_int q
theorem Dr:OpR X (binaryOp .Sub) (Cs λi j=>.int (i - j)):=Ft λ_ _ _ _ _ _ _ q=>sub_int q
theorem Ds:OpR X (binaryOp .Mult) (rI CMul λi j=>.int (i*j)):=G6 λ_ _ _ _ _ _ _ hc q=>mul_int q hc.ok
theorem As:OpR X (binaryOp .FloorDiv) (rI Hw λi j=>.int (i / j)):=G6 λi j _ _ _ _ _ hc q=>by
 have h1:(0:Jy) < j:=hc.1;have h2:j < 1073741824:=hc.2;exact floordiv_int (by omega) (by rw[Int.fdiv_eq_ediv_of_nonneg i (by omega)]; exact q) (.inl (PyProof.noPylong_small (by omega)))
theorem Dt:OpR X (binaryOp .Mod) (rI (λ_ j=>0 < j) λi j=>.int (i % j)):=G6 λi j _ _ _ _ _ hc q=>by
 have h1:(0:Jy) < j:=hc;exact mod_int' (by omega) (by rw[Int.fmod_eq_emod_of_nonneg i (by omega)]; exact q)
theorem Du:OpR X (binaryOp .Pow) (rI Hx λi j=>.int (i ^ j.toNat)):=G6 λ_ _ _ _ _ _ _ hc q=>pow_int_small hc.1 hc.2.1 hc.2.2 q
theorem IU {f:Jh->RI Jh}{g:Jy->Jy}
  (rule:∀(i:Jy) (t:SI) (s:Jk) (Q:Jh->Jk->Prop) (E:Jh->Jk->Prop),Q (.int (g i) s.toks) { s with toks:=s.toks+1 }->wpAny (model X.prog X.w) X.A (f (.int i t)) Q E s) :
  Hu X f (rU λi=>.int (g i)):=by
 intro pins s σ H x v Q I rx h;obtain⟨i,rfl,q⟩:=h;obtain⟨t,rfl⟩:=rx;exact rule i t s _ _ ⟨.int (g i),H,I.tok _,⟨_,rfl⟩,q⟩
theorem Dv:Hu X (unaryOp .USub) (rU λi=>.int (-i)):=IU λ_ _ _ _ _ q=>neg_int q
end
section
variable{X:Cx}{a b c:JQ}{ta tb tc:TE}{pos:LK}
theorem xf {pins:Jf (Jq×K2)}{σ:St}{H:Hp}{s:Jk}{Q:VK}{k k':JW}(I:Inv X pins σ H s)(q:Q (.bl k) H)(e:k=k'):EP X pins σ Q (.bool k') s:=by
 subst e;exact⟨.bl k,H,I,rfl,q⟩
theorem Fu:OpR X (compareOp .Lt) (Cs λi j=>.bl (decide (i < j))):=Ar λ_ _ _ _ _ _ _ q=>lt_int q
theorem Fv:OpR X (compareOp .LtE) (Cs λi j=>.bl (decide (i<=j))):=Ar λ_ _ _ _ _ _ _ q=>le_int q
theorem Fw:OpR X (compareOp .Gt) (Cs λi j=>.bl (decide (j < i))):=Ar λ_ _ _ _ _ _ _ q=>gt_int q
theorem Fx:OpR X (compareOp .GtE) (Cs λi j=>.bl (decide (j<=i))):=Ar λ_ _ _ _ _ _ _ q=>ge_int q
theorem Dw:OpR X (compareOp .Is) (λx y H Q=>y=.non/\Q (.bl (decide (x=.non))) H):=by
 intro pins s σ H x y v u Q I rx ry h;obtain⟨rfl,q⟩:=h;cases ry;refine is_none_gen (xf I q ?_);cases x <;> first
  | (cases rx; rfl)
  | (obtain⟨t,rfl⟩:=rx; rfl)
theorem At:OpR X (compareOp .IsNot) (λx y H Q=>y=.non/\Q (.bl (!decide (x=.non))) H):=by
 intro pins s σ H x y v u Q I rx ry h;obtain⟨rfl,q⟩:=h;cases ry;refine isnot_none_gen (xf I q ?_);cases x <;> first
  | (cases rx; rfl)
  | (obtain⟨t,rfl⟩:=rx; rfl)
theorem Au {op:Ru}{r:R2}(ho:OpR X (compareOp op) r)(ha:PE X a ta)(hb:PE X b tb)(hm:behindInMarks op b=false):PE X (.Compare a [op] [b] pos) (G5 r ta tb):=by
 intro pins s σ H Q I h;exact wpAny_Compare1 (Dp ha hb I h λv u s2 x y H2 I2 rx ry q=>ho pins s2 σ H2 x y v u Q I2 rx ry q) hm
noncomputable def Fy (t:TE):TT:=λσ H Q=>t σ H λx H'=>∃k,x=.bl k/\Q k H'
theorem Av {op:Ru}{r:R2}(ho:OpR X (compareOp op) r)(ha:PE X a ta)(hb:PE X b tb)(hm:behindInMarks op b=false):PT X (.Compare a [op] [b] pos) (Fy (G5 r ta tb)):=by
 intro pins s σ H Q I h;refine wpAny_isTrue_Compare1 (b8 (ha pins s σ H _ I h) λv s1 ⟨x,H1,I1,r1,q1⟩=>b8 (hb pins s1 σ H1 _ I1 q1) λu s2 ⟨y,H2,I2,r2,q2⟩=>
  b8 (ho pins s2 σ H2 x y v u _ I2 r1 r2 q2) λc s3 ⟨z,H3,I3,r3,k,e,q3⟩=>?_) hm
 subst e;cases r3;exact Ly ⟨H3,I3,q3⟩
noncomputable def Hy (K:Jv)(x:V)(H:Hp)(k:JW):Prop:=
 match x with
 | .non=>k=false
 | .bl b=>k=b
 | .int i=>k=(i != 0)
 | .str y=>y.length<=sizeLine/\k=((y.length:Jy) != 0)
 | .byt y=>y.size<=sizeLine/\k=((y.size:Jy) != 0)
 | .ref p=>(∃xs,SqL K H p xs/\k = !xs.isEmpty)\/(∃xs,SqT K H p xs/\k = !xs.isEmpty)\/∃kvs,H p=ba (.dK kvs)/\k = !kvs.isEmpty
 | _=>KN
theorem sh {κ:Type}{kvs:Jf (κ×V)}{vs:Jf (κ×Jh)}(r:KV kvs vs):(!vs.isEmpty) = !kvs.isEmpty:=by
 cases r <;> rfl
theorem lg {xs:Jf V}{its:Jf Jh}(r:Vals xs its):(!its.toArray.isEmpty) = !xs.isEmpty:=by
 cases r <;> simp
theorem jp:(sizeLine:Jp) < 2 ^ 63:=by rw[Ki]; decide
theorem Dx:Hv X (λx H Q=>∃k,Hy X.K x H k/\Q k H):=by
 intro pins s σ H x v Q I rx h;obtain⟨k,e,q⟩:=h;have hl:=jp;have hs:sizeLine=16777216:=Ki;cases x with
 | non=>
  cases rx;have e':k=false:=e;subst e';exact truthy_none ⟨H,I,q⟩
 | bl b=>
  cases rx;have e':k=b:=e;subst e';exact Ly ⟨H,I,q⟩
 | int i=>
  obtain⟨t,rfl⟩:=rx;have e':k=(i != 0):=e;subst e';exact PySem.P.truthy_int ⟨H,I,q⟩
 | str y=>
  obtain⟨t,rfl⟩:=rx;obtain⟨hy,e'⟩ : y.length<=sizeLine/\k=((y.length:Jy) != 0):=e;subst e';exact PySem.P.truthy_str (by omega) ⟨H,I.tok _,q⟩
 | byt y=>
  obtain⟨t,rfl⟩:=rx;obtain⟨hy,e'⟩ : y.size<=sizeLine/\k=((y.size:Jy) != 0):=e;subst e';exact PySem.W.truthy_bytes (by exact JF ‹_› (JJ rfl)) ⟨H,I.tok _,q⟩
 | ref p=>
  cases rx;have e':(∃xs,SqL X.K H p xs/\k = !xs.isEmpty)\/(∃xs,SqT X.K H p xs/\k = !xs.isEmpty)\/∃kvs,H p=ba (.dK kvs)/\k = !kvs.isEmpty:=e;rcases e' with⟨xs,hx,e'⟩|⟨xs,hx,e'⟩|⟨kvs,hx,e'⟩
  ·subst e';obtain⟨its,r,pl,hz⟩:=I.list hx;have hlen:=r.length;exact wpAny_truthy_list pl.isList (by simp only[Jz]; omega) ⟨H,I.tok _,by rw[lg r]; exact q⟩
  ·subst e';obtain⟨its,r,pl,hz⟩:=I.tuple hx;have hlen:=r.length;exact truthy_tuple pl (by simp only[Jz]; omega) ⟨H,I.tok _,by rw[lg r]; exact q⟩
  ·subst e';obtain⟨hz,hS,vs,r,m⟩ : kvs.length<=sizeLine/\(p==sysModules)=false/\∃vs,KV kvs vs/\s.heap.DictOf (oG X.prog X.w) p vs:=I.hok p _ hx;have hlen:kvs.length=vs.length:=N1 r;exact wpAny_truthy_dict hS m (by omega) ⟨H,I.tok _,by rw[sh r]; exact q⟩
 | _=>exact(show KN from e).elim
theorem si:OpR X (binaryOp .Add) (λx y H Q=>∃i j,x=.str i/\y=.str j/\i.length+j.length<=sizeLine/\Q (.str (i++j)) H):=by
 intro pins s σ H x y v u Q I rx ry h;obtain⟨i,j,rfl,rfl,hz,q⟩:=h;obtain⟨t,rfl⟩:=rx;obtain⟨t',rfl⟩:=ry;exact add_str (λt' tk=>⟨.str (i++j),H,I.tok _,⟨_,rfl⟩,q⟩) hz
theorem nC {x:V}{us:Jf Jh}(r:Vals [x] us):∃u,us=[u]/\RelV x u:=by
 cases r with
 | cons r1 r2=>cases r2; exact⟨_,rfl,r1⟩
theorem nD:CallR X (.type "int") (λxs H Q=>(∃i,xs=[.int i]/\Q (.int i) H)\/∃k,xs=[.bl k]/\Q (.int (if k then 1 else 0)) H):=by
 intro pins s σ H xs us Q I r h;rcases h with⟨i,rfl,q⟩|⟨k,rfl,q⟩
 ·obtain⟨u,rfl,t,rfl⟩:=nC r;exact call_int_int ⟨.int i,H,I,⟨_,rfl⟩,q⟩
 ·obtain⟨u,rfl,r1⟩:=nC r;cases r1;exact call_int_bool ⟨.int (if k then 1 else 0),H,I.tok _,⟨_,rfl⟩,q⟩
noncomputable def Hz (K:Jv)(x:V)(H:Hp)(n:Jp):Prop:=
 match x with
 | .str y=>y.length<=sizeLine/\n=y.length
 | .byt y=>y.size<=sizeLine/\n=y.size
 | .ref p=>(∃xs,SqL K H p xs/\n=xs.length)\/∃xs,SqT K H p xs/\n=xs.length
 | _=>KN
theorem lh:CallR X (.builtin "len") (λxs H Q=>∃x n,xs=[x]/\Hz X.K x H n/\Q (.int n) H):=by
 intro pins s σ H xs us Q I r h;obtain⟨x,n,rfl,e,q⟩:=h;obtain⟨u,rfl,rx⟩:=nC r;have hl:=jp;have hs:sizeLine=16777216:=Ki;cases x with
 | str y=>
  obtain⟨t,rfl⟩:=rx;obtain⟨hy,e'⟩ : y.length<=sizeLine/\n=y.length:=e;subst e';exact len_str (by omega) ⟨.int _,H,I.tok _,⟨_,rfl⟩,q⟩
 | byt y=>
  obtain⟨t,rfl⟩:=rx;obtain⟨hy,e'⟩ : y.size<=sizeLine/\n=y.size:=e;subst e';exact PySem.W.len_bytes (by exact JF ‹_› (JJ rfl)) ⟨.int _,H,I.tok _,⟨_,rfl⟩,q⟩
 | ref p=>
  cases rx;have e':(∃xs,SqL X.K H p xs/\n=xs.length)\/∃xs,SqT X.K H p xs/\n=xs.length:=e;rcases e' with⟨xs,hx,e'⟩|⟨xs,hx,e'⟩
  ·subst e';obtain⟨its,r',pl,hz⟩:=I.list hx;have hlen:=r'.length;exact Calls.call_len_list pl.isList (by simp only[Jz]; omega) ⟨.int xs.length,H,I.tok _,⟨_,by simp only[Jz]; rw[hlen]⟩,q⟩
  ·subst e';obtain⟨its,r',pl,hz⟩:=I.tuple hx;have hlen:=r'.length;exact len_tuple pl (by simp only[Jz]; omega) ⟨.int xs.length,H,I.tok _,⟨_,by simp only[Jz]; rw[hlen]⟩,q⟩
 | _=>exact(show KN from e).elim
end
structure Room (k:Jp)(A:J1):Prop where
 hd:A.handled=gV
 dp:A.depth+3*k+5 < recursionLimit
 un:A.units+16*k+200 < cLine
theorem Room.deeper {k:Jp}{A:J1}(r:Room (k+1) A)(env:PC):Room k (A.deeper env):=
 ⟨r.hd,by have:=r.dp; show A.depth+1+3*k+5 < _; omega,by have:=r.un; show A.units+3+16*k+200 < _; omega⟩
theorem Room.depth {k:Jp}{A:J1}(r:Room k A):A.depth < recursionLimit:=by have:=r.dp; omega
noncomputable def Fz:TA:=λ_ H Q=>Q [] H
noncomputable def FB (ta:TE)(tr:TA):TA:=λσ H Q=>ta σ H λx H1=>tr σ H1 λxs H2=>Q (x::xs) H2
section
variable{X:Cx}{e:JQ}{es:Jf JQ}{te:TE}{t:TA}{pos:LK}
theorem xg:PA X [] Fz:=λ_ _ _ _ H Q I h=>Calls.spliced_nil ⟨[],H,I,.nil,h⟩
theorem oJ (ha:PE X e te)(hr:PA X es t)(hs:starEach (e::es) X.env=(false,eval e X.env)::starEach es X.env:=by rfl):PA X (e::es) (FB te t):=by
 intro pos pins s σ H Q I h;rw[hs];show wpAny _ _ (spliced ((false,eval e X.env)::backTo pos (starEach es X.env))) _ _ s;refine Calls.spliced_cons (b8 (ha pins s σ H _ I h) λu s1 ⟨x,H1,I1,r1,q1⟩=>?_)
 exact b8 (hr pos pins s1 σ H1 _ I1 q1) λus s2 ⟨xs,H2,I2,r2,q2⟩=>⟨x::xs,H2,I2,.cons r1 r2,q2⟩
noncomputable def HA (t:TA):TE:=λσ H Q=>t σ H λxs H1=>xs.length<=sizeLine/\∀p,H1 p=gV->Q (.ref p) (cj H1 p (.tup xs))
noncomputable def HB (t:TA):TE:=λσ H Q=>t σ H λxs H1=>xs.length<=sizeLine/\∀p,H1 p=gV->Q (.ref p) (cj H1 p (.lst xs))
theorem Dy {x1}(h:PA X es t):PE X (.Tuple es x1 pos) (HA t):=by
 intro pins s σ H Q I hq;refine wpAny_Tuple_spliced (b8 (h pos pins s σ H _ I hq) λus s1 ⟨xs,H1,I1,r,z,q⟩=>⟨by rw[<- r.length]; exact z,?_⟩)
 have hf:H1 s1.heap.objs.size=gV:=I1.hok.fresh (Js _);refine⟨.ref s1.heap.objs.size,cj H1 s1.heap.objs.size (.tup xs),I1.laid (t':=s1.toks) (λb u e=>Jj _ e) (Js _) ?_,rfl,q _ hf⟩
 exact⟨z,us,r,⟨_,JA _ rfl,rfl,_,rfl⟩⟩
theorem Dz (h:PA X es t):PE X (.List es pos) (HB t):=by
 intro pins s σ H Q I hq;refine wpAny_List_spliced (b8 (h pos pins s σ H _ I hq) λus s1 ⟨xs,H1,I1,r,z,q⟩=>⟨by rw[<- r.length]; exact z,?_⟩)
 have hf:H1 s1.heap.objs.size=gV:=I1.hok.fresh (Js _);refine⟨.ref s1.heap.objs.size,cj H1 s1.heap.objs.size (.lst xs),I1.laid (t':=s1.toks) (λb u e=>Jj _ e) (Js _) ?_,rfl,q _ hf⟩
 exact⟨z,us,0,r,JA _ rfl⟩
end
noncomputable abbrev Sp:=Jf V->Hp->VK->XK->Prop
noncomputable abbrev xh:=Jf PC->Hp->Jk->XK->Jh->Jk->Prop
structure Env0 (P:JY)(w:J6)(K:Jv)(mg:JG->Jn Jh)(base:Kg)(A:J1)(outer:Jf PC)(s:Jk)(H:Hp):Prop where
 frames:A.frames=ba outer
 mod:Mod K mg base
 bs:∀b o,base.get? b=ba o->s.heap.get? b=ba o/\H b=gV
 bsz:base.objs.size<=s.heap.objs.size
 funs:s.heap.FunFrames base outer
 frf:∀b∈sd outer,H b=gV
 hok:HOk P w H s.heap
 bare:NS s.gens
noncomputable def CE (outer:Jf PC)(P:JY)(w:J6)(H:Hp)(s:Jk)(Q:VK)(u:Jh)(s':Jk):Prop:=
 ∃v H',s'.os=s.os/\NS s'.gens/\Un (sd outer) [] H H' s.heap s'.heap/\HOk P w H' s'.heap/\RelV v u/\Q v H'
noncomputable def CR (CX:xh)(outer:Jf PC)(P:JY)(w:J6)(H:Hp)(s:Jk)(Q:VK)(E:XK)(r:Qe)(s':Jk):Prop:=
 match r with
 | .ok (.ret u)=>CE outer P w H s Q u s'
 | .ok _=>KN
 | .error e=>CX outer H s E e s'
structure FnOk (P:JY)(w:J6)(K:Jv)(mg:JG->Jn Jh)(base:Kg)(CX:xh)(k:Jp)(f:Jq)(fd:LL)(ps:Jf JG)(sp:Sp):Prop where
 len:∀vs H Q E,sp vs H Q E->vs.length=ps.length
 run:∀(A:J1) (outer:Jf PC) (s:Jk) (H:Hp) (args:Args) (us:Jf Jh) (vs:Jf V) (Q:VK) (E:XK),Room k A->Env0 P w K mg base A outer s H->PJ s fd args (ps.zip us)->Vals vs us->sp vs H Q E->
  codeAny (model P w) A (.call (.ref f) args) (CR CX outer P w H s Q E) s
section
variable{X:Cx}{pins:Jf (Jq×K2)}{σ:St}{H:Hp}{s s':Jk}
theorem Inv.env0 (I:Inv X pins σ H s):Env0 X.prog X.w X.K X.mg X.base X.A X.stack s H:=
 ⟨I.ok.frames,I.ok.mod,I.bs,JF I.ok.bsz I.sz,I.stack,I.stkFree,I.hok,I.bare⟩
theorem Inv.after {Q:VK}{u:Jh}(I:Inv X pins σ H s)(h:CE X.stack X.prog X.w H s Q u s'):EP X pins σ Q u s':=by
 obtain⟨v,H',os,bare,un,hok,r,q⟩:=h;obtain⟨hh,g,d,t,os'⟩:=s';obtain rfl:os'=s.os:=os;exact⟨v,H',I.call (h':=hh) (g':=g) (d':=d) (t':=t) (ch:=[]) un hok bare (λb z=>absurd z (by simp)),r,q⟩
end
noncomputable def xi (sp:Sp)(dvs:Jf V)(E:XK)(t:TA):TE:=λσ H Q=>t σ H λvs H1=>sp (vs++dvs) H1 Q E
noncomputable def Binds (K:Jv)(fd:LL)(ps:Jf JG)(ds:Jf Jh):Prop:=
 ∀(s:Jk) (us:Jf Jh),K.In s.heap->(us++ds).length=ps.length->PJ s fd ⟨us,[]⟩ (ps.zip (us++ds))
theorem Binds.all {K:Jv}{fd:LL}{ps:Jf JG}(h:∀us:Jf Jh,us.length=ps.length->bindArgs fd ⟨us,[]⟩=pure (ps.zip us)):Binds K fd ps []:=λs us _ hl=>by
 rw[LC]at hl ⊢;exact .of_eq (h us hl)
noncomputable def oK (CX:xh)(X:Cx)(E:XK):Prop:=∀(pins:Jf (Jq×K2)) (σ:St) (H:Hp) (s:Jk) (e:Jh) (s':Jk),Inv X pins σ H s->CX X.stack H s E e s'->X.xe e s'
section
variable{X:Cx}{CX:xh}{k:Jp}{f C:Jq}{fd:LL}{ps:Jf JG}{sp:Sp}{dvs:Jf V}{ds:Jf Jh}{E:XK}{x m:JG}{p pos apos:LK}{e o:JQ}{es:Jf JQ}{ta:TE}{t:TA}
theorem xj {pins:Jf (Jq×K2)}{σ:St}{H:Hp}{s:Jk}{Q:VK}{us:Jf Jh}{vs:Jf V}(F:FnOk X.prog X.w X.K X.mg X.base CX k f fd ps sp)(hr:Room k X.A)(hb:Binds X.K fd ps ds)(hd:Vals dvs ds)(hx:oK CX X E)
  (I:Inv X pins σ H s) (r:Vals vs us) (h:sp (vs++dvs) H Q E):wpAny (model X.prog X.w) X.A (call (.ref f) us) (EP X pins σ Q) X.xe s:=by
 have r2:Vals (vs++dvs) (us++ds):=r.append hd;have hl:(us++ds).length=ps.length:=by rw[<- r2.length]; exact F.len _ _ _ _ h
 refine wpAny_call (MW (F.run X.A X.stack s H ⟨us,[]⟩ (us++ds) (vs++dvs) Q E hr I.env0 (hb s us I.kIn hl) r2 h) λr s' hq=>?_)
 cases r with
 | error e=>exact hx pins σ H s e s' I hq
 | ok fl=>
  cases fl with
  | ret u=>exact I.after hq
  | next=>exact KN.elim hq
  | brk=>exact KN.elim hq
  | cont=>exact KN.elim hq
theorem Aw (F:FnOk X.prog X.w X.K X.mg X.base CX k f fd ps sp)(hr:Room k X.A)(hg:Gl X x)(hm:X.mg x=ba (.ref f))(hk:KZ X.K (.ref f)=true)(hb:Binds X.K fd ps ds)(hd:Vals dvs ds)(hx:oK CX X E)
  (ha:PA X (e::es) t) (hdb:(x==("__debug__" : JG))=false:=by decide) (he:starEach (e::es) X.env=(false,eval e X.env)::starEach es X.env:=by rfl) (hpl:(backTo pos (starEach es X.env)).any (·.1)=false:=by rfl) :
  PE X (.Call (.Name x p) (e::es) [] pos) (xi sp dvs E t):=by
 intro pins s σ H Q I h;refine MP (tF I hg hm ?_ hdb);refine PySem.W.callWith_K (h₀:=X.base) I.ok.mod.kin hk (b8 (ha pos pins s σ H _ I h) λus s1 ⟨vs,H1,I1,r,q⟩=>⟨I1.kIn,?_⟩) he hpl
 exact xj F hr hb hd hx I1 r q
theorem xk (F:FnOk X.prog X.w X.K X.mg X.base CX k f fd ps sp)(hr:Room k X.A)(hg:Gl X x)(hm:X.mg x=ba (.ref f))(hk:KZ X.K (.ref f)=true)(hb:Binds X.K fd ps ds)(hd:Vals dvs ds)(hx:oK CX X E)
  (hdb:(x==("__debug__" : JG))=false:=by decide):PE X (.Call (.Name x p) [] [] pos) (xi sp dvs E Fz):=by
 intro pins s σ H Q I h;refine MP (tF I hg hm ?_ hdb);exact PySem.W.callWith_K0 I.kIn hk (xj (us:=[]) F hr hb hd hx I .nil h)
end
structure FnScope (N P:Jf JG)(sc:Mm):Prop where
 kind:sc.kind=.function
 co:sc.isCoroutine=false
 gen:sc.isGenerator=false
 nd:N.Nodup
 pre:N.take P.length=P
 par:∀x∈P,sc.names.lookup x=ba .local\/sc.names.lookup x=ba .cell
 nofree:∀y∈sc.names,y.2≠.free
theorem nE {kindOf:JG->Jn Le}{x:JG}:∀ {binds:Jf (JG×Jh)} {m:JG->Jn Jh},(∀v,(x,v)∉binds)->bindL kindOf binds m x=m x
 | [],_,_=>rfl
 | (n,v)::r,m,h=>by
  unfold bindL;rw[nE λw hw=>h w (KL _ hw)]
  split
  ·have:x≠n:=by rintro rfl; exact h v KO
   simp[this]
  ·rfl
theorem nF {kindOf:JG->Jn Le}{x:JG}:∀ {binds:Jf (JG×Jh)} {m:JG->Jn Jh},(∀v,(x,v)∉binds)->bindC kindOf binds m x=m x
 | [],_,_=>rfl
 | (n,v)::r,m,h=>by
  unfold bindC;rw[nF λw hw=>h w (KL _ hw)]
  split
  ·rfl
  ·have:x≠n:=by rintro rfl; exact h v KO
   simp[this]
theorem nG {kindOf:JG->Jn Le}{x:JG}{v:Jh}:∀ {P:Jf JG} {vs:Jf Jh} {i:Jp} {m:JG->Jn Jh},P.Nodup->P[i]?=ba x->vs[i]?=ba v->kindOf x=ba .local->
  bindL kindOf (P.zip vs) m x=ba v
 | [],_,_,_,_,h,_,_=>by simp at h
 | _::_,[],_,_,_,_,h,_=>by simp at h
 | p::P,w::vs,0,m,nd,h1,h2,hk=>by
  simp at h1 h2; subst h1; subst h2
  show bindL kindOf ((p,w)::P.zip vs) m p=_;unfold bindL;rw[nE λv hv=>(LD.mp nd).1 (Ot hv).1,JN hk]
  simp
 | p::P,w::vs,i+1,m,nd,h1,h2,hk=>by
  show bindL kindOf ((p,w)::P.zip vs) m x=_;unfold bindL;exact nG (i:=i) (LD.mp nd).2 (by simpa using h1) (by simpa using h2) hk
theorem nH {kindOf:JG->Jn Le}{x:JG}{v:Jh}:∀ {P:Jf JG} {vs:Jf Jh} {i:Jp} {m:JG->Jn Jh},P.Nodup->P[i]?=ba x->vs[i]?=ba v->kindOf x≠ba .local->
  bindC kindOf (P.zip vs) m x=ba v
 | [],_,_,_,_,h,_,_=>by simp at h
 | _::_,[],_,_,_,_,h,_=>by simp at h
 | p::P,w::vs,0,m,nd,h1,h2,hk=>by
  simp at h1 h2; subst h1; subst h2
  show bindC kindOf ((p,w)::P.zip vs) m p=_;unfold bindC;rw[nF λv hv=>(LD.mp nd).1 (Ot hv).1,JX hk]
  simp
 | p::P,w::vs,i+1,m,nd,h1,h2,hk=>by
  show bindC kindOf ((p,w)::P.zip vs) m x=_;unfold bindC;exact nH (i:=i) (LD.mp nd).2 (by simpa using h1) (by simpa using h2) hk
noncomputable def gf (N:Jf JG)(vs:Jf V):St:=vs.map ba++J8 (N.length - vs.length) gV
noncomputable def sj (CX:xh)(P:JY)(w:J6)(K:Jv)(mg:JG->Jn Jh)(base:Kg)(N:Jf JG)(qual:JG)(scope:Mm)(f:Jq)(cd:Jh)(A:J1)(outer:Jf PC)(s:Jk)(H:Hp)(E:XK):Cx where
 prog:=P
 w:=w
 K:=K
 mg:=mg
 base:=base
 A:=A.deeper (envOfC qual scope s.heap.objs.size f cd)
 N:=N
 s₀:=s
 H₀:=H
 env:=envOfC qual scope s.heap.objs.size f cd
 outer:=outer
 stack:=envOfC qual scope s.heap.objs.size f cd::outer
 ex:=[]
 calm:=true
 fn:=λ_=>true
 pn:=[]
 xe:=λe s'=>wpAny (model P w) (A.deeper (envOfC qual scope s.heap.objs.size f cd)) (leaving (envOfC qual scope s.heap.objs.size f cd) e) (λ_ s''=>CX outer H s E e s'') (λe' s''=>CX outer H s E e' s'') s'
theorem qd {sc:Mm}{n:Jp}{x:JG}(h:sc.names.lookup x=ba .cell):∃c,(cellsFrom n sc.names []).lookup x=ba c:=by
 have q:=Oi sc.names n [] (.inl h);exact Km.mp q
theorem vf {CX:xh}{P:JY}{w:J6}{K:Jv}{mg:JG->Jn Jh}{base:Kg}{N ps:Jf JG}{qual:JG}{scope:Mm}{f:Jq}{cd:Jh}{A:J1}{outer:Jf PC}{s s1:Jk}{H:Hp}{E:XK}{us:Jf Jh}{vs:Jf V}
  (S:FnScope N ps scope) (hd:A.handled=gV) (e0:Env0 P w K mg base A outer s H) (hl:vs.length=ps.length) (r:Vals vs us)
  (x:InCallC s s.heap.objs.size (bindL (envOfC qual scope s.heap.objs.size f cd).kindOf (ps.zip us) λ_=>gV) (cellsFrom (s.heap.objs.size+1) scope.names []) (bindC (envOfC qual scope s.heap.objs.size f cd).kindOf (ps.zip us) λ_=>gV) s1) :
  Inv (sj CX P w K mg base N qual scope f cd A outer s H E) [] (gf N vs) H s1:=by
 have hpl:ps.length<=N.length:=by have:=congrArg RK S.pre; rw[Kk]at this; omega
 obtain⟨h1,tk,rfl,hk⟩:=x.done;have noA:∀b:Jq,b∉(sj CX P w K mg base N qual scope f cd A outer s H E).ex:=λb z=>absurd (show b∈([]:Jf Jq)from z) (by simp)
 refine⟨⟨e0.mod,S.kind,rfl,rfl,Js _,λy z c h1 h2=>?_,λy hy=>?_,λy c _ h=>?_,λ_=>hd,Around.frames_deeper e0.frames,.inr ⟨rfl,rfl⟩,λb z=>absurd z (noA b),e0.bs,e0.bsz,λb _ _=>noA b,λb z=>absurd z (noA b),e0.funs,e0.frf⟩,
  rfl,e0.bare,Un.kept hk,⟨_,x.toInCall.ns,λi y v h1 h2 h3=>?_⟩,λy c h=>⟨_,x.cell y c h⟩,e0.hok.fresh (Js _),λy c h=>?_,λp hp=>absurd (show p∈([]:Jf (Jq×K2))from hp) (by simp),e0.hok.kept hk,?_⟩
 ·exact name_of_addr x.apart (L5 h1) (L5 h2)
 ·have hy:scope.names.lookup y=ba .cell\/scope.names.lookup y=ba .free:=hy;rcases hy with hy|hy
  ·exact qd hy
  ·exact absurd rfl (S.nofree _ (L5 hy))
 ·exact LG (x.above y c (L5 h))
 ·have hi:i < vs.length:=by
   unfold gf at h2
   by_cases hi:i < vs.length
   ·exact hi
   ·rw[LM (by simpa using hi)]at h2
    rw[List.getElem?_replicate]at h2;split at h2 <;> cases h2
  have ha:vs[i]?=ba v:=by
   unfold gf at h2;rw[Kt (by simpa using hi),Jr]at h2
   cases e:vs[i]? with
   | none=>rw[e]at h2; cases h2
   | some a=>rw[e]at h2; cases h2; rfl
  obtain⟨u,hu,rv⟩:=r.get ha;have hp:ps[i]?=ba y:=by
   rw[<- S.pre,List.getElem?_take_of_lt (by omega)]; exact h1
  have ndP:ps.Nodup:=by rw[<- S.pre]; exact S.nd.sublist (List.take_sublist _ _)
  refine⟨u,rv,?_⟩;rcases S.par y (JI hp)with k|k
  ·exact .inl ⟨k,nG ndP hp hu k⟩
  ·obtain⟨c,e⟩:=qd (n:=s.heap.objs.size+1) k;refine .inr ⟨.inl k,c,e,?_⟩;have q:=x.cell y c e;rw[nH ndP hp hu (by show scope.names.lookup y≠_; rw[k]; decide)]at q
   exact q
 ·exact e0.hok.fresh (LG (x.above y c (L5 h)))
 ·unfold gf;show _=N.length;rw[Jt,Ji,OE];omega
theorem FC {CX:xh}{P:JY}{w:J6}{K:Jv}{mg:JG->Jn Jh}{base:Kg}{k:Jp}{f:Jq}{name qual:JG}{params:Arguments}{body:Jf L0}{scope:Mm}{dV kV doc pm cdv ct oc:Jh}{an od:Jn Jq}
  {osl:JV (Jn Jh)} {N ps:Jf JG} {sp:Sp} (lk:K.lookup f=ba ⟨oc,od,.func (Lo name qual params body scope dV kV doc pm an cdv ct),osl⟩) (hcd:Mq K cdv qual=true) (S:FnScope N ps scope)
  (len:∀vs H Q E,sp vs H Q E->vs.length=ps.length)
  (hbody:∀(A:J1) (outer:Jf PC) (s:Jk) (H:Hp) (vs:Jf V) (Q:VK) (E:XK),Room k (A.deeper (envOfC qual scope s.heap.objs.size f cdv))->sp vs H Q E->
   ∃t,PSs (sj CX P w K mg base N qual scope f cdv A outer s H E) body t/\t { nx:=λ_ H'=>Q .non H',rt:=Q } (gf N vs) H) :
  FnOk P w K mg base CX (k+1) f (Lo name qual params body scope dV kV doc pm an cdv ct) ps sp:=by
 refine⟨len,λA outer s H args us vs Q E hr e0 hb r hsp=>?_⟩
 have hl:=len _ _ _ _ hsp;have KX:K.In s.heap:=e0.mod.kin.keeps λb o e=>(e0.bs b o e).1
 have lim:s.heap.NoLimit:=e0.mod.nolimit.keeps λb o e=>(e0.bs b o e).1
 have hkind:∀y∈ps.zip us,scope.names.lookup y.1=ba .local\/(scope.names.lookup y.1=ba .cell/\((cellsFrom (s.heap.objs.size+1) scope.names []).lookup y.1).isSome=true):=λ⟨n,v⟩ hy=>by
  rcases S.par n (Ot hy).1 with q|q
  ·exact .inl q
  ·exact .inr ⟨q,Oi _ _ _ (.inl q)⟩
 refine codeAny_call_function hr.depth (KX _ _ lk) rfl S.co S.gen rfl (PySem.W.codeRec_of KX hcd) (hb _ _ _ _ ?_);refine wpAny_newFunctionEnv_cells S.kind hkind λenv he s1 x=>?_
 subst he;refine⟨lim.keeps x.toInCall.keep,codeAny_func ?_⟩;obtain⟨t,ht,hq⟩:=hbody A outer s H vs Q E (hr.deeper _) hsp;have I:Inv (sj CX P w K mg base N qual scope f cdv A outer s H E) [] (gf N vs) H s1:=vf S hr.hd e0 hl r x;refine Lc (ht [] s1 (gf N vs) H _ I hq) (λfl s' hs=>?_) λe s' hs=>hs
 have fin:∀ {σ':St} {H':Hp} {v:V} {u:Jh},Inv (sj CX P w K mg base N qual scope f cdv A outer s H E) [] σ' H' s'->RelV v u->Q v H'->CE outer P w H s Q u s':=
  λ{σ' H' v u} J rv q=>⟨v,H',J.os,J.bare,J.base,J.hok,rv,q⟩
 cases fl with
 | ret u=>
  obtain⟨v,σ',H',J,rv,q⟩:=hs;exact fin J rv q
 | next=>
  obtain⟨σ',H',J,q⟩:=hs;exact fin (v:=V.non) (u:=Ke) J rfl q
 | brk=>
  obtain⟨_,_,_,q⟩:=hs;exact KN.elim q
 | cont=>
  obtain⟨_,_,_,q⟩:=hs;exact KN.elim q
section
variable{X:Cx}{x:JG}{p pos:LK}{e:JQ}{es:Jf JQ}{t:TA}{id T:KQ}{r:Jf V->Hp->VK->Prop}
noncomputable def IJ (r:Jf V->Hp->VK->Prop)(t:TA):TE:=λσ H Q=>t σ H λvs H1=>r vs H1 Q
theorem qf (hc:CallR X (.builtin id) r)(hg:Gl X x)(hm:X.mg x=gV)(hv:bootBuiltins x=ba (.builtin id))(ha:PA X (e::es) t)(hn:x≠"__name__":=by decide)(hdb:(x==("__debug__" : JG))=false:=by decide)
  (he:starEach (e::es) X.env=(false,eval e X.env)::starEach es X.env:=by rfl) (hpl:(backTo pos (starEach es X.env)).any (·.1)=false:=by rfl):PE X (.Call (.Name x p) (e::es) [] pos) (IJ r t):=by
 intro pins s σ H Q I h;refine MP (jm I hg hm hv ?_ hn hdb);exact Qf (b8 (ha pos pins s σ H _ I h) λus s1 ⟨vs,H1,I1,r1,q1⟩=>hc pins s1 σ H1 vs us Q I1 r1 q1) he hpl
theorem vg (hc:CallR X (.type T) r)(hg:Gl X x)(hm:X.mg x=gV)(hv:bootBuiltins x=ba (.type T))(ha:PA X (e::es) t)(hn:x≠"__name__":=by decide)(hdb:(x==("__debug__" : JG))=false:=by decide)
  (he:starEach (e::es) X.env=(false,eval e X.env)::starEach es X.env:=by rfl) (hpl:(backTo pos (starEach es X.env)).any (·.1)=false:=by rfl):PE X (.Call (.Name x p) (e::es) [] pos) (IJ r t):=by
 intro pins s σ H Q I h;refine MP (jm I hg hm hv ?_ hn hdb);exact LH (b8 (ha pos pins s σ H _ I h) λus s1 ⟨vs,H1,I1,r1,q1⟩=>hc pins s1 σ H1 vs us Q I1 r1 q1) he hpl
end
end L2
namespace HT
open PySem PyProof.Rows
section
open PySem.SeqAt
open PySem.AutoSeq1 (wpAny_loadPart')
open PySem.MeetsSeq PySem.MeetsSeq2 PySem.MeetsSeq3
end
section
variable{prog:JY}{w:J6}{A:J1}{E:Jh->Jk->Prop}{s:Jk}
theorem Ax {t b:Jq}{vs ws:Jf Jh}{Q:Jh->Jk->Prop}(ht:PB s.heap t vs.toArray)(hb:PB s.heap b ws.toArray)(hv:vs≠[])
  (h1:ws=[]->Q (.ref t) s) (h2:ws≠[]->Q (.ref s.heap.objs.size) { s with heap:=s.heap.push { cls:=.type "tuple",data:=.seq (vs++ws).toArray } })
  (hsz:vs.length+ws.length<=sizeLine):wpAny (model prog w) A (binaryOp .Add (.ref t) (.ref b)) Q E s:=by
 obtain⟨⟨cls,dd,data,sl⟩,ho,hc,n,hd⟩:=id ht;obtain⟨⟨cls2,dd2,data2,sl2⟩,ho2,hc2,n2,hd2⟩:=id hb;simp only at hc hd hc2 hd2;subst hc hd hc2 hd2;have e:vs.toArray++ws.toArray=(vs++ws).toArray:=by simp
 by_cases hw:ws=[]
 ·exact PK ⟨_,ho,rfl⟩ ⟨_,ho2,rfl⟩ N8 Pd MX MT (MJ _ _)
   (tuple_addW1 t b vs.toArray ws.toArray n n2 dd dd2 sl sl2 (by simpa using hv) (by simp[hw])) ⟨ho,ho2,h1 hw⟩
 ·refine PK ⟨_,ho,rfl⟩ ⟨_,ho2,rfl⟩ N8 Pd MX MT (MJ _ _)
   (tuple_addW2 t b vs.toArray ws.toArray n n2 dd dd2 sl sl2 (by simpa using hv) (by simpa using hw) (by rw[Jz,Jz]; exact hsz)) ⟨ho,ho2,?_⟩
  rw[e];exact h2 hw
noncomputable def cV (n d:Jp):Jn Jy->Jp
 | none=>d
 | some v=>if v < 0 then(v+(n:Jy)).toNat else min v.toNat n
theorem li (n d:Jp):cV n d gV=d:=rfl
theorem tK (n d k:Jp):cV n d (ba (k:Jy))=min k n:=by
 show(if (k:Jy) < 0 then((k:Jy)+(n:Jy)).toNat else min (k:Jy).toNat n)=min k n
 rw[JX (by omega),JH]
theorem DA (n d:Jp)(hd:d<=n)(o:Jn Jy):cV n d o<=n:=by
 cases o with
 | none=>exact hd
 | some v=>
  show(if v < 0 then(v+(n:Jy)).toNat else min v.toNat n)<=n
  by_cases hv:v < 0
  ·rw[JN hv]; omega
  ·rw[JX hv]; exact Nat.min_le_right _ _
theorem tL (v:Jy)(n d:Jp):(if v < 0 then max (v+(n:Jy)) 0 else min v (n:Jy))=((cV n d (ba v):Jp):Jy):=by
 show(if v < 0 then max (v+(n:Jy)) 0 else min v (n:Jy))=(((if v < 0 then(v+(n:Jy)).toNat else min v.toNat n):Jp):Jy)
 by_cases hv:v < 0
 ·simp only[JN hv]; omega
 ·simp only[JX hv]; omega
theorem sn (lo hi:Jn Jy)(n:Jp):Mz lo hi 1 (n:Jy)=(((cV n 0 lo:Jp):Jy),((cV n n hi:Jp):Jy)):=by
 have h1:¬ ((1:Jy) < 0):=by omega
 unfold Mz;simp only[h1,KH];refine Sz ?_ ?_
 ·cases lo with
  | none=>rfl
  | some v=>exact tL v n 0
 ·cases hi with
  | none=>rfl
  | some v=>exact tL v n n
theorem sr (i j:Jp):LQ (i:Jy) (j:Jy) 1=j - i:=by
 unfold LQ;have h1:(1:Jy) > 0:=by omega
 simp only[h1,K6,Int.ediv_one];split <;> omega
theorem ll {v:Jh}{o:Jn Jy}{Q:Jn Jy->Jk->Prop}(p:Nx v o)(h:Q o s):wpAny (model prog w) A (Qv v) Q E s:=by
 cases p with
 | none=>exact QL h
 | int i t=>exact slicePart_int h
theorem fw {sl:Jq}{vl vu:Jh}{lo hi:Jn Jy}{n:Jp}{Q:Jy×Jy×Jp->Jk->Prop}(hs:s.heap.IsSliceOf sl vl vu .none)(pl:Nx vl lo)(pu:Nx vu hi)
  (h:Q (((cV n 0 lo:Jp):Jy),1,cV n n hi - cV n 0 lo) s):wpAny (model prog w) A (Ny (.ref sl) (pure (n:Jy))) Q E s:=by
 obtain⟨os,hos,hcs,hds⟩:=id hs;unfold Ny Q9;refine Jg (Jg (Lq hos hds (x:=vl) rfl (Jg (Lq hos hds (x:=vu) rfl (Jg (Lq hos hds (x:=.none) rfl (Jm ?_)))))));refine Jg (QL ?_);show wpAny _ _ (if ((1:Jy)==0)=true then _ else _) _ _ s
 rw[JX (by decide)]
 refine Jg (ll pl (Jg (ll pu (Jg (Jm ?_)))));show wpAny _ _ (match Mz lo hi 1 (n:Jy)with|(lo,hi)=>pure (lo,(1:Jy),LQ lo hi 1)) _ _ s
 rw[sn lo hi n];show wpAny _ _ (pure (((cV n 0 lo:Jp):Jy),(1:Jy),LQ ((cV n 0 lo:Jp):Jy) ((cV n n hi:Jp):Jy) 1)) _ _ s;rw[sr];exact Jm h
theorem xl (xs:JV Jh)(i k:Jp):((Kh k).filterMap λ(m:Jp)=>xs[((i:Jy)+(m:Jy)*1).toNat]?).toArray=((xs.toList.drop i).take k).toArray:=by
 have e:(λ(m:Jp)=>xs[((i:Jy)+(m:Jy)*1).toNat]?)=λm=>xs[i+m]?:=by
  funext m
  have:((i:Jy)+(m:Jy)*1).toNat=i+m:=by omega
  rw[this]
 rw[e];have:=pick_run xs i k;rw[List.filterMap_map]at this;have e2:((λx=>xs[x]?)∘λx=>i+x)=λm=>xs[i+m]?:=rfl
 rw[e2]at this;rw[this]
theorem iJ {t sl:Jq}{items:JV Jh}{vl vu:Jh}{lo hi:Jn Jy}{Q:Jh->Jk->Prop}(ht:PB s.heap t items)(hs:s.heap.IsSliceOf sl vl vu .none)(pl:Nx vl lo)(pu:Nx vu hi)
  (hw:¬ (cV items.size 0 lo=0/\cV items.size items.size hi=items.size))
  (h:Q (.ref s.heap.objs.size) { s with heap:=s.heap.push { cls:=.type "tuple",data:=.seq ((items.toList.drop (cV items.size 0 lo)).take (cV items.size items.size hi - cV items.size 0 lo)).toArray } })
  (hsz:items.size<=sizeLine):wpAny (model prog w) A (getItem (.ref t) (.ref sl)) Q E s:=by
 have htake:sizeOk (.seq ((items.toList.drop (cV items.size 0 lo)).take (cV items.size items.size hi - cV items.size 0 lo)).toArray):=by
  show((items.toList.drop (cV items.size 0 lo)).take (cV items.size items.size hi - cV items.size 0 lo)).toArray.size<=sizeLine;rw[Jz,Kk,L7,JB];omega
 have hj:cV items.size items.size hi<=items.size:=DA _ _ (Js _) hi;obtain⟨os,hos,hcs,hds⟩:=id hs;have hTs:s.TypeIs (.ref sl) "slice":=⟨os,hos,hcs⟩;unfold getItem
 try with_reducible refine Ku ?_
 first|refine Jg (Jm ?_)|skip
 refine Jg (PL ht.typeIs (by decide) ?_)
 refine Jg (Kw (name:=Lp "__getitem__") ht.typeIs Ll
  (Kx Ll ht.typeIs O6 ?_ (Pl _ _)))
 show wpAny _ _ (Mr (.ref t) >>= _) _ _ s;refine Jg (Rf ht ?_);refine Jg (Mg hTs ?_);rw[JN (by decide)]
 refine Jg (fw hs pl pu ?_);have hno:¬ ((((cV items.size 0 lo:Jp):Jy)==0&&(1:Jy)==1&&(cV items.size items.size hi - cV items.size 0 lo)==items.size)=true):=by
  intro q;rw[Jo,Jo]at q;have q1:((cV items.size 0 lo:Jp):Jy)=0:=eq_of_beq q.1.1;have q2:cV items.size items.size hi - cV items.size 0 lo=items.size:=eq_of_beq q.2;exact hw ⟨by omega,by omega⟩
 show wpAny _ _ (if (((cV items.size 0 lo:Jp):Jy)==0&&(1:Jy)==1&&(cV items.size items.size hi - cV items.size 0 lo)==items.size)=true then _ else _) _ _ s
 rw[JX hno,xl]
 first
  | exact Jg (m:=K8 _) (J7 (Jm ⟨_,rfl,Jm h⟩) htake)
  | exact Jg (m:=K8 _) (J7 (Jg (Jm (Jm ⟨_,rfl,Jm h⟩))) htake)
  | exact Jg (Jg (m:=K8 _) (J7 (Jm (Jm ⟨_,rfl,Jm h⟩)) htake))
  | exact Jg (Jg (m:=K8 _) (J7 (Jm ⟨_,rfl,Jm h⟩) htake))
end
end HT
namespace L2
open PySem PySem.Spec PyProof.Rows
noncomputable abbrev TO:=St->Hp->(Jn Jy->Hp->Prop)->Prop
noncomputable def PO (X:Cx)(e:Jn JQ)(t:TO):Prop:=
 ∀(pins:Jf (Jq×K2)) (s:Jk) (σ:St) (H:Hp) (Q:Jn Jy->Hp->Prop),Inv X pins σ H s->t σ H Q->
  wpAny (model X.prog X.w) X.A (evalPart e X.env) (λu s'=>∃o H',Inv X pins σ H' s'/\Nx u o/\Q o H') X.xe s
noncomputable def Ay:TO:=λ_ H Q=>Q gV H
noncomputable def FD (t:TE):TO:=λσ H Q=>t σ H λx H1=>∃i,x=.int i/\Q (ba i) H1
section
variable{X:Cx}{e:JQ}{te:TE}{lo hi:Jn JQ}{tl th:TO}{pos p2:LK}
theorem Az:PO X gV Ay:=by
 intro pins s σ H Q I h;rw[Rg];exact Jm ⟨gV,H,I,.none,h⟩
theorem AA (h:PE X e te):PO X (ba e) (FD te):=by
 intro pins s σ H Q I hw;rw[evalPart_some];refine b8 (h pins s σ H _ I hw) λu s1 ⟨x,H1,I1,r1,q1⟩=>?_
 obtain⟨i,rfl,q⟩:=q1;obtain⟨t,rfl⟩:=r1;exact⟨ba i,H1,I1,.int i t,q⟩
noncomputable def FH (X:Cx)(r:V->Jn Jy->Jn Jy->Hp->VK->Prop):Prop:=
 ∀(pins:Jf (Jq×K2)) (s:Jk) (σ:St) (H:Hp) (x:V) (v vl vu:Jh) (lo hi:Jn Jy) (sl:Jq) (Q:VK),Inv X pins σ H s->RelV x v->s.heap.IsSliceOf sl vl vu .none->Nx vl lo->Nx vu hi->r x lo hi H Q->
  ∃T id,typeLookup (.type T) "__getitem__" = pure (ba (.builtin id))/\s.TypeIs v T/\wpAny (model X.prog X.w) X.A (getItem v (.ref sl)) (EP X pins σ Q) X.xe s
noncomputable def IV (r:V->Jn Jy->Jn Jy->Hp->VK->Prop)(te:TE)(tl th:TO):TE:=λσ H Q=>te σ H λx H1=>tl σ H1 λl H2=>th σ H2 λu H3=>r x l u H3 Q
theorem xm {r:V->Jn Jy->Jn Jy->Hp->VK->Prop}(hr:FH X r)(he:PE X e te)(hl:PO X lo tl)(hu:PO X hi th):PE X (.Subscript e (.Slice lo hi gV p2) pos) (IV r te tl th):=by
 intro pins s σ H Q I h;refine Subscript_ (b8 (he pins s σ H _ I h) λv s1 ⟨x,H1,I1,r1,q1⟩=>?_)
 refine wpAny_Slice (b8 (hl pins s1 σ H1 _ I1 q1) λvl s2 ⟨l,H2,I2,pl,q2⟩=>b8 (hu pins s2 σ H2 _ I2 q2) λvu s3 ⟨u,H3,I3,pu,q3⟩=>?_)
 rw[Rg];refine Jm ?_;have I4:Inv X pins σ H3 { s3 with heap:=s3.heap.push { cls:=.type "slice",data:=.fields [vl,vu,.none].toArray } }:=I3.kept (t':=s3.toks) λb ob q=>Jj _ q
 obtain⟨T,id,hT,ht,hg⟩:=hr pins { s3 with heap:=s3.heap.push { cls:=.type "slice",data:=.fields [vl,vu,.none].toArray } } σ H3 x v vl vu l u s3.heap.objs.size Q I4 r1 (R4 ..) pl pu q3
 show wpAny (model X.prog X.w) X.A (subscriptTail e (.Slice lo hi gV p2) v (.ref s3.heap.objs.size)) (EP X pins σ Q) X.xe { s3 with heap:=s3.heap.push { cls:=.type "slice",data:=.fields [vl,vu,.none].toArray } }
 exact tail_any (ops:=[.ref s3.heap.objs.size,v]) ht hT hg (by with_unfolding_all rfl)
noncomputable def ln (xs:Jf V)(lo hi:Jn Jy):Jf V:=(xs.drop (HT.cV xs.length 0 lo)).take (HT.cV xs.length xs.length hi - HT.cV xs.length 0 lo)
theorem j5 (xs:Jf V)(lo hi:Jn Jy):(ln xs lo hi).length<=xs.length:=by
 unfold ln;rw[Kk,L7];omega
noncomputable def HC (K:Jv):V->Jn Jy->Jn Jy->Hp->VK->Prop:=λx lo hi H Q=>∃a xs,x=.ref a/\SqT K H a xs/\
 ¬ (HT.cV xs.length 0 lo=0/\HT.cV xs.length xs.length hi=xs.length)/\∀p,H p=gV->Q (.ref p) (cj H p (.tup (ln xs lo hi)))
theorem DB:FH X (HC X.K):=by
 intro pins s σ H x v vl vu lo hi sl Q I rx hs pl pu h;obtain⟨a,xs,rfl,hx,hw,q⟩:=h;cases rx;obtain⟨its,r,ht,hz⟩:=I.tuple hx;have hlen:its.toArray.size=xs.length:=by rw[Jz]; exact r.length.symm
 refine⟨"tuple",_,PyProof.Rows.slot_tuple_getitem.lookup,ht.typeIs,?_⟩;refine HT.iJ ht hs pl pu (by rw[hlen]; exact hw) ?_ (by rw[hlen]; exact hz)
 rw[hlen];refine⟨.ref s.heap.objs.size,_,I.laid (t':=s.toks) (o:=.tup (ln xs lo hi)) (λb ob q=>Jj _ q) (Js _) ?_,rfl,q _ (I.hok.fresh (Js _))⟩
 exact⟨JF (j5 xs lo hi) hz,_,(r.drop (HT.cV xs.length 0 lo)).take (HT.cV xs.length xs.length hi - HT.cV xs.length 0 lo),Qd _ _⟩
theorem Vals.nil_iff {xs:Jf V}{us:Jf Jh}(r:Vals xs us):us=[]↔xs=[]:=by
 cases r with
 | nil=>simp
 | cons _ _=>simp
end
noncomputable def wD (n:Jp)(i:Jy):Jn Jp:=if 0<=i then(if i < n then ba i.toNat else gV)else if -(n:Jy)<=i then ba (i+n).toNat else gV
noncomputable def r8 {α:Type}(xs:Jf α)(i:Jy):Jn α:=(wD xs.length i).bind λj=>xs[j]?
theorem tM {n:Jp}{i:Jy}{j:Jp}(h:wD n i=ba j):seqIndex? i n=ba j/\j < n/\-(n:Jy)<=i/\i < n:=by
 unfold wD at h
 by_cases h0:0<=i
 ·rw[JN h0]at h
  by_cases h1:i < n
  ·rw[JN h1]at h;have e:i.toNat=j:=Kz h;exact⟨by rw[Qp h0 h1,e],by omega,by omega,h1⟩
  ·rw[JX h1]at h; cases h
 ·rw[JX h0]at h
  by_cases h1 : -(n:Jy)<=i
  ·rw[JN h1]at h;have e:(i+n).toNat=j:=Kz h;exact⟨by rw[PM (by omega) h1,e],by omega,h1,by omega⟩
  ·rw[JX h1]at h; cases h
theorem oM {α:Type}{xs:Jf α}{i:Jy}{v:α}(h:r8 xs i=ba v):∃j,seqIndex? i xs.length=ba j/\xs[j]?=ba v/\j < xs.length/\-(xs.length:Jy)<=i/\i < xs.length:=by
 unfold r8 at h;cases e:wD xs.length i with
 | none=>rw[e]at h; cases h
 | some j=>
  rw[e]at h;obtain⟨h1,h2,h3,h4⟩:=tM e;exact⟨j,h1,h,h2,h3,h4⟩
theorem atI_nat {α:Type}{xs:Jf α}{j:Jp}{v:α}(h:xs[j]?=ba v):r8 xs (j:Jy)=ba v:=by
 have hj:j < xs.length:=(Ju.mp h).1;have e:wD xs.length (j:Jy)=ba j:=by
  unfold wD;rw[JN (by omega),JN (Li.mpr ‹_›)]; simp
 unfold r8; rw[e]; exact h
noncomputable def oN (b:JQ):Prop:=∀o i,subscripted b false o i=operate [o,i] (getItem o i)
noncomputable def IxR (X:Cx)(r:R2):Prop:=
 ∀(value slice:JQ) (pins:Jf (Jq×K2)) (s:Jk) (σ:St) (H:Hp) (x y:V) (v u:Jh) (Q:VK),Inv X pins σ H s->RelV x v->RelV y u->r x y H Q->
  subscripted slice false v u=operate [v,u] (getItem v u)->wpAny (model X.prog X.w) X.A (subscriptTail value slice v u) (EP X pins σ Q) X.xe s
noncomputable def MtR (X:Cx)(id:KQ)(r:V->Jf V->Hp->VK->Prop):Prop:=
 ∀(pins:Jf (Jq×K2)) (s:Jk) (σ:St) (H:Hp) (x:V) (xs:Jf V) (v:Jh) (us:Jf Jh) (Q:VK),Inv X pins σ H s->RelV x v->Vals xs us->r x xs H Q->
  wpAny (model X.prog X.w) X.A (call (.builtin id) (v::us)) (EP X pins σ Q) X.xe s
section
variable{X:Cx}{a b:JQ}{ta tb:TE}{pos:LK}
theorem FJ {r:R2}(hr:IxR X r)(ha:PE X a ta)(hb:PE X b tb)(hs:oN b):PE X (.Subscript a b pos) (G5 r ta tb):=by
 intro pins s σ H Q I h;exact Subscript_ (Dp ha hb I h λv u s2 x y H2 I2 rx ry q=>hr a b pins s2 σ H2 x y v u Q I2 rx ry q (hs _ _))
noncomputable def HD (K:Jv):R2:=λx y H Q=>∃p xs i v,x=.ref p/\y=.int i/\SqL K H p xs/\r8 xs i=ba v/\Q v H
noncomputable def HE (K:Jv):R2:=λx y H Q=>∃p xs i v,x=.ref p/\y=.int i/\SqT K H p xs/\r8 xs i=ba v/\Q v H
noncomputable def HF:R2:=λx y H Q=>∃z i c,x=.str z/\y=.int i/\z.length<=sizeLine/\r8 z.cps.toList i=ba c/\Q (.str ⟨[c].toArray⟩) H
theorem AB:IxR X (HD X.K):=by
 intro value slice pins s σ H x y v u Q I rx ry h hs;obtain⟨p,xs,i,z,rfl,rfl,hq,he,q⟩:=h;cases rx;obtain⟨t,rfl⟩:=ry;obtain⟨its,r,pl,hz⟩:=I.list hq;obtain⟨j,h1,h2,h3,h4,h5⟩:=oM he;obtain⟨w,ew,rw'⟩:=r.get h2;have hl:=r.length;have hn:=jp;have fin:EP X pins σ Q w s:=⟨z,H,I,rw',q⟩
 by_cases h0:0<=i
 ·have hj:i.toNat=j:=by
   rw[Qp h0 h5]at h1;exact Kz h1
  exact item_listR pl.isList h0 (by omega) (by rw[hj]; simpa using ew) fin hs
 ·have hj:(i+(its.toArray.size:Jy)).toNat=j:=by
   rw[PM (by omega) h4]at h1
   rw[Jz,<- hl];exact Kz h1
  exact MY (x:=w) pl.isList.typeIs slot_list_getitem.lookup
   (wpAny_getItem_list_neg (Q:=λr s'=>r=w/\EP X pins σ Q r s') pl.isList (by omega) (by rw[Jz] <;> omega) (by omega) (by rw[hj]; simpa using ew) ⟨rfl,fin⟩) hs
theorem DC:IxR X (HE X.K):=by
 intro value slice pins s σ H x y v u Q I rx ry h hs;obtain⟨p,xs,i,z,rfl,rfl,hq,he,q⟩:=h;cases rx;obtain⟨t,rfl⟩:=ry;obtain⟨its,r,pl,hz⟩:=I.tuple hq;obtain⟨j,h1,h2,h3,h4,h5⟩:=oM he;obtain⟨w,ew,rw'⟩:=r.get h2;have hl:=r.length;have hn:=jp;have fin:EP X pins σ Q w s:=⟨z,H,I,rw',q⟩;exact MY (x:=w) pl.typeIs slot_tuple_getitem.lookup
  (getItem_tuple (j:=j) (Q:=λr s'=>r=w/\EP X pins σ Q r s') pl (by omega) (by omega) (by rw[Jz,<- hl]; exact h1) (by simpa using ew) ⟨rfl,fin⟩) hs
theorem DD:IxR X HF:=by
 intro value slice pins s σ H x y v u Q I rx ry h hs;obtain⟨z,i,c,rfl,rfl,hz,he,q⟩:=h;obtain⟨t,rfl⟩:=rx;obtain⟨t',rfl⟩:=ry;obtain⟨j,h1,h2,h3,h4,h5⟩:=oM he;have hl:z.cps.toList.length=z.length:=by simp[R5]
 rw[hl]at h1 h4 h5;have hn:=jp;exact tail_any (typeIs_str s z t) slot_str_getitem.lookup (getItem_str (c:=c) (by
  have e1:decide (i < -(2 ^ 63:Jy))=false:=JZ (by omega)
  have e2:decide (i>=2 ^ 63)=false:=JZ (by omega)
  rw[e1,e2,Pe]) (by rw[h1]; simpa using h2) ⟨.str ⟨[c].toArray⟩,H,I.tok _,⟨_,rfl⟩,q⟩) hs
theorem su (its:Jf Jh)(n j:Jp)(u:Jh):KR (·.setIfInBounds j u) { cls:=.type "list",data:=.seq its.toArray n }={ cls:=.type "list",data:=.seq (its.set j u).toArray n }:=by
 simp[KR]
theorem Inv.lst {pins:Jf (Jq×K2)}{σ:St}{H:Hp}{s:Jk}{p:Jq}{xs:Jf V}(I:Inv X pins σ H s)(h:H p=ba (.lst xs)) :
  ∃(its:Jf Jh) (n:Jp),Vals xs its/\s.heap.get? p=ba { cls:=.type "list",data:=.seq its.toArray n }/\xs.length<=sizeLine:=by
 obtain⟨z,its,n,r,e⟩:=I.hok p _ h;exact⟨its,n,r,e,z⟩
theorem Inv.lstUpd {pins:Jf (Jq×K2)}{σ:St}{H:Hp}{s:Jk}{p:Jq}{xs ys:Jf V}{its its':Jf Jh}{n n':Jp}{f:K2->K2}(I:Inv X pins σ H s)(h:H p=ba (.lst xs))
  (ho:s.heap.get? p=ba { cls:=.type "list",data:=.seq its.toArray n }) (hf:f { cls:=.type "list",data:=.seq its.toArray n }={ cls:=.type "list",data:=.seq its'.toArray n' }) (r:Vals ys its') (hz:ys.length<=sizeLine) (t:Jp) :
  Inv X pins σ (cj H p (.lst ys)) { s with heap:=s.heap.update p f,toks:=t }:=by
 have e:(s.heap.update p f).get? p=ba { cls:=.type "list",data:=.seq its'.toArray n' }:=by
  rw[KU f ho (by rw[hf] <;> rfl),hf]
 refine I.write (x:=p) (e:=p) (by rw[h]; trivial) (.inl rfl) (λb u hb q=>(Kc _ _ (Ne.symm hb)).trans q) ⟨_,e⟩ ?_
 exact⟨hz,its',n',r,e⟩
noncomputable def FK:V->V->V->Hp->(Hp->Prop)->Prop:=λo i v H Q=>∃p xs k j,o=.ref p/\i=.int k/\H p=ba (.lst xs)/\wD xs.length k=ba j/\Q (cj H p (.lst (xs.set j v)))
theorem xn:Dh X FK:=by
 intro pins s σ H o i v ov iv u Q I ro ri rv h;obtain⟨p,xs,k,j,rfl,rfl,hp,hj,q⟩:=h;cases ro;obtain⟨t,rfl⟩:=ri;obtain⟨its,n,r,ho,hz⟩:=I.lst hp;obtain⟨h1,h2,h3,h4⟩:=tM hj;have hl:=r.length;have hn:=jp;have I':Inv X pins σ (cj H p (.lst (xs.set j v))) { s with heap:=s.heap.update p (KR (·.setIfInBounds j u)) }:=
  I.lstUpd hp ho (su its n j u) (r.set rv j) (by rw[Qw]; exact hz) s.toks
 by_cases h0:0<=k
 ·have hk:k.toNat=j:=by
   rw[Qp h0 h4]at h1;exact Kz h1
  exact PySem.W.ki_setAt ho h0 (by omega) (by rw[Jz,<- hl]; exact h4) (by rw[hk]; exact⟨_,I',q⟩)
 ·have hk:(k+(its.toArray.size:Jy)).toNat=j:=by
   rw[PM (by omega) h3]at h1
   rw[Jz,<- hl];exact Kz h1
  exact PySem.W.ki_setBack ho (by omega) (by rw[Jz,<- hl]; exact h3) (by omega) (by rw[hk]; exact⟨_,I',q⟩)
theorem oO (lo hi:Jn Jy)(n:Jp):(sliceBounds lo hi gV n).1=((HT.cV n 0 lo:Jp):Jy)/\(sliceBounds lo hi gV n).2.1=((HT.cV n n hi:Jp):Jy)/\(sliceBounds lo hi gV n).2.2=1:=by
 refine⟨?_,?_,rfl⟩
 ·cases lo with
  | none=>simp[sliceBounds,HT.cV]
  | some i=>
   simp only[sliceBounds,HT.cV,Qg,show(1:Jy) > 0 by decide,K6]
   by_cases h:i < 0
   ·simp only[h,K6] <;> omega
   ·simp only[h,KH] <;> omega
 ·cases hi with
  | none=>simp[sliceBounds,HT.cV]
  | some i=>
   simp only[sliceBounds,HT.cV,Qg,show(1:Jy) > 0 by decide,K6]
   by_cases h:i < 0
   ·simp only[h,K6] <;> omega
   ·simp only[h,KH] <;> omega
theorem mH (its:Jf Jh)(lo hi:Jn Jy):slicePick its.toArray lo hi gV=((its.drop (HT.cV its.length 0 lo)).take (HT.cV its.length its.length hi - HT.cV its.length 0 lo)).toArray:=by
 obtain⟨h1,h2,h3⟩:=oO lo hi its.toArray.size;unfold slicePick;rw[h1,h2,h3];simp only[sliceRange_one,pick_run,Jz] <;> rfl
noncomputable def HG (K:Jv):V->Jn Jy->Jn Jy->Hp->VK->Prop:=λx lo hi H Q=>∃a xs,x=.ref a/\SqL K H a xs/\∀p,H p=gV->Q (.ref p) (cj H p (.lst (ln xs lo hi)))
theorem AC:FH X (HG X.K):=by
 intro pins s σ H x v vl vu lo hi sl Q I rx hs pl pu h;obtain⟨a,xs,rfl,hx,q⟩:=h;cases rx;obtain⟨its,r,ht,hz⟩:=I.list hx;have hlen:=r.length;refine⟨"list",_,slot_list_getitem.lookup,ht.isList.typeIs,?_⟩;refine wpAny_getItem_list_slice ht.isList hs pl pu .none (by simp) ?_ (by rw[Jz] <;> omega)
 rw[mH,<- hlen];refine⟨.ref s.heap.objs.size,_,I.laid (t':=s.toks) (o:=.lst (ln xs lo hi)) (λb ob q=>Jj _ q) (Js _) ?_,rfl,q _ (I.hok.fresh (Js _))⟩
 exact⟨JF (j5 xs lo hi) hz,_,0,(r.drop (HT.cV xs.length 0 lo)).take (HT.cV xs.length xs.length hi - HT.cV xs.length 0 lo),JA _ rfl⟩
noncomputable def hX:V->JW
 | .non=>true
 | .bl _=>true
 | .int _=>true
 | .str _=>true
 | _=>false
noncomputable def AD:V->V->JW
 | .non,.non=>true
 | .bl a,.bl b=>a==b
 | .bl a,.int b=>(if a then 1 else 0)==b
 | .int a,.bl b=>a==(if b then 1 else 0)
 | .int a,.int b=>a==b
 | .str a,.str b=>a==b
 | _,_=>false
theorem DE {A:J1}{s:Jk}{y x:V}{u v:Jh}(ry:RelV y u)(rx:RelV x v)(fy:hX y=true)(fx:hX x=true):Nz A s u v (AD y x):=by
 cases y with
 | non=>
  cases ry;cases x with
  | non=>cases rx; exact Sq _
  | bl b=>cases rx; exact RL b
  | int b=>obtain⟨t,rfl⟩:=rx; exact RT b t
  | str b=>obtain⟨t,rfl⟩:=rx; exact RV b t
  | _=>exact absurd (show false=true from fx) JU
 | bl a=>
  cases ry;cases x with
  | non=>cases rx; exact RM a
  | bl b=>cases rx; exact RN a b
  | int b=>obtain⟨t,rfl⟩:=rx; exact RW a b t
  | str b=>obtain⟨t,rfl⟩:=rx; exact RX a b t
  | _=>exact absurd (show false=true from fx) JU
 | int a=>
  obtain⟨t',rfl⟩:=ry;cases x with
  | non=>cases rx; exact RY a t'
  | bl b=>cases rx; exact RZ a t' b
  | int b=>obtain⟨t,rfl⟩:=rx; exact R6 a t' b t
  | str b=>obtain⟨t,rfl⟩:=rx; exact Ph a t' b t
  | _=>exact absurd (show false=true from fx) JU
 | str a=>
  obtain⟨t',rfl⟩:=ry;cases x with
  | non=>cases rx; exact R0 a t'
  | bl b=>cases rx; exact R1 a t' b
  | int b=>obtain⟨t,rfl⟩:=rx; exact Pi a t' b t
  | str b=>obtain⟨t,rfl⟩:=rx; exact R7 a t' b t
  | _=>exact absurd (show false=true from fx) JU
 | _=>exact absurd (show false=true from fy) JU
noncomputable def sv (x:V)(u:Jh):JW:=match u with
 | .none=>AD .non x
 | .bool b=>AD (.bl b) x
 | .int i _=>AD (.int i) x
 | .str z _=>AD (.str z) x
 | _=>false
theorem xo {x y:V}{u:Jh}(r:RelV y u)(f:hX y=true):sv x u=AD y x:=by
 cases y with
 | non=>cases r; rfl
 | bl b=>cases r; rfl
 | int i=>obtain⟨t,rfl⟩:=r; rfl
 | str z=>obtain⟨t,rfl⟩:=r; rfl
 | _=>exact absurd (show false=true from f) JU
theorem iK {x:V}:∀ {xs:Jf V} {us:Jf Jh},Vals xs us->xs.all hX=true->us.any (sv x)=xs.any λy=>AD y x
 | _,_,.nil,_=>rfl
 | y::xs,u::us,.cons r t,f=>by
  rw[Kv,Jo]at f;rw[LI,LI,xo r f.1,iK t f.2]
theorem gh {A:J1}{s:Jk}{x:V}{v:Jh}(rx:RelV x v)(fx:hX x=true):∀ {xs:Jf V} {us:Jf Jh},Vals xs us->xs.all hX=true->∀u∈us,Nz A s u v (sv x u)
 | _,_,.nil,_=>λu hu=>by cases hu
 | y::xs,u::us,.cons r t,f=>λu' hu=>by
  rw[Kv,Jo]at f;rcases JP.mp hu with rfl|hu
  ·rw[xo r f.1]; exact DE r rx f.1 fx
  ·exact gh rx fx t f.2 u' hu
noncomputable def G7 (x:V)(xs:Jf V):JW:=xs.any λy=>AD y x
noncomputable def HH (K:Jv)(neg:JW):R2:=λx y H Q=>∃p xs,y=.ref p/\(SqL K H p xs\/SqT K H p xs)/\hX x=true/\xs.all hX=true/\Q (.bl (if neg then !G7 x xs else G7 x xs)) H
theorem vh:OpR X (compareOp .In) (HH X.K false):=by
 intro pins s σ H x y v u Q I rx ry h;obtain⟨p,xs,rfl,hq,fx,fs,q⟩:=h;cases ry;rcases hq with hq|hq
 ·obtain⟨its,r,pl,hz⟩:=I.list hq;refine Qx (sv x) pl.isList (λw hw=>gh rx fx r fs w (by simpa using hw)) ⟨.bl _,H,I,rfl,?_⟩
  rw[show its.toArray.any (sv x)=its.any (sv x) by simp,iK r fs]
  exact q
 ·obtain⟨its,r,pl,hz⟩:=I.tuple hq;refine SeqAt.in_tupleAt (sv x) pl (λw hw=>gh rx fx r fs w (by simpa using hw)) ⟨.bl _,H,I,rfl,?_⟩
  rw[show its.toArray.any (sv x)=its.any (sv x) by simp,iK r fs]
  exact q
theorem oP:OpR X (compareOp .NotIn) (HH X.K true):=by
 intro pins s σ H x y v u Q I rx ry h;obtain⟨p,xs,rfl,hq,fx,fs,q⟩:=h;cases ry;rcases hq with hq|hq
 ·obtain⟨its,r,pl,hz⟩:=I.list hq;refine Pn (sv x) pl.isList (λw hw=>gh rx fx r fs w (by simpa using hw)) ⟨.bl _,H,I,rfl,?_⟩
  rw[show its.toArray.any (sv x)=its.any (sv x) by simp,iK r fs]
  exact q
 ·obtain⟨its,r,pl,hz⟩:=I.tuple hq;refine SeqAt.notIn_tupleAt (sv x) pl (λw hw=>gh rx fx r fs w (by simpa using hw)) ⟨.bl _,H,I,rfl,?_⟩
  rw[show its.toArray.any (sv x)=its.any (sv x) by simp,iK r fs]
  exact q
theorem oQ:CallR X (.type "list") (λxs H Q=>∃p ys,xs=[.ref p]/\(SqL X.K H p ys\/SqT X.K H p ys)/\∀l,H l=gV->Q (.ref l) (cj H l (.lst ys))):=by
 intro pins s σ H xs us Q I r h;obtain⟨p,ys,rfl,hq,q⟩:=h;obtain⟨u,rfl,rx⟩:=nC r;cases rx;have fin:∀(its:Jf Jh),Vals ys its->ys.length<=sizeLine->∀(h':Kg) (c':Jp),(∀b o',s.heap.get? b=ba o'->h'.get? b=ba o')->
   h'.get? s.heap.objs.size=ba { cls:=.type "list",dict:=gV,data:=.seq its.toArray c',slots:=#[] }->EP X pins σ Q (.ref s.heap.objs.size) { s with heap:=h' }:=λits r' hz h' c' kp e=>
  ⟨.ref s.heap.objs.size,_,I.laid (t':=s.toks) kp (Js _) (show ObjOk X.prog X.w _ h' _ (.lst ys)from⟨hz,its,c',r',e⟩),rfl,q _ (I.hok.fresh (Js _))⟩
 rcases hq with hq|hq
 ·obtain⟨its,r',pl,hz⟩:=I.list hq;have hlen:=r'.length;obtain⟨o,ho,hc,n,hd⟩:=pl.isList;exact Rh p (.inl rfl) ho hc hd (λh' c' kp e=>fin its r' hz h' c' kp e) (by simp only[Jz] <;> omega)
 ·obtain⟨its,r',pl,hz⟩:=I.tuple hq;have hlen:=r'.length;obtain⟨o,ho,hc,n,hd⟩:=pl;exact Rh p (.inr rfl) ho hc hd (λh' c' kp e=>fin its r' hz h' c' kp e) (by simp only[Jz] <;> omega)
theorem hZ:CallR X (.type "tuple") (λxs H Q=>∃p ys,xs=[.ref p]/\((SqL X.K H p ys/\∀l,H l=gV->Q (.ref l) (cj H l (.tup ys)))\/(SqT X.K H p ys/\Q (.ref p) H))):=by
 intro pins s σ H xs us Q I r h;obtain⟨p,ys,rfl,h⟩:=h;obtain⟨u,rfl,rx⟩:=nC r;cases rx;rcases h with⟨hq,q⟩|⟨hq,q⟩
 ·obtain⟨its,r',pl,hz⟩:=I.list hq;have hlen:=r'.length;refine call_tuple_list pl.isList (λh' kp=>?_) (by simp only[Jz] <;> omega)
  have I1:Inv X pins σ H { s with heap:=h' }:=I.kept (t':=s.toks) kp
  have I2:Inv X pins σ (cj H h'.objs.size (.tup ys)) { s with heap:=h'.push { cls:=.type "tuple",data:=.seq its.toArray } }:=
   I1.laid (t':=s.toks) (λb o e=>Jj _ e) (Js _) (show ObjOk X.prog X.w _ _ _ (.tup ys)from⟨hz,its,r',Qd _ _⟩)
  exact⟨.ref h'.objs.size,_,I2,rfl,q _ (I1.hok.fresh (Js _))⟩
 ·obtain⟨its,r',pl,hz⟩:=I.tuple hq;exact call_tuple_same pl ⟨.ref p,H,I,rfl,q⟩
noncomputable def HI (K:Jv)(T:KQ)(x:V)(H:Hp):Prop:=match x with
 | .str _=>T = "str"
 | .int _=>T = "int"
 | .ref p=>(T = "list"/\∃xs,SqL K H p xs)\/(T = "tuple"/\∃o,K.lookup p=ba o/\o.cls=.type "tuple"/\o.dict=gV)\/
   (T = "dict"/\((∃kvs,H p=ba (.dK kvs))\/∃kvs,H p=ba (.dT kvs)))\/(T = "set"/\∃S n,H p=ba (.set S n))
 | _=>KN
theorem xp {pins:Jf (Jq×K2)}{σ:St}{H:Hp}{s:Jk}{T:KQ}{x:V}{v:Jh}(I:Inv X pins σ H s)(r:RelV x v)(ty:HI X.K T x H) :
  s.TypeIs v T/\∀a,v=.ref a->∃ob,s.heap.get? a=ba ob/\ob.dict=gV:=by
 cases x with
 | str z=>
  obtain⟨t,rfl⟩:=r;cases(show T = "str" from ty)
  exact⟨typeIs_str s z t,λ_ e=>nomatch e⟩
 | int i=>
  obtain⟨t,rfl⟩:=r;cases(show T = "int" from ty)
  exact⟨QM s i t,λ_ e=>nomatch e⟩
 | ref p=>
  cases r;rcases ty with⟨rfl,xs,hq⟩|⟨rfl,o,hk,hc,hd⟩|⟨rfl,hk⟩|⟨rfl,S,n,hk⟩
  ·obtain⟨its,_,pl,_⟩:=I.list hq;refine⟨pl.isList.typeIs,λa e=>?_⟩
   cases e;obtain⟨o,n,e,c,hd,_⟩:=pl;exact⟨o,e,hd⟩
  ·refine⟨⟨o,I.kIn p o hk,hc⟩,λa e=>?_⟩
   cases e;exact⟨o,I.kIn _ o hk,hd⟩
  ·have z:∃o,s.heap.get? p=ba o/\o.ExactDict:=by
    rcases hk with⟨kvs,hk⟩|⟨kvs,hk⟩
    ·obtain⟨_,_,_,_,o,_,_,e,ex,_⟩:=I.hok p _ hk;exact⟨o,e,ex⟩
    ·obtain⟨_,_,_,_,o,_,_,e,ex,_⟩:=I.hok p _ hk;exact⟨o,e,ex⟩
   obtain⟨o,e,ex⟩:=z;refine⟨⟨o,e,ex.1⟩,λa e2=>?_⟩
   cases e2;exact⟨o,e,ex.2.1⟩
  ·obtain⟨o,_,_,_,e,ex,_⟩:=I.hok p _ hk;refine⟨⟨o,e,ex.1⟩,λa e2=>?_⟩
   cases e2;exact⟨o,e,ex.2.1⟩
 | _=>exact KN.elim ty
variable{o e:JQ}{es:Jf JQ}{to:TE}{t:TA}{name:JG}{apos cpos:LK}{T id:KQ}{r:V->Jf V->Hp->VK->Prop}
end
noncomputable def HJ (X:Cx)(id:KQ)(r:V->Jf V->Hp->VK->Prop):Prop:=
 ∀(pins:Jf (Jq×K2)) (s:Jk) (σ:St) (H:Hp) (x:V) (xs:Jf V) (v:Jh) (us:Jf Jh) (Q:VK),Inv X pins σ H s->RelV x v->Vals xs us->r x xs H Q->
  wpAny (model X.prog X.w) X.A (call (.builtin id) (v::us)) (EP X pins σ Q) X.xe s
theorem Vals.one:∀ {x:V} {us:Jf Jh},Vals [x] us->∃u,us=[u]/\RelV x u
 | _,_,.cons r .nil=>⟨_,rfl,r⟩
theorem Vals.eraseIdx:∀ {xs:Jf V} {us:Jf Jh} (i:Jp),Vals xs us->Vals (xs.eraseIdx i) (us.eraseIdx i)
 | _,_,_,.nil=>.nil
 | _,_,0,.cons _ t=>t
 | _,_,i+1,.cons r t=>.cons r (Vals.eraseIdx i t)
theorem Vals.rep {xs:Jf V}{us:Jf Jh}(h:Vals xs us):∀k:Jp,Vals (J8 k xs).flatten (J8 k us).flatten
 | 0=>.nil
 | k+1=>by
  rw[K5,K5,LW,LW];exact Vals.append h (Vals.rep h k)
theorem nI {α:Type}:∀(l:Jf α) (i:Jp),(l.eraseIdx i).length<=l.length
 | [],_=>Js _
 | _::_,0=>LX _
 | _::r,i+1=>M9 (nI r i)
theorem nJ (its:Jf Jh):∀(k:Jp) (acc:Jf Jh),
  QN (λx1 x2=>x1++x2) acc.toArray (J8 k its.toArray)=(acc++(J8 k its).flatten).toArray
 | 0,acc=>by simp
 | k+1,acc=>by
  have e:acc.toArray++its.toArray=(acc++its).toArray:=by simp
  have e2:(acc++its)++(J8 k its).flatten=acc++(J8 (k+1) its).flatten:=by
   rw[K5,LW,Lj]
  rw[<- e2,<- nJ its k (acc++its),<- e,K5,List.foldl_cons]
section
variable{X:Cx}{pins:Jf (Jq×K2)}{σ:St}{H:Hp}{s:Jk}{l b:Jq}{xs ys zs:Jf V}
theorem Inv.lset {its its':Jf Jh}{n:Jp}{f:JV Jh->JV Jh}{t':Jp}(I:Inv X pins σ H s)(hH:H l=ba (.lst xs))
  (e:s.heap.get? l=ba { cls:=.type "list",data:=.seq its.toArray n }) (hf:f its.toArray=its'.toArray) (hv:Vals ys its') (hz:ys.length<=sizeLine) :
  Inv X pins σ (cj H l (.lst ys)) { s with heap:=s.heap.update l (KR f),toks:=t' }:=by
 have q:=Qh e f;rw[hf]at q;refine I.write (x:=l) (e:=l) (by rw[hH]; exact trivial) (.inl rfl) (λb' u hb hu=>(Kc s.heap (KR f) (Ne.symm hb)).trans hu) ⟨_,q⟩ ?_
 exact⟨hz,its',_,hv,q⟩
theorem Inv.lnew {its:Jf Jh}{t':Jp}(I:Inv X pins σ H s)(hv:Vals ys its)(hz:ys.length<=sizeLine) :
  Inv X pins σ (cj H s.heap.objs.size (.lst ys)) { s with heap:=s.heap.push { cls:=.type "list",data:=.seq its.toArray },toks:=t' }:=
 I.laid (λ_ _ q=>Jj _ q) (Js _) ⟨hz,its,0,hv,JA _ rfl⟩
theorem Inv.fresh (I:Inv X pins σ H s):H s.heap.objs.size=gV:=I.hok.fresh (Js _)
theorem Inv.lstM (I:Inv X pins σ H s)(hH:H l=ba (.lst xs)):xs.length<=sizeLine/\∃(its:Jf Jh) (n:Jp),Vals xs its/\xs.length=its.length/\s.heap.get? l=ba { cls:=.type "list",data:=.seq its.toArray n }:=by
 obtain⟨z,its,n,r,e⟩:=I.hok l _ hH;exact⟨z,its,n,r,r.length,e⟩
theorem qg {n:Jp}(h:n<=sizeLine):L1 n=false:=by
 unfold L1;exact JZ (by omega)
end
section
variable{X:Cx}
noncomputable def AE:V->Jf V->Hp->VK->Prop:=λx vs H Q=>∃l xs y,x=.ref l/\vs=[y]/\H l=ba (.lst xs)/\xs.length < sizeLine/\Q .non (cj H l (.lst (xs++[y])))
theorem vk:HJ X "list.append" AE:=by
 intro pins s σ H x vs v us Q I rx rv h;obtain⟨l,xs,y,rfl,rfl,hH,hz,q⟩:=h;cases rx;obtain⟨u,rfl,ru⟩:=rv.one;obtain⟨z,its,n,r,hl,e⟩:=I.lstM hH;refine NA F.slot_list_append ⟨_,e,rfl⟩ F.entry_list_append (F.args_list_append_2 _ _) (PN l its.toArray n u (by rw[Jz]; omega)) ⟨e,?_⟩
 refine⟨.non,_,I.lset (its':=its++[u]) hH e (by simp) (r.append (.cons ru .nil)) ?_,rfl,q⟩
 rw[Jt,Ln];exact PP ‹_›
noncomputable def AF:V->Jf V->Hp->VK->Prop:=λx vs H Q=>∃l b xs zs,x=.ref l/\vs=[.ref b]/\H l=ba (.lst xs)/\H b=ba (.lst zs)/\xs.length+zs.length<=sizeLine/\Q .non (cj H l (.lst (xs++zs)))
theorem vm:HJ X "list.extend" AF:=by
 intro pins s σ H x vs v us Q I rx rv h;obtain⟨l,b,xs,zs,rfl,rfl,hH,hB,hz,q⟩:=h;cases rx;obtain⟨u,rfl,ru⟩:=rv.one;cases ru;obtain⟨z,its,n,r,hl,e⟩:=I.lstM hH;obtain⟨z2,its2,n2,r2,hl2,e2⟩:=I.lstM hB;have hsz:its.toArray.size+its2.toArray.size<=sizeLine:=by rw[Jz,Jz]; omega
 have hlong:¬ (!its.toArray.isEmpty&&L1 (its.toArray.size+its2.toArray.size))=true:=by
  rw[qg hsz,NB];exact JU
 refine NA F.slot_list_extend ⟨_,e,rfl⟩ F.entry_list_extend (F.args_list_extend_2 _ _)
  (PQ l its.toArray n b its2.toArray n2 hlong (by rw[Jz]; omega) (Lz ‹_›)) ⟨e,e2,?_⟩
 refine⟨.non,_,I.lset (its':=its++its2) hH e (by simp) (r.append r2) ?_,rfl,q⟩
 rw[Jt]
 assumption
noncomputable def DF:V->Jf V->Hp->VK->Prop:=λx vs H Q=>∃l xs i k y,x=.ref l/\vs=[.int i]/\H l=ba (.lst xs)/\-(2 ^ 63)<=i/\i < 2 ^ 63/\seqIndex? i xs.length=ba k/\xs[k]?=ba y/\Q y (cj H l (.lst (xs.eraseIdx k)))
theorem xq:HJ X "list.pop" DF:=by
 intro pins s σ H x vs v us Q I rx rv h;obtain⟨l,xs,i,k,y,rfl,rfl,hH,h1,h2,hk,hy,q⟩:=h;cases rx;obtain⟨u,rfl,ru⟩:=rv.one;obtain⟨t,rfl⟩:=ru;obtain⟨z,its,n,r,hl,e⟩:=I.lstM hH;obtain⟨w,hw,rw'⟩:=r.get hy;refine NA F.slot_list_pop ⟨_,e,rfl⟩ F.entry_list_pop (F.args_list_pop_2 _ _)
  (RO l its.toArray n i t k w (QP h1 h2) (by rw[Jz,<- hl]; exact hk) (by rw[<- KI]; exact hw) (by rw[Jz]; omega)) ⟨e,?_⟩
 refine⟨y,_,I.lset (its':=its.eraseIdx k) hH e ?_ (r.eraseIdx k) ?_,rw',q⟩
 ·show its.toArray.eraseIdxIfInBounds k=(its.eraseIdx k).toArray;rw[List.eraseIdxIfInBounds_toArray]
 ·have:=nI xs k;exact JF ‹_› ‹_›
noncomputable def HK:R2:=λx y H Q=>∃l b xs zs,x=.ref l/\y=.ref b/\H l=ba (.lst xs)/\H b=ba (.lst zs)/\xs.length+zs.length<=sizeLine/\∀p,H p=gV->Q (.ref p) (cj H p (.lst (xs++zs)))
theorem DG:OpR X (binaryOp .Add) HK:=by
 intro pins s σ H x y v u Q I rx ry h;obtain⟨l,b,xs,zs,rfl,rfl,hH,hB,hz,q⟩:=h;cases rx;cases ry;obtain⟨z,its,n,r,hl,e⟩:=I.lstM hH;obtain⟨z2,its2,n2,r2,hl2,e2⟩:=I.lstM hB;refine PySem.P.add_list e e2 ?_ (by rw[Jz,Jz]; omega)
 have ea:its.toArray++its2.toArray=(its++its2).toArray:=by simp
 rw[ea];exact⟨.ref _,_,I.lnew (t':=s.toks) (r.append r2) (by rw[Jt]; assumption),rfl,q _ I.fresh⟩
noncomputable def HL:R2:=λx y H Q=>∃l k xs,x=.ref l/\y=.int k/\H l=ba (.lst xs)/\-(2 ^ 63)<=k/\k < 2 ^ 63/\xs.length*k.toNat<=sizeLine/\
 ∀p,H p=gV->Q (.ref p) (cj H p (.lst (J8 k.toNat xs).flatten))
theorem AG {α:Type}(xs:Jf α)(k:Jp):(J8 k xs).flatten.length=k*xs.length:=by
 induction k with
 | zero=>simp
 | succ k ih=>rw[K5,LW,Jt,ih,PR,Nat.add_comm]
theorem DH:OpR X (binaryOp .Mult) HL:=by
 intro pins s σ H x y v u Q I rx ry h;obtain⟨l,k,xs,rfl,rfl,hH,h1,h2,hz,q⟩:=h;cases rx;obtain⟨t,rfl⟩:=ry;obtain⟨z,its,n,r,hl,e⟩:=I.lstM hH;have hlen:its.toArray.size*k.toNat<=sizeLine:=by rw[Jz,<- hl]; exact hz
 have hcap:¬ its.toArray.size*k.toNat > (2 ^ 63 - 1) / 8:=by
  have:(sizeLine:Jp)<=(2 ^ 63 - 1) / 8:=by decide
  omega
 have hfit:¬ (!QQ k)=true:=by
  rw[QP h1 h2];exact JU
 have hlong:¬ L1 (its.toArray.size*k.toNat)=true:=by
  rw[qg hlen];exact JU
 have hnew:QN (λx1 x2=>x1++x2) #[] (J8 (if its.toArray.isEmpty=true then 0 else k.toNat) its.toArray)=(J8 k.toNat its).flatten.toArray:=by
  have f0:∀m:Jp,QN (λx1 x2=>x1++x2) #[] (J8 m its.toArray)=(J8 m its).flatten.toArray:=λm=>by
   have:=nJ its m [];rw[Qy]at this;exact this
  rw[f0];cases its with
  | nil=>simp
  | cons a r'=>rw[JX (by simp)]
 refine wpAny_binaryOp_repeat_ref (T:="list") (U:="int") (by decide) ⟨_,e,rfl⟩ (λs'=>QM s' k t) noFill_list_mul F.fills_int_mul F.slot_int_rmul repeat_list F.slot_int_index.lookup
  (NA F.slot_int_rmul (QM s k t) F.entry_int_rmul (F.args_int_rmul_2 _ _) (int___rmul___int_list k t l its.toArray n)
   ⟨e,rfl,⟨_,e,rfl⟩,NA F.slot_list_mul ⟨_,e,rfl⟩ F.entry_list_mul (F.args_list_mul_2 _ _) (Pz l its.toArray n k t hfit hcap hlong) ⟨e,?_⟩⟩)
 rw[hnew];exact⟨.ref _,_,I.lnew (t':=s.toks) (r.rep k.toNat) (by rw[AG,Mw]; exact hz),rfl,q _ I.fresh⟩
end
section
variable{X:Cx}{pins:Jf (Jq×K2)}{σ:St}{H:Hp}{s:Jk}{a:Jq}{y v:V}{u r:Jh}{o:Jn V}{A:J1}{E:Jh->Jk->Prop}
theorem Inv.big (I:Inv X pins σ H s):sysModules < s.heap.objs.size:=by
 have h:mainGlobals < s.heap.objs.size:=(I.mod.glob.keeps I.bk).lt;exact Oj (by decide) h
theorem oR {h':Kg}{t':Jp}{ob:HO}(I:Inv X pins σ H s)(mu:E9 (H a))(hs:K9 a s.heap h')(he:∃q,h'.get? a=ba q)(new:ObjOk X.prog X.w (cj H a ob) h' a ob) :
  Inv X pins σ (cj H a ob) { s with heap:=h',toks:=t' }:=
 I.write (x:=a) (e:=a) mu (.inl rfl) (λb q hb z=>(hs.2 b hb).trans z) he new
end
noncomputable abbrev VV:Jf (V×V)->Jf (Jh×Jh)->Prop:=Oe λp q=>RelV p.1 q.1/\RelV p.2 q.2
end L2
namespace Att
open PySem PySem.W PySem.Calls PyProof.Rows
theorem kq {P:QR}{h:Kg}:∀(ns:Jf Jy) (vs:Jf Jh),WellAll P h vs (ns.map WData.int)->QI vs ns:=by
 intro ns
 induction ns with
 | nil=>
  intro vs w;rw[PU]at w;cases w;exact .nil
 | cons n ns ih=>
  intro vs w;rw[KF]at w;cases w with
  | cons a b=>
   cases a;exact .cons _ _ (ih _ b)
theorem vn {l:OpenLaw}{n:Jp}(hn:l.most=ba n){P:QR}{h:Kg}{args:Jf WData}{vals:Jf Jh}
  (hpre:l.row.toRowW.claim.pre args=true) (hwl:WellAll P h vals args) :
  ∃a vs ns,vals=[J3 a]/\args=[WData.list (ns.map WData.int)]/\h.get? a=ba { cls:=.type "list",data:=.seq vs.toArray }/\QI vs ns/\ns.length<=n:=by
 have hsh:WShape.hasAll [] args [.list .int]=true:=(pre_splitW hpre).1;have hc:l.pre.holds [] { args:=args }=true:=(pre_splitW hpre).2;obtain⟨d,r,rfl,h1,h2⟩:=hasAllW_cons hsh;obtain rfl:=hasAllW_nil h2;obtain⟨xs,rfl,h3⟩:=hasW_list h1;obtain⟨ns,rfl⟩:=items_int h3;have hlen:ns.length<=n:=by
  unfold OpenLaw.pre at hc;have h4:(WTm.not (.lt (.lit (.int (n:Jy))) (.len (.arg 0)))).holds [] { args:=[.list (ns.map .int)] }=true:=by
   have h4:=(holds_andW hc).1;rw[hn]at h4;exact h4
  have h5:=condW_of h4 (w_not (w_lt w_lit (w_len_list (w_arg rfl))));rw[Ji]at h5;refine Qi λq=>?_
  have q':(n:Jy) < ((ns.length:Jp):Jy):=by exact Li.mpr ‹_›
  first
   | (rw[Lr q']at h5; exact absurd h5 (by decide))
   | (simp at h5; omega)
 cases hwl with
 | cons w1 w2=>
  cases w2;cases w1 with
  | list ho hall=>exact⟨_,_,ns,rfl,rfl,ho,kq ns _ hall,hlen⟩
theorem vo (l:OpenLaw)(args:Jf WData):l.row.toRowW.claim.post args (.bool true) args=true:=
 postW_of (r:=l.row.toRowW) (X:=(true==true))
  (show WShape.has [] (.bool true) .bool=true by first|rfl|decide|simp[WShape.has,WShape.arms,WShape.armsAll])
  (show(WTm.eq .res (.lit (.bool true))).value [] { args:=args,res:=ba (.bool true),after:=args }=ba (.bool (true==true))from w_eq_bool (w_res rfl) w_lit) rfl
theorem attach_call {l:OpenLaw}{n:Jp}{q:JY}{loose:Jf JG}{XP:(JG->Jn Jh)->Kg->Prop}{YP:J6->Kg->Prop}{d:DefRec}
  (hn:l.most=ba n) (hdf:d.params.defaults=[])
  (call:∀(w:J6) (s₀ s₁:Jk) (mg mb:JG->Jn Jh) (fa:Jq) (o:K2) (pm cd doc:Jh) (a:Jq) (vs:Jf Jh) (ns:Jf Jy),
   Ground q loose [] XP w s₀ mg mb s₁.heap->YP w s₁.heap->
   s₁.heap.get? fa=ba o->o.data=.func (docDef d.name d.params d.body d.scope pm cd doc)->s₁.heap.CodeRec cd d.name->mg d.name=ba (.ref fa)->
   s₁.heap.get? a=ba { cls:=.type "list",data:=.seq vs.toArray }->QI vs ns->ns.length<=n->s₁.gens=#[]->
   codeAny (model l.prog w) callerA (.call (.ref fa) ⟨[.ref a],[]⟩) (λr s'=>r=.ok (.ret (.bool true))/\OldK s₁.heap s'.heap/\s'.os=s₁.os/\NS s'.gens) s₁) :
  WalkO q loose XP YP l.row.toRowW d [] (λf vs=>QS f vs):=by
 intro w s₀ s₁ mg mb G Y fa o pm cd doc dV kV ho hd hcd hD hmg hg args vals as hpre hlay hrd hwl hlo;obtain rfl:dV=.none:=Dflts.none hD hdf;obtain rfl:kV=.none:=Dflts.noKw hD;obtain⟨a,vs,ns,rfl,rfl,hobj,hints,hlen⟩:=vn hn hpre hwl;refine enter_call (MW (call w s₀ s₁ mg mb fa o pm cd doc a vs ns G Y ho (fd_plain hd) hcd hmg hobj hints hlen hg) λr s' hq=>?_)
 obtain⟨rfl,h2,h3,h4⟩:=hq;exact⟨.inl ⟨.bool true,.bool true,[],rfl,λ_=>rfl,.bool true,vo l _,λ_=>⟨Sd,λ_ hm=>(nomatch hm)⟩⟩,h2,h3,h4⟩
end Att
namespace L2
open PySem PySem.Spec PyProof.Rows
theorem nK:∀ {vs:Jf Jh} {ns:Jf Jy},QI vs ns->Vals (ns.map V.int) vs
 | _,_,.nil=>.nil
 | _,_,.cons n t h=>.cons ⟨t,rfl⟩ (nK h)
noncomputable def xr (H:Hp):Prop:=∀b,H b=gV\/∃o xs,H b=ba (.frz o (.lst xs))
theorem xt {P:JY}{w:J6}{K:Jv}{mg mb:JG->Jn Jh}{CX:xh}{k:Jp}{fa a:Jq}{fd:LL}{x:JG}{sp:Sp}{s₁:Jk}{vs:Jf Jh}{ns:Jf Jy}
  (KX:K.In s₁.heap) (hns:s₁.heap.Ns mainGlobals mg) (hb:s₁.heap.Ns builtinsNs mb) (hbb:∀x:JG,x≠"__name__"->mb x=bootBuiltins x) (hlim:s₁.heap.NoLimit) (hg:s₁.gens=#[])
  (ha:s₁.heap.get? a=ba { cls:=.type "list",data:=.seq vs.toArray }) (hi:QI vs ns) (hl:ns.length<=sizeLine) (hr:Room k callerA)
  (F:∀base:Kg,K.In base->base.Ns mainGlobals mg->FnOk P w K mg base CX k fa fd [x] sp) (hbind:∀(s:Jk) (u:Jh),PJ s fd ⟨[u],[]⟩ [(x,u)])
  (hsp:∀H:Hp,xr H->SqL K H a (ns.map V.int)->sp [.ref a] H (λv _=>v=.bl true) λ_ _ _=>KN)
  (hCX:∀H e s',CX [] H s₁ (λ_ _ _=>KN) e s'->KN) :
  codeAny (model P w) callerA (.call (.ref fa) ⟨[.ref a],[]⟩) (λr s'=>r=.ok (.ret (.bool true))/\OldK s₁.heap s'.heap/\s'.os=s₁.os/\NS s'.gens) s₁:=by
 have rv:=nK hi;have lenV:=hi.length;have core:∀H:Hp,xr H->SqL K H a (ns.map V.int)->HOk P w H s₁.heap->(∀b,H b≠gV->b=a)->(H a≠gV->K.lookup a=gV)->
   codeAny (model P w) callerA (.call (.ref fa) ⟨[.ref a],[]⟩) (λr s'=>r=.ok (.ret (.bool true))/\OldK s₁.heap s'.heap/\s'.os=s₁.os/\NS s'.gens) s₁:=by
  intro H hO hS hok hA hK;have base_of:∀ {b:Jq} {o:K2},s₁.heap.get? b=ba o->H b=gV->(oH s₁.heap H).get? b=ba o:=λe n=>wK e n
  have noA:∀ {b:Jq} {o:K2} {es:JV LA} {ep:Jp},s₁.heap.get? b=ba o->o.data=.dict es ep->H b=gV:=λ{b o es ep} e d=>by
   cases q:H b with
   | none=>rfl
   | some u=>
    have e':b=a:=hA b (by rw[q]; simp)
    subst e';rw[ha]at e; cases e
    have d':Data.seq vs.toArray _=Data.dict es ep:=d;cases d'
  have nsK:∀ {b:Jq} {m:JG->Jn Jh},s₁.heap.Ns b m->(oH s₁.heap H).Ns b m:=λ{b m} ⟨o,es,ep,e,d,r⟩=>⟨o,es,ep,base_of e (noA e d),d,r⟩
  have hKb:K.In (oH s₁.heap H):=λb o e=>base_of (KX b o e) (by
   cases q:H b with
   | none=>rfl
   | some u=>
    have e':b=a:=hA b (by rw[q]; simp)
    subst e';rw[hK (by rw[q]; simp)]at e; cases e)
  have hM:Mod K mg (oH s₁.heap H):=⟨hKb,nsK hns,⟨mb,nsK hb,hbb⟩,let ⟨mc,h1,h2⟩:=hlim; ⟨mc,nsK h1,h2⟩⟩
  have e0:Env0 P w K mg (oH s₁.heap H) callerA [] s₁ H:=⟨rfl,hM,λb o e=>Ah e,Nat.le_of_eq (u7 _ _),trivial,λb hb=>absurd (show b∈([]:Jf Jq)from hb) (by simp),hok,.of_eq hg⟩
  refine MW ((F _ hKb (nsK hns)).run callerA [] s₁ H ⟨[.ref a],[]⟩ [.ref a] [.ref a] _ _ hr e0 (hbind s₁ (.ref a)) (.cons rfl .nil) (hsp H hO hS)) λr s' h=>?_
  cases r with
  | error e=>exact(hCX H e s' h).elim
  | ok fl=>
   cases fl with
   | next=>exact KN.elim h
   | brk=>exact KN.elim h
   | cont=>exact KN.elim h
   | ret u=>
    obtain⟨v,H',os,bare,un,hok',r',q⟩:=h;have q':v=.bl true:=q;subst q';obtain rfl:u=Mp true:=r';refine⟨rfl,OldK.of_keep λb o e=>?_,os,bare⟩
    cases q:H b with
    | none=>exact un.keep b o e q (by intro z; exact absurd (show b∈([]:Jf Jq)from z) (by simp)) (by simp)
    | some u=>
     rcases hO b with z|⟨ob,xs,z⟩
     ·rw[q]at z; cases z
     ·have z2:=un.frzs b ob _ z;obtain⟨e1,_⟩:=hok b _ z;obtain⟨e2,_⟩:=hok' b _ z2;rw[e]at e1; cases e1
      exact e2
 cases hk:K.lookup a with
 | some o=>
  have e:=KX a o hk;rw[ha]at e;cases e;refine core (λ_=>gV) (λ_=>.inl rfl) (.inr ⟨_,vs.toArray,_,hk,rfl,rfl,rfl,by rw[Jz,lenV]; exact hl,by simpa using rv⟩) (λb u z=>by have z':(gV:Jn HO)=ba u:=z; cases z') (λb z=>absurd rfl z) λz=>absurd rfl z
 | none=>
  refine core (λb=>if b=a then ba (.frz { cls:=.type "list",data:=.seq vs.toArray } (.lst (ns.map V.int)))else gV) (λb=>?_) (.inl (.inr ⟨{ cls:=.type "list",data:=.seq vs.toArray },JN rfl⟩)) (λb u z=>?_) (λb z=>?_) λ_=>hk
  ·by_cases hb:b=a
   ·exact .inr ⟨_,_,JN hb⟩
   ·exact .inl (JX hb)
  ·by_cases hb:b=a
   ·have z':=(JN hb).symm.trans z;cases z';subst hb;exact⟨ha,by rw[Ji]; exact hl,vs,_,rv,ha⟩
   ·have z':=(JX hb).symm.trans z;cases z'
  ·by_cases hb:b=a
   ·exact hb
   ·exact absurd (JX hb) z
theorem AH {l:Ou}{n k:Jp}{q:JY}{loose:Jf JG}{XP:(JG->Jn Jh)->Kg->Prop}{YP:J6->Kg->Prop}{d:DefRec}{K:QR->Jv}{CX:J6->xh}{sp:J6->Sp}{x:JG}
  (hn:l.most=ba n) (hn2:n<=sizeLine) (hdf:d.params.defaults=[]) (hr:Room k callerA)
  (hY:∀(w:J6) (h:Kg),YP w h->(K w.params).In h)
  (F:∀(w:J6) (mg:JG->Jn Jh) (fa:Jq) (h:Kg),(K w.params).In h->h.Ns mainGlobals mg->mg d.name=ba (.ref fa)->
   ∃fd:LL,(∀(s:Jk) (u:Jh),PJ s fd ⟨[u],[]⟩ [(x,u)])/\
    ∀base:Kg,(K w.params).In base->base.Ns mainGlobals mg->FnOk l.prog w (K w.params) mg base (CX w) k fa fd [x] (sp w))
  (hsp:∀(w:J6) (H:Hp) (a:Jq) (ns:Jf Jy),ns.length<=n->xr H->SqL (K w.params) H a (ns.map V.int)->sp w [.ref a] H (λv _=>v=.bl true) λ_ _ _=>KN)
  (hCX:∀(w:J6) (H:Hp) (s:Jk) (e:Jh) (s':Jk),CX w [] H s (λ_ _ _=>KN) e s'->KN) :
  Ri q loose XP YP l.row.toRowW d [] (λf vs=>QS f vs):=by
 refine Att.attach_call hn hdf λw s₀ s₁ mg mb fa o pm cd doc a vs ns G Y ho hd hcd hmg hobj hints hlen hg=>?_
 have KX:=hY w _ Y;obtain⟨fd,hb,hF⟩:=F w mg fa _ KX G.T.g hmg;exact xt KX G.T.g G.T.b G.T.builtins G.T.nolimit hg hobj hints (JF hlen hn2) hr hF hb (λH hO hS=>hsp w H a ns hlen hO hS) λH e s'=>hCX w H s₁ e s'
noncomputable def d4 (s:L0):Arguments:=match s with
 | .FunctionDef _ a _ _ _ _ _ _ _ _=>a
 | _=>{ posonlyargs:=[],args:=[],vararg:=gV,kwonlyargs:=[],kw_defaults:=[],kwarg:=gV,defaults:=[] }
noncomputable def dq (s:L0):Jf L0:=match s with
 | .FunctionDef _ _ b _ _ _ _ _ _ _=>b
 | _=>[]
noncomputable def ag (s:L0):Mm:=match s with
 | .FunctionDef _ _ _ _ _ _ sc _ _ _=>sc
 | _=>{ kind:=.function,names:=[],isGenerator:=false,isCoroutine:=false }
noncomputable abbrev wF:xh:=λ_ _ _ _ _ _=>KN
noncomputable abbrev E0:XK:=λ_ _ _=>KN
theorem Ct {X:Cx}:oK wF X E0:=λ_ _ _ _ _ _ _ h=>h.elim
structure Fun (K:Jv)(x qual:JG)(st:L0)(f:Jq)(fd:LL):Prop where
 ex:∃(oc:Jh) (od:Jn Jq) (kV doc pm:Jh) (an:Jn Jq) (cdv ct:Jh) (osl:JV (Jn Jh)),
  fd=Lo x qual (d4 st) (dq st) (ag st) .none kV doc pm an cdv ct/\K.lookup f=ba ⟨oc,od,.func fd,osl⟩/\Mq K cdv qual=true
 kp:KZ K (.ref f)=true
section
variable{P:JY}{w:J6}{K:Jv}{mg:JG->Jn Jh}{base:Kg}
theorem Fun.ok {x qual:JG}{st:L0}{f:Jq}{fd:LL}{N ps:Jf JG}{k:Jp}{sp:Sp}(F:Fun K x qual st f fd)(S:FnScope N ps (ag st))(len:∀vs H Q E,sp vs H Q E->vs.length=ps.length)
  (hbody:∀(cdv:Jh) (A:J1) (outer:Jf PC) (s:Jk) (H:Hp) (vs:Jf V) (Q:VK) (E:XK),Room k (A.deeper (envOfC qual (ag st) s.heap.objs.size f cdv))->sp vs H Q E->
   ∃t,PSs (sj wF P w K mg base N qual (ag st) f cdv A outer s H E).nox (dq st) t/\t { nx:=λ_ H'=>Q .non H',rt:=Q } (gf N vs) H):FnOk P w K mg base wF (k+1) f fd ps sp:=by
 obtain⟨oc,od,kV,doc,pm,an,cdv,ct,osl,rfl,lk,hcd⟩:=F.ex;refine FC lk hcd S len λA outer s H vs Q E hr hsp=>?_
 obtain⟨t,h,q⟩:=hbody cdv A outer s H vs Q E hr hsp;exact⟨t,h.nox,q⟩
theorem Fun.binds {x qual:JG}{st:L0}{f:Jq}{fd:LL}{ps:Jf JG}(F:Fun K x qual st f fd)
  (h:∀(kV doc pm:Jh) (an:Jn Jq) (cdv ct:Jh) (us:Jf Jh),us.length=ps.length->bindArgs (Lo x qual (d4 st) (dq st) (ag st) .none kV doc pm an cdv ct) ⟨us,[]⟩=pure (ps.zip us)):Binds K fd ps []:=by
 obtain⟨oc,od,kV,doc,pm,an,cdv,ct,osl,rfl,lk,hcd⟩:=F.ex;exact .all (h kV doc pm an cdv ct)
theorem xu {x qual:JG}{st:L0}{f:Jq}{oc:Jh}{od an:Jn Jq}{osl:JV (Jn Jh)}{kV doc pm cdv ct:Jh}(l:K.lookup f=ba ⟨oc,od,.func (Lo x qual (d4 st) (dq st) (ag st) .none kV doc pm an cdv ct),osl⟩)
  (c:Mq K cdv qual=true) (k:KZ K (.ref f)=true):Fun K x qual st f (Lo x qual (d4 st) (dq st) (ag st) .none kV doc pm an cdv ct):=⟨⟨oc,od,kV,doc,pm,an,cdv,ct,osl,rfl,l,c⟩,k⟩
end
section
variable{X:Cx}
theorem pv (i:Jp){x:JG}{pos:LK}(hN:X.N[i]?=ba x:=by rfl)(hv:G3 X.env.scope x)(hd:(x==("__debug__" : JG))=false:=by decide)
  (hcd:(x==("__classdict__" : JG))=false:=by decide):PE X (.Name x pos) (C3 i):=wL hN hv hd hcd
end
end L2
namespace Mi
open PySem PySem.Spec PyProof.Rows L2
noncomputable def fK (t:KG)(n:Jp):JW:=decide (L8 t.place 0=0)&&(Kh n).all λi=>decide (L8 t.place (t.place.getD i 0+1)=i+1)
noncomputable def fA (w:J6):JW:=w.params.followText "set-order"
inductive W where
 | non|bl (b:JW)|int (i:Jy)|str (x:JG)|tup (xs:Jf W)|ref (i:Jp)
inductive T where
 | int (i:Jy)|str (x:JG)|tup (xs:Jf T)
mutual
noncomputable def T.beq:T->T->JW
 | .int i,.int j=>i==j
 | .str x,.str y=>x==y
 | .tup xs,.tup ys=>T.beqs xs ys
 | _,_=>false
noncomputable def T.beqs:Jf T->Jf T->JW
 | [],[]=>true
 | x::xs,y::ys=>T.beq x y&&T.beqs xs ys
 | _,_=>false
end
mutual
theorem T.beq_iff:∀x y:T,T.beq x y=true↔x=y
 | .int i,.int j=>by simp[T.beq]
 | .str x,.str y=>by simp[T.beq]
 | .tup xs,.tup ys=>by simp[T.beq,T.beqs_iff xs ys]
 | .int _,.str _|.int _,.tup _|.str _,.int _|.str _,.tup _|.tup _,.int _|.tup _,.str _=>by simp[T.beq]
theorem T.beqs_iff:∀xs ys:Jf T,T.beqs xs ys=true↔xs=ys
 | [],[]=>by simp[T.beqs]
 | x::xs,y::ys=>by simp[T.beqs,T.beq_iff x y,T.beqs_iff xs ys]
 | [],_::_|_::_,[]=>by simp[T.beqs]
end
noncomputable instance:Mo T:=λx y=>decidable_of_iff (T.beq x y=true) (T.beq_iff x y)
mutual
noncomputable def T.w:T->W
 | .int i=>.int i
 | .str x=>.str x
 | .tup xs=>.tup (T.ws xs)
noncomputable def T.ws:Jf T->Jf W
 | []=>[]
 | x::xs=>T.w x::T.ws xs
end
mutual
noncomputable def W.t:W->Jn T
 | .int i=>ba (.int i)
 | .str x=>ba (.str x)
 | .tup xs=>(W.ts xs).map .tup
 | _=>gV
noncomputable def W.ts:Jf W->Jn (Jf T)
 | []=>ba []
 | x::xs=>match W.t x,W.ts xs with
  | some y,ba ys=>ba (y::ys)
  | _,_=>gV
end
mutual
theorem W.t_w:∀ {w:W} {k:T},W.t w=ba k->k.w=w
 | .int i,_,h=>by cases h; rfl
 | .str x,_,h=>by cases h; rfl
 | .tup xs,_,h=>by
  simp only[W.t,Jl]at h;obtain⟨ks,h1,h2⟩:=h;subst h2;simp only[T.w,W.ts_w h1]
 | .non,_,h|.bl _,_,h|.ref _,_,h=>by cases h
theorem W.ts_w:∀ {ws:Jf W} {ks:Jf T},W.ts ws=ba ks->T.ws ks=ws
 | [],_,h=>by cases h; rfl
 | w::ws,_,h=>by
  simp only[W.ts]at h;split at h
  ·rename_i y ys h1 h2;cases h;simp only[T.ws,W.t_w h1,W.ts_w h2]
  ·cases h
end
mutual
theorem T.w_t:∀k:T,W.t k.w=ba k
 | .int _=>rfl
 | .str _=>rfl
 | .tup xs=>by simp only[T.w,W.t,T.ws_ts xs,Kb]
theorem T.ws_ts:∀ks:Jf T,W.ts (T.ws ks)=ba ks
 | []=>rfl
 | x::xs=>by simp only[T.ws,W.ts,T.w_t x,T.ws_ts xs]
end
mutual
noncomputable def T.depth:T->Jp
 | .tup xs=>T.depths xs+1
 | _=>0
noncomputable def T.depths:Jf T->Jp
 | []=>0
 | x::xs=>max (T.depth x) (T.depths xs)
end
mutual
noncomputable def T.draws:T->Jp
 | .tup xs=>T.drawss xs+1
 | _=>1
noncomputable def T.drawss:Jf T->Jp
 | []=>0
 | x::xs=>T.draws x+T.drawss xs
end
mutual
noncomputable def eS (wd:J6):T->Jy
 | .int i=>hashInt i
 | .str x=>hashStr wd x
 | .tup xs=>reduceHash (MA (im wd xs))
noncomputable def im (wd:J6):Jf T->Jf Jy
 | []=>[]
 | x::xs=>eS wd x::im wd xs
end
noncomputable def T.isTup:T->JW
 | .tup _=>true
 | _=>false
noncomputable def aH:Jp:=6
inductive O where
 | lst (xs:Jf W)
 | fro (xs:Jf W)
 | stt (ks:Jf T)
 | rng (lo hi:Jy)
 | dic (kvs:Jf (T×W))
 | frd (kvs:Jf (T×W))
noncomputable abbrev aa:=Jf O
noncomputable abbrev Fm:=Jf (Jn W)
section
variable (K:Jv) (A:Jf Jq) (H:Hp)
mutual
inductive Rel:W->V->Prop
 | non:Rel .non .non
 | bl {b:JW}:Rel (.bl b) (.bl b)
 | int {i:Jy}:Rel (.int i) (.int i)
 | str {x:JG}:Rel (.str x) (.str x)
 | tup {ws:Jf W} {a:Jq} {vs:Jf V}:SqT K H a vs->RelL ws vs->Rel (.tup ws) (.ref a)
 | ref {i:Jp} {a:Jq}:A[i]?=ba a->Rel (.ref i) (.ref a)
inductive RelL:Jf W->Jf V->Prop
 | nil:RelL [] []
 | cons {w:W} {v:V} {ws:Jf W} {vs:Jf V}:Rel w v->RelL ws vs->RelL (w::ws) (v::vs)
end
end
section
variable{K:Jv}{A A' A'':Jf Jq}{H H' H'':Hp}
structure Ext (K:Jv)(A:Jf Jq)(H:Hp)(A':Jf Jq)(H':Hp):Prop where
 ad:∀(i:Jp) (a:Jq),A[i]?=ba a->A'[i]?=ba a
 tp:∀(a:Jq) (vs:Jf V),SqT K H a vs->SqT K H' a vs
 fz:∀(a:Jq) (o:K2) (u:HO),H a=ba (.frz o u)->H' a=ba (.frz o u)
theorem Ext.refl:Ext K A H A H:=⟨λ_ _ h=>h,λ_ _ h=>h,λ_ _ _ h=>h⟩
theorem Ext.trans (e:Ext K A H A' H')(f:Ext K A' H' A'' H''):Ext K A H A'' H'':=⟨λi a h=>f.ad i a (e.ad i a h),λa vs h=>f.tp a vs (e.tp a vs h),λa o u h=>f.fz a o u (e.fz a o u h)⟩
mutual
theorem Rel.mono (e:Ext K A H A' H'):∀ {w:W} {v:V},Rel K A H w v->Rel K A' H' w v
 | _,_,.non=>.non
 | _,_,.bl=>.bl
 | _,_,.int=>.int
 | _,_,.str=>.str
 | _,_,.tup h r=>.tup (e.tp _ _ h) (RelL.mono e r)
 | _,_,.ref h=>.ref (e.ad _ _ h)
theorem RelL.mono (e:Ext K A H A' H'):∀ {ws:Jf W} {vs:Jf V},RelL K A H ws vs->RelL K A' H' ws vs
 | _,_,.nil=>.nil
 | _,_,.cons r t=>.cons (Rel.mono e r) (RelL.mono e t)
end
theorem RelL.length:∀ {ws:Jf W} {vs:Jf V},RelL K A H ws vs->ws.length=vs.length
 | _,_,.nil=>rfl
 | _,_,.cons _ t=>by simp[RelL.length t]
theorem RelL.get:∀ {ws:Jf W} {vs:Jf V} {i:Jp} {w:W},RelL K A H ws vs->ws[i]?=ba w->∃v,vs[i]?=ba v/\Rel K A H w v
 | _,_,_,_,.nil,e=>by simp at e
 | _,_,0,_,.cons r _,e=>by simp at e; subst e; exact⟨_,rfl,r⟩
 | _,_,i+1,w,.cons _ t,e=>by
  obtain⟨u,h1,h2⟩:=RelL.get (i:=i) (w:=w) t (by simpa using e)
  exact⟨u,by simpa using h1,h2⟩
theorem RelL.append:∀ {xs ys:Jf W} {us ws:Jf V},RelL K A H xs us->RelL K A H ys ws->RelL K A H (xs++ys) (us++ws)
 | _,_,_,_,.nil,s=>s
 | _,_,_,_,.cons r t,s=>.cons r (RelL.append t s)
theorem RelL.take:∀ {xs:Jf W} {us:Jf V} (n:Jp),RelL K A H xs us->RelL K A H (xs.take n) (us.take n)
 | _,_,0,_=>.nil
 | _,_,_+1,.nil=>.nil
 | _,_,n+1,.cons r t=>.cons r (RelL.take n t)
theorem RelL.drop:∀ {xs:Jf W} {us:Jf V} (n:Jp),RelL K A H xs us->RelL K A H (xs.drop n) (us.drop n)
 | _,_,0,r=>r
 | _,_,_+1,.nil=>.nil
 | _,_,n+1,.cons _ t=>RelL.drop n t
theorem RelL.set {x:W}{u:V}(r:Rel K A H x u):∀ {xs:Jf W} {us:Jf V} (i:Jp),RelL K A H xs us->RelL K A H (xs.set i x) (us.set i u)
 | _,_,_,.nil=>.nil
 | _,_,0,.cons _ t=>.cons r t
 | _,_,i+1,.cons q t=>.cons q (RelL.set r i t)
theorem RelL.rep {xs:Jf W}{us:Jf V}(h:RelL K A H xs us):∀k:Jp,RelL K A H (J8 k xs).flatten (J8 k us).flatten
 | 0=>.nil
 | k+1=>by
  rw[K5,K5,LW,LW];exact RelL.append h (RelL.rep h k)
theorem RelL.eraseIdx:∀ {xs:Jf W} {us:Jf V} (i:Jp),RelL K A H xs us->RelL K A H (xs.eraseIdx i) (us.eraseIdx i)
 | _,_,_,.nil=>.nil
 | _,_,0,.cons _ t=>t
 | _,_,i+1,.cons r t=>.cons r (RelL.eraseIdx i t)
noncomputable def FroL (K:Jv)(H:Hp)(a:Jq)(vs:Jf V):Prop:=
 (∃o,H a=ba (.frz o (.lst vs)))\/
  ∃(o:K2) (its:JV Jh) (n:Jp),K.lookup a=ba o/\o.cls=.type "list"/\o.dict=gV/\o.data=.seq its n/\its.size<=sizeLine/\Vals vs its.toList
theorem FroL.sq {a:Jq}{vs:Jf V}(h:FroL K H a vs):SqL K H a vs:=by
 rcases h with⟨o,h⟩|h
 ·exact .inl (.inr ⟨o,h⟩)
 ·exact .inr h
noncomputable def xv (wd:J6)(x:T×Jq×Jh):LA:=⟨eS wd x.1,.ref x.2.1,x.2.2⟩
noncomputable def DicAt (wd:J6)(a:Jq)(xs:Jf (T×Jq×Jh))(h:Kg):Prop:=
 xs.length<=sizeLine/\(a==sysModules)=false/\(xs.map (·.1)).Nodup/\∃o es ep,h.get? a=ba o/\o.ExactDict/\o.data=.dict es ep/\es.toList=xs.map (xv wd)
noncomputable def ey (wd:J6)(a:Jq)(xs:Jf (T×Jq×Jh)):HO:=.ext (DicAt wd a xs)
noncomputable def KRel (K:Jv)(A:Jf Jq)(H:Hp):Jf (T×W)->Jf (T×Jq×Jh)->Prop:=
 Oe λ(p:T×W) (q:T×Jq×Jh)=>p.1=q.1/\p.1.isTup=true/\p.1.depth<=aH/\Rel K A H p.1.w (.ref q.2.1)/\∃v,Rel K A H p.2 v/\RelV v q.2.2
theorem KRel.mono (e:Ext K A H A' H'){kvs:Jf (T×W)}{xs:Jf (T×Jq×Jh)}(h:KRel K A H kvs xs):KRel K A' H' kvs xs:=
 Paired.mapP h λ_ _ ⟨h1,h2,h3,h4,v,h5,h6⟩=>⟨h1,h2,h3,h4.mono e,v,h5.mono e,h6⟩
variable{wd:J6}
noncomputable def AI (wd:J6)(as:Jf Jq)(o:K2):Prop:=o.ExactSet/\∃es ep t,o.data=.set es ep t/\es.size<=sizeLine/\t.fits es.size=true/\t.led=(!fA wd)/\(t.plain=true->es.size=0\/fK t es.size=true)/\es.toList.map (·.2)=as.map J3
noncomputable def ObjRel (wd:J6)(K:Jv)(A:Jf Jq)(H:Hp)(a:Jq):O->Prop
 | .lst ws=>∃vs,H a=ba (.lst vs)/\RelL K A H ws vs
 | .fro ws=>∃vs,FroL K H a vs/\RelL K A H ws vs
 | .stt ks=>∃o φ as,H a=ba (.frz o (.ext φ))/\AI wd as o/\RelL K A H (T.ws ks) (as.map V.ref)
 | .rng lo hi=>H a=ba (.rng lo hi)
 | .dic kvs=>∃xs,H a=ba (ey wd a xs)/\KRel K A H kvs xs
 | .frd kvs=>∃o xs,H a=ba (.frz o (ey wd a xs))/\KRel K A H kvs xs
noncomputable def O.mut:O->JW
 | .fro _=>false
 | .stt _=>false
 | .rng _ _=>false
 | .frd _=>false
 | _=>true
structure StoreOk (wd:J6)(K:Jv)(A:Jf Jq)(H:Hp)(S:aa):Prop where
 len:A.length=S.length
 nd:∀(i j:Jp) (a:Jq) (o u:O),S[i]?=ba o->o.mut=true->S[j]?=ba u->u.mut=true->A[i]?=ba a->A[j]?=ba a->i=j
 obj:∀(i:Jp) (o:O) (a:Jq),S[i]?=ba o->A[i]?=ba a->ObjRel wd K A H a o
noncomputable def EnvRel (K:Jv)(A:Jf Jq)(H:Hp)(ρ:Fm)(σ:L2.St):Prop:=
 ρ.length=σ.length/\∀(i:Jp) (w:W),ρ[i]?=ba (ba w)->∃v,σ[i]?=ba (ba v)/\Rel K A H w v
theorem EnvRel.mono {ρ:Fm}{σ:L2.St}(e:Ext K A H A' H')(h:EnvRel K A H ρ σ):EnvRel K A' H' ρ σ:=
 ⟨h.1,λi w q=>let ⟨v,a,b⟩:=h.2 i w q; ⟨v,a,b.mono e⟩⟩
theorem EnvRel.set {ρ:Fm}{σ:L2.St}{w:W}{v:V}(h:EnvRel K A H ρ σ)(r:Rel K A H w v)(i:Jp):EnvRel K A H (ρ.set i (ba w)) (σ.set i (ba v)):=by
 refine⟨by simp[h.1],λj w' q=>?_⟩
 rw[K7]at q ⊢
 by_cases e:i=j
 ·subst e;rw[JN rfl]at q ⊢
  by_cases hl:i < ρ.length
  ·rw[JN hl]at q;rw[JN (h.1 ▸ hl)];cases q;exact⟨v,rfl,r⟩
  ·rw[JX hl]at q; cases q
 ·rw[JX e]at q ⊢;exact h.2 j w' q
noncomputable def Wr (H:Hp)(p:Jq):Prop:=H p=gV\/(∃xs,H p=ba (.lst xs))\/(∃φ,H p=ba (.ext φ))\/∃ks,H p=ba (.dK ks)
theorem Wr.lst {p:Jq}{xs:Jf V}(h:H p=ba (.lst xs)):Wr H p:=.inr (.inl ⟨xs,h⟩)
theorem Wr.ext {p:Jq}{φ:Kg->Prop}(h:H p=ba (.ext φ)):Wr H p:=.inr (.inr (.inl ⟨φ,h⟩))
theorem Wr.ne_tup {p a:Jq}{xs:Jf V}(hp:Wr H p)(h:H a=ba (.tup xs)):a≠p:=by
 intro e; subst e
 rcases hp with q|⟨xs,q⟩|⟨φ,q⟩|⟨ks,q⟩ <;> (rw[h]at q; cases q)
theorem Wr.ne_frz {p a:Jq}{o:K2}{u:HO}(hp:Wr H p)(h:H a=ba (.frz o u)):a≠p:=by
 intro e; subst e
 rcases hp with q|⟨xs,q⟩|⟨φ,q⟩|⟨ks,q⟩ <;> (rw[h]at q; cases q)
theorem Wr.ne_rng {p a:Jq}{lo hi:Jy}(hp:Wr H p)(h:H a=ba (.rng lo hi)):a≠p:=by
 intro e; subst e
 rcases hp with q|⟨xs,q⟩|⟨φ,q⟩|⟨ks,q⟩ <;> (rw[h]at q; cases q)
theorem tN {p:Jq}{o:HO}(hp:Wr H p){a:Jq}{vs:Jf V}(h:SqT K H a vs):SqT K (cj H p o) a vs:=by
 rcases h with(h|⟨o',h⟩)|h
 ·exact .inl (.inl (by rw[aN (hp.ne_tup h)]; exact h))
 ·exact .inl (.inr ⟨o',by rw[aN (hp.ne_frz h)]; exact h⟩)
 ·exact .inr h
theorem xw {p:Jq}{o:HO}(hp:Wr H p){a:Jq}{vs:Jf V}(h:FroL K H a vs):FroL K (cj H p o) a vs:=by
 rcases h with⟨o',h⟩|h
 ·exact .inl ⟨o',by rw[aN (hp.ne_frz h)]; exact h⟩
 ·exact .inr h
theorem dG {p:Jq}{o:HO}(hp:Wr H p):Ext K A H A (cj H p o):=⟨λ_ _ h=>h,λ_ _ h=>tN hp h,λ_ _ _ h=>by rw[aN (hp.ne_frz h)]; exact h⟩
theorem dt {p:Jq}{o:HO}(hp:H p=gV):Ext K A H (A++[p]) (cj H p o):=
 ⟨λi a h=>by rw[Kt (Ju.mp h).1]; exact h,λ_ _ h=>tN (.inl hp) h,λ_ _ _ h=>by rw[aN (Wr.ne_frz (.inl hp) h)]; exact h⟩
theorem ObjRel.keep {p a:Jq}{o:HO}{b:O}(hp:Wr H p)(hne:b.mut=true->a≠p)(e:Ext K A H A' (cj H p o))(h:ObjRel wd K A H a b):ObjRel wd K A' (cj H p o) a b:=by
 cases b with
 | lst ws=>
  obtain⟨vs,q,r⟩:=h;exact⟨vs,by rw[aN (hne rfl)]; exact q,r.mono e⟩
 | fro ws=>
  obtain⟨vs,q,r⟩:=h;exact⟨vs,xw hp q,r.mono e⟩
 | stt ks=>
  obtain⟨ob,φ,as,q,r1,r2⟩:=h;exact⟨ob,φ,as,by rw[aN (hp.ne_frz q)]; exact q,r1,r2.mono e⟩
 | rng lo hi=>
  have h:H a=ba (.rng lo hi):=h;show cj H p o a=ba (.rng lo hi);rw[aN (hp.ne_rng h)];exact h
 | dic kvs=>
  obtain⟨xs,q,r⟩:=h;exact⟨xs,by rw[aN (hne rfl)]; exact q,r.mono e⟩
 | frd kvs=>
  obtain⟨ob,xs,q,r⟩:=h;exact⟨ob,xs,by rw[aN (hp.ne_frz q)]; exact q,r.mono e⟩
theorem ObjRel.there {a:Jq}{b:O}(h:ObjRel wd K A H a b)(hm:b.mut=true):H a≠gV:=by
 cases b with
 | lst ws=>obtain⟨vs,q,r⟩:=h; rw[q]; intro z; cases z
 | fro ws=>cases hm
 | stt ws=>cases hm
 | rng lo hi=>cases hm
 | dic kvs=>obtain⟨vs,q,r⟩:=h; rw[q]; intro z; cases z
 | frd ws=>cases hm
theorem ObjRel.wr {a:Jq}{b:O}(h:ObjRel wd K A H a b)(hm:b.mut=true):Wr H a:=by
 cases b with
 | lst ws=>obtain⟨vs,q,r⟩:=h; exact .lst q
 | fro ws=>cases hm
 | stt ws=>cases hm
 | rng lo hi=>cases hm
 | dic kvs=>obtain⟨vs,q,r⟩:=h; exact .ext q
 | frd ws=>cases hm
theorem StoreOk.lay {S:aa}{p:Jq}{o:HO}(h:StoreOk wd K A H S)(hp:H p=gV):StoreOk wd K A (cj H p o) S:=
 ⟨h.len,h.nd,λi b a e ea=>(h.obj i b a e ea).keep (.inl hp) (λhm z=>(h.obj i b a e ea).there hm (z ▸ hp)) (dG (.inl hp))⟩
theorem StoreOk.pushO {S:aa}{p:Jq}{n:O}{u:HO}(h:StoreOk wd K A H S)(hp:H p=gV)(r:ObjRel wd K (A++[p]) (cj H p u) p n):StoreOk wd K (A++[p]) (cj H p u) (S++[n]):=by
 have ex:Ext K A H (A++[p]) (cj H p u):=dt hp;have old:∀ {i:Jp} {o:O} {a:Jq},(S++[n])[i]?=ba o->(A++[p])[i]?=ba a->i < S.length->S[i]?=ba o/\A[i]?=ba a:=λ{i o a} e ea hl=>by
  rw[Kt hl]at e;rw[Kt (h.len ▸ hl)]at ea;exact⟨e,ea⟩
 have new:∀ {i:Jp} {o:O} {a:Jq},(S++[n])[i]?=ba o->(A++[p])[i]?=ba a->¬ i < S.length->i=S.length/\o=n/\a=p:=λ{i o a} e ea hl=>by
  have hi:i=S.length:=by
   have:=(Ju.mp e).1;simp at this;omega
  subst hi;simp at e;rw[<- h.len]at ea;simp at ea;exact⟨rfl,e.symm,ea.symm⟩
 refine⟨by simp[h.len],λi j a o u e1 m1 e2 m2 a1 a2=>?_,λi o a e ea=>?_⟩
 ·by_cases hi:i < S.length <;> by_cases hj:j < S.length
  ·obtain⟨x1,y1⟩:=old e1 a1 hi;obtain⟨x2,y2⟩:=old e2 a2 hj;exact h.nd i j a o u x1 m1 x2 m2 y1 y2
  ·obtain⟨x1,y1⟩:=old e1 a1 hi;obtain⟨_,_,z⟩:=new e2 a2 hj;subst z;exact absurd hp ((h.obj i o a x1 y1).there m1)
  ·obtain⟨x2,y2⟩:=old e2 a2 hj;obtain⟨_,_,z⟩:=new e1 a1 hi;subst z;exact absurd hp ((h.obj j u a x2 y2).there m2)
  ·rw[(new e1 a1 hi).1,(new e2 a2 hj).1]
 ·by_cases hi:i < S.length
  ·obtain⟨x1,y1⟩:=old e ea hi;exact(h.obj i o a x1 y1).keep (.inl hp) (λhm z=>(h.obj i o a x1 y1).there hm (z ▸ hp)) ex
  ·obtain⟨_,rfl,rfl⟩:=new e ea hi;exact r
theorem StoreOk.push {S:aa}{p:Jq}{ws:Jf W}{vs:Jf V}(h:StoreOk wd K A H S)(hp:H p=gV)(r:RelL K A H ws vs):StoreOk wd K (A++[p]) (cj H p (.lst vs)) (S++[.lst ws]):=
 h.pushO hp ⟨vs,bv,r.mono (dt hp)⟩
theorem StoreOk.writeO {S:aa}{i:Jp}{p:Jq}{o0 n:O}{u:HO}(h:StoreOk wd K A H S)(e:S[i]?=ba o0)(m0:o0.mut=true)(ea:A[i]?=ba p)(r:ObjRel wd K A (cj H p u) p n) :
  StoreOk wd K A (cj H p u) (S.set i n)/\Ext K A H A (cj H p u):=by
 have hw:Wr H p:=(h.obj i _ p e ea).wr m0;have ex:Ext K A H A (cj H p u):=dG hw;have hl:i < S.length:=(Ju.mp e).1;refine⟨⟨by simp[h.len],λj k a o u e1 m1 e2 m2 a1 a2=>?_,λj o a e1 a1=>?_⟩,ex⟩
 ·have get:∀ {j:Jp} {o:O},(S.set i n)[j]?=ba o->o.mut=true->∃o',S[j]?=ba o'/\o'.mut=true:=λ{j o} q m=>by
   rw[K7]at q
   by_cases z:i=j
   ·subst z; exact⟨_,e,m0⟩
   ·rw[JX z]at q; exact⟨o,q,m⟩
  obtain⟨o',x1,m1'⟩:=get e1 m1;obtain⟨u',x2,m2'⟩:=get e2 m2;exact h.nd j k a o' u' x1 m1' x2 m2' a1 a2
 ·rw[K7]at e1
  by_cases z:i=j
  ·subst z;rw[JN rfl,JN hl]at e1;cases e1;rw[ea]at a1; cases a1
   exact r
  ·rw[JX z]at e1;exact(h.obj j o a e1 a1).keep hw (λhm q=>z (h.nd i j p _ o e m0 e1 hm ea (q ▸ a1))) ex
theorem StoreOk.write {S:aa}{i:Jp}{p:Jq}{ws:Jf W}{us:Jf V}{ws0:Jf W}(h:StoreOk wd K A H S)(e:S[i]?=ba (.lst ws0))(ea:A[i]?=ba p)(r:RelL K A H ws us) :
  StoreOk wd K A (cj H p (.lst us)) (S.set i (.lst ws))/\Ext K A H A (cj H p (.lst us)):=
 h.writeO e rfl ea ⟨us,bv,r.mono (dG ((h.obj i _ p e ea).wr rfl))⟩
end
noncomputable def iL (S:aa)(i:Jp):Jn (Jf W):=match S[i]? with
 | some (.lst xs)=>ba xs
 | some (.fro xs)=>ba xs
 | _=>gV
noncomputable def p8 (S:aa)(i:Jp):Jn (Jf W):=match S[i]? with
 | some (.lst xs)=>ba xs
 | _=>gV
noncomputable def mI (S:aa)(xs:Jf W):Jn (W×aa):=if xs.length<=sizeLine then ba (.ref S.length,S++[.lst xs])else gV
noncomputable def sw (S:aa)(xs:Jf W):Jn (W×aa):=if xs.length<=sizeLine then ba (.tup xs,S)else gV
noncomputable def AJ (j:Jy):JW:=decide (0 < j)&&decide (j < 1073741824)
noncomputable def vp (i j:Jy):JW:=(decide (-(2 ^ 64) < i)&&decide (i < 2 ^ 64))||(decide (-(2 ^ 64) < j)&&decide (j < 2 ^ 64))
noncomputable def FL (i j:Jy):JW:=decide (0<=j)&&decide (j<=1000000)&&decide (i.natAbs < 2 ^ 64)
inductive BOp where|add|sub|mul|fdiv|mod|pow
 deriving Mo
noncomputable def Ae (c:Jy->Jy->JW)(f:Jy->Jy->Jy)(x y:W)(S:aa):Jn (W×aa):=match x,y with
 | .int i,.int j=>if c i j then ba (.int (f i j),S)else gV
 | _,_=>gV
noncomputable def vt (x y:W)(S:aa):Jn (W×aa):=match x with
 | .int i=>match y with
  | .int j=>ba (.int (i+j),S)
  | _=>gV
 | .str x=>match y with
  | .str y=>if x.length+y.length<=sizeLine then ba (.str (x++y),S)else gV
  | _=>gV
 | .tup xs=>match y with
  | .tup ys=>sw S (xs++ys)
  | _=>gV
 | .ref i=>match y with
  | .ref j=>match p8 S i,p8 S j with
   | some xs,ba ys=>mI S (xs++ys)
   | _,_=>gV
  | _=>gV
 | _=>gV
noncomputable def xx (x y:W)(S:aa):Jn (W×aa):=match x with
 | .str x=>match y with
  | .int k=>if k < 2 ^ 24/\-(2 ^ 24)<=k/\x.length*k.toNat<=sizeLine then ba (.str (SJ x k),S)else gV
  | _=>gV
 | .ref i=>match y with
  | .int k=>match p8 S i with
   | some xs=>if k < 2 ^ 24/\-(2 ^ 24)<=k/\xs.length*k.toNat<=sizeLine then mI S (J8 k.toNat xs).flatten else gV
   | none=>gV
  | _=>gV
 | x=>Ae vp (· * ·) x y S
noncomputable def gj:BOp->W->W->aa->Jn (W×aa)
 | .add,x,y,S=>vt x y S
 | .sub,x,y,S=>Ae (λ_ _=>true) (· - ·) x y S
 | .mul,x,y,S=>xx x y S
 | .fdiv,x,y,S=>Ae (λ_ j=>AJ j) (· / ·) x y S
 | .mod,x,y,S=>Ae (λ_ j=>decide (0 < j)) (· % ·) x y S
 | .pow,x,y,S=>Ae FL (λi j=>i ^ j.toNat) x y S
noncomputable def BOp.py:BOp->PH
 | .add=>.Add|.sub=>.Sub|.mul=>.Mult|.fdiv=>.FloorDiv|.mod=>.Mod|.pow=>.Pow
section
variable (X:Cx)
noncomputable def dX (pins:Jf (Jq×K2))(σ:L2.St)(A:Jf Jq)(H:Hp)(S':aa)(w:W)(u:Jh)(s':Jk):Prop:=
 ∃v H' A',Inv X pins σ H' s'/\RelV v u/\Ext X.K A H A' H'/\StoreOk X.w X.K A' H' S'/\Rel X.K A' H' w v
noncomputable abbrev FE:=Fm->aa->Jn (W×aa)
noncomputable def LOp (f:Jh->Jh->RI Jh)(g:W->W->aa->Jn (W×aa)):Prop:=
 ∀(pins:Jf (Jq×K2)) (s:Jk) (σ:L2.St) (H:Hp) (A:Jf Jq) (S:aa) (x y:W) (a b:V) (u v:Jh) (w:W) (S':aa),Inv X pins σ H s->StoreOk X.w X.K A H S->
  Rel X.K A H x a->RelV a u->Rel X.K A H y b->RelV b v->g x y S=ba (w,S')->wpAny (model X.prog X.w) X.A (f u v) (dX X pins σ A H S' w) X.xe s
end
section
variable{X:Cx}
theorem lp {S:aa}{i:Jp}{xs:Jf W}(h:p8 S i=ba xs):S[i]?=ba (.lst xs):=by
 unfold p8 at h;split at h
 ·cases h; assumption
 ·cases h
theorem fj {A:Jf Jq}{H:Hp}{S:aa}{i:Jp}{xs:Jf W}{a:Jq}(so:StoreOk X.w X.K A H S)(h:p8 S i=ba xs)(ea:A[i]?=ba a):∃vs,H a=ba (.lst vs)/\RelL X.K A H xs vs:=
 so.obj i _ a (lp h) ea
theorem cR {A:Jf Jq}{H:Hp}{S:aa}{i:Jp}{xs:Jf W}{a:Jq}(so:StoreOk X.w X.K A H S)(h:iL S i=ba xs)(ea:A[i]?=ba a):∃vs,SqL X.K H a vs/\RelL X.K A H xs vs:=by
 unfold iL at h;split at h
 ·cases h;obtain⟨vs,q,r⟩:=so.obj i _ a ‹_› ea;exact⟨vs,.of q,r⟩
 ·cases h;obtain⟨vs,q,r⟩:=so.obj i _ a ‹_› ea;exact⟨vs,q.sq,r⟩
 ·cases h
theorem kR {S S':aa}{xs:Jf W}{w:W}(h:mI S xs=ba (w,S')):xs.length<=sizeLine/\w=.ref S.length/\S'=S++[.lst xs]:=by
 unfold mI at h;split at h
 ·cases h; exact⟨by assumption,rfl,rfl⟩
 ·cases h
theorem tP {S S':aa}{xs:Jf W}{w:W}(h:sw S xs=ba (w,S')):xs.length<=sizeLine/\w=.tup xs/\S'=S:=by
 unfold sw at h;split at h
 ·cases h; exact⟨by assumption,rfl,rfl⟩
 ·cases h
theorem AK {A:Jf Jq}{H:Hp}{S:aa}{ws:Jf W}{vs:Jf V}{Q:VK}{p:Jq}(so:StoreOk X.w X.K A H S)(r:RelL X.K A H ws vs)(hp:H p=gV)
  (q:∀v H' A',Ext X.K A H A' H'->StoreOk X.w X.K A' H' (S++[.lst ws])->Rel X.K A' H' (.ref S.length) v->Q v H'):Q (.ref p) (cj H p (.lst vs)):=
 q _ _ (A++[p]) (dt hp) (so.push hp r) (.ref (by rw[<- so.len]; simp))
theorem AL {A:Jf Jq}{H:Hp}{S:aa}{ws:Jf W}{vs:Jf V}{Q:VK}{p:Jq}(so:StoreOk X.w X.K A H S)(r:RelL X.K A H ws vs)(hp:H p=gV)
  (q:∀v H' A',Ext X.K A H A' H'->StoreOk X.w X.K A' H' S->Rel X.K A' H' (.tup ws) v->Q v H'):Q (.ref p) (cj H p (.tup vs)):=
 q _ _ A (dG (.inl hp)) (so.lay hp) (.tup (.of bv) (r.mono (dG (.inl hp))))
noncomputable def FM (K:Jv):R2:=λx y H Q=>∃a b xs ys,x=.ref a/\y=.ref b/\SqT K H a xs/\SqT K H b ys/\xs.length+ys.length<=sizeLine/\
 (xs=[]->Q (.ref b) H)/\(ys=[]->Q (.ref a) H)/\(∀p,H p=gV->Q (.ref p) (cj H p (.tup (xs++ys))))
theorem AM:OpR X (binaryOp .Add) (FM X.K):=by
 intro pins s σ H x y v u Q I rx ry h;obtain⟨a,b,xs,ys,rfl,rfl,ha,hb,hz,q0,q1,q2⟩:=h;cases rx;cases ry;obtain⟨its,r1,p1,_⟩:=I.tuple ha;obtain⟨its2,r2,p2,_⟩:=I.tuple hb
 by_cases hx:xs=[]
 ·obtain⟨⟨cls,dd,data,sl⟩,ho,hc,n,hd⟩:=id p1;obtain⟨⟨cls2,dd2,data2,sl2⟩,ho2,hc2,n2,hd2⟩:=id p2;simp only at hc hd hc2 hd2;subst hc hd hc2 hd2;exact PK ⟨_,ho,rfl⟩ ⟨_,ho2,rfl⟩ N8 Pd MX MT (MJ _ _)
   (tuple_addW0 a b its.toArray its2.toArray n n2 dd dd2 sl sl2 (by simp[r1.nil_iff.mpr hx])) ⟨ho,ho2,⟨.ref b,H,I,rfl,q0 hx⟩⟩
 ·refine HT.Ax p1 p2 (λz=>hx (r1.nil_iff.mp z)) (λz=>⟨.ref a,H,I,rfl,q1 (r2.nil_iff.mp z)⟩) (λz=>?_) (by rw[<- r1.length,<- r2.length]; exact hz)
  refine⟨.ref s.heap.objs.size,_,I.laid (t':=s.toks) (o:=.tup (xs++ys)) (λb ob q=>Jj _ q) (Js _) ?_,rfl,q2 _ (I.hok.fresh (Js _))⟩
  exact⟨by rw[Jt]; exact hz,_,r1.append r2,Qd _ _⟩
theorem RelL.nil_iff {K:Jv}{A:Jf Jq}{H:Hp}{ws:Jf W}{vs:Jf V}(r:RelL K A H ws vs):vs=[]↔ws=[]:=by
 cases r <;> simp
theorem sx:OpR X (binaryOp .Mult) (λx y H Q=>∃z k,x=.str z/\y=.int k/\MulOk z k/\Q (.str (SJ z k)) H):=by
 intro pins s σ H x y v u Q I rx ry h;obtain⟨z,k,rfl,rfl,ok,q⟩:=h;obtain⟨t,rfl⟩:=rx;obtain⟨t',rfl⟩:=ry;exact SB.mul ok λt2 k2=>⟨.str _,H,I.tok _,⟨_,rfl⟩,q⟩
theorem xy {x:JG}{k:Jy}(h1:k < 16777216)(h2 : -16777216<=k)(h3:x.length*k.toNat<=sizeLine):MulOk x k:=by
 have hs:sizeLine=16777216:=Ki;rw[hs]at h3;refine⟨?_,λa b=>?_,λ_ _=>?_⟩
 ·rw[Bool.or_eq_false_iff];exact⟨JZ (by omega),JZ (by omega)⟩
 ·have hk:0 < k:=by omega
  have e:(x.length:Jy)*k=((x.length*k.toNat:Jp):Jy):=by
   rw[Ov,O7 (by omega)]
  intro hgt;have h4:(2 ^ 63 - 1:Jy) < (x.length:Jy)*k:=(Int.ediv_lt_iff_lt_mul hk).mp hgt;rw[e]at h4;generalize x.length*k.toNat=z at h3 h4;omega
 ·unfold Ra;rw[hs];exact JZ (by omega)
noncomputable def EndV (wd:J6)(K:Jv)(A:Jf Jq)(H:Hp)(S':aa)(w:W):VK:=λv H'=>∃A',Ext K A H A' H'/\StoreOk wd K A' H' S'/\Rel K A' H' w v
theorem EndV.here {A:Jf Jq}{H:Hp}{S:aa}{w:W}{v:V}(so:StoreOk X.w X.K A H S)(r:Rel X.K A H w v):EndV X.w X.K A H S w v H:=⟨A,.refl,so,r⟩
theorem EndV.lst {A:Jf Jq}{H:Hp}{S:aa}{ws:Jf W}{vs:Jf V}{p:Jq}(so:StoreOk X.w X.K A H S)(r:RelL X.K A H ws vs)(hp:H p=gV):EndV X.w X.K A H (S++[.lst ws]) (.ref S.length) (.ref p) (cj H p (.lst vs)):=
 AK (Q:=EndV X.w X.K A H (S++[.lst ws]) (.ref S.length)) so r hp λv H' A' a b c=>⟨A',a,b,c⟩
theorem EndV.tup {A:Jf Jq}{H:Hp}{S:aa}{ws:Jf W}{vs:Jf V}{p:Jq}(so:StoreOk X.w X.K A H S)(r:RelL X.K A H ws vs)(hp:H p=gV):EndV X.w X.K A H S (.tup ws) (.ref p) (cj H p (.tup vs)):=
 AL (Q:=EndV X.w X.K A H S (.tup ws)) so r hp λv H' A' a b c=>⟨A',a,b,c⟩
theorem EP.post {pins:Jf (Jq×K2)}{σ:L2.St}{A:Jf Jq}{H:Hp}{S':aa}{w:W}{u:Jh}{s':Jk}(h:EP X pins σ (EndV X.w X.K A H S' w) u s'):dX X pins σ A H S' w u s':=by
 obtain⟨v,H',I',r,A',x,y,z⟩:=h;exact⟨v,H',A',I',r,x,y,z⟩
theorem OpR.go {f:Jh->Jh->RI Jh}{r:R2}(h:OpR X f r){pins:Jf (Jq×K2)}{σ:L2.St}{A:Jf Jq}{H:Hp}{S':aa}{w:W}{s:Jk}{a b:V}{u v:Jh}(I:Inv X pins σ H s)(ru:RelV a u)(rv:RelV b v)
  (q:r a b H (EndV X.w X.K A H S' w)):wpAny (model X.prog X.w) X.A (f u v) (dX X pins σ A H S' w) X.xe s:=b8 (h pins s σ H a b u v _ I ru rv q) λ_ _=>EP.post
theorem AN:LOp X (binaryOp .Add) (gj .add):=by
 intro pins s σ H A S x y a b u v w S' I so rx ru ry rv e;cases rx with
 | int=>cases ry with
  | int=>cases e; exact OpR.go Dq I ru rv ⟨_,_,rfl,rfl,.here so .int⟩
  | _=>cases e
 | str=>cases ry with
  | str=>
   simp only[gj,vt]at e;split at e
   ·cases e; exact OpR.go si I ru rv ⟨_,_,rfl,rfl,by assumption,.here so .str⟩
   ·cases e
  | _=>cases e
 | tup h1 r1=>cases ry with
  | tup h2 r2=>
   obtain⟨hl,rfl,rfl⟩:=tP (show sw S _=_ from e)
   rw[Jt,r1.length,r2.length]at hl;refine OpR.go AM I ru rv ⟨_,_,_,_,rfl,rfl,h1,h2,hl,λz=>?_,λz=>?_,λp hp=>.tup so (r1.append r2) hp⟩
   ·have z':=r1.nil_iff.mp z;subst z';exact .here so (.tup h2 r2)
   ·have z':=r2.nil_iff.mp z;subst z';rw[LC];exact .here so (.tup h1 r1)
  | _=>cases e
 | ref h1=>cases ry with
  | ref h2=>
   simp only[gj,vt]at e;split at e
   ·obtain⟨hl,rfl,rfl⟩:=kR e;obtain⟨vs,q1,r1⟩:=fj so ‹_› h1;obtain⟨us,q2,r2⟩:=fj so ‹_› h2;rw[Jt,r1.length,r2.length]at hl;exact OpR.go DG I ru rv ⟨_,_,_,_,rfl,rfl,q1,q2,hl,λp hp=>.lst so (r1.append r2) hp⟩
   ·cases e
  | _=>cases e
 | _=>cases e
theorem qh {f:Jh->Jh->RI Jh}{c:Jy->Jy->JW}{g:Jy->Jy->Jy}{r:R2}(h:OpR X f r)(hr:∀i j H Q,c i j=true->Q (.int (g i j)) H->r (.int i) (.int j) H Q):LOp X f (Ae c g):=by
 intro pins s σ H A S x y a b u v w S' I so rx ru ry rv e;cases rx with
 | int=>cases ry with
  | int=>
   unfold Ae at e;dsimp only at e;split at e
   ·cases e; exact OpR.go h I ru rv (hr _ _ _ _ ‹_› (.here so .int))
   ·cases e
  | _=>cases e
 | _=>cases e
theorem AO:LOp X (binaryOp .Sub) (gj .sub):=qh Dr λ_ _ _ _ _ q=>⟨_,_,rfl,rfl,q⟩
theorem AQ {i j:Jy}(h:vp i j=true):CMul i j:=by
 unfold vp at h;rw[La,Jo,Jo,JK,JK,JK,JK]at h;exact h
theorem AR:LOp X (binaryOp .Mult) (gj .mul):=by
 have hI:LOp X (binaryOp .Mult) (Ae vp (· * ·)):=qh Ds λ_ _ _ _ h q=>⟨_,_,rfl,rfl,AQ h,q⟩
 intro pins s σ H A S x y a b u v w S' I so rx ru ry rv e;cases x with
 | str z=>
  cases rx with
  | str=>cases ry with
   | int=>
    simp only[gj,xx]at e;split at e
    ·rename_i hc;cases e; exact OpR.go sx I ru rv ⟨_,_,rfl,rfl,xy (by omega) (by omega) hc.2.2,.here so .str⟩
    ·cases e
   | _=>cases e
 | ref z=>
  cases rx with
  | ref h1=>cases ry with
   | int=>
    simp only[gj,xx]at e;split at e
    ·split at e
     ·rename_i hc;obtain⟨hl,rfl,rfl⟩:=kR e;obtain⟨vs,q1,r1⟩:=fj so ‹_› h1;rw[r1.length]at hc;exact OpR.go DH I ru rv ⟨_,_,_,rfl,rfl,q1,by omega,by omega,hc.2.2,λp hp=>.lst so (r1.rep _) hp⟩
     ·cases e
    ·cases e
   | _=>cases e
 | _=>exact hI _ _ _ _ _ _ _ _ _ _ _ _ _ _ I so rx ru ry rv e
theorem xz:LOp X (binaryOp .FloorDiv) (gj .fdiv):=qh As λ_ _ _ _ h q=>⟨_,_,rfl,rfl,by
 unfold AJ at h;rw[Jo,JK,JK]at h;exact h,q⟩
theorem AS:LOp X (binaryOp .Mod) (gj .mod):=qh Dt λ_ _ _ _ h q=>⟨_,_,rfl,rfl,Kn h,q⟩
theorem AT:LOp X (binaryOp .Pow) (gj .pow):=qh Du λ_ _ _ _ h q=>⟨_,_,rfl,rfl,by
 unfold FL at h;rw[Jo,Jo,JK,JK,JK]at h;exact⟨h.1.1,h.1.2,h.2⟩,q⟩
theorem tQ (o:BOp):LOp X (binaryOp o.py) (gj o):=by
 cases o
 ·exact AN
 ·exact AO
 ·exact AR
 ·exact xz
 ·exact AS
 ·exact AT
end
noncomputable def io (f:W->W->Jn JW):Jf W->Jf W->Jn JW
 | [],[]=>ba true
 | [],_::_=>ba false
 | _::_,[]=>ba false
 | x::xs,y::ys=>match f x y,io f xs ys with
  | some a,ba b=>ba (a&&b)
  | _,_=>gV
noncomputable def b2 (b:JW):Jy:=if b then 1 else 0
noncomputable def kw (S:aa):Jp->W->W->Jn JW
 | _,.non,y=>match y with
  | .non=>ba true
  | _=>gV
 | _,.bl a,y=>match y with
  | .bl b=>ba (a==b)
  | _=>gV
 | _,.int a,y=>match y with
  | .int b=>ba (a==b)
  | _=>gV
 | _,.str a,y=>match y with
  | .str b=>ba (a==b)
  | _=>gV
 | 0,_,_=>gV
 | d+1,.tup xs,y=>match y with
  | .tup ys=>io (kw S d) xs ys
  | _=>gV
 | d+1,.ref i,y=>match y with
  | .ref j=>match p8 S i,p8 S j with
   | some xs,ba ys=>if xs.length=ys.length then io (kw S d) xs ys else ba false
   | _,_=>gV
  | _=>gV
section
variable{X:Cx}{pins:Jf (Jq×K2)}{σ:L2.St}{H:Hp}{s:Jk}{A:Jf Jq}{S:aa}
noncomputable def RU (K:Jv)(A:Jf Jq)(H:Hp)(w:W)(u:Jh):Prop:=∃v,Rel K A H w v/\RelV v u
theorem tR {ws:Jf W}{vs:Jf V}{us:Jf Jh}(r:RelL X.K A H ws vs)(q:Vals vs us):∀(j:Jp) (h1:j < ws.length) (h2:j < us.length),RU X.K A H ws[j] us[j]:=by
 induction ws generalizing vs us with
 | nil=>intro j h1; simp at h1
 | cons w ws ih=>
  cases r with
  | cons r1 rr=>
   cases q with
   | cons q1 qq=>
    intro j h1 h2;cases j with
    | zero=>exact⟨_,r1,q1⟩
    | succ j=>exact ih rr qq j (by simpa using h1) (by simpa using h2)
theorem xA {ws:Jf W}{u:Jh}(I:Inv X pins σ H s)(h:RU X.K A H (.tup ws) u):∃a its,u=.ref a/\PB s.heap a its/\its.size=ws.length/\ws.length<=sizeLine/\∀(j:Jp) (h1:j < ws.length) (h2:j < its.size),RU X.K A H ws[j] its[j]:=by
 obtain⟨v,r,q⟩:=h;cases r with
 | tup sq rl=>
  obtain⟨its,rv,ht,hz⟩:=I.tuple sq;refine⟨_,its.toArray,q,ht,by rw[Jz,<- rv.length,rl.length],by rw[rl.length]; exact hz,λj h1 h2=>?_⟩
  have:=tR rl rv j h1 (by simpa using h2)
  simpa using this
theorem xB {i:Jp}{ws:Jf W}{u:Jh}(I:Inv X pins σ H s)(so:StoreOk X.w X.K A H S)(e:p8 S i=ba ws)(h:RU X.K A H (.ref i) u):∃a its,u=.ref a/\A[i]?=ba a/\s.heap.IsList a its/\its.size=ws.length/\ws.length<=sizeLine/\∀(j:Jp) (h1:j < ws.length) (h2:j < its.size),RU X.K A H ws[j] its[j]:=by
 obtain⟨v,r,q⟩:=h;cases r with
 | ref ea=>
  obtain⟨vs,hq,rl⟩:=fj so e ea;obtain⟨its,rv,ht,hz⟩:=I.list (.of hq);refine⟨_,its.toArray,q,ea,ht.isList,by rw[Jz,<- rv.length,rl.length],by rw[rl.length]; exact hz,λj h1 h2=>?_⟩
  have:=tR rl rv j h1 (by simpa using h2)
  simpa using this
theorem lq {f:W->W->Jn JW}:∀ {xs ys:Jf W} {k:JW},io f xs ys=ba k->∃e:Jp->JW,(∀(j:Jp) (h1:j < xs.length) (h2:j < ys.length),f xs[j] ys[j]=ba (e j))/\
  k=((Kh (min xs.length ys.length)).all e&&xs.length==ys.length)
 | [],[],k,h=>⟨λ_=>true,λj h1=>by simp at h1,by cases h; rfl⟩
 | [],_::_,k,h=>⟨λ_=>true,λj h1=>by simp at h1,by cases h; simp⟩
 | _::_,[],k,h=>⟨λ_=>true,λj h1 h2=>by simp at h2,by cases h; simp⟩
 | x::xs,y::ys,k,h=>by
  simp only[io]at h;split at h
  ·rename_i a b ha hb;cases h;obtain⟨e,h1,h2⟩:=lq hb;refine⟨λj=>match j with|0=>a|j+1=>e j,λj hj1 hj2=>?_,?_⟩
   ·cases j with
    | zero=>exact ha
    | succ j=>exact h1 j (by simpa using hj1) (by simpa using hj2)
   ·subst h2;simp only[Ky,Nat.add_min_add_right,Ol,Kv,Ry,Bool.and_assoc];congr 2;simp
  ·cases h
theorem AU (I:Inv X pins σ H s)(so:StoreOk X.w X.K A H S):∀(d:Jp) {x y:W} {v:V} {k:JW},Rel X.K A H x v->Rel X.K A H y v->kw S d x y=ba k->k=true:=by
 intro d
 induction d with
 | zero=>
  intro x y v k rx ry e;cases rx with
  | non=>cases ry; cases e; rfl
  | bl=>cases ry; cases e; exact Ko _
  | int=>cases ry; cases e; exact Ko _
  | str=>cases ry; cases e; exact Ko _
  | tup _ _=>cases e
  | ref _=>cases e
 | succ d ih=>
  have lists:∀ {xs ys:Jf W} {vs:Jf V} {k:JW},RelL X.K A H xs vs->RelL X.K A H ys vs->io (kw S d) xs ys=ba k->k=true:=by
   intro xs
   induction xs with
   | nil=>
    intro ys vs k r1 r2 e;cases r1; cases r2; cases e; rfl
   | cons x xs ihx=>
    intro ys vs k r1 r2 e;cases r1 with
    | cons p1 q1=>
     cases r2 with
     | cons p2 q2=>
      simp only[io]at e;split at e
      ·rename_i a b ha hb;cases e;rw[ih p1 p2 ha,ihx q1 q2 hb];rfl
      ·cases e
  intro x y v k rx ry e;cases rx with
  | non=>cases ry; cases e; rfl
  | bl=>cases ry; cases e; exact Ko _
  | int=>cases ry; cases e; exact Ko _
  | str=>cases ry; cases e; exact Ko _
  | tup h1 r1=>
   cases ry with
   | tup h2 r2=>
    rw[I.tuple_inj h1 h2]at r1;exact lists r1 r2 e
   | ref ea=>cases e
  | ref ea=>
   cases ry with
   | tup h2 r2=>cases e
   | ref eb=>
    simp only[kw]at e;split at e
    ·rename_i xs ys hx hy;have:=so.nd _ _ _ _ _ (lp hx) rfl (lp hy) rfl ea eb;subst this;rw[hx]at hy; cases hy
     rw[JN rfl]at e;obtain⟨vs,q,r⟩:=fj so hx ea;exact lists r r e
    ·cases e
theorem br (A:J1):A.in1.units=A.units+1:=rfl
noncomputable abbrev E2 (B:J1)(s:Jk)(u v:Jh)(k:JW):Prop:=SeqAt.RcAt B s u v k/\SeqAt.RcNeAt B s u v (!k)/\Nz B s u v k
open SeqAt in
theorem Cu (I:Inv X pins σ H s)(so:StoreOk X.w X.K A H S):∀(d:Jp) (B:J1) {x y:W} {u v:Jh} {k:JW},B.units+d < cLine->RU X.K A H x u->RU X.K A H y v->kw S d x y=ba k->E2 B s u v k:=by
 have non:∀ {B:J1} {y:W} {u v:Jh} {k:JW} {d:Jp},RU X.K A H .non u->RU X.K A H y v->kw S d .non y=ba k->E2 B s u v k:=by
  intro B y u v k d ⟨_,rx,ra⟩ ⟨_,ry,rb⟩ e;cases rx;cases(show u=Ke from ra)
  cases y with
  | non=>
   have e:ba (true)=ba k:=by cases d <;> exact e
   cases e;cases ry;cases(show v=Ke from rb)
   exact⟨.none_none,.none_none,.same _⟩
  | _=>cases d <;> cases e
 have bl:∀ {B:J1} {b:JW} {y:W} {u v:Jh} {k:JW} {d:Jp},RU X.K A H (.bl b) u->RU X.K A H y v->kw S d (.bl b) y=ba k->E2 B s u v k:=by
  intro B b y u v k d ⟨_,rx,ra⟩ ⟨_,ry,rb⟩ e;cases rx;cases(show u=Mp _ from ra)
  cases y with
  | bl c=>
   have e:ba (b==c)=ba k:=by cases d <;> exact e
   cases e;cases ry;cases(show v=Mp _ from rb)
   exact⟨.bool_bool _ _,.bool_bool _ _,.bool_bool _ _⟩
  | _=>cases d <;> cases e
 have int:∀ {B:J1} {b:Jy} {y:W} {u v:Jh} {k:JW} {d:Jp},RU X.K A H (.int b) u->RU X.K A H y v->kw S d (.int b) y=ba k->E2 B s u v k:=by
  intro B b y u v k d ⟨_,rx,ra⟩ ⟨_,ry,rb⟩ e;cases rx;obtain⟨t0,rfl⟩ : ∃t,u=N7 _ t:=ra;cases y with
  | int c=>
   have e:ba (b==c)=ba k:=by cases d <;> exact e
   cases e;cases ry;obtain⟨t,rfl⟩ : ∃t,v=N7 _ t:=rb;exact⟨.int_int _ _ _ _,.int_int _ _ _ _,.int_int _ _ _ _⟩
  | _=>cases d <;> cases e
 have str:∀ {B:J1} {b:JG} {y:W} {u v:Jh} {k:JW} {d:Jp},RU X.K A H (.str b) u->RU X.K A H y v->kw S d (.str b) y=ba k->E2 B s u v k:=by
  intro B b y u v k d ⟨_,rx,ra⟩ ⟨_,ry,rb⟩ e;cases rx;obtain⟨t0,rfl⟩ : ∃t,u=M7 _ t:=ra;cases y with
  | str c=>
   have e:ba (b==c)=ba k:=by cases d <;> exact e
   cases e;cases ry;obtain⟨t,rfl⟩ : ∃t,v=M7 _ t:=rb;exact⟨.str_str _ _ _ _,.str_str _ _ _ _,.str_str _ _ _ _⟩
  | _=>cases d <;> cases e
 intro d
 induction d with
 | zero=>
  intro B x y u v k hu rx ry e;cases x with
  | non=>exact non rx ry e
  | bl b=>exact bl rx ry e
  | int b=>exact int rx ry e
  | str b=>exact str rx ry e
  | _=>cases e
 | succ d ih=>
  intro B x y u v k hu rx ry e;have hu0:B.units < cLine:=by omega
  have hu1:B.in1.units+d < cLine:=by rw[br]; omega
  have rx0:=rx;have ry0:=ry;have fin:∀ {a b:Jq},u=.ref a->v=.ref b->RcAt B s u v k->RcNeAt B s u v (!k)->E2 B s u v k:=by
   intro a b ea eb h1 h2;subst ea eb;refine⟨h1,h2,?_⟩
   by_cases hab:a=b
   ·subst hab;obtain⟨v1,q1,z1⟩:=rx0;obtain⟨v2,q2,z2⟩:=ry0;have e12:v1=v2:=z1.inj z2;subst e12;have:=AU I so (d+1) q1 q2 e;subst this;exact EqAt.same _
   ·exact EqAt.of_refs hab h1
  cases x with
  | non=>exact non rx ry e
  | bl b=>exact bl rx ry e
  | int b=>exact int rx ry e
  | str b=>exact str rx ry e
  | tup xs=>
   cases y with
   | tup ys=>
    obtain⟨a,its,rfl,ht,hs,_,hi⟩:=xA I rx;obtain⟨b,its2,rfl,ht2,hs2,_,hi2⟩:=xA I ry;obtain⟨f,h1,h2⟩:=lq (show io (kw S d) xs ys=ba k from e)
    have he:∀j (h1:j < its.size) (h2:j < its2.size),EqAt B.in1 s its[j] its2[j] (f j):=λj j1 j2=>
     (ih B.in1 hu1 (hi j (hs ▸ j1) j1) (hi2 j (hs2 ▸ j2) j2) (h1 j (hs ▸ j1) (hs2 ▸ j2))).2.2
    rw[<- hs,<- hs2]at h2;subst h2;exact fin rfl rfl (RcAt.tuples ht ht2 hu0 he) (RcNeAt.tuples ht ht2 hu0 he)
   | _=>cases e
  | ref i=>
   cases y with
   | ref j=>
    simp only[kw]at e;split at e
    ·rename_i ws ws2 hw hw2;obtain⟨a,its,rfl,_,hl,hs,_,hi⟩:=xB I so hw rx;obtain⟨b,its2,rfl,_,hl2,hs2,_,hi2⟩:=xB I so hw2 ry;split at e
     ·rename_i hlen;obtain⟨f,h1,h2⟩:=lq e;have he:∀j (h1:j < its.size) (h2:j < its2.size),EqAt B.in1 s its[j] its2[j] (f j):=λj j1 j2=>
       (ih B.in1 hu1 (hi j (hs ▸ j1) j1) (hi2 j (hs2 ▸ j2) j2) (h1 j (hs ▸ j1) (hs2 ▸ j2))).2.2
      have hk:k=(Kh its.size).all f:=by rw[h2,hs,hlen]; simp
      subst hk;exact fin rfl rfl (RcAt.lists hl hl2 (by rw[hs,hs2,hlen]) hu0 he) (RcNeAt.lists hl hl2 (by rw[hs,hs2,hlen]) hu0 he)
     ·rename_i hlen;cases e;have hb:(its.size != its2.size)=true:=by rw[hs,hs2]; simpa using hlen
      exact fin rfl rfl (RcAt.lists_lengths hl hl2 hb hu0) (RcNeAt.lists_lengths hl hl2 hb hu0)
    ·cases e
   | _=>cases e
end
noncomputable def Cv (fe fl:W->W->Jn JW):Jf W->Jf W->Jn JW
 | [],[]=>ba false
 | [],_::_=>ba true
 | _::_,[]=>ba false
 | x::xs,y::ys=>match fe x y with
  | some true=>Cv fe fl xs ys
  | some false=>fl x y
  | none=>gV
noncomputable def IW (S:aa):Jp->W->W->Jn JW
 | _,.int a,.int b=>ba (decide (a < b))
 | _,.str a,.str b=>ba (decide (a.cps.toList < b.cps.toList))
 | d+1,.tup xs,.tup ys=>Cv (kw S d) (IW S d) xs ys
 | _,_,_=>gV
noncomputable def LtAt (B:J1)(s:Jk)(u v:Jh)(k:JW):Prop:=
 ∀(prog:JY) (w:J6) (E:Jh->Jk->Prop) (Q:Jh->Jk->Prop),Q (.bool k) s->wpAny (model prog w) B (richCompare .Lt u v) Q E s
inductive LexR (B:J1)(s:Jk):Jf Jh->Jf Jh->JW->Prop
 | nn:LexR B s [] [] false
 | nc {v:Jh} {vs:Jf Jh}:LexR B s [] (v::vs) true
 | cn {v:Jh} {vs:Jf Jh}:LexR B s (v::vs) [] false
 | eq {u v:Jh} {us vs:Jf Jh} {k:JW}:Nz B s u v true->LexR B s us vs k->LexR B s (u::us) (v::vs) k
 | ne {u v:Jh} {us vs:Jf Jh} {k:JW}:Nz B s u v false->LtAt B s u v k->LexR B s (u::us) (v::vs) k
section
open PySem.SeqAt
open PySem.AutoSeq1 (wpAny_loadPart')
open PySem.MeetsSeq PySem.MeetsSeq2 PySem.MeetsSeq3
theorem oT (l b:Jq)(items items2:JV Jh)(n n2:Jp)(dd dd2:Jn Jq)(sl sl2:JV (Jn Jh))(k:JW) :
  Meets (Mn.«tuple.__lt__» ⟨[.ref l,.ref b],[]⟩)
   (λB R s=>s.heap.get? l=ba { cls:=.type "tuple",dict:=dd,data:=.seq items n,slots:=sl }/\s.heap.get? b=ba { cls:=.type "tuple",dict:=dd2,data:=.seq items2 n2,slots:=sl2 }/\
    LexR B.in1 s items.toList items2.toList k/\R (.ok (.ret (.bool k))) s):=
 .of_wp λprog w A R s h=>by
  obtain⟨hp,g,d,tk,os⟩:=s; obtain⟨hl,hb,hx,h⟩:=h
  have f2:=Rj;have z1:items.toList.length=items.size:=by simp
  have z2:items2.toList.length=items2.size:=by simp
  wp_walk using Ni hl,Ni hb,Mx _ (λcb b s'=>b.1=gV/\s'=⟨hp,g,d,tk,os⟩/\∃(vs ws:Jf Jh),cb=vs.zip ws/\
   LexR A.in1 ⟨hp,g,d,tk,os⟩ vs ws k/\vs.length+items2.size=ws.length+items.size) _
  case turn=>
   rintro⟨y,x⟩ cb b s' ⟨hb',rfl,vs,ws,hz,hlx,hlen⟩;cases hlx with
   | nn=>rw[PV]at hz; cases hz
   | nc=>rw[PV]at hz; cases hz
   | cn=>rw[List.zip_nil_right]at hz; cases hz
   | eq he hr=>
    rw[Mh]at hz;injection hz with hyx hrest
    injection hyx with hy hx
    subst hy hx;simp only[Ky]at hlen;refine Jg (he prog w _ _ ?_)
    wp_walk
    exact⟨rfl,rfl,_,_,hrest,hr,by omega⟩
   | ne he hr=>
    rw[Mh]at hz;injection hz with hyx hrest
    injection hyx with hy hx
    subst hy hx;refine Jg (he prog w _ _ ?_);have hri:=hr prog w
    wp_walk using hri
    exact⟨_,rfl,by simpa using h⟩
  case fin=>
   rintro⟨b1,b2⟩ s' ⟨hb',rfl,vs,ws,hz,hlx,hlen⟩;simp only at hb';subst hb';have hv:k=decide (items.size < items2.size):=by
    cases hlx with
    | nn=>simp only[Lk]at hlen; exact(JZ (by omega)).symm
    | nc=>simp only[Lk,Ky]at hlen; exact(Lr (by omega)).symm
    | cn=>simp only[Lk,Ky]at hlen; exact(JZ (by omega)).symm
    | eq _ _=>rw[Mh]at hz; cases hz
    | ne _ _=>rw[Mh]at hz; cases hz
   subst hv
   wp_walk
   exact⟨_,rfl,by simpa [P9]using h⟩
  case h=>
   exact⟨rfl,rfl,items.toList,items2.toList,rfl,hx,by omega⟩
end
theorem LtAt.tuples {B:J1}{s:Jk}{l b:Jq}{items items2:JV Jh}{k:JW}(hl:PB s.heap l items)(hb:PB s.heap b items2)(hu:B.units < cLine)(hx:LexR B.in1 s items.toList items2.toList k) :
  LtAt B s (.ref l) (.ref b) k:=λprog w E Q h=>by
 obtain⟨⟨cls,dd,data,sl⟩,ho,hc,n,hd⟩:=id hl;obtain⟨⟨cls2,dd2,data2,sl2⟩,ho2,hc2,n2,hd2⟩:=id hb;simp only at hc hd hc2 hd2;subst hc hd hc2 hd2;exact richCompare_meets_room (op:=.Lt) ⟨_,ho,rfl⟩ ⟨_,ho2,rfl⟩ PySem.F.slot_tuple_lt PySem.F.entry_tuple_lt (PySem.F.args_tuple_lt_2 _ _) (oT l b items items2 n n2 dd dd2 sl sl2 k)
  ⟨ho,ho2,hx,show Mp k≠Value.notImplemented/\Q (.bool k) s from⟨(λx=>nomatch x),h⟩⟩ hu
inductive COp where|eq|ne|lt|le|gt|ge|isin|notin|is|isnot
 deriving Mo
noncomputable def COp.py:COp->Ru
 | .eq=>.Eq|.ne=>.NotEq|.lt=>.Lt|.le=>.LtE|.gt=>.Gt|.ge=>.GtE|.isin=>.In|.notin=>.NotIn|.is=>.Is|.isnot=>.IsNot
noncomputable def cp:W->JW
 | .non=>true
 | .bl _=>true
 | .int _=>true
 | .str _=>true
 | _=>false
noncomputable def xC:W->W->JW
 | .non,.non=>true
 | .bl a,.bl b=>a==b
 | .bl a,.int b=>b2 a==b
 | .int a,.bl b=>a==b2 b
 | .int a,.int b=>a==b
 | .str a,.str b=>a==b
 | _,_=>false
noncomputable def eT (S:aa):W->Jn (Jf W)
 | .tup xs=>ba xs
 | .ref i=>iL S i
 | _=>gV
noncomputable abbrev ip:Jp:=20
noncomputable def AV (x y:W)(S:aa):Jn JW:=match eT S y with
 | some ys=>if cp x&&ys.all cp then ba (ys.any λz=>xC z x)else gV
 | none=>gV
noncomputable def xD:W->JW
 | .non=>true
 | _=>false
noncomputable def xE (f:Jy->Jy->JW):W->W->Jn JW
 | .int i,.int j=>ba (f i j)
 | _,_=>gV
noncomputable def DI:COp->W->W->aa->Jn JW
 | .eq,x,y,S=>kw S ip x y
 | .ne,x,y,S=>(kw S ip x y).map (!·)
 | .lt,x,y,_=>xE (λi j=>decide (i < j)) x y
 | .le,x,y,_=>xE (λi j=>decide (i<=j)) x y
 | .gt,x,y,_=>xE (λi j=>decide (j < i)) x y
 | .ge,x,y,_=>xE (λi j=>decide (j<=i)) x y
 | .isin,x,y,S=>AV x y S
 | .notin,x,y,S=>(AV x y S).map (!·)
 | .is,x,y,_=>if xD y then ba (xD x)else gV
 | .isnot,x,y,_=>if xD y then ba (!xD x)else gV
noncomputable def iM (o:COp)(x y:W)(S:aa):Jn (W×aa):=(DI o x y S).map λk=>(.bl k,S)
section
variable{X:Cx}
theorem tU {pins:Jf (Jq×K2)}{σ:L2.St}{H:Hp}{s:Jk}{A:Jf Jq}{S:aa}{k:JW}(I:Inv X pins σ H s)(so:StoreOk X.w X.K A H S):dX X pins σ A H S (.bl k) (.bool k) s:=
 ⟨.bl k,H,A,I,rfl,.refl,so,.bl⟩
theorem AW {o:COp}{x y w:W}{S S':aa}(h:iM o x y S=ba (w,S')):∃k,DI o x y S=ba k/\w=.bl k/\S'=S:=by
 unfold iM at h;rw[Jl]at h;obtain⟨k,h1,h2⟩:=h;cases h2;exact⟨k,h1,rfl,rfl⟩
theorem qi {A:Jf Jq}{H:Hp}{w:W}{v:V}(r:Rel X.K A H w v)(f:cp w=true):hX v=true:=by
 cases r <;> first|rfl|cases f
theorem nL {A:Jf Jq}{H:Hp}:∀ {ws:Jf W} {vs:Jf V},RelL X.K A H ws vs->ws.all cp=true->vs.all hX=true
 | _,_,.nil,_=>rfl
 | _,_,.cons r t,f=>by
  rw[Kv,Jo]at f ⊢;exact⟨qi r f.1,nL t f.2⟩
theorem AX {A:Jf Jq}{H:Hp}{x y:W}{u v:V}(r:Rel X.K A H x u)(q:Rel X.K A H y v)(fx:cp x=true)(fy:cp y=true):AD u v=xC x y:=by
 cases r <;> cases q <;> first|rfl|cases fx|cases fy
theorem tV {A:Jf Jq}{H:Hp}{y:W}{v:V}(q:Rel X.K A H y v)(fy:cp y=true):∀ {ws:Jf W} {vs:Jf V},RelL X.K A H ws vs->ws.all cp=true->G7 v vs=ws.any λz=>xC z y
 | _,_,.nil,_=>rfl
 | _,_,.cons r t,f=>by
  rw[Kv,Jo]at f;have:=tV q fy t f.2;unfold G7 at this ⊢;rw[LI,LI,AX r q f.1 fy,this]
theorem oU {pins:Jf (Jq×K2)}{σ:L2.St}{H:Hp}{s:Jk}{A:Jf Jq}{S:aa}{y:W}{b:V}{ys:Jf W}(so:StoreOk X.w X.K A H S)(r:Rel X.K A H y b)(e:eT S y=ba ys):∃p vs,b=.ref p/\(SqL X.K H p vs\/SqT X.K H p vs)/\RelL X.K A H ys vs:=by
 cases r with
 | tup h1 r1=>cases e; exact⟨_,_,rfl,.inr h1,r1⟩
 | ref ea=>
  obtain⟨vs,h1,r1⟩:=cR so e ea;exact⟨_,vs,rfl,.inl h1,r1⟩
 | _=>cases e
theorem xF {neg:JW}{o:Ru}(ho:OpR X (compareOp o) (HH X.K neg)){pins:Jf (Jq×K2)}{σ:L2.St}{H:Hp}{s:Jk}{A:Jf Jq}{S:aa}{x y:W}{a b:V}{u v:Jh}{ys:Jf W}(I:Inv X pins σ H s)(so:StoreOk X.w X.K A H S)
  (rx:Rel X.K A H x a) (ru:RelV a u) (ry:Rel X.K A H y b) (rv:RelV b v) (e:eT S y=ba ys) (f:(cp x&&ys.all cp)=true) :
  wpAny (model X.prog X.w) X.A (compareOp o u v) (dX X pins σ A H S (.bl (if neg then !ys.any λz=>xC z x else ys.any λz=>xC z x))) X.xe s:=by
 obtain⟨p,vs,rfl,hq,rl⟩:=oU (pins:=pins) (σ:=σ) (s:=s) so ry e;rw[Jo]at f;refine OpR.go ho I ru rv ⟨p,vs,rfl,hq,qi rx f.1,nL rl f.2,?_⟩;rw[tV rx f.1 rl f.2];exact .here so .bl
theorem AY (hu:X.A.units+ip < cLine)(o:COp):LOp X (compareOp o.py) (iM o):=by
 intro pins s σ H A S x y a b u v w S' I so rx ru ry rv e;obtain⟨k,ek,e1,e2⟩:=AW e;subst e1;subst e2;clear e
 rename aa=>S
 have twoI:∀ {f:Jy->Jy->JW},xE f x y=ba k->∃i j,x=.int i/\y=.int j/\k=f i j:=by
  intro f h;cases x with
  | int i=>cases y with
   | int j=>cases h; exact⟨i,j,rfl,rfl,rfl⟩
   | _=>cases h
  | _=>cases h
 have hu1:X.A.units+1 < cLine:=by have:ip=20:=rfl; omega
 have ofSq:∀ {c:JW},AV x y S=ba c->(∃ys,eT S y=ba ys/\(cp x&&ys.all cp)=true/\c=ys.any λz=>xC z x):=by
  intro c h;unfold AV at h;split at h
  ·split at h
   ·cases h; exact⟨_,by assumption,by assumption,rfl⟩
   ·cases h
  ·cases h
 have ofN:∀ {c:JW},(if xD y then ba c else gV)=ba k->y=.non/\k=c:=by
  intro c h;cases y with
  | non=>cases h; exact⟨rfl,rfl⟩
  | _=>cases h
 cases o with
 | eq=>exact(Cu I so ip X.A hu ⟨a,rx,ru⟩ ⟨b,ry,rv⟩ ek).1 _ _ _ _ (tU I so)
 | ne=>
  obtain⟨k',h1,rfl⟩:=Jl.mp ek;exact(Cu I so ip X.A hu ⟨a,rx,ru⟩ ⟨b,ry,rv⟩ h1).2.1 _ _ _ _ (tU I so)
 | lt=>
  obtain⟨i,j,rfl,rfl,rfl⟩:=twoI ek;cases rx; cases ry
  exact OpR.go Fu I ru rv ⟨_,_,rfl,rfl,.here so .bl⟩
 | le=>
  obtain⟨i,j,rfl,rfl,rfl⟩:=twoI ek;cases rx; cases ry
  exact OpR.go Fv I ru rv ⟨_,_,rfl,rfl,.here so .bl⟩
 | gt=>
  obtain⟨i,j,rfl,rfl,rfl⟩:=twoI ek;cases rx; cases ry
  exact OpR.go Fw I ru rv ⟨_,_,rfl,rfl,.here so .bl⟩
 | ge=>
  obtain⟨i,j,rfl,rfl,rfl⟩:=twoI ek;cases rx; cases ry
  exact OpR.go Fx I ru rv ⟨_,_,rfl,rfl,.here so .bl⟩
 | isin=>
  obtain⟨ys,h1,h2,rfl⟩:=ofSq ek;exact xF (neg:=false) vh I so rx ru ry rv h1 h2
 | notin=>
  obtain⟨c,h,rfl⟩:=Jl.mp ek;obtain⟨ys,h1,h2,rfl⟩:=ofSq h;exact xF (neg:=true) oP I so rx ru ry rv h1 h2
 | is=>
  obtain⟨rfl,rfl⟩:=ofN ek;cases ry;refine OpR.go Dw I ru rv ⟨rfl,?_⟩;cases rx <;> exact .here so .bl
 | isnot=>
  obtain⟨rfl,rfl⟩:=ofN ek;cases ry;refine OpR.go At I ru rv ⟨rfl,?_⟩;cases rx <;> exact .here so .bl
end
end Mi
namespace HT
open PySem PyProof.Rows
section
variable{prog:JY}{w:J6}{A:J1}{E:Jh->Jk->Prop}{s:Jk}
theorem gP {t sl:Jq}{items:JV Jh}{vl vu:Jh}{lo hi:Jn Jy}{Q:Jh->Jk->Prop}(ht:PB s.heap t items)(hs:s.heap.IsSliceOf sl vl vu .none)(pl:Nx vl lo)(pu:Nx vu hi)
  (hw:cV items.size 0 lo=0/\cV items.size items.size hi=items.size) (h:Q (.ref t) s):wpAny (model prog w) A (getItem (.ref t) (.ref sl)) Q E s:=by
 obtain⟨os,hos,hcs,hds⟩:=id hs;have hTs:s.TypeIs (.ref sl) "slice":=⟨os,hos,hcs⟩;unfold getItem
 try with_reducible refine Ku ?_
 first|refine Jg (Jm ?_)|skip
 refine Jg (PL ht.typeIs (by decide) ?_)
 refine Jg (Kw (name:=Lp "__getitem__") ht.typeIs Ll
  (Kx Ll ht.typeIs O6 ?_ (Pl _ _)))
 show wpAny _ _ (Mr (.ref t) >>= _) _ _ s;refine Jg (Rf ht ?_);refine Jg (Mg hTs ?_);rw[JN (by decide)]
 refine Jg (fw hs pl pu ?_);have hyes:((((cV items.size 0 lo:Jp):Jy)==0&&(1:Jy)==1&&(cV items.size items.size hi - cV items.size 0 lo)==items.size)=true):=by
  rw[hw.1,hw.2];simp
 show wpAny _ _ (if (((cV items.size 0 lo:Jp):Jy)==0&&(1:Jy)==1&&(cV items.size items.size hi - cV items.size 0 lo)==items.size)=true then _ else _) _ _ s
 rw[JN hyes];unfold QT;refine Jg (Jg (Mg ht.typeIs (Jm ?_)));rw[JN (by decide)]
 exact Jg (Og (Jg (Jm (Jm ⟨_,rfl,Jm h⟩))))
end
end HT
namespace Mi
open PySem PySem.Spec PyProof.Rows L2
noncomputable def wH (x y:W)(S:aa):Jn (W×aa):=match x,y with
 | .tup xs,.int i=>(r8 xs i).map λw=>(w,S)
 | .ref r,.int i=>match iL S r with
  | some xs=>(r8 xs i).map λw=>(w,S)
  | none=>gV
 | .str x,.int i=>if x.length<=sizeLine then(r8 x.cps.toList i).map λc=>(.str ⟨[c].toArray⟩,S)else gV
 | _,_=>gV
noncomputable def jq (xs:Jf W)(lo hi:Jn Jy):Jf W:=(xs.drop (HT.cV xs.length 0 lo)).take (HT.cV xs.length xs.length hi - HT.cV xs.length 0 lo)
noncomputable def p9 (x:W)(lo hi:Jn Jy)(S:aa):Jn (W×aa):=match x with
 | .tup xs=>ba (.tup (jq xs lo hi),S)
 | .ref r=>match iL S r with
  | some xs=>ba (.ref S.length,S++[.lst (jq xs lo hi)])
  | none=>gV
 | _=>gV
noncomputable def vw (o i v:W)(S:aa):Jn aa:=match o,i with
 | .ref r,.int k=>match p8 S r with
  | some xs=>match wD xs.length k with
   | some j=>ba (S.set r (.lst (xs.set j v)))
   | none=>gV
  | none=>gV
 | _,_=>gV
section
variable (X:Cx)
noncomputable def LIx (g:W->W->aa->Jn (W×aa)):Prop:=
 ∀(value slice:JQ) (pins:Jf (Jq×K2)) (s:Jk) (σ:L2.St) (H:Hp) (A:Jf Jq) (S:aa) (x y:W) (a b:V) (u v:Jh) (w:W) (S':aa),Inv X pins σ H s->StoreOk X.w X.K A H S->
  Rel X.K A H x a->RelV a u->Rel X.K A H y b->RelV b v->g x y S=ba (w,S')->subscripted slice false u v=operate [u,v] (getItem u v)->wpAny (model X.prog X.w) X.A (subscriptTail value slice u v) (dX X pins σ A H S' w) X.xe s
noncomputable def LSl (g:W->Jn Jy->Jn Jy->aa->Jn (W×aa)):Prop:=
 ∀(pins:Jf (Jq×K2)) (s:Jk) (σ:L2.St) (H:Hp) (A:Jf Jq) (S:aa) (x:W) (a:V) (v vl vu:Jh) (lo hi:Jn Jy) (sl:Jq) (w:W) (S':aa),Inv X pins σ H s->StoreOk X.w X.K A H S->
  Rel X.K A H x a->RelV a v->s.heap.IsSliceOf sl vl vu .none->Nx vl lo->Nx vu hi->g x lo hi S=ba (w,S')->
  ∃T id,typeLookup (.type T) "__getitem__" = pure (ba (.builtin id))/\s.TypeIs v T/\wpAny (model X.prog X.w) X.A (getItem v (.ref sl)) (dX X pins σ A H S' w) X.xe s
noncomputable def LSet (g:W->W->W->aa->Jn aa):Prop:=
 ∀(pins:Jf (Jq×K2)) (s:Jk) (σ:L2.St) (H:Hp) (A:Jf Jq) (S:aa) (o i x:W) (ao ai ax:V) (uo ui ux:Jh) (S':aa),Inv X pins σ H s->StoreOk X.w X.K A H S->
  Rel X.K A H o ao->RelV ao uo->Rel X.K A H i ai->RelV ai ui->Rel X.K A H x ax->RelV ax ux->g o i x S=ba S'->
  wpAny (model X.prog X.w) X.A (setItem uo ui ux) (λ_ s'=>∃H' A',Inv X pins σ H' s'/\Ext X.K A H A' H'/\StoreOk X.w X.K A' H' S') X.xe s
noncomputable def LCall (f:Jh)(g:Jf W->aa->Jn (W×aa)):Prop:=
 ∀(pins:Jf (Jq×K2)) (s:Jk) (σ:L2.St) (H:Hp) (A:Jf Jq) (S:aa) (xs:Jf W) (vs:Jf V) (us:Jf Jh) (w:W) (S':aa),Inv X pins σ H s->StoreOk X.w X.K A H S->
  RelL X.K A H xs vs->Vals vs us->g xs S=ba (w,S')->wpAny (model X.prog X.w) X.A (call f us) (dX X pins σ A H S' w) X.xe s
noncomputable def LMeth (id:KQ)(g:W->Jf W->aa->Jn (W×aa)):Prop:=
 ∀(pins:Jf (Jq×K2)) (s:Jk) (σ:L2.St) (H:Hp) (A:Jf Jq) (S:aa) (x:W) (a:V) (u:Jh) (xs:Jf W) (vs:Jf V) (us:Jf Jh) (w:W) (S':aa),Inv X pins σ H s->StoreOk X.w X.K A H S->
  Rel X.K A H x a->RelV a u->RelL X.K A H xs vs->Vals vs us->g x xs S=ba (w,S')->wpAny (model X.prog X.w) X.A (call (.builtin id) (u::us)) (dX X pins σ A H S' w) X.xe s
end
section
variable{X:Cx}{pins:Jf (Jq×K2)}{σ:L2.St}{H:Hp}{s:Jk}{A:Jf Jq}{S:aa}
theorem IxR.go {r:R2}(h:IxR X r){S':aa}{w:W}{a b:V}{u v:Jh}{value slice:JQ}(I:Inv X pins σ H s)(ru:RelV a u)(rv:RelV b v)(q:r a b H (EndV X.w X.K A H S' w))(hs:subscripted slice false u v=operate [u,v] (getItem u v)) :
  wpAny (model X.prog X.w) X.A (subscriptTail value slice u v) (dX X pins σ A H S' w) X.xe s:=b8 (h value slice pins s σ H a b u v _ I ru rv q hs) λ_ _=>EP.post
theorem CallR.go {f:Jh}{r:Jf V->Hp->VK->Prop}(h:CallR X f r){S':aa}{w:W}{vs:Jf V}{us:Jf Jh}(I:Inv X pins σ H s)(rv:Vals vs us)(q:r vs H (EndV X.w X.K A H S' w)) :
  wpAny (model X.prog X.w) X.A (call f us) (dX X pins σ A H S' w) X.xe s:=b8 (h pins s σ H vs us _ I rv q) λ_ _=>EP.post
theorem MtR.go {id:KQ}{r:V->Jf V->Hp->VK->Prop}(h:MtR X id r){S':aa}{w:W}{a:V}{u:Jh}{vs:Jf V}{us:Jf Jh}(I:Inv X pins σ H s)(ru:RelV a u)(rv:Vals vs us)(q:r a vs H (EndV X.w X.K A H S' w)) :
  wpAny (model X.prog X.w) X.A (call (.builtin id) (u::us)) (dX X pins σ A H S' w) X.xe s:=b8 (h pins s σ H a vs u us _ I ru rv q) λ_ _=>EP.post
theorem tW {xs:Jf W}{vs:Jf V}{i:Jy}{w:W}(r:RelL X.K A H xs vs)(e:r8 xs i=ba w):∃v,r8 vs i=ba v/\Rel X.K A H w v:=by
 unfold r8 at e ⊢;rw[r.length]at e;cases q:wD vs.length i with
 | none=>rw[q]at e; cases e
 | some j=>
  rw[q]at e;obtain⟨v,h1,h2⟩:=r.get (show xs[j]?=ba w from e)
  exact⟨v,h1,h2⟩
theorem IX (hu:X.A.units+10 < cLine):LIx X wH:=by
 intro value slice pins s σ H A S x y a b u v w S' I so rx ru ry rv e hs;cases rx with
 | tup h1 r1=>cases ry with
  | int=>
   simp only[wH,Jl]at e;obtain⟨w',e1,e2⟩:=e;cases e2;obtain⟨z,h2,r2⟩:=tW r1 e1;exact IxR.go DC I ru rv ⟨_,_,_,_,rfl,rfl,h1,h2,.here so r2⟩ hs
  | _=>cases e
 | ref ea=>cases ry with
  | int=>
   simp only[wH]at e;split at e
   ·rename_i ws hw;rw[Jl]at e;obtain⟨w',e1,e2⟩:=e;cases e2;obtain⟨vs,h1,r1⟩:=cR so hw ea;obtain⟨z,h2,r2⟩:=tW r1 e1;exact IxR.go AB I ru rv ⟨_,_,_,_,rfl,rfl,h1,h2,.here so r2⟩ hs
   ·cases e
  | _=>cases e
 | str=>cases ry with
  | int=>
   simp only[wH]at e;split at e
   ·rw[Jl]at e;obtain⟨c,e1,e2⟩:=e;cases e2;exact IxR.go DD I ru rv ⟨_,_,_,rfl,rfl,by assumption,e1,.here so .str⟩ hs
   ·cases e
  | _=>cases e
 | _=>cases ry <;> cases e
theorem oV {xs:Jf W}{vs:Jf V}{lo hi:Jn Jy}(r:RelL X.K A H xs vs):RelL X.K A H (jq xs lo hi) (ln vs lo hi):=by
 unfold jq ln;rw[r.length];exact(r.drop _).take _
theorem AZ:FH X (λx lo hi H Q=>∃a xs,x=.ref a/\SqT X.K H a xs/\(ln xs lo hi=xs->Q (.ref a) H)/\∀p,H p=gV->Q (.ref p) (cj H p (.tup (ln xs lo hi)))):=by
 intro pins s σ H x v vl vu lo hi sl Q I rx hs pl pu h;obtain⟨a,xs,rfl,hx,q0,q⟩:=h
 by_cases hw:(HT.cV xs.length 0 lo=0/\HT.cV xs.length xs.length hi=xs.length)
 ·cases rx;obtain⟨its,r,ht,hz⟩:=I.tuple hx;have hlen:its.toArray.size=xs.length:=by rw[Jz]; exact r.length.symm
  refine⟨"tuple",_,PyProof.Rows.slot_tuple_getitem.lookup,ht.typeIs,?_⟩;refine HT.gP ht hs pl pu (by rw[hlen]; exact hw) ⟨.ref a,H,I,rfl,q0 ?_⟩
  unfold ln;rw[hw.1,hw.2];simp
 ·exact DB pins s σ H (.ref a) v vl vu lo hi sl Q I rx hs pl pu ⟨a,xs,rfl,hx,hw,q⟩
theorem IY:LSl X p9:=by
 intro pins s σ H A S x a v vl vu lo hi sl w S' I so rx rv hs pl pu e;cases rx with
 | tup h1 r1=>
  cases e;obtain⟨T,id,z1,z2,z3⟩:=AZ pins s σ H _ v vl vu lo hi sl (EndV X.w X.K A H S (.tup (jq _ lo hi))) I rv hs pl pu ⟨_,_,rfl,h1,λq=>.here so (.tup h1 (by have:=oV (lo:=lo) (hi:=hi) r1; rw[q]at this; exact this)),λp hp=>.tup so (oV r1) hp⟩
  exact⟨T,id,z1,z2,b8 z3 λ_ _=>EP.post⟩
 | ref ea=>
  simp only[p9]at e;split at e
  ·rename_i ws hw;cases e;obtain⟨vs,h1,r1⟩:=cR so hw ea;obtain⟨T,id,z1,z2,z3⟩:=AC pins s σ H _ v vl vu lo hi sl (EndV X.w X.K A H (S++[.lst (jq ws lo hi)]) (.ref S.length)) I rv hs pl pu ⟨_,_,rfl,h1,λp hp=>.lst so (oV r1) hp⟩
   exact⟨T,id,z1,z2,b8 z3 λ_ _=>EP.post⟩
  ·cases e
 | _=>cases e
theorem lset (hu:X.A.units+10 < cLine):LSet X vw:=by
 intro pins s σ H A S o i x ao ai ax uo ui ux S' I so ro ruo ri rui rx rux e;cases ro with
 | ref ea=>cases ri with
  | int=>
   simp only[vw]at e;split at e
   ·rename_i ws hw;split at e
    ·rename_i j hj;cases e;obtain⟨vs,h1,r1⟩:=fj so hw ea;rw[r1.length]at hj;obtain⟨so',ex⟩:=so.write (lp hw) ea (r1.set rx j);exact b8 (xn pins s σ H _ _ _ uo ui ux (λH'=>H'=cj H _ (.lst (vs.set j ax))) I ruo rui rux ⟨_,_,_,_,rfl,rfl,h1,hj,rfl⟩) λ_ s' ⟨H',I',e'⟩=>⟨_,A,e' ▸ I',ex,so'⟩
    ·cases e
   ·cases e
  | _=>cases e
 | _=>cases ri <;> cases e
noncomputable def sy (xs:Jf W)(S:aa):Jn (W×aa):=match xs with
 | [.tup ys]=>ba (.int ys.length,S)
 | [.str y]=>if y.length<=sizeLine then ba (.int y.length,S)else gV
 | [.ref i]=>(iL S i).map λys=>(.int ys.length,S)
 | _=>gV
theorem vx:LCall X (.builtin "len") sy:=by
 intro pins s σ H A S xs vs us w S' I so rl rv e;cases rl with
 | nil=>cases e
 | cons r t=>
  cases t with
  | cons _ _=>cases r <;> cases e
  | nil=>
   cases r with
   | tup h1 r1=>cases e; rw[r1.length]; exact CallR.go lh I rv ⟨_,_,rfl,.inr ⟨_,h1,rfl⟩,.here so .int⟩
   | str=>
    simp only[sy]at e;split at e
    ·cases e; exact CallR.go lh I rv ⟨_,_,rfl,⟨by assumption,rfl⟩,.here so .int⟩
    ·cases e
   | ref ea=>
    simp only[sy,Jl]at e;obtain⟨ws,hw,e2⟩:=e;cases e2;obtain⟨vs',h1,r1⟩:=cR so hw ea;rw[r1.length];exact CallR.go lh I rv ⟨_,_,rfl,.inl ⟨_,h1,rfl⟩,.here so .int⟩
   | _=>cases e
noncomputable def iN (xs:Jf W)(S:aa):Jn (W×aa):=match xs with
 | [x]=>match eT S x with
  | some ys=>ba (.ref S.length,S++[.lst ys])
  | none=>gV
 | _=>gV
theorem iq:LCall X (.type "list") iN:=by
 intro pins s σ H A S xs vs us w S' I so rl rv e;cases rl with
 | nil=>cases e
 | cons r t=>
  cases t with
  | cons _ _=>cases e
  | nil=>
   simp only[iN]at e;split at e
   ·rename_i ys hy;cases e;obtain⟨p,vs',rfl,hq,r1⟩:=oU (pins:=pins) (σ:=σ) (s:=s) so r hy;exact CallR.go oQ I rv ⟨p,vs',rfl,hq,λl hl=>.lst so r1 hl⟩
   ·cases e
noncomputable def lr (xs:Jf W)(S:aa):Jn (W×aa):=match xs with
 | [.tup ys]=>ba (.tup ys,S)
 | [.ref i]=>match iL S i with
  | some ys=>ba (.tup ys,S)
  | none=>gV
 | _=>gV
theorem j6:LCall X (.type "tuple") lr:=by
 intro pins s σ H A S xs vs us w S' I so rl rv e;cases rl with
 | nil=>cases e
 | cons r t=>
  cases t with
  | cons _ _=>cases r <;> cases e
  | nil=>
   cases r with
   | tup h1 r1=>cases e; exact CallR.go hZ I rv ⟨_,_,rfl,.inr ⟨h1,.here so (.tup h1 r1)⟩⟩
   | ref ea=>
    simp only[lr]at e;split at e
    ·rename_i ys hy;cases e;obtain⟨vs',h1,r1⟩:=cR so hy ea;exact CallR.go hZ I rv ⟨_,_,rfl,.inl ⟨h1,λl hl=>.tup so r1 hl⟩⟩
    ·cases e
   | _=>cases e
noncomputable def FN (xs:Jf W)(S:aa):Jn (W×aa):=match xs with
 | [.int i]=>ba (.int i,S)
 | [.bl b]=>ba (.int (if b then 1 else 0),S)
 | _=>gV
theorem vy:LCall X (.type "int") FN:=by
 intro pins s σ H A S xs vs us w S' I so rl rv e;cases rl with
 | nil=>cases e
 | cons r t=>
  cases t with
  | cons _ _=>cases r <;> cases e
  | nil=>
   cases r with
   | int=>cases e; exact CallR.go nD I rv (.inl ⟨_,rfl,.here so .int⟩)
   | bl=>cases e; exact CallR.go nD I rv (.inr ⟨_,rfl,.here so .int⟩)
   | _=>cases e
noncomputable def iO (x:W)(xs:Jf W)(S:aa):Jn (W×aa):=match x,xs with
 | .ref i,[y]=>match p8 S i with
  | some ys=>if ys.length < sizeLine then ba (.non,S.set i (.lst (ys++[y])))else gV
  | none=>gV
 | _,_=>gV
theorem jr {i:Jp}{p:Jq}{ws ws0:Jf W}{us:Jf V}(so:StoreOk X.w X.K A H S)(e:p8 S i=ba ws0)(ea:A[i]?=ba p)(r:RelL X.K A H ws us){w:W}{v:V}(rw':Rel X.K A H w v) :
  EndV X.w X.K A H (S.set i (.lst ws)) w v (cj H p (.lst us)):=by
 obtain⟨so',ex⟩:=so.write (lp e) ea r;exact⟨A,ex,so',rw'.mono ex⟩
theorem oW:LMeth X "list.append" iO:=by
 intro pins s σ H A S x a u xs vs us w S' I so rx ru rl rv e;cases rx with
 | ref ea=>
  cases rl with
  | nil=>cases e
  | cons r t=>
   cases t with
   | cons _ _=>cases e
   | nil=>
    simp only[iO]at e;split at e
    ·rename_i ys hy;split at e
     ·rename_i hl;cases e;obtain⟨vs',h1,r1⟩:=fj so hy ea;rw[r1.length]at hl;exact MtR.go vk I ru rv ⟨_,_,_,rfl,rfl,h1,hl,jr so hy ea (r1.append (.cons r .nil)) .non⟩
     ·cases e
    ·cases e
 | _=>cases e
noncomputable def iP (x:W)(xs:Jf W)(S:aa):Jn (W×aa):=match x,xs with
 | .ref i,[.ref j]=>match p8 S i,p8 S j with
  | some ys,ba zs=>if ys.length+zs.length<=sizeLine then ba (.non,S.set i (.lst (ys++zs)))else gV
  | _,_=>gV
 | _,_=>gV
theorem oX:LMeth X "list.extend" iP:=by
 intro pins s σ H A S x a u xs vs us w S' I so rx ru rl rv e;cases rx with
 | ref ea=>
  cases rl with
  | nil=>cases e
  | cons r t=>
   cases t with
   | cons _ _=>cases r <;> cases e
   | nil=>
    cases r with
    | ref eb=>
     simp only[iP]at e;split at e
     ·rename_i ys zs hy hz;split at e
      ·rename_i hl;cases e;obtain⟨vs',h1,r1⟩:=fj so hy ea;obtain⟨vs2,h2,r2⟩:=fj so hz eb;rw[r1.length,r2.length]at hl;exact MtR.go vm I ru rv ⟨_,_,_,_,rfl,rfl,h1,h2,hl,jr so hy ea (r1.append r2) .non⟩
      ·cases e
     ·cases e
    | _=>cases e
 | _=>cases e
noncomputable def DJ (x:W)(xs:Jf W)(S:aa):Jn (W×aa):=match x,xs with
 | .ref i,[.int k]=>match p8 S i with
  | some ys=>if -(2 ^ 63)<=k/\k < 2 ^ 63 then match seqIndex? k ys.length with
   | some j=>match ys[j]? with
    | some y=>ba (y,S.set i (.lst (ys.eraseIdx j)))
    | none=>gV
   | none=>gV
   else gV
  | none=>gV
 | _,_=>gV
theorem vz:LMeth X "list.pop" DJ:=by
 intro pins s σ H A S x a u xs vs us w S' I so rx ru rl rv e;cases rx with
 | ref ea=>
  cases rl with
  | nil=>cases e
  | cons r t=>
   cases t with
   | cons _ _=>cases r <;> cases e
   | nil=>
    cases r with
    | int=>
     simp only[DJ]at e;split at e
     ·rename_i ys hy;split at e
      ·rename_i hk;split at e
       ·rename_i j hj;split at e
        ·rename_i y hyj;cases e;obtain⟨vs',h1,r1⟩:=fj so hy ea;obtain⟨v',h2,r2⟩:=r1.get hyj;rw[r1.length]at hj;exact MtR.go xq I ru rv ⟨_,_,_,_,_,rfl,rfl,h1,hk.1,hk.2,hj,h2,jr so hy ea (r1.eraseIdx j) r2⟩
        ·cases e
       ·cases e
      ·cases e
     ·cases e
    | _=>cases e
 | _=>cases e
noncomputable def jt:Jf W->Jn (Jf JG)
 | []=>ba []
 | .str x::xs=>(jt xs).map (x :: ·)
 | _::_=>gV
noncomputable def tX (x:W)(xs:Jf W)(S:aa):Jn (W×aa):=match x,xs with
 | .str x,[y]=>match eT S y with
  | some ys=>match jt ys with
   | some zs=>if (zs.map (·.length)).sum+zs.length*x.length<=16777216 then ba (.str (RP x zs),S)else gV
   | none=>gV
  | none=>gV
 | _,_=>gV
theorem lu:∀ {ws:Jf W} {vs:Jf V} {us:Jf Jh} {zs:Jf JG},RelL X.K A H ws vs->Vals vs us->jt ws=ba zs->StrsAre us zs
 | _,_,_,zs,.nil,.nil,e=>by cases e; exact .nil
 | _,_,_,zs,.cons r t,.cons q p,e=>by
  cases r with
  | str=>
   simp only[jt,Jl]at e;obtain⟨z,e1,e2⟩:=e;subst e2;obtain⟨tk,rfl⟩ : ∃t,_=M7 _ t:=q;exact .cons _ tk (lu t p e1)
  | _=>cases e
theorem sA:LMeth X "str.join" tX:=by
 intro pins s σ H A S x a u xs vs us w S' I so rx ru rl rv e;cases rx with
 | str=>
  cases rl with
  | nil=>cases e
  | cons r t=>
   cases t with
   | cons _ _=>cases e
   | nil=>
    simp only[tX]at e;split at e
    ·rename_i ys hy;split at e
     ·rename_i zs hz;split at e
      ·rename_i hl;cases e;obtain⟨p,vs',rfl,hq,r1⟩:=oU (pins:=pins) (σ:=σ) (s:=s) so r hy;obtain⟨t0,rfl⟩ : ∃t,u=M7 _ t:=ru;obtain⟨u1,rfl,ru1⟩:=nC rv;have ru1':u1=J3 p:=ru1;subst ru1';rcases hq with hq|hq
       ·obtain⟨its,rr,pl,hz'⟩:=I.list hq;exact join_list pl.isList (by simpa using lu r1 rr hz) hl λt' k=>⟨.str _,H,A,I.tok _,⟨_,rfl⟩,.refl,so,.str⟩
       ·obtain⟨its,rr,pl,hz'⟩:=I.tuple hq;exact join_tuple pl (by simpa using lu r1 rr hz) hl λt' k=>⟨.str _,H,A,I.tok _,⟨_,rfl⟩,.refl,so,.str⟩
      ·cases e
     ·cases e
    ·cases e
 | _=>cases e
noncomputable def gQ (S:aa):W->Jn JW
 | .non=>ba false
 | .bl b=>ba b
 | .int i=>ba (i != 0)
 | .str y=>if y.length<=sizeLine then ba ((y.length:Jy) != 0)else gV
 | .tup xs=>ba (!xs.isEmpty)
 | .ref i=>(iL S i).map λxs=>!xs.isEmpty
theorem j7 {ws:Jf W}{vs:Jf V}(r:RelL X.K A H ws vs):(!ws.isEmpty) = !vs.isEmpty:=by cases r <;> rfl
theorem HM {x:W}{a:V}{u:Jh}{k:JW}{Q:JW->Jk->Prop}(I:Inv X pins σ H s)(so:StoreOk X.w X.K A H S)(rx:Rel X.K A H x a)(ru:RelV a u)(e:gQ S x=ba k)(hq:∀s',Inv X pins σ H s'->Q k s') :
  wpAny (model X.prog X.w) X.A (truthy u) Q X.xe s:=by
 refine b8 (Dx pins s σ H a u (λb H'=>b=k/\H'=H) I ru ⟨k,?_,rfl,rfl⟩) λb s' ⟨H',I',e1,e2⟩=>?_
 ·cases rx with
  | non=>cases e; rfl
  | bl=>cases e; rfl
  | int=>cases e; rfl
  | str=>
   simp only[gQ]at e;split at e
   ·cases e; exact⟨by assumption,rfl⟩
   ·cases e
  | tup h1 r1=>cases e; exact .inr (.inl ⟨_,h1,j7 r1⟩)
  | ref ea=>
   simp only[gQ,Jl]at e;obtain⟨ws,hw,e2⟩:=e;subst e2;obtain⟨vs,h1,r1⟩:=cR so hw ea;exact .inl ⟨_,h1,j7 r1⟩
 ·subst e1 e2;exact hq s' I'
end
noncomputable def cY (w:J6):K2:={ cls:=.type "set",dict:=gV,data:=.set #[] 0 (.fresh 0 0 (!fA w)) }
section
variable{prog:JY}{w:J6}{A:J1}{E:Jh->Jk->Prop}{s:Jk}{R:Qe->Jk->Prop}{I:Jq}{fp wr:Jf Jq}{G:JV OP->JV OP->Prop}{n:Jp}{P:Jp->Jh->Prop}{St:Jp->Jk->Prop}
theorem xG (a:Jh){Q₁:Jh->Jk->Prop}(h:Q₁ (.ref s.heap.objs.size) { s with heap:=s.heap.push (cY w) }):codeAny (model prog w) A (.call (.builtin "set.__new__") ⟨[.type "set",a],[]⟩) (wants Q₁ E) s:=by
 refine Ow ?_;show wpAny _ A.in1 (checkBuiltinCall "set.__new__" ⟨[.type "set",a],[]⟩ >>= λ_=>again (.builtin "set.__new__" ⟨[.type "set",a],[]⟩)) _ _ s
 refine Jg (MU (F.newCall_set_1 a) (Jm ⟨Lh F.plain_set_new _,KA F.entry_set_new ?_⟩));rw[Ks F.plain_set_new _];unfold Mn.«set.__new__» QU;have hsub:=Po;obtain⟨hp,g,d,tk,os⟩:=s;dsimp only
 wp_walk
 refine L9 (Jm ?_);dsimp only;simp only[newObj];exact Jg (RQ (Jm (Jm h)))
end
theorem gk:Slot "set_iterator" "__next__" "set_iterator.__next__":=.of (owner:="set_iterator") (n:="__next__") (by rw[Qz,OF]; kernel_rfl) (by decide +kernel) (by decide +kernel) (by decide +kernel) (by first|exact .inl (by decide +kernel)|exact .inr (by decide +kernel)) (by rw[QV]; kernel_rfl)
theorem qj:Slot "set_iterator" "__iter__" "set_iterator.__iter__":=.of (owner:="set_iterator") (n:="__iter__") (by rw[Qz,OF]; kernel_rfl) (by decide +kernel) (by decide +kernel) (by decide +kernel) (by first|exact .inl (by decide +kernel)|exact .inr (by decide +kernel)) (by rw[QV]; kernel_rfl)
theorem vA:entryFor table "set_iterator.__next__" = ba Mn.«set_iterator.__next__»:=entryFor_of_tree (by kernel_rfl)
theorem sB:entryFor table "set.__iter__" = ba Mn.«frozenset.__iter__»:=QX (id':="frozenset.__iter__") (by kernel_rfl) rfl (by decide +kernel) (by kernel_rfl)
theorem xH (a:Jh):argsOk "set_iterator.__next__" ⟨[a],[]⟩:=by unfold argsOk; kernel_rfl
section
variable{α:Type}{prog:JY}{w:J6}{A:J1}{E:Jh->Jk->Prop}{s:Jk}
theorem vB {src:Source}{n:Jp}{Q:Jp->Jk->Prop}(hn:n≠0)(h:∀i dr,i < n->Q i { s with drawn:=dr }):wpAny (model prog w) A (choose src n) Q E s:=λ_ _ _=>⟨hn,h _ _ (Om _ (Nat.pos_of_ne_zero hn))⟩
theorem lv:∀ {l:Jf α} {i:Jp} (h:i < l.length),(l[i]::l.eraseIdx i).Perm l
 | x::l,0,_=>.refl _
 | x::l,i+1,h=>(SC _ _ _).trans ((lv (l:=l) (i:=i) (by simpa using h)).cons x)
theorem lw:∀(n:Jp) (xs:Jf α) {s:Jk} {Q:Jf α->Jk->Prop},xs.length=n->(∀ys dr,ys.Perm xs->Q ys { s with drawn:=dr })->wpAny (model prog w) A (drawOrder n xs) Q E s
 | 0,xs,s,Q,hl,h=>by
  obtain rfl:=LB.mp hl;exact Jm (h [] s.drawn .nil)
 | n+1,[],s,Q,hl,h=>by cases hl
 | n+1,x::xs,s,Q,hl,h=>by
  unfold drawOrder;refine Jg (vB (by simp) λi dr hi=>?_)
  rw[Jw hi];dsimp only;refine Jg (lw n _ (by rw[NC hi,hl]; rfl) λys dr' hp=>Jm (h _ dr' ?_))
  exact(hp.cons _).trans (lv hi)
theorem tY {next:Jp->Jp}:∀(f k:Jp) (left:Jf α) (out:JV α),f=left.length->(pickOrder.go next f k left out).toList.Perm (out.toList++left)
 | 0,k,left,out,h=>by
  obtain rfl:=LB.mp h.symm;simp[pickOrder.go]
 | f+1,k,left,out,h=>by
  unfold pickOrder.go;have hp:0 < left.length:=by omega
  have hi:next k % left.length < left.length:=Om _ hp;rw[Jw hi];dsimp only;refine(tY f (k+1) _ _ (by rw[NC hi]; omega)).trans ?_
  rw[NT,Lj];exact(lv hi).append_left _
theorem gH {next:Jp->Jp}{xs:JV α}:(pickOrder next xs).toList.Perm xs.toList:=by
 have:=tY (next:=next) xs.size 0 xs.toList #[] (by simp)
 simpa [pickOrder]using this
noncomputable def SIt (I:Jq)(f r:Jh)(i n ep:Jp)(h:Kg):Prop:=h.get? I=ba { cls:=.type "set_iterator",data:=.fields [f,.int i 0,r,.int n 0,.int ep 0].toArray }
theorem SIt.type {I:Jq}{f r:Jh}{i n ep:Jp}(x:SIt I f r i n ep s.heap):s.TypeIs (.ref I) "set_iterator":=⟨_,x,rfl⟩
theorem qk {I:Jq}{Q:Jn Jh->Jk->Prop}{f r:Jh}{i n ep:Jp}(x:SIt I f r i n ep s.heap)(h:wpAny (model prog w) A.in1 (Mn.«set_iterator.__next__» ⟨[.ref I],[]⟩) (λfin s'=>∃v,fin=.done (.ret v)/\Q (ba v) s') (λe s'=>wpAny (model prog w) A (do if <- isInstance e (.type "StopIteration")then pure gV else throw e) Q E s') s):wpAny (model prog w) A (pyNext (.ref I)) Q E s:=by
 unfold pyNext;refine Jg (Nd (Kw (name:=Lp "__next__") x.type gk (Kx gk x.type vA ?_ (xH _))));exact Lc h (λ_ _ ⟨v,e,q⟩=>⟨v,e,Jm q⟩) λ_ _ q=>q
noncomputable def FP (prog:JY)(w:J6)(A:J1)(Q:Jn Jh->Jk->Prop)(E:Jh->Jk->Prop)(e:Jh)(s':Jk):Prop:=wpAny (model prog w) A (do if <- isInstance e (.type "StopIteration")then pure gV else throw e) Q E s'
theorem ql {Q:Jn Jh->Jk->Prop}{Q2:Sk->Jk->Prop}(hh:A.handled=gV)(h:∀h',(∀b o,s.heap.get? b=ba o->h'.get? b=ba o)->Q gV { s with heap:=h' }):wpAny (model prog w) A.in1 (newExc (.type "StopIteration") [] >>= λx=>raiseNew x) Q2 (FP prog w A Q E) s:=by
 refine Jg ?_;simp only[newExc,newTuple];refine Jg (J7 ?_ (by size_fits))
 refine Jg (m:=firstArgMember _ _) (MU (a:=Ke) (by first|rfl|(simp only[firstArgMember]; rfl)) ?_)
 refine J7 ?_ (by size_fits)
 simp only[raiseNew];refine Jg (Pf ?_);rw[show A.in1.handled=gV from hh]
 refine Jg (Jm (Qq ?_));refine Jg (My (T:="StopIteration") (b:=true) ⟨_,JA _ rfl,rfl⟩ OR ?_);exact Jm (h _ λb o e=>Jj _ (Jj _ e))
section
variable{I a:Jq}{f r:Jh}{i n ep sl:Jp}{o:K2}{es:JV (Jy×Jh)}{t:KG}{Q:Jn Jh->Jk->Prop}
theorem gI {Q:Sy->Jk->Prop}{vs:JV Jh}{k:Jp}{v:Jh}(x:s.heap.get? I=ba { cls:=.type "set_iterator",data:=.fields vs })(hk:k < vs.size)(h:∀h',h'.get? I=ba { cls:=.type "set_iterator",data:=.fields (vs.setIfInBounds k v) }->K9 I s.heap h'->Q () { s with heap:=h' }):wpAny (model prog w) A (setField (.ref I) k v) Q E s:=Pp x hk h
theorem gJ (x:SIt I (.int sl 0) (.ref a) i n ep s.heap)(ho:s.heap.get? a=ba o)(hd:o.data=.set es ep t)(hf:t.fits es.size=true)(hn:es.size=n)(hh:A.handled=gV){rs:Jn (Jh×Jp)}
  (hx:∀Q':Jn (Jh×Jp)->Jk->Prop,Q' rs s->wpAny (model prog w) A.in1 (setNext a sl i ep) Q' (FP prog w A Q E) s)
  (h1:∀v sl',rs=ba (v,sl')->∀h',SIt I (.int sl' 0) (.ref a) (i+1) n ep h'->(∀b o,b≠I->s.heap.get? b=ba o->h'.get? b=ba o)->Q (ba v) { s with heap:=h' })
  (h2:rs=gV->∀h',(∀b o,b≠I->s.heap.get? b=ba o->h'.get? b=ba o)->Q gV { s with heap:=h' }):wpAny (model prog w) A (pyNext (.ref I)) Q E s:=by
 refine qk x ?_;refine Jg (Jm ?_);show wpAny _ _ (fieldsOf (.ref I) >>= _) _ _ s;refine Jg (ND x rfl ?_);refine Jg (No ho hd hf ?_);rw[JX (by simp[hn])]
 refine Jg (hx _ ?_);cases rs with
 | some p=>
  obtain⟨v,sl'⟩:=p;dsimp only;refine Jg (gI x (by simp) λh' x' sb'=>?_)
  refine Jg (gI x' (by simp) λh2 x2 sb2=>?_)
  refine Jm ⟨v,rfl,h1 v sl' rfl h2 ?_ λb o hb e=>?_⟩
  ·simpa [SIt,rawInt]using x2
  ·rw[sb2.2 b hb,sb'.2 b hb]; exact e
 | none=>
  dsimp only;refine Jg (gI x (by simp) λh' x' sb'=>?_)
  refine ql hh λh'' k=>h2 rfl h'' λb o hb e=>k b o (by rw[sb'.2 b hb]; exact e)
theorem nM {tp:Jq}{ps:Jf Jp}(x:SIt I (.ref tp) (.ref a) i n ep s.heap)(ho:s.heap.get? a=ba o)(hd:o.data=.set es ep t)(hf:t.fits es.size=true)(hn:es.size=n)(hh:A.handled=gV)
  (ht:s.heap.get? tp=ba { cls:=.type "tuple",data:=.seq (ps.map λk=>rawInt (k:Jp)).toArray 0 })
  (h1:∀p e,ps[i]?=ba p->es[p]?=ba e->∀h',SIt I (.ref tp) (.ref a) (i+1) n ep h'->(∀b o,b≠I->s.heap.get? b=ba o->h'.get? b=ba o)->Q (ba e.2) { s with heap:=h' })
  (hp:∀p,ps[i]?=ba p->∃e,es[p]?=ba e)
  (h2:ps[i]?=gV->∀h',(∀b o,b≠I->s.heap.get? b=ba o->h'.get? b=ba o)->Q gV { s with heap:=h' }):wpAny (model prog w) A (pyNext (.ref I)) Q E s:=by
 refine qk x ?_;refine Jg (Jm ?_);show wpAny _ _ (fieldsOf (.ref I) >>= _) _ _ s;refine Jg (ND x rfl ?_);refine Jg (No ho hd hf ?_);rw[JX (by simp[hn])]
 refine Jg (Ls ht rfl ?_);dsimp only;have hg:(ps.map λk=>rawInt (k:Jp)).toArray[(i:Jy).toNat]?=(ps[i]?).map λk=>rawInt (k:Jp):=by simp
 rw[hg];cases q:ps[i]? with
 | some p=>
  obtain⟨e,he⟩:=hp p q;show wpAny _ _ (setNextDrawn a (p:Jy).toNat (ep:Jy).toNat >>= _) _ _ s;unfold setNextDrawn;refine Jg (Jg (KM ho hd hf ?_));dsimp only;rw[JX (by simp)]
  simp only[JH,he];refine Jm ?_;refine Jg (gI x (by simp) λh' x' sb'=>?_)
  refine Jm ⟨e.2,rfl,h1 p e q he h' ?_ λb o hb z=>?_⟩
  ·simpa [SIt,rawInt]using x'
  ·rw[sb'.2 b hb]; exact z
 | none=>
  dsimp only[Option.map_none];refine Jg (gI x (by simp) λh' x' sb'=>?_)
  refine Jg (gI x' (by simp) λh3 x3 sb3=>?_)
  refine ql hh λh'' k=>h2 q h'' λb o hb e=>k b o (by rw[sb3.2 b hb,sb'.2 b hb]; exact e)
theorem nN {E:Jh->Jk->Prop}{Q:Jn (Jh×Jp)->Jk->Prop}(ho:s.heap.get? a=ba o)(hd:o.data=.set es ep t)(hf:t.fits es.size=true)(hb:fA w=true)(h:Q ((((pickOrder (w.params.setOrder a ep) es).toList.map (·.2))[i]?).map λv=>(v,sl)) s):wpAny (model prog w) A (setNext a sl i ep) Q E s:=by
 unfold setNext;refine Jg (KM ho hd hf ?_);dsimp only;have ask1:∀ {Q:JW->Jk->Prop},Q true s->wpAny (model prog w) A setsByText Q E s:=λ{Q} hq=>by
  unfold setsByText;refine Jg (L9 (Jm ?_));show Q (fA w) s;rw[hb]; exact hq
 refine Jg (ask1 ?_);rw[JN rfl,JX (by simp)]
 refine Jg ?_;unfold setWalk;refine Jg (KM ho hd hf ?_);dsimp only;refine Jg (ask1 ?_);rw[JN rfl];refine Jg (L9 (Jm (Jm ?_)));have e:(((pickOrder (w.params.setOrder a ep) es)[i]?).map λe=>(e.2,sl))=((((pickOrder (w.params.setOrder a ep) es).toList.map (·.2))[i]?).map λv=>(v,sl)):=by
  rw[Jr,KI,QY]; rfl
 show Q (((pickOrder (w.params.setOrder a ep) es)[i]?).map λe=>(e.2,sl)) s
 rw[e]; exact h
theorem qm {E:Jh->Jk->Prop}{Q:Jn (Jh×Jp)->Jk->Prop}(ho:s.heap.get? a=ba o)(hd:o.data=.set es ep t)(hf:t.fits es.size=true)(hb:fA w=false)(hl:t.led=true)(h1:es.size<=1)(hi:i=0/\sl=0\/i=es.size/\sl=(t.place.getD 0 0)+1)
  (h:Q (((es.toList.map (·.2))[i]?).map λv=>(v,t.place.getD 0 0+1)) s):wpAny (model prog w) A (setNext a sl i ep) Q E s:=by
 unfold setNext;refine Jg (KM ho hd hf ?_);dsimp only;have ask1:∀ {Q:JW->Jk->Prop},Q false s->wpAny (model prog w) A setsByText Q E s:=λ{Q} hq=>by
  unfold setsByText;refine Jg (L9 (Jm ?_));show Q (fA w) s;rw[hb]; exact hq
 refine Jg (ask1 ?_);rw[JX JU];refine Mj (λhc=>absurd hc (by show ¬ ((!t.plain&&decide (es.size > 1))=true); simp; omega)) (λ_=>?_)
 refine Jg ?_;show wpAny _ _ (if (!t.led && !es.isEmpty)=true then unsupported "set:maker-not-led" else pure ()) _ _ s
 rw[JX (by simp[hl])]
 refine Jm (Jm ?_);obtain⟨es⟩:=es;obtain⟨mk,pl,dm,fg,ld,mv,pn⟩:=t;obtain⟨pl⟩:=pl;simp only[Rk,Jo,beq_iff_eq]at hf
 match es,pl,hf.1,h1 with
 | [],[],_,_=>
  have:i=0:=by rcases hi with z|z <;> simpa using z.1
  subst this;exact h
 | [e],[j],_,_=>
  rcases hi with⟨rfl,rfl⟩|⟨rfl,rfl⟩
  ·exact h
  ·have e1:L8 [j].toArray (j+1)=1:=by
    show PX [j].toArray (j+1) 1 0 1=1;simp[PX]
   have e2:(({ mask:=mk,place:=[j].toArray,dummies:=dm,finger:=fg,led:=ld,moves:=mv,plain:=pn }:KG).place.getD 0 0)=j:=rfl;show Q (match ([e].toArray:JV (Jy×Jh))[L8 [j].toArray (j+1)]?,([j].toArray:JV Jp)[L8 [j].toArray (j+1)]? with|some (_,x),ba j=>ba (x,j+1)|_,_=>gV) s
   rw[e1];exact h
 | e::e'::es,_,_,z=>simp at z
 | [],_::_,z,_=>simp at z
 | [_],[],z,_=>simp at z
 | [_],_::_::_,z,_=>simp at z
theorem lx {E:Jh->Jk->Prop}{Q:Jn (Jh×Jp)->Jk->Prop}(ho:s.heap.get? a=ba o)(hd:o.data=.set es ep t)(hf:t.fits es.size=true)(hb:fA w=false)(hl:t.led=true)(hp:t.plain=true)(hw:L8 t.place sl=i)
  (h:Q (((es.toList.map (·.2))[i]?).map λv=>(v,t.place.getD i 0+1)) s):wpAny (model prog w) A (setNext a sl i ep) Q E s:=by
 unfold setNext;refine Jg (KM ho hd hf ?_);dsimp only;have ask1:∀ {Q:JW->Jk->Prop},Q false s->wpAny (model prog w) A setsByText Q E s:=λ{Q} hq=>by
  unfold setsByText;refine Jg (L9 (Jm ?_));show Q (fA w) s;rw[hb]; exact hq
 refine Jg (ask1 ?_);rw[JX JU];refine Mj (λhc=>absurd hc (by show ¬ ((!t.plain&&decide (es.size > 1))=true); simp[hp])) (λ_=>?_)
 refine Jg ?_;show wpAny _ _ (if (!t.led && !es.isEmpty)=true then unsupported "set:maker-not-led" else pure ()) _ _ s
 rw[JX (by simp[hl])]
 refine Jm (Jm ?_);rw[hw];have hz:t.place.size=es.size:=by
  simp only[Rk,Jo,beq_iff_eq]at hf;exact hf.1
 rw[Jr,KI]at h
 by_cases hi:i < es.size
 ·have e1:es[i]?=ba es[i]:=by simp[hi]
  have e2:t.place[i]?=ba (t.place.getD i 0):=by simp[MQ,hz,hi]
  rw[e1]at h ⊢;rw[e2];exact h
 ·have e1:es[i]?=gV:=by simp; omega
  rw[e1]at h ⊢;exact h
end
end
theorem vC:entryFor table "set_iterator.__iter__" = ba Mn.«dict_keyiterator.__iter__»:=QX (id':="dict_keyiterator.__iter__") (by kernel_rfl) rfl (by decide +kernel) (by kernel_rfl)
theorem xI (a:Jh):argsOk "set_iterator.__iter__" ⟨[a],[]⟩:=by unfold argsOk; kernel_rfl
section
variable{prog:JY}{w:J6}{A:J1}{E:Jh->Jk->Prop}{s:Jk}{I a tp:Jq}{f r:Jh}{i n ep sl:Jp}{o:K2}{es:JV (Jy×Jh)}{t:KG}
theorem iQ {Q:Jh->Jk->Prop}(x:SIt I f r i n ep s.heap)(h:Q (.ref I) s):wpAny (model prog w) A (pyIter (.ref I)) Q E s:=by
 refine NU x.type qj (Kx qj x.type vC ?_ (xI _));show wpAny _ _ (ret (.ref I)) _ _ s;exact Jm ⟨_,rfl,"set_iterator",_,x.type,gk.lookup,h⟩
theorem qo {b x y:Jq}(h:b∉[x]):b≠x:=λz=>h (by simp[z])
theorem sC (hh:A.handled=gV)(hne:a≠I)(hd:o.data=.set es ep t)(hf:t.fits es.size=true)(hb:fA w=true) :
  Qr prog w A I [I,a] [I] es.size (λi v=>((pickOrder (w.params.setOrder a ep) es).toList.map (·.2))[i]?=ba v) (λi h=>SIt I (.int 0 0) (.ref a) i es.size ep h/\h.get? a=ba o) where
 sub:=λb hb=>by simp at hb; simp[hb]
 frame:=λ_ _ _ st hk=>⟨hk I (by simp) _ st.1,hk a (by simp) _ st.2⟩
 item:=λi s Q E hi st hQ=>by
  have hl:((pickOrder (w.params.setOrder a ep) es).toList.map (·.2)).length=es.size:=by rw[Ji,gH.length_eq,JB]
  refine gJ (sl:=0) st.1 st.2 hd hf rfl hh (λQ' hq=>nN st.2 hd hf hb hq) (λv sl' e h' x' k=>?_) λe h' k=>?_
  ·obtain⟨v',q,e⟩:=Jl.mp e;cases e;exact hQ v h' s.toks q ⟨x',k a _ hne st.2⟩ λb o hb e=>k b o (qo (y:=b) hb) e
  ·rw[MZ,KD]at e;omega
 done:=λs Q E st hQ=>by
  have hl:((pickOrder (w.params.setOrder a ep) es).toList.map (·.2)).length=es.size:=by rw[Ji,gH.length_eq,JB]
  refine gJ (sl:=0) st.1 st.2 hd hf rfl hh (λQ' hq=>nN st.2 hd hf hb hq) (λv sl' e h' x' k=>?_) λe h' k=>hQ h' s.toks λb o hb e=>k b o (qo (y:=b) hb) e
  obtain⟨v',q,e⟩:=Jl.mp e;have:=(Ju.mp q).1;omega
 self:=λ_ _ _ _ st hQ=>iQ st.1 hQ
theorem vD (hh:A.handled=gV)(hne:a≠I)(hd:o.data=.set es ep t)(hf:t.fits es.size=true)(hb:fA w=false)(hl:t.led=true)(h1:es.size<=1) :
  Qr prog w A I [I,a] [I] es.size (λi v=>(es.toList.map (·.2))[i]?=ba v) (λi h=>SIt I (.int ((if i=0 then 0 else t.place.getD 0 0+1:Jp):Jy) 0) (.ref a) i es.size ep h/\h.get? a=ba o) where
 sub:=λb hb=>by simp at hb; simp[hb]
 frame:=λ_ _ _ st hk=>⟨hk I (by simp) _ st.1,hk a (by simp) _ st.2⟩
 item:=λi s Q E hi st hQ=>by
  have i0:i=0:=by omega
  subst i0;refine gJ st.1 st.2 hd hf rfl hh (λQ' hq=>qm st.2 hd hf hb hl h1 (.inl ⟨rfl,rfl⟩) hq) (λv sl' e h' x' k=>?_) λe h' k=>?_
  ·obtain⟨v',q,e⟩:=Jl.mp e;cases e;exact hQ v h' s.toks q ⟨x',k a _ hne st.2⟩ λb o hb e=>k b o (qo (y:=b) hb) e
  ·rw[MZ,KD,Ji,JB]at e;omega
 done:=λs Q E st hQ=>by
  refine gJ st.1 st.2 hd hf rfl hh (λQ' hq=>qm st.2 hd hf hb hl h1 ?_ hq) (λv sl' e h' x' k=>?_) λe h' k=>hQ h' s.toks λb o hb e=>k b o (qo (y:=b) hb) e
  ·by_cases h0:es.size=0
   ·exact .inl ⟨h0,by rw[JN h0]⟩
   ·exact .inr ⟨rfl,by rw[JX h0]⟩
  ·obtain⟨v',q,e⟩:=Jl.mp e;have:=(Ju.mp q).1;rw[Ji,JB]at this;omega
 self:=λ_ _ _ _ st hQ=>iQ st.1 hQ
theorem qp (hh:A.handled=gV)(hne:a≠I)(hd:o.data=.set es ep t)(hf:t.fits es.size=true)(hb:fA w=false)(hl:t.led=true)(hp:t.plain=true)(hw:fK t es.size=true) :
  Qr prog w A I [I,a] [I] es.size (λi v=>(es.toList.map (·.2))[i]?=ba v) (λi h=>SIt I (.int ((if i=0 then 0 else t.place.getD (i - 1) 0+1:Jp):Jy) 0) (.ref a) i es.size ep h/\h.get? a=ba o):=by
 have go:∀i,i<=es.size->L8 t.place (if i=0 then 0 else t.place.getD (i - 1) 0+1)=i:=λi hi=>by
  simp only[fK,Jo,JK,JO,KJ]at hw
  by_cases h0:i=0
  ·rw[JN h0,h0]; exact hw.1
  ·rw[JX h0,hw.2 (i - 1) (by omega)]; omega
 exact {
  sub:=λb hb=>by simp at hb; simp[hb]
  frame:=λ_ _ _ st hk=>⟨hk I (by simp) _ st.1,hk a (by simp) _ st.2⟩
  item:=λi s Q E hi st hQ=>by
   refine gJ st.1 st.2 hd hf rfl hh (λQ' hq=>lx st.2 hd hf hb hl hp (go i (LG ‹_›)) hq) (λv sl' e h' x' k=>?_) λe h' k=>?_
   ·obtain⟨v',q,e⟩:=Jl.mp e;cases e;exact hQ v h' s.toks q ⟨by rw[JX (Qj i)]; exact x',k a _ hne st.2⟩ λb o hb e=>k b o (qo (y:=b) hb) e
   ·rw[MZ,KD,Ji,JB]at e;omega
  done:=λs Q E st hQ=>by
   refine gJ st.1 st.2 hd hf rfl hh (λQ' hq=>lx st.2 hd hf hb hl hp (go _ (Js _)) hq) (λv sl' e h' x' k=>?_) λe h' k=>hQ h' s.toks λb o hb e=>k b o (qo (y:=b) hb) e
   obtain⟨v',q,e⟩:=Jl.mp e;have:=(Ju.mp q).1;rw[Ji,JB]at this;omega
  self:=λ_ _ _ _ st hQ=>iQ st.1 hQ }
theorem qr {ps:Jf Jp}(hh:A.handled=gV)(hne:a≠I)(hnt:tp≠I)(hd:o.data=.set es ep t)(hf:t.fits es.size=true)(hp:ps.Perm (Kh es.size)) :
  Qr prog w A I [I,a,tp] [I] es.size (λi v=>(ps.map λp=>(es.getD p (0,.none)).2)[i]?=ba v) (λi h=>SIt I (.ref tp) (.ref a) i es.size ep h/\h.get? a=ba o/\h.get? tp=ba { cls:=.type "tuple",data:=.seq (ps.map λk=>rawInt (k:Jp)).toArray 0 }) where
 sub:=λb hb=>by simp at hb; simp[hb]
 frame:=λ_ _ _ st hk=>⟨hk I (by simp) _ st.1,hk a (by simp) _ st.2.1,hk tp (by simp) _ st.2.2⟩
 item:=λi s Q E hi st hQ=>by
  have lt:∀ {p},ps[i]?=ba p->p < es.size:=λq=>KJ.mp (hp.mem_iff.mp (JI q))
  refine nM st.1 st.2.1 hd hf rfl hh st.2.2 (λp e q qe h' x' k=>?_) (λp q=>⟨es[p]'(lt q),by simp[lt q]⟩) λe h' k=>?_
  ·refine hQ e.2 h' s.toks ?_ ⟨x',k a _ hne st.2.1,k tp _ hnt st.2.2⟩ λb o hb e=>k b o (qo (y:=b) hb) e
   rw[Jr,q];simp[MQ,lt q];rw[Lm (lt q)]at qe;cases qe; rfl
  ·rw[KD,hp.length_eq,Kj]at e;omega
 done:=λs Q E st hQ=>by
  refine nM st.1 st.2.1 hd hf rfl hh st.2.2 (λp e q qe h' x' k=>?_) (λp q=>?_) λe h' k=>hQ h' s.toks λb o hb e=>k b o (qo (y:=b) hb) e
  ·have:=(Ju.mp q).1;rw[hp.length_eq,Kj]at this;omega
  ·have:=(Ju.mp q).1;rw[hp.length_eq,Kj]at this;omega
 self:=λ_ _ _ _ st hQ=>iQ st.1 hQ
end
section
variable{prog:JY}{w:J6}{A:J1}{E:Jh->Jk->Prop}{s:Jk}{a:Jq}{o:K2}{xs:Jf JG}{es:JV (Jy×Jh)}{ep:Jp}{t:KG}
structure SetWalk (prog:JY)(w:J6)(A:J1)(s:Jk)(a:Jq)(es:JV (Jy×Jh))(I:Jq)(h':Kg):Prop where
 ex:∃(fp:Jf Jq) (St:Jp->Kg->Prop) (us:Jf Jh) (n:Jp),us.Perm (es.toList.map (·.2))/\us.length=n/\Qr prog w A I fp [I] n (λi v=>us[i]?=ba v) St/\St 0 h'/\∀b∈fp,b=a\/s.heap.objs.size<=b/\b < h'.objs.size
 new:s.heap.objs.size<=I
 keep:∀b u,s.heap.get? b=ba u->h'.get? b=ba u
theorem xJ {Q:Jh->Jk->Prop}(hh:A.handled=gV)(ho:s.heap.get? a=ba o)(hex:o.ExactSet)(hd:o.data=.set es ep t)(hz:es.size<=sizeLine)(fit:t.fits es.size=true)(led:t.led = !fA w)(pl:t.plain=true->es.size=0\/fK t es.size=true)(h:∀I h' dr,SetWalk prog w A s a es I h'->Q (.ref I) { s with heap:=h',drawn:=dr }):wpAny (model prog w) A (pyIter (.ref a)) Q E s:=by
 have hT:s.TypeIs (.ref a) "set":=⟨o,ho,hex.1⟩;have ha:a < s.heap.objs.size:=JE ho;refine NU hT F.slot_set_iter (Kx F.slot_set_iter hT sB ?_ (F.args_set_iter_1 _));unfold Mn.«frozenset.__iter__»;refine Jg (Jg (Jm ?_));show wpAny _ _ (pure a) _ _ s;refine Jm ?_;unfold Rl setDrawn;refine Jg (Jg (No ho hd fit (Jm ?_)));refine Jg (Jg (KM ho hd fit ?_));dsimp only;unfold setsByText;refine Jg (Jg (L9 (Jm (Jm ?_))));have oI:∀(f:Jh) (h0:Kg),(h0.push { cls:=.type "set_iterator",data:=.fields [f,rawInt 0,.ref a,rawInt es.size,rawInt ep].toArray }).get? h0.objs.size=ba { cls:=.type "set_iterator",data:=.fields [f,rawInt 0,.ref a,rawInt es.size,rawInt ep].toArray }:=λf h0=>JA _ rfl
 refine Mj (λhc=>?_) (λhc=>?_)
 ·refine Jg (lw es.size _ Kj λps dr hp=>?_)
  refine Jg (OS ?_ (by rw[Ji,hp.length_eq,Kj]; exact hz))
  have o1:=Jj (seqObj "tuple" (ps.map λk=>rawInt (k:Jp)).toArray 0) ho
  refine Jg (PY o1 hd fit ?_);refine Jg (J7 (Jm ⟨_,rfl,"set_iterator",_,⟨_,oI _ _,rfl⟩,gk.lookup,?_⟩));have z1:(s.heap.push (seqObj "tuple" (ps.map λk=>rawInt (k:Jp)).toArray 0)).objs.size=s.heap.objs.size+1:=Ma ..
  have W:=qr (prog:=prog) (w:=w) (A:=A) (a:=a) (I:=(s.heap.push (seqObj "tuple" (ps.map λk=>rawInt (k:Jp)).toArray 0)).objs.size) (tp:=s.heap.objs.size) (ps:=ps) hh (by rw[z1]; exact JM (LY ha)) (by rw[z1]; exact JM (Lf _)) hd fit hp
  have eL:(ps.map λp=>(es.getD p (0,Ke)).2).length=es.size:=by rw[Ji,hp.length_eq,Kj]
  refine h _ _ dr ⟨⟨_,_,ps.map λp=>(es.getD p (0,Ke)).2,_,?_,eL,W,⟨oI _ _,Jj _ o1,Jj _ (JA _ rfl)⟩,λb hb=>?_⟩,by rw[z1]; exact LX _,λb u e=>Jj _ (Jj _ e)⟩
  ·refine(hp.map _).trans ?_;have e:((Kh es.size).map λp=>(es.getD p (0,Ke)).2)=es.toList.map λe=>e.2:=by
    apply Na
    ·simp
    ·intro k h1 h2;simp only[Ji,Kj]at h1;simp[MQ,h1]
   rw[e]
  ·rw[Ma,z1];simp only[JP,Kl,Lu]at hb;rcases hb with rfl|rfl|rfl
   ·exact .inr ⟨by rw[z1]; exact LX _,by rw[z1]; exact Lf _⟩
   ·exact .inl rfl
   ·exact .inr ⟨Js _,LY (Lf _)⟩
 ·refine Jg (Jm (Jg (PY ho hd fit ?_)));refine Jg (J7 (Jm ⟨_,rfl,"set_iterator",_,⟨_,oI _ _,rfl⟩,gk.lookup,?_⟩));have near:∀b∈[s.heap.objs.size,a],b=a\/s.heap.objs.size<=b/\b < (s.heap.push { cls:=.type "set_iterator",data:=.fields [rawInt 0,rawInt 0,.ref a,rawInt es.size,rawInt ep].toArray }).objs.size:=λb hb=>by
   rw[Ma];simp only[JP,Kl,Lu]at hb;rcases hb with rfl|rfl
   ·exact .inr ⟨Js _,Lf _⟩
   ·exact .inl rfl
  cases hb:fA w with
  | true=>
   have W:=sC (prog:=prog) (A:=A) (I:=s.heap.objs.size) hh (JM ha) hd fit hb;have eL:((pickOrder (w.params.setOrder a ep) es).toList.map (·.2)).length=es.size:=by rw[Ji,gH.length_eq,JB]
   refine h _ _ s.drawn ⟨⟨[s.heap.objs.size,a],_,(pickOrder (w.params.setOrder a ep) es).toList.map (·.2),_,gH.map _,eL,W,⟨oI _ _,Jj _ ho⟩,near⟩,Js _,λb u e=>Jj _ e⟩
  | false=>
   have hl:t.led=true:=by rw[led,hb]; rfl
   have eL:(es.toList.map (·.2)).length=es.size:=by rw[Ji,JB]
   by_cases hpw:t.plain=true/\fK t es.size=true
   ·have W:=qp (prog:=prog) (A:=A) (I:=s.heap.objs.size) hh (JM ha) hd fit hb hl hpw.1 hpw.2;refine h _ _ s.drawn ⟨⟨[s.heap.objs.size,a],_,es.toList.map (·.2),_,.refl _,eL,W,⟨oI _ _,Jj _ ho⟩,near⟩,Js _,λb u e=>Jj _ e⟩
   have h1:es.size<=1:=by
    cases hp:t.plain with
    | true=>
     rcases pl hp with z|z
     ·rw[z]; exact KY _
     ·exact absurd ⟨hp,z⟩ hpw
    | false=>
     refine Qi λz=>hc ?_
     show((!fA w)&&((!t.plain)&&decide (es.size > 1)))=true;rw[hb,hp]
     simpa using z
   have W:=vD (prog:=prog) (A:=A) (I:=s.heap.objs.size) hh (JM ha) hd fit hb hl h1;refine h _ _ s.drawn ⟨⟨[s.heap.objs.size,a],_,es.toList.map (·.2),_,.refl _,eL,W,⟨oI _ _,Jj _ ho⟩,near⟩,Js _,λb u e=>Jj _ e⟩
theorem xK {Q:JW->Jk->Prop}(hT:s.TypeIs (.ref a) "set")(h:Q false s):wpAny (model prog w) A (Nr (.ref a)) Q E s:=by
 unfold Nr;refine Jg (Ox hT F.slot_set_len.lookup ?_);generalize hid:("set.__len__" : KQ)=k0
 wp_delta
 rw[show splitId k0=ba ("set","__len__")from by subst hid; decide +kernel]
 subst hid;refine Jg (My (T:="set") (b:=true) hT Po ?_);refine Mj (λz=>absurd z (by decide)) (λ_=>Mj (λ_=>?_) (λz=>absurd (by decide +kernel) z))
 exact Jg (Mg hT (Jm h))
theorem qt {Q:Jf Jh->Jk->Prop}(hh:A.handled=gV)(ho:s.heap.get? a=ba o)(hex:o.ExactSet)(hd:o.data=.set es ep t)(hz:es.size<=sizeLine)(fit:t.fits es.size=true)(led:t.led = !fA w)(pl:t.plain=true->es.size=0\/fK t es.size=true)
  (hQ:∀h' tk dr us,(∀b u,s.heap.get? b=ba u->h'.get? b=ba u)->s.heap.objs.size<=h'.objs.size->us.Perm (es.toList.map (·.2))->Q us { s with heap:=h',toks:=tk,drawn:=dr }):wpAny (model prog w) A (collect (.ref a)) Q E s:=by
 have ha:a < s.heap.objs.size:=JE ho;unfold collect;refine Jg (M0 (KA F.entry_proto_collect ?_));rw[Ks F.plain_proto_collect _];show wpAny _ A.in1 (newList [] >>= λl=>again (.builtin "list.__iadd__" ⟨[l,.ref a],[]⟩)) _ _ s
 refine Jg (J7 ?_);have oL:(s.heap.push { cls:=.type "list",data:=.seq ([]:Jf Jh).toArray }).get? s.heap.objs.size=ba { cls:=.type "list",data:=.seq #[] 0 }:=JA _ rfl;have o1:=Jj { cls:=.type "list",data:=.seq ([]:Jf Jh).toArray } ho;have z1:(s.heap.push { cls:=.type "list",data:=.seq ([]:Jf Jh).toArray }).objs.size=s.heap.objs.size+1:=Ma ..;refine Jm ⟨Lh F.plain_list_iadd _,KA F.entry_list_iadd ?_⟩;rw[Ks F.plain_list_iadd _];show wpAny _ A.in1 (KW (.ref s.heap.objs.size) (.ref a) (.ref s.heap.objs.size)) _ _ _;unfold KW;refine Jg (Mg (T:="set") ⟨o,o1,hex.1⟩ ?_);have n1:N2 (.ref s.heap.objs.size) (.ref a)=false:=by
  have:s.heap.objs.size≠a:=J2 ha;simp[N2,this]
 have n2:(K4 "set" == K4 "list")=false:=by decide
 have n3:(K4 "set" == K4 "tuple")=false:=by decide
 simp only[n1,n2,n3,Pe,JS,KH];refine Jg (xJ (A:=A.in1) (by simp[hh]) o1 hex hd hz fit led pl λI h' dr W=>?_)
 obtain⟨⟨fp,St,us,n,hP,hn,W,st,hfp⟩,hI,kp⟩:=W;rw[z1]at hI;have oa:=kp a o o1;refine Jg (Ku (xK ⟨o,oa,hex.1⟩ ?_));have oL1:=kp _ _ oL;have hD:s.heap.objs.size∉fp:=λz=>by
  rcases hfp _ z with e|⟨e,_⟩
  ·exact J2 ha e
  ·rw[z1]at e; exact Nat.not_succ_le_self _ e
 refine Mj (λ_=>?_) (λz=>absurd (by decide +kernel) z)
 refine Jg (Og (Jg ?_));show wpAny _ _ (updateSeq s.heap.objs.size (·.push .none) >>= λ_=>updateSeq s.heap.objs.size (·.pop)) _ _ _
 refine Jg (MO oL1 rfl ?_);have oL2:=KU (KR (·.push Ke)) oL1 rfl
 refine MO (hz:=by seq_fits) oL2 rfl ?_
 have oL3:=KU (KR (·.pop)) oL2 rfl
 have hnl:n<=sizeLine:=by rw[<- hn,hP.length_eq,Ji,JB]; exact hz
 refine Jm ⟨Lh PySem.F.plain_extend_loop _,codeAny_extend_loopS W.toS hnl s.heap.objs.size hD (.ref s.heap.objs.size) n 0 _ #[] _ rfl (KY _) (W.frame 0 _ _ st λb hb u e=>?_) oL3 (ItemsOf.nil _) λs' acc c' mv oS hacc=>?_⟩
 ·have hb':b≠s.heap.objs.size:=λz=>hD (z ▸ hb)
  exact(Kc _ _ (Ne.symm hb')).trans ((Kc _ _ (Ne.symm hb')).trans e)
 ·rw[Rm mv];show wpAny (model prog w) A (do
    let o <- load s.heap.objs.size
    match o.data with
    | .seq xs _=>pure xs.toList
    | _=>unsupported "internal:collect") Q E _
  refine Jg (Oh oS (Jm ?_));have eU:acc.toList=us:=by
   apply NV;intro i
   by_cases hi:i < n
   ·have h1:i < acc.size:=by rw[hacc.1]; exact hi
    have:=hacc.2 i acc[i] (by simp[h1])
    rw[this,KI]; simp[h1]
   ·rw[Ml (by rw[JB,hacc.1]; omega),Ml (by omega)]
  rw[eU];refine hQ _ _ dr us (λb u e=>?_) (LG (JE oS)) hP
  have hb:=JE e;have hb':b≠s.heap.objs.size:=JM hb;refine mv.heap b u (λz=>?_) ((Kc _ _ (Ne.symm hb')).trans ((Kc _ _ (Ne.symm hb')).trans (kp b u (Jj _ e))))
  simp only[JP,Kl,Lu]at z;rcases z with z|z
  ·exact hb' z
  ·rw[z]at hb; exact KT _ (JR (LY hb) hI)
end
noncomputable def A6 (S:aa)(i:Jp):Jn (Jy×Jy):=match S[i]? with
 | some (.rng lo hi)=>ba (lo,hi)
 | _=>gV
noncomputable def sD (xs:Jf W)(S:aa):Jn (W×aa):=match xs with
 | [.int j]=>if -(2 ^ 62)<=j/\j < 2 ^ 62 then ba (.ref S.length,S++[.rng 0 j])else gV
 | _=>gV
noncomputable def FQ (lo:Jy)(n:Jp):Jf W:=(Kh n).map λ(k:Jp)=>.int (lo+(k:Jy))
noncomputable def nO (xs:Jf W)(S:aa):Jn (W×aa):=match xs with
 | [.ref i]=>match A6 S i with
  | some (lo,hi)=>if -(2 ^ 62)<=lo/\lo < 2 ^ 62/\-(2 ^ 62)<=hi/\hi < 2 ^ 62/\(hi - lo).toNat<=sizeLine then ba (.ref S.length,S++[.lst (FQ lo (hi - lo).toNat)])else gV
  | none=>iN [.ref i] S
 | xs=>iN xs S
section
variable{X:Cx}{pins:Jf (Jq×K2)}{σ:L2.St}{H:Hp}{s:Jk}{A:Jf Jq}{S:aa}
theorem Inv.drawn (I:Inv X pins σ H s)(d:Sw):Inv X pins σ H { s with drawn:=d }:=⟨I.ok,I.os,I.bare,I.base,I.loc,I.cell,I.free,I.freeC,I.pin,I.hok,I.len⟩
theorem iR {h':Kg}{tk:Jp}{dr:Sw}{D:Jq}{n:O}{u:HO}(I:Inv X pins σ H s)(so:StoreOk X.w X.K A H S)(hk:∀b o,s.heap.get? b=ba o->h'.get? b=ba o)(hD:s.heap.objs.size<=D)(new:ObjOk X.prog X.w (cj H D u) h' D u)
  (r:H D=gV->ObjRel X.w X.K (A++[D]) (cj H D u) D n):dX X pins σ A H (S++[n]) (.ref S.length) (.ref D) { s with heap:=h',toks:=tk,drawn:=dr }:=by
 have hn:H D=gV:=I.hok.fresh hD;refine⟨.ref D,_,A++[D],Mi.Inv.drawn (I.laid (a:=D) (o:=u) (t':=tk) hk hD new) dr,rfl,dt hn,so.pushO hn (r hn),.ref ?_⟩;rw[<- so.len]; simp
theorem oY:∀ {vs:Jf V} {us:Jf Jh},vs.length=us.length->(∀(i:Jp) v u,vs[i]?=ba v->us[i]?=ba u->L2.RelV v u)->Vals vs us
 | [],[],_,_=>.nil
 | v::vs,u::us,hl,h=>.cons (h 0 v u rfl rfl) (oY (by simpa using hl) λi v u a b=>h (i+1) v u (by simpa using a) (by simpa using b))
 | [],_::_,hl,_=>by cases hl
 | _::_,[],hl,_=>by cases hl
theorem oZ {K:Jv}{lo:Jy}:∀(l:Jf Jp),RelL K A H (l.map λ(k:Jp)=>W.int (lo+(k:Jy))) (l.map λ(k:Jp)=>V.int (lo+(k:Jy)))
 | []=>.nil
 | _::l=>.cons .int (oZ l)
theorem kS {xs:Jf W}{vs:Jf V}{us:Jf Jh}{i:Jp}(rl:RelL X.K A H [.ref i] vs)(rv:Vals vs us):∃a,A[i]?=ba a/\us=[.ref a]:=by
 cases rl with
 | cons r t=>
  cases t;cases r with
  | @ref _ a ea=>
   cases rv with
   | cons ru rv=>
    cases rv;obtain rfl:_=J3 a:=ru;exact⟨a,ea,rfl⟩
theorem qu:LCall X (.type "range") sD:=by
 intro pins s σ H A S xs vs us w S' I so rl rv e;unfold sD at e;split at e
 ·rename_i j;split at e
  ·rename_i hb;cases e;cases rl with
   | cons r t=>
    cases t;cases r;cases rv with
    | cons ru rv=>
     cases rv;obtain⟨tk,rfl⟩:=ru;exact Rx (iR (dr:=s.drawn) (u:=.rng 0 j) I so (λb o e=>Jj _ e) (Js _) ⟨_,_,_,JA _ rfl⟩ λ_=>bv)
  ·cases e
 ·cases e
theorem qv (hh:X.A.handled=gV):LCall X (.type "list") nO:=by
 intro pins s σ H A S xs vs us w S' I so rl rv e;unfold nO at e;split at e
 ·rename_i i;split at e
  ·rename_i lo hi hr;split at e
   ·rename_i hb;cases e;obtain⟨a,ea,rfl⟩:=kS (xs:=[]) rl rv;obtain⟨b1,b2,b3,b4,b5⟩:=hb;have hH:H a=ba (.rng lo hi):=by
     unfold A6 at hr;split at hr
     ·rename_i hx; cases hr; exact so.obj i _ a hx ea
     ·cases hr
    obtain⟨t,u,v,ho⟩:=I.hok a _ hH;have hn:Ld lo hi 1=((hi - lo).toNat:Jp):=by rw[Pc]; split <;> omega
    refine call_list_range hh ho (Rt b1 b2 b3 b4) hn b5 λh' tk acc c hk hD hacc=>?_
    have hv:Vals ((Kh (hi - lo).toNat).map λ(k:Jp)=>V.int (lo+(k:Jy))) acc.toList:=by
     refine oY (by rw[Ji,Kj,JB,hacc.1]) λi v u e1 e2=>?_
     rw[Jr,Jl]at e1;obtain⟨k,e1,rfl⟩:=e1;obtain⟨hk,rfl⟩:=Ju.mp e1;obtain⟨t,rfl⟩:=hacc.2 i u (by rw[<- KI]; exact e2)
     exact⟨t,by simp⟩
    refine iR (dr:=s.drawn) (u:=.lst ((Kh (hi - lo).toNat).map λ(k:Jp)=>V.int (lo+(k:Jy)))) I so hk (Js _) ⟨by simpa using b5,acc.toList,c,hv,by simpa using hD⟩ λhn=>⟨_,bv,?_⟩
    exact oZ _
   ·cases e
  ·exact iq pins s σ H A S _ vs us w S' I so rl rv e
 ·exact iq pins s σ H A S _ vs us w S' I so rl rv e
end
mutual
inductive IsT (h:Kg):T->Jh->Prop
 | int {i:Jy} {t:SI}:IsT h (.int i) (.int i t)
 | str {x:JG} {t:SI}:IsT h (.str x) (.str x t)
 | tup {ks:Jf T} {a:Jq} {o:K2} {items:JV Jh} {n:Jp}:h.get? a=ba o->o.cls=.type "tuple"->o.data=.seq items n->IsTs h ks items.toList->IsT h (.tup ks) (.ref a)
inductive IsTs (h:Kg):Jf T->Jf Jh->Prop
 | nil:IsTs h [] []
 | cons {k:T} {v:Jh} {ks:Jf T} {vs:Jf Jh}:IsT h k v->IsTs h ks vs->IsTs h (k::ks) (v::vs)
end
mutual
theorem IsT.inj {h:Kg}:∀ {x y:T} {v:Jh},IsT h x v->IsT h y v->x=y
 | _,_,_,.int,h2=>by cases h2; rfl
 | _,_,_,.str,h2=>by cases h2; rfl
 | _,_,_,.tup a1 _ d1 t1,h2=>by
  cases h2 with
  | tup a2 _ d2 t2=>
   rw[a1]at a2; cases a2
   rw[d1]at d2; cases d2
   rw[IsTs.inj t1 t2]
theorem IsTs.inj {h:Kg}:∀ {x y:Jf T} {v:Jf Jh},IsTs h x v->IsTs h y v->x=y
 | _,_,_,.nil,h2=>by cases h2; rfl
 | _,_,_,.cons a b,h2=>by
  cases h2 with
  | cons c d=>rw[IsT.inj a c,IsTs.inj b d]
end
mutual
theorem IsT.keeps {h h':Kg}{d:Jq}{o:K2}{es:JV LA}{ep:Jp}(ho:h.get? d=ba o)(hd:o.data=.dict es ep)(hs:K9 d h h'):∀ {x:T} {v:Jh},IsT h x v->IsT h' x v
 | _,_,.int=>.int
 | _,_,.str=>.str
 | _,_,.tup (a:=a) a1 c1 d1 t1=>by
  have hne:a≠d:=by
   rintro rfl;rw[a1]at ho; cases ho
   rw[d1]at hd; cases hd
  exact .tup ((hs.2 a hne).trans a1) c1 d1 (IsTs.keeps ho hd hs t1)
theorem IsTs.keeps {h h':Kg}{d:Jq}{o:K2}{es:JV LA}{ep:Jp}(ho:h.get? d=ba o)(hd:o.data=.dict es ep)(hs:K9 d h h'):∀ {x:Jf T} {v:Jf Jh},IsTs h x v->IsTs h' x v
 | _,_,.nil=>.nil
 | _,_,.cons a b=>.cons (IsT.keeps ho hd hs a) (IsTs.keeps ho hd hs b)
end
theorem IsTs.length {h:Kg}:∀ {x:Jf T} {v:Jf Jh},IsTs h x v->x.length=v.length
 | _,_,.nil=>rfl
 | _,_,.cons _ b=>by simp[IsTs.length b]
theorem IsTs.get {h:Kg}:∀ {x:Jf T} {v:Jf Jh},IsTs h x v->∀(j:Jp) (h1:j < x.length) (h2:j < v.length),IsT h x[j] v[j]
 | _,_,.cons a _,0,_,_=>a
 | _,_,.cons _ b,j+1,h1,h2=>IsTs.get b j (by simpa using h1) (by simpa using h2)
theorem cW:∀ {ks:Jf T} (j:Jp) (h:j < ks.length),(ks[j]).depth<=T.depths ks
 | k::ks,0,_=>by simp only[T.depths,List.getElem_cons_zero]; omega
 | k::ks,j+1,h=>by
  have:=cW (ks:=ks) j (by simpa using h)
  simp only[T.depths,List.getElem_cons_succ]; omega
section
variable{prog:JY}{w:J6}{E:Jh->Jk->Prop}
mutual
theorem qw:∀(k:T) (v:Jh) (A:J1) (s:Jk) (Q:Jy->Jk->Prop),IsT s.heap k v->A.units+k.depth < cLine->Q (eS w k) { s with toks:=s.toks+k.draws }->wpAny (model prog w) A (pyHash v) Q E s
 | .int i,_,A,s,Q,x,_,h=>by cases x; exact Qa h
 | .str y,_,A,s,Q,x,_,h=>by cases x; exact Qb h
 | .tup ks,_,A,s,Q,x,hu,h=>by
  cases x with
  | @tup _ a o items n hg hc hd hw=>
   simp only[T.depth]at hu;refine PySem.W.pyHash_slot (T:="tuple") ⟨_,hg,hc⟩ F.slot_tuple_hash F.entry_tuple_hash (F.args_tuple_hash_1 _) (beq_builtin_none _) (.inr (by omega)) ?_
   show wpAny _ _ (Mr (.ref a) >>= _) _ _ s;refine Jg (wpAny_tupleItemsOf hg hd ?_);refine Jg ?_;rw[<- MR];refine ly ks items.toList A.in1 s #[] _ hw (by rw[br]; omega) λb hb=>?_
   show wpAny _ _ (retInt (MA b.toList)) _ _ _;rw[hb];refine Jg (Qs (Jm ⟨_,_,rfl,?_⟩))
   simpa [T.draws,Rn,eS]using h
theorem ly:∀(ks:Jf T) (vs:Jf Jh) (A:J1) (s:Jk) (b:JV Jy) (Q:JV Jy->Jk->Prop),IsTs s.heap ks vs->A.units+T.depths ks < cLine->
  (∀b',b'.toList=b.toList++im w ks->Q b' { s with toks:=s.toks+T.drawss ks })->
  wpAny (model prog w) A (forIn vs b λx r=>do let h <- pyHash x; pure Pq; pure (Lb (r.push h))) Q E s
 | [],_,A,s,b,Q,x,_,h=>by cases x; exact Jm (h b (by simp[im]))
 | k::ks,_,A,s,b,Q,x,hu,h=>by
  cases x with
  | cons x1 x2=>
   simp only[T.depths]at hu;rw[Oy];refine Jg (Jg (qw k _ A s _ x1 (by omega) ?_))
   refine Jg (Jm (Jm ?_));refine ly ks _ A _ _ Q x2 (by omega) λb' hb=>?_
   have:=h b' (by simp[hb,im])
   simpa [T.drawss,Rn]using this
end
open SeqAt in
theorem xL:∀(d:Jp) (x y:T) (u v:Jh) (B:J1) (s:Jk),x.depth<=d->IsT s.heap x u->IsT s.heap y v->B.units+d < cLine->B.units+y.depth < cLine->EqAt B s u v (decide (x=y))
 | d,.int i,y,_,_,B,s,_,h1,h2,hu,hv=>by
  cases h1;cases h2 with
  | int=>
   rename_i j t2;have:decide (T.int i=T.int j)=(i==j):=by by_cases e:i=j <;> simp[e]
   rw[this]; exact .int_int _ _ _ _
  | str=>rw[JZ (by simp)]; exact .int_str _ _ _ _
  | tup a c dd t=>rw[JZ (by simp)]; exact .int_tuple _ _ ⟨_,a,c,_,dd⟩ (by simp only[T.depth]at hv; omega)
 | d,.str z,y,_,_,B,s,_,h1,h2,hu,hv=>by
  cases h1;cases h2 with
  | int=>rw[JZ (by simp)]; exact .str_int _ _ _ _
  | str=>
   rename_i z2 t2;have:decide (T.str z=T.str z2)=(z==z2):=by by_cases e:z=z2 <;> simp[e]
   rw[this]; exact .str_str _ _ _ _
  | tup a c dd t=>rw[JZ (by simp)]; exact .str_tuple _ _ ⟨_,a,c,_,dd⟩ (by simp only[T.depth]at hv; omega)
 | 0,.tup ks,y,_,_,B,s,hd,h1,h2,hu,hv=>by simp[T.depth]at hd
 | d+1,.tup ks,y,_,_,B,s,hd,h1,h2,hu,hv=>by
  have h1':=h1;cases h1 with
  | @tup _ a o items n a1 c1 d1 t1=>
   have hT:s.heap.IsTuple a items:=⟨_,a1,c1,_,d1⟩;simp only[T.depth]at hd;cases h2 with
   | int=>rw[JZ (by simp)]; exact .tuple_int _ _ hT (by omega)
   | str=>rw[JZ (by simp)]; exact .tuple_str _ _ hT (by omega)
   | @tup ks2 b o2 items2 n2 a2 c2 d2 t2=>
    have hT2:s.heap.IsTuple b items2:=⟨_,a2,c2,_,d2⟩
    by_cases hab:a=b
    ·subst hab;have:T.tup ks=T.tup ks2:=h1'.inj (.tup a2 c2 d2 t2);rw[Lr this];exact EqAt.same _
    ·refine EqAt.of_refs hab ?_;simp only[T.depth]at hv;have l1:items.size=ks.length:=by rw[<- JB,t1.length]
     have l2:items2.size=ks2.length:=by rw[<- JB,t2.length]
     let e:Jp->JW:=λj=>if h:j < ks.length/\j < ks2.length then decide (ks[j]'h.1=ks2[j]'h.2)else true
     have he:∀j (h1:j < items.size) (h2:j < items2.size),EqAt B.in1 s items[j] items2[j] (e j):=λj j1 j2=>by
      have g1:=t1.get j (l1 ▸ j1) (by simpa using j1)
      have g2:=t2.get j (l2 ▸ j2) (by simpa using j2)
      have q1:=cW (ks:=ks) j (l1 ▸ j1);have q2:=cW (ks:=ks2) j (l2 ▸ j2);have:=xL d _ _ _ _ B.in1 s (by omega) g1 g2 (by rw[br]; omega) (by rw[br]; omega)
      show EqAt B.in1 s items[j] items2[j] (if h:j < ks.length/\j < ks2.length then decide (ks[j]'h.1=ks2[j]'h.2)else true)
      rw[Se ⟨l1 ▸ j1,l2 ▸ j2⟩]
      simpa using this
     have:=RcAt.tuples hT hT2 (by omega) he
     have hk:((Kh (min items.size items2.size)).all e&&items.size==items2.size)=decide (T.tup ks=T.tup ks2):=by
      rw[l1,l2]
      by_cases hl:ks.length=ks2.length
      ·by_cases hq:ks=ks2
       ·subst hq;simp only[Rz,Ko,MK,Qt,JO,KJ];intro j hj;show(if h:j < ks.length/\j < ks.length then decide (ks[j]'h.1=ks[j]'h.2)else true)=true
        rw[Se ⟨hj,hj⟩]; simp
       ·rw[JZ (by simpa using hq)]
        have:∃j,∃h:j < ks.length,ks[j]≠ks2[j]'(hl ▸ h):=by
         apply NN;intro hn;exact hq (Na hl λj h1 h2=>NN λz=>hn ⟨j,h1,z⟩)
        obtain⟨j,hj,hne⟩:=this;rw[OG];left;rw[List.all_eq_false];refine⟨j,by rw[KJ,<- hl,Rz]; exact hj,?_⟩
        show ¬ (if h:j < ks.length/\j < ks2.length then decide (ks[j]'h.1=ks2[j]'h.2)else true)=true
        rw[Se ⟨hj,hl ▸ hj⟩]
        simpa using hne
      ·rw[JZ (by simp; intro z; exact hl (by rw[z])),OG]
       right
       simpa using hl
     rw[hk]at this;exact this
theorem nP {n:Jp}{v:Jh}(h:∀a,v≠.ref a):eqIsQuiet n v=pure true:=by
 cases v with
 | ref a=>exact absurd rfl (h a)
 | _=>first|rfl|simp[eqIsQuiet]|(unfold eqIsQuiet; rfl)
theorem kU:∀(d:Jp) (k:T) (v:Jh) (A:J1) (s:Jk) (Q:JW->Jk->Prop),k.depth<=d->IsT s.heap k v->Q true s->wpAny (model prog w) A (eqIsQuiet d v) Q E s
 | d,.int i,_,A,s,Q,_,x,h=>by cases x; rw[nP (λa=>by simp)]; exact Jm h
 | d,.str i,_,A,s,Q,_,x,h=>by cases x; rw[nP (λa=>by simp)]; exact Jm h
 | 0,.tup ks,_,A,s,Q,hd,x,h=>by simp[T.depth]at hd
 | d+1,.tup ks,_,A,s,Q,hd,x,h=>by
  cases x with
  | @tup _ a o items n ho hc hdt hi=>
   simp only[T.depth]at hd;have hT:s.TypeIs (.ref a) "tuple":=⟨_,ho,hc⟩;unfold eqIsQuiet;refine Jg (Ox hT F.slot_tuple_eq.lookup ?_);show wpAny _ _ (isInstance (.ref a) (.type "tuple") >>= _) _ _ s;refine Jg (My hT isSubtype_tuple_tuple ?_);simp only[L3,JS,KH];refine Jg (Ls ho hdt ?_);refine Jg ?_;show wpAny _ _ (forIn items _ _) _ _ s;rw[<- MR];refine Mx _ (λcb r s'=>r.1=gV/\s'=s/\∃kk,IsTs s.heap kk cb/\T.depths kk<=d) _ ?_ ?_ _ _ ⟨rfl,rfl,ks,hi,by omega⟩
   ·rintro v cb r s' ⟨hr,rfl,kk,hall,hdk⟩;cases hall with
    | cons q1 q2=>
     simp only[T.depths]at hdk;refine Jg (kU d _ v _ _ _ (by omega) q1 ?_)
     simp only[L3,JS,KH];exact Jm ⟨rfl,rfl,_,q2,by omega⟩
   ·rintro⟨r1,r2⟩ s' ⟨hr,rfl,_⟩;simp only at hr;subst hr;exact Jm h
end
noncomputable def bI (prog:JY)(w:J6):HeapKind prog w T where
 is:=λh k a=>IsT h k (.ref a)/\k.depth<=aH
 hash:=eS w
 draws:=T.draws
 room:=λA=>A.units+aH < cLine
 inj:=λhx hy=>hx.1.inj hy.1
 keeps:=λx ho hd hs=>⟨x.1.keeps ho hd hs,x.2⟩
 pyHash:=λhu hk h=>qw _ _ _ _ _ hk.1 (by have:=hk.2; omega) h
 eqBool:=λhu hx hy h=>xL aH _ _ _ _ _ _ hx.2 hx.1 hy.1 hu (by have:=hy.2; omega) _ _ _ _ h
 quiet:=λhk h=>kU 8 _ _ _ _ _ (by have:=hk.2; unfold aH at this; exact JF ‹_› (JJ rfl)) hk.1 h
section
variable{prog:JY}{w:J6}{E:Jh->Jk->Prop}
theorem nQ {n:Jp}{v:Jh}(h:∀a,v≠.ref a):ofAClassStatement n v=pure false:=by
 cases v with
 | ref a=>exact absurd rfl (h a)
 | _=>first|rfl|simp[ofAClassStatement]|(unfold ofAClassStatement; rfl)
theorem o4:∀(d:Jp) (k:T) (v:Jh) (A:J1) (s:Jk) (Q:JW->Jk->Prop),k.depth<=d->IsT s.heap k v->Q false s->wpAny (model prog w) A (ofAClassStatement d v) Q E s
 | d,.int i,_,A,s,Q,_,x,h=>by cases x; rw[nQ (λa=>by simp)]; exact Jm h
 | d,.str i,_,A,s,Q,_,x,h=>by cases x; rw[nQ (λa=>by simp)]; exact Jm h
 | 0,.tup ks,_,A,s,Q,hd,x,h=>by simp[T.depth]at hd
 | d+1,.tup ks,_,A,s,Q,hd,x,h=>by
  cases x with
  | @tup _ a o items n ho hc hdt hi=>
   simp only[T.depth]at hd;have hT:s.TypeIs (.ref a) "tuple":=⟨_,ho,hc⟩;unfold ofAClassStatement;refine Jg (Mg hT ?_);dsimp only;rw[JN (show("tuple" == "tuple")=true by decide)]
   refine Jg (Jm ?_);simp only[L3,JS,KH];refine Jg (Ls ho hdt ?_);refine Jg ?_;show wpAny _ _ (forIn items _ _) _ _ s;rw[<- MR];refine Mx _ (λcb r s'=>r.1=gV/\s'=s/\∃kk,IsTs s.heap kk cb/\T.depths kk<=d) _ ?_ ?_ _ _ ⟨rfl,rfl,ks,hi,by omega⟩
   ·rintro v cb r s' ⟨hr,rfl,kk,hall,hdk⟩;cases hall with
    | cons q1 q2=>
     simp only[T.depths]at hdk;refine Jg (o4 d _ v _ _ _ (by omega) q1 ?_)
     simp only[JS,KH];exact Jm ⟨rfl,rfl,_,q2,by omega⟩
   ·rintro⟨r1,r2⟩ s' ⟨hr,rfl,_⟩;simp only at hr;subst hr;exact Jm h
theorem xM {A:J1}{s:Jk}{Q:JW->Jk->Prop}{x:T}{b:Jq}{ys:Jf Jh}(hx:IsT s.heap x (.ref b))(hdx:x.depth<=aH)(hy:∀v∈ys,∃y c,v=.ref c/\IsT s.heap y (.ref c)/\y.depth<=aH)(h:Q false s):wpAny (model prog w) A (searchCouldBeSeen (.ref b) ys) Q E s:=by
 unfold searchCouldBeSeen;refine Jg ?_;refine Mx _ (λcb r s'=>r.1=gV/\s'=s/\∀v∈cb,∃y c,v=.ref c/\IsT s.heap y (.ref c)/\y.depth<=aH) _ ?_ ?_ _ _ ⟨rfl,rfl,hy⟩
 ·rintro v cb r s' ⟨hr,rfl,hall⟩;obtain⟨y,c,rfl,q,hdy⟩:=hall v (.head _);have hrest:∀v∈cb,∃y c,v=.ref c/\IsT s'.heap y (.ref c)/\y.depth<=aH:=λv hv=>hall v (.tail _ hv)
  have k6:aH<=8:=by unfold aH; decide
  dsimp only;split
  ·exact Jm ⟨rfl,rfl,hrest⟩
  ·refine Jg (kU 8 _ _ _ _ _ (JF ‹_› ‹_›) hx ?_);simp only[L3,JS,KH];refine Jg (kU 8 _ _ _ _ _ (JF ‹_› ‹_›) q ?_);simp only[L3,JS,KH];refine Jg (o4 8 _ _ _ _ _ (JF ‹_› ‹_›) hx ?_);simp only[JS,KH];refine Jg (o4 8 _ _ _ _ _ (JF ‹_› ‹_›) q ?_);simp only[JS,KH];exact Jm ⟨rfl,rfl,hrest⟩
 ·rintro⟨r1,r2⟩ s' ⟨hr,rfl,_⟩;simp only at hr;subst hr;exact Jm h
end
set_option genInjectivity false in
inductive Sf where|there|free (slot:Jp)
noncomputable def d6 (es:JV (Jy×T))(t:KG)(x:T)(h:Jy):Jp->Jn NE->Jn Sf
 | 0,_=>gV
 | f+1,stand=>match t.probe (λi=>(es[i]?.map (·.1)).getD 0) h (stand.getD (t.probeStart h))with
  | none=>gV
  | some (.empty j gV)=>ba (.free j)
  | some (.empty _ (ba _))=>gV
  | some (.candidate j i next)=>match es[i]? with
   | none=>gV
   | some (_,y)=>if y=x then ba .there else if t.slot j=.live i then d6 es t x h f (ba next)else gV
structure SE (h:Kg)(es0:JV (Jy×T))(es:JV (Jy×Jh)):Prop where
 size:es0.size=es.size
 ent:∀(i:Jp) (hh:Jy) (y:T),es0[i]?=ba (hh,y)->∃b:Jq,es[i]?=ba (hh,J3 b)/\IsT h y (.ref b)/\y.depth<=aH
theorem SE.hash {h:Kg}{es0:JV (Jy×T)}{es:JV (Jy×Jh)}(R:SE h es0 es):(λ(i:Jp)=>(es0[i]?.map (λp=>p.1)).getD 0)=λ(i:Jp)=>(es[i]?.map (λp=>p.1)).getD 0:=by
 funext i
 cases e:es0[i]? with
 | none=>
  have:es[i]?=gV:=by rw[Array.getElem?_eq_none_iff]at e ⊢; rw[<- R.size]; exact e
  rw[this]; rfl
 | some p=>
  obtain⟨b,e2,_⟩:=R.ent i p.1 p.2 e;rw[e2]; rfl
theorem SE.vals {h:Kg}{es0:JV (Jy×T)}{es:JV (Jy×Jh)}(R:SE h es0 es):∀e∈es.toList,∃y c,e.2=.ref c/\IsT h y (.ref c)/\y.depth<=aH:=λe he=>by
 obtain⟨i,hi,rfl⟩:=Ms.mp he;rw[JB]at hi;have hi0:i < es0.size:=by rw[R.size]; exact hi
 obtain⟨b,e2,q⟩:=R.ent i es0[i].1 es0[i].2 (Lm hi0);rw[Lm hi]at e2;refine⟨_,b,?_,q⟩;rw[Nf,Kz e2]
section
variable{prog:JY}{w:J6}{E:Jh->Jk->Prop}{A:J1}{s:Jk}
theorem xN {a b:Jq}{o:K2}{es0:JV (Jy×T)}{es:JV (Jy×Jh)}{ep:Jp}{t:KG}{x:T}{h:Jy}{Q:SetFound->Jk->Prop}(ho:s.heap.get? a=ba o)(hd:o.data=.set es ep t)(hf:t.fits es.size=true)(hg:t.gaveWay=false)(R:SE s.heap es0 es)
    (hx:IsT s.heap x (.ref b)) (hdx:x.depth<=aH) (hu:(bI prog w).room A):∀(f F:Jp) (stand:Jn NE) (r:Sf),d6 es0 t x h f stand=ba r->f<=F->(r=.there->Q (.there gV) s)->(∀j,r=.free j->Q (.free j false) s)->
    wpAny (model prog w) A (setSearchFrom a (.ref b) h true F stand) Q E s:=by
  intro f
  induction f with
  | zero=>intro F stand r e; cases e
  | succ f ih=>
    intro F stand r e hF h1 h2;obtain⟨F,rfl⟩ : ∃F',F=F'+1:=⟨F - 1,by omega⟩
    unfold setSearchFrom;refine Jg (KM ho hd hf ?_);dsimp only;rw[hg];simp only[JS,KH];unfold d6 at e;rw[R.hash]at e;split
    · rename_i met hm
      have hm:t.probe (λi=>(es[i]?.map (·.1)).getD 0) h (stand.getD (t.probeStart h))=ba met:=hm
      rw[hm]at e;cases met with
      | empty j dm=>
        cases dm with
        | none=>cases e; exact Jm (h2 j rfl)
        | some d=>cases e
      | candidate j i next=>
        dsimp only at e ⊢;cases ei:es0[i]? with
        | none=>rw[ei]at e; cases e
        | some p=>
          obtain⟨hh,y⟩:=p;rw[ei]at e;dsimp only at e;obtain⟨c,ec,qy,hdy⟩:=R.ent i hh y ei;rw[ec];dsimp only;have sm:t.sameMemory t.moves t.mask=ba true:=by unfold R3; rw[JN (Ko _)]
          have hv:∀v∈List.map (λx=>x.snd) (Array.filter (λx=>x.fst==h) es).toList,∃y c,v=J3 c/\IsT s.heap y (.ref c)/\y.depth<=aH:=λv hv=>by
            obtain⟨p,hp,rfl⟩:=JT.mp hv;rw[Array.toList_filter]at hp;exact R.vals p (Nh.mp hp).1
          cases hl:t.led
          · simp only[OT,K6]
            refine Jg (xM hx hdx hv ?_);simp only[JS,KH];refine Jg (Ku ((bI prog w).eqBool hu ⟨qy,hdy⟩ ⟨hx,hdx⟩ ?_));refine Jg (KM ho hd hf ?_)
            by_cases hyx:y=x
            · rw[JN hyx]at e
              cases e;simp only[hyx,Qt,MK,K6];exact Jm (h1 rfl)
            · rw[JX hyx]at e
              split at e
              · rename_i hsl
                simp only[hyx,RA,NB,JS,KH,sm,K6,hsl,ec];refine Jg (OH ?_);refine Jg (Jm ?_);simp only[K6];exact ih F (ba next) r e (by omega) h1 h2
              · cases e
          · simp only[L3,JS,KH]
            refine Jg (Ku ((bI prog w).eqBool hu ⟨qy,hdy⟩ ⟨hx,hdx⟩ ?_));refine Jg (KM ho hd hf ?_)
            by_cases hyx:y=x
            · rw[JN hyx]at e
              cases e;simp only[hyx,Qt,MK,K6];exact Jm (h1 rfl)
            · rw[JX hyx]at e
              split at e
              · rename_i hsl
                simp only[hyx,RA,NB,JS,KH,sm,K6,hsl,ec];refine Jg (OH ?_);refine Jg (Jm ?_);simp only[K6];exact ih F (ba next) r e (by omega) h1 h2
              · cases e
    · rename_i hm
      have hm:t.probe (λi=>(es[i]?.map (·.1)).getD 0) h (stand.getD (t.probeStart h))=gV:=by
        first|exact hm|(cases hp:t.probe (λi=>(es[i]?.map (·.1)).getD 0) h (stand.getD (t.probeStart h))with
          | none=>rfl
          | some m=>exact absurd hp (hm m))
      rw[hm]at e;cases e
end
mutual
noncomputable def fL:T->JW
 | .int _=>true
 | .str _=>false
 | .tup xs=>dC xs
noncomputable def dC:Jf T->JW
 | []=>true
 | x::xs=>fL x&&dC xs
end
section
variable{prog:JY}{w:J6}{E:Jh->Jk->Prop}
theorem tZ:∀(d:Jp) (k:T) (v:Jh) (A:J1) (s:Jk) (Q:JW->Jk->Prop),fL k=true->k.depth<=d->IsT s.heap k v->Q true s->wpAny (model prog w) A (hashByValue d v) Q E s
 | d,.int i,_,A,s,Q,_,_,x,h=>by
  cases x;have:∀t,hashByValue d (.int i t)=pure true:=λt=>by cases d <;> rfl
  rw[this]; exact Jm h
 | d,.str i,_,A,s,Q,hn,_,x,h=>by cases hn
 | 0,.tup ks,_,A,s,Q,_,hd,x,h=>by simp[T.depth]at hd
 | d+1,.tup ks,_,A,s,Q,hn,hd,x,h=>by
  cases x with
  | @tup _ a o items n ho hc hdt hi=>
   simp only[T.depth]at hd;have hn:dC ks=true:=hn;have hT:s.TypeIs (.ref a) "tuple":=⟨_,ho,hc⟩;unfold hashByValue;refine Jg (Ox hT F.slot_tuple_hash.lookup ?_);refine Jg (Ls ho hdt ?_);refine Jg ?_;show wpAny _ _ (forIn items _ _) _ _ s;rw[<- MR];refine Mx _ (λcb r s'=>r.1=gV/\s'=s/\∃kk,IsTs s.heap kk cb/\T.depths kk<=d/\dC kk=true) _ ?_ ?_ _ _ ⟨rfl,rfl,ks,hi,by omega,hn⟩
   ·rintro v cb r s' ⟨hr,rfl,kk,hall,hdk,hnk⟩;cases hall with
    | cons q1 q2=>
     simp only[T.depths]at hdk;simp only[dC,Jo]at hnk;refine Jg (tZ d _ v _ _ _ hnk.1 (by omega) q1 ?_)
     simp only[L3,JS,KH];exact Jm ⟨rfl,rfl,_,q2,by omega,hnk.2⟩
   ·rintro⟨r1,r2⟩ s' ⟨hr,rfl,_⟩;simp only at hr;subst hr;exact Jm h
end
noncomputable abbrev Ze:=Jy×T×Jq
noncomputable def zT (z:Ze):Jy×T:=(z.1,z.2.1)
noncomputable def zV (z:Ze):Jy×Jh:=(z.1,.ref z.2.2)
noncomputable def ZOk (h:Kg)(zs:JV Ze):Prop:=∀z∈zs.toList,IsT h z.2.1 (.ref z.2.2)/\z.2.1.depth<=aH
theorem ZOk.se {h:Kg}{zs:JV Ze}(k:ZOk h zs):SE h (zs.map zT) (zs.map zV):=⟨by simp,λi hh y e=>by
 rw[NF,Jl]at e;obtain⟨z,hz,e⟩:=e;cases e;exact⟨z.2.2,by rw[NF,hz]; rfl,k z (by rw[Mt]; exact M6 hz)⟩⟩
theorem iS {α β:Type}{f:α->β}{xs:JV α}{p:Jp}{x:α}:J4 (xs.map f) p (f x)=(J4 xs p x).map f:=by
 unfold J4;simp[Array.map_extract]
noncomputable def dM (t:KG)(n:Jp):JW:=t.fits n && !t.gaveWay&&decide (n<=1000)
noncomputable def bU (hf:T->Jy)(st:JV (Jy×T)×KG)(x:T):Jn (JV (Jy×T)×KG):=
 match d6 st.1 st.2 x (hf x) 100 gV with
 | none=>gV
 | some .there=>ba st
 | some (.free slot)=>
  if dM (st.2.put slot).1 (J4 st.1 (st.2.put slot).2 (hf x,x)).size then
   if (st.2.put slot).1.tooFull then
    if NG (M1 (st.1.size+1))<=sizeLine then
     match (st.2.put slot).1.relaid ((J4 st.1 (st.2.put slot).2 (hf x,x)).map (·.1)) (M1 (st.1.size+1))with
     | none=>gV
     | some (t2,order)=>
      if (order.filterMap ((J4 st.1 (st.2.put slot).2 (hf x,x))[·]?)).size=(J4 st.1 (st.2.put slot).2 (hf x,x)).size/\dM t2 (order.filterMap ((J4 st.1 (st.2.put slot).2 (hf x,x))[·]?)).size=true then ba (order.filterMap ((J4 st.1 (st.2.put slot).2 (hf x,x))[·]?),t2)else gV
    else gV
   else ba (J4 st.1 (st.2.put slot).2 (hf x,x),(st.2.put slot).1)
  else gV
theorem filterMap_map {α β:Type}{f:α->β}{xs:JV α}{order:JV Jp}:order.filterMap ((xs.map f)[·]?)=(order.filterMap (xs[·]?)).map f:=by
 rw[Array.map_filterMap];congr 1
 funext i
 exact NF ..
theorem sE {b:Jq}{es:JV (Jy×Jh)}:byScan (.ref b) es=false:=rfl
theorem lz {t:KG}{n:Jp}(h:dM t n=true):t.fits n=true/\t.gaveWay=false/\n<=1000:=by
 unfold dM at h;simp only[Jo,NW,JK]at h;exact⟨h.1.1,h.1.2,h.2⟩
section
variable{prog:JY}{w:J6}{E:Jh->Jk->Prop}{A:J1}{s:Jk}
theorem sF {a:Jq}{o:K2}{es es1:JV (Jy×Jh)}{ep:Jp}{t t1:KG}{Q:Sy->Jk->Prop}(ho:s.heap.get? a=ba o)(hd:o.data=.set es ep t)(hz:es1.size<=1000)
  (h:∀h',K9 a s.heap h'->h'.get? a=ba { o with data:=.set es1 (ep+1) t1 }->Q () { s with heap:=h' }):wpAny (model prog w) A (storeSet a es1 t1) Q E s:=by
 refine wpAny_storeSet_of ho hd (h _ (L6 ..) ?_) (JF hz (by rw[Ki]; decide))
 have:=KU (Obj.putSet es1 t1) ho (by rw[putSet_of es1 t1 hd]; rfl)
 rw[putSet_of es1 t1 hd]at this;exact this
theorem FR {a b:Jq}{o:K2}{zs:JV Ze}{ep:Jp}{t:KG}{x:T}{hf:T->Jy}{es1:JV (Jy×T)}{t1:KG}{Q:JW->Jk->Prop}(ho:s.heap.get? a=ba o)(hd:o.data=.set (zs.map zV) ep t)(hft:dM t zs.size=true)(hz:ZOk s.heap zs)
  (hx:IsT s.heap x (.ref b)) (hdx:x.depth<=aH) (hnx:fL x=true) (hu:(bI prog w).room A) (e:bU hf (zs.map zT,t) x=ba (es1,t1))
  (k:∀(bb:JW) (h':Kg) (zs':JV Ze) (ep':Jp),zs'.map zT=es1->dM t1 zs'.size=true->K9 a s.heap h'->h'.get? a=ba { o with data:=.set (zs'.map zV) ep' t1 }->(∀z∈zs'.toList,z∈zs.toList\/z=(hf x,x,b))->Q bb { s with heap:=h' }) :
  wpAny (model prog w) A (setAddHashed a (.ref b) (hf x)) Q E s:=by
 obtain⟨f1,f2,f3⟩:=lz hft;have f1':t.fits (zs.map zV).size=true:=by rw[KP]; exact f1
 unfold setAddHashed setAddHashedIn;refine Ku (Jg (KM ho hd f1' ?_));dsimp only;rw[sE];simp only[JS,KH];unfold bU at e;cases hs:d6 (zs.map zT) t x (hf x) 100 gV with
 | none=>rw[hs]at e; cases e
 | some r=>
  rw[hs]at e;dsimp only at e;refine Jg ?_;unfold setSearch;refine xN ho hd f1' f2 hz.se hx hdx hu 100 100000 gV r hs (by decide) (λhr=>?_) λslot hr=>?_
  ·subst hr;cases e;exact Jm (k false s.heap zs ep rfl hft (PZ ..) (by rw[<- hd]; exact ho) λz h=>.inl h)
  ·subst hr;dsimp only at e ⊢;refine Jg (KM ho hd f1' ?_);dsimp only;split at e
   ·rename_i hok1;have eI:J4 (zs.map zT) (t.put slot).2 (hf x,x)=(J4 zs (t.put slot).2 (hf x,x,b)).map zT:=iS (f:=zT) (x:=(hf x,x,b));have eV:J4 (zs.map zV) (t.put slot).2 (hf x,.ref b)=(J4 zs (t.put slot).2 (hf x,x,b)).map zV:=iS (f:=zV) (x:=(hf x,x,b));have hmem:∀z∈(J4 zs (t.put slot).2 (hf x,x,b)).toList,z∈zs.toList\/z=(hf x,x,b):=λz h=>by
     unfold J4 at h;simp only[Np,NT,J9,JC]at h;rcases h with(h|h)|h
     ·rw[Mu]at h;exact .inl (by rw[NO]at h; exact Mv (Lv h))
     ·exact .inr h
     ·rw[Mu]at h;exact .inl (by rw[NO]at h; exact Mv (Lv h))
    rw[eI]at e hok1;rw[KP]at hok1;obtain⟨g1,g2,g3⟩:=lz hok1;rw[eV];have hfst:∀z1:JV Ze,Mb (λx=>x.fst) (Mb zV z1)=Mb (λx=>x.fst) (Mb zT z1):=λz1=>by
     rw[Ro,Ro]; rfl
    simp only[KP]at e ⊢;generalize(t.put slot).1=tt at e hok1 g1 g2 ⊢;generalize J4 zs (t.put slot).2 (hf x,x,b)=z1 at e hok1 g1 g3 hmem ⊢;clear eI eV;have k8:x.depth<=8:=JF hdx (by unfold aH; decide)
    have g1v:tt.fits (Mb zV z1).size=true:=by rw[KP]; exact g1
    have tail:∀h1:Kg,K9 a s.heap h1->h1.get? a=ba { o with data:=.set (Mb zV z1) (ep+1) tt }->wpAny (model prog w) A (if (!false&&tt.tooFull)=true then do setRelay a (M1 (zs.size+1)); pure true else pure true) Q E { s with heap:=h1 }:=by
     intro h1 sb1 q1;cases htf:tt.tooFull with
     | false=>
      rw[htf]at e;simp only[JS,KH]at e;cases e;simp only[OT,NB,JS,KH];exact Jm (k true h1 z1 (ep+1) rfl hok1 sb1 q1 hmem)
     | true=>
      rw[htf]at e;simp only[K6]at e;simp only[OT,MK,K6];split at e
      ·rename_i hle;cases hrel:tt.relaid (Mb (λx=>x.fst) (Mb zT z1)) (M1 (zs.size+1))with
       | none=>rw[hrel]at e; cases e
       | some p=>
        obtain⟨t2,order⟩:=p;rw[hrel]at e;dsimp only at e;rw[filterMap_map,KP]at e;split at e
        ·rename_i hc;cases e;obtain⟨c1,c2⟩:=hc;obtain⟨d1,d2,d3⟩:=lz c2;unfold setRelay;refine Jg (Jg (KM q1 rfl g1v ?_));dsimp only;rw[JX (Pr.mpr hle)];rw[hfst,hrel];refine Jg (MU (a:=(Mb zV (QA (λx=>z1[x]?) order),t1)) ?_ ?_)
         ·show(if ((QA (λx=>(Mb zV z1)[x]?) order).size != (Mb zV z1).size)=true then _ else _)=_
          rw[filterMap_map,KP,KP,c1];rw[JX (by simp)]
         ·dsimp only;refine sF (s:={ s with heap:=h1 }) q1 rfl (by rw[KP]; exact d3) λh2 sb2 q2=>Jm (k true h2 _ (ep+1+1) rfl c2 (sb1.trans sb2) q2 λz hz=>hmem z ?_)
          obtain⟨i,hi,e⟩:=Array.mem_filterMap.mp (Mt.mp hz);exact Mt.mpr (M6 e)
        ·cases e
      ·cases e
    cases hp:tt.plain with
    | false=>
     simp only[JS,KH];refine Jg (Jm ?_);simp only[K6];exact Jg (sF ho hd (by rw[KP]; exact g3) λh1 sb1 q1=>tail h1 sb1 q1)
    | true=>
     simp only[K6];refine Jg (tZ 8 _ _ _ _ _ hnx k8 hx ?_);simp only[K6];exact Jg (sF ho hd (by rw[KP]; exact g3) λh1 sb1 q1=>tail h1 sb1 q1)
   ·cases e
end
noncomputable def gK (h h':Kg):Prop:=∀c o,h.get? c=ba o->o.cls=.type "tuple"->h'.get? c=ba o
mutual
theorem IsT.stay {h h':Kg}(k:gK h h'):∀ {x:T} {v:Jh},IsT h x v->IsT h' x v
 | _,_,.int=>.int
 | _,_,.str=>.str
 | _,_,.tup a b c d=>.tup (k _ _ a b) b c (IsTs.stay k d)
theorem IsTs.stay {h h':Kg}(k:gK h h'):∀ {x:Jf T} {v:Jf Jh},IsTs h x v->IsTs h' x v
 | _,_,.nil=>.nil
 | _,_,.cons a b=>.cons (IsT.stay k a) (IsTs.stay k b)
end
theorem ZOk.stay {h h':Kg}{zs:JV Ze}(k:gK h h')(z:ZOk h zs):ZOk h' zs:=λy hy=>⟨(z y hy).1.stay k,(z y hy).2⟩
section
variable{prog:JY}{w:J6}{A:J1}{E:Jh->Jk->Prop}{s:Jk}{R:Qe->Jk->Prop}{I:Jq}{fp wr:Jf Jq}{G:JV OP->JV OP->Prop}{n:Jp}{P:Jp->Jh->Prop}{St:Jp->Jk->Prop}
noncomputable def lA (w:J6)(zs:JV Ze)(ep:Jp)(t:KG):K2:={ cY w with data:=.set (zs.map zV) ep t }
theorem vE (W:WalksS prog w A.in1 I fp wr G n P St){D:Jq}(hD:D∉fp)(hwr:∀i s b o,St i s->b∈wr->s.heap.get? b=ba o->o.cls≠.type "tuple"){ks:Jf T}{res:JV (Jy×T)×KG}{Y:T->Jq->Prop}(hl:ks.length=n)(hk:∀x∈ks,fL x=true/\x.depth<=aH)(hP:∀i v,P i v->∃x b,ks[i]?=ba x/\v=.ref b/\Y x b)(hu:(bI prog w).room A.in1) :
  ∀(k i:Jp) (s:Jk) (zs:JV Ze) (ep:Jp) (t:KG),n - i=k->i<=n->St i s->s.heap.get? D=ba (lA w zs ep t)->dM t zs.size=true->ZOk s.heap zs->(∀z∈zs.toList,Y z.2.1 z.2.2)->(∀j v x,P j v->ks[j]?=ba x->IsT s.heap x v)->(ks.drop i).foldlM (bU (eS w)) (zs.map zT,t)=ba res->
   (∀s' zs' ep',Moved (D::wr) G s s'->s'.heap.get? D=ba (lA w zs' ep' res.2)->zs'.map zT=res.1->dM res.2 zs'.size=true->ZOk s'.heap zs'->(∀z∈zs'.toList,Y z.2.1 z.2.2)->R (.ok (.ret .none)) s')->codeAny (model prog w) A (.builtin "set.update.loop" ⟨[.ref D,.ref I],[]⟩) R s:=by
 have hw:D∉wr:=λz=>hD (W.sub _ z)
 have up:∀b∈wr,b∈D::wr:=λb z=>KL _ z
 intro k
 induction k with
 | zero=>
  intro i s zs ep t hk' hi st ho hok hz hy hT hsim hR;obtain rfl:i=n:=by omega
  refine KA F.entry_set_update_loop ?_;rw[Ks F.plain_set_update_loop _];show wpAny _ A.in1 (pyNext (.ref I) >>= _) _ _ s;refine Jg (W.done s _ _ st λs' mv=>?_)
  rw[M2 (by omega)]at hsim
  cases hsim;have ts:gK s.heap s'.heap:=λc o q hc=>mv.heap c o (λz=>hwr _ _ _ _ st z q hc) q
  exact Jm (hR s' zs ep (mv.mono up) (mv.heap D _ hw ho) rfl hok (hz.stay ts) hy)
 | succ k ih=>
  intro i s zs ep t hk' hi st ho hok hz hy hT hsim hR;have hlt:i < n:=by omega
  refine KA F.entry_set_update_loop ?_;rw[Ks F.plain_set_update_loop _];show wpAny _ A.in1 (pyNext (.ref I) >>= _) _ _ s;refine Jg (W.item i s _ _ hlt st λv s1 pv st1 mv=>?_)
  obtain⟨x,b,hx,rfl,yx⟩:=hP i v pv;have ts1:gK s.heap s1.heap:=λc o q hc=>mv.heap c o (λz=>hwr _ _ _ _ st z q hc) q
  obtain⟨hn,hdp⟩:=hk x (JI hx);have isx:IsT s1.heap x (.ref b):=(hT i _ x pv hx).stay ts1;have o1:s1.heap.get? D=ba (lA w zs ep t):=mv.heap D _ hw ho;have hd1:ks.drop i=x::ks.drop (i+1):=by
   obtain⟨h1,h2⟩:=Ju.mp hx;rw[List.drop_eq_getElem_cons h1,h2]
  rw[hd1,Mc]at hsim;cases hs:bU (eS w) (zs.map zT,t) x with
  | none=>rw[hs]at hsim; cases hsim
  | some aZ=>
   obtain⟨es1,t1⟩:=aZ;rw[hs]at hsim;have hsim:(ks.drop (i+1)).foldlM (bU (eS w)) (es1,t1)=ba res:=hsim;show wpAny _ A.in1 (holding [J3 b] (setAdd D (.ref b)) >>= _) _ _ s1;refine Jg (Ku ?_);unfold setAdd;refine Ku (Jg ((bI prog w).pyHash hu ⟨isx,hdp⟩ ?_));refine FR (s:={ s1 with toks:=s1.toks+x.draws }) (hf:=eS w) o1 rfl hok (hz.stay ts1) isx hdp hn hu hs λbb h' zs' ep' e1 hok' sb ho' hmem=>?_
   have ts2:gK s1.heap h':=λc o q hc=>by
    refine sb.extBut c o (λz=>?_) q
    subst z;rw[o1]at q;cases q;exact absurd hc (by show ¬ (K4 "set" = K4 "tuple"); simp)
   have hz':ZOk h' zs':=λz hzm=>by
    rcases hmem z hzm with h|rfl
    ·exact((hz.stay ts1).stay ts2) z h
    ·exact⟨isx.stay ts2,hdp⟩
   refine Jm ⟨Lh F.plain_set_update_loop _,ih (i+1) { s1 with heap:=h',toks:=s1.toks+x.draws } zs' ep' t1 (by omega) hlt (W.frame _ s1 _ _ st1 (N9 _ _) λc hc u q=>?_) ho' hok' hz' (λz hzm=>by
    rcases hmem z hzm with h|rfl
    ·exact hy z h
    ·exact yx) (λj v y pj hy=>((hT j v y pj hy).stay ts1).stay ts2) (by rw[e1]; exact hsim) λs2 zs2 ep2 mv2 ho2 e2 hok2 hz2 hy2=>?_⟩
   ·rw[sb.2 c λz=>hD (z ▸ hc)]; exact q
   ·refine hR s2 zs2 ep2 (Moved.trans W.gtrans ((mv.mono up).then_heap (N9 _ _) λc u hc q=>?_) mv2) ho2 e2 hok2 hz2 hy2
    rw[sb.2 c λz=>hc (z ▸ KO)]
    exact q
end
section
variable{prog:JY}{w:J6}{A:J1}{E:Jh->Jk->Prop}{s:Jk}
theorem xO (l:JW):dM (.fresh 0 0 l) (#[]:JV Ze).size=true:=by cases l <;> decide
set_option maxHeartbeats 4000000 in
theorem vF {l:Jq}{its:JV Jh}{ks:Jf T}{res:JV (Jy×T)×KG}{Q:Jh->Jk->Prop}(hh:A.handled=gV)(hl:s.heap.IsList l its)(hi:IsTs s.heap ks its.toList)(hk:∀x∈ks,fL x=true/\x.depth<=aH)(hrf:∀(i:Jp) (v:Jh),its[i]?=ba v->∃b,v=.ref b)(hu:(bI prog w).room A.in1.in1.in1)(hsim:ks.foldlM (bU (eS w)) (#[],.fresh 0 0 (!fA w))=ba res)
  (h:∀(h':Kg) (tk:Jp) (zs:JV Ze) (ep:Jp),h'.get? s.heap.objs.size=ba (lA w zs ep res.2)->zs.map zT=res.1->dM res.2 zs.size=true->ZOk h' zs->(∀z∈zs.toList,∃i:Jp,ks[i]?=ba z.2.1/\its[i]?=ba (J3 z.2.2))->(∀b u,s.heap.get? b=ba u->h'.get? b=ba u)->Q (.ref s.heap.objs.size) { s with heap:=h',toks:=tk }):wpAny (model prog w) A (call (.type "set") [.ref l]) Q E s:=by
 obtain⟨c,tl,hmro⟩:=F.called_set.mro;have hmade:=F.called_set.made;have hsub:=F.called_set.sub;have hn1:=F.called_set.notType;have hn2:=F.called_set.canCreate;have hct:=F.typeCall_set_1 (.ref l);refine wpAny_call (Ow ?_);show wpAny _ _ (callAny (.type "set") _) _ _ _;refine Jm ⟨Ps _ (by decide +kernel),KA F.entry_type_call ?_⟩
 rw[Around.under_plain (weight_type_call_type "set" [.ref l] []) rfl]
 repeat (any_goals (first|assumption|wp_step))
 refine MW (xG (w:=w) (.ref l) (E:=E) (Q₁:=λobj s1=>obj=.ref s.heap.objs.size/\s1={ s with heap:=s.heap.push (cY w) }) ⟨rfl,rfl⟩) λr s1 hr=>?_
 match r,hr with
 | .ok (.ret obj),hr=>
  obtain⟨rfl,rfl⟩:=hr;have oS:(s.heap.push (cY w)).get? s.heap.objs.size=ba (cY w):=JA _ rfl;have tS:Shared.TypeIs { s with heap:=s.heap.push (cY w) } (.ref s.heap.objs.size) "set":=⟨_,oS,rfl⟩
  have hli:=F.called_set.init.lookup;have hbi:=F.called_set.init.bind (.ref s.heap.objs.size)
  repeat (any_goals (first|assumption|wp_step))
  refine MW (codeAny_call_builtin (R:=wants (λr s2=>r=.none/\∃h' tk zs ep,s2={ s with heap:=h',toks:=tk }/\h'.get? s.heap.objs.size=ba (lA w zs ep res.2)/\zs.map zT=res.1/\dM res.2 zs.size=true/\ZOk h' zs/\(∀z∈zs.toList,∃i:Jp,ks[i]?=ba z.2.1/\its[i]?=ba (J3 z.2.2))/\∀b u,s.heap.get? b=ba u->h'.get? b=ba u) E) F.called_set.init.plain F.entry_set_init (check_set_init_1 tS ?_)) λr2 s2 hr2=>?_
  ·obtain⟨⟨oc,od,ot,osl⟩,hol,hcl,nl,hdl⟩:=id hl;simp only at hcl hdl;subst hcl hdl;have hol1:=Jj (cY w) hol;have l1:(s.heap.push (cY w)).IsList l its:=⟨_,hol1,rfl,nl,rfl⟩;have e1:=F.sub_list_set;have e2:=F.sub_list_frozenset;have e3:(K4 "list" == K4 "dict")=false:=by decide
   unfold Mn.«set.__init__» noKeywords QC;generalize hPI:pyIter=PI
   wp_walk
   subst hPI;refine M3 l1 (Jg (M0 ?_));have ls:l < s.heap.objs.size:=JE hol;have sz:(s.heap.push (cY w)).objs.size=s.heap.objs.size+1:=Ma ..;have ne:l≠(s.heap.push (cY w)).objs.size:=by rw[sz]; exact JM (LY ls)
   have oS':(s.heap.push (cY w)).get? s.heap.objs.size=ba (lA w #[] 0 (.fresh 0 0 (!fA w))):=by
    rw[oS]; unfold lA cY; simp
   have len:ks.length=its.size:=by rw[hi.length,JB]
   refine vE ((QZ (A:=A.in1.in1.in1) (by simp[hh]) _ l ne its).toS) (D:=s.heap.objs.size) (ks:=ks) (res:=res) (Y:=λx b=>∃i:Jp,ks[i]?=ba x/\its[i]?=ba (J3 b)) (by rw[sz]; simp only[JP,Kl,Lu,R8]; exact⟨JM (Lf _),J2 ls⟩) (λi s b o st hb q=>?_) len hk (λi v q=>?_) hu _ 0 _ #[] 0 (.fresh 0 0 (!fA w)) rfl (KY _)
    ⟨⟨_,JA _ rfl,rfl,rfl⟩,l1.push _⟩ (Jj _ oS') (xO _) (λz hz=>by simp at hz) (λz hz=>by simp at hz) (λj v x q hx=>?_) (by rw[OU,show Mb zT #[]=#[] by simp]; exact hsim) λs3 zs3 ep3 mv ho3 e3 hok3 hz3 hy3=>?_
   ·obtain⟨⟨o',e,hc,_⟩,_⟩:=st;rw[JC.mp hb]at q;rw[q]at e;cases e;rw[hc];simp
   ·obtain⟨b,rfl⟩:=hrf i v q;have hi':i < ks.length:=by rw[len]; exact(K1.mp q).1
    exact⟨ks[i],b,Jw hi',rfl,i,Jw hi',q⟩
   ·have hj:=(Ju.mp hx);have q':=(K1.mp q);obtain⟨h1,rfl⟩:=hj;obtain⟨h2,rfl⟩:=q';have:=hi.get j h1 (by rw[JB]; exact h2)
    rw[Nf]at this;exact this.stay λc o q hc=>Jj _ (Jj _ q)
   ·rw[Rm mv];refine Jm (Jm ⟨rfl,s3.heap,s3.toks,zs3,ep3,rfl,ho3,e3,hok3,hz3,hy3,λb u q=>?_⟩)
    have hb:=JE q;exact mv.heap b u (by rw[sz]; simp only[JP,Kl,Lu,R8]; exact⟨JM hb,JM (LY hb)⟩) (Jj _ (Jj _ q))
  ·match r2,hr2 with
   | .ok (.ret r),hr2=>
    obtain⟨rfl,h',tk,zs,ep,rfl,g1,g2,g3,g4,g5,g6⟩:=hr2
    repeat (any_goals (first|assumption|wp_step))
    exact h h' tk zs ep g1 g2 g3 g4 g5 g6
   | .ok .next,hr2=>exact hr2.elim
   | .ok .brk,hr2=>exact hr2.elim
   | .ok .cont,hr2=>exact hr2.elim
   | .error e,hr2=>exact hr2
 | .ok .next,hr=>exact hr.elim
 | .ok .brk,hr=>exact hr.elim
 | .ok .cont,hr=>exact hr.elim
 | .error e,hr=>exact hr
end
noncomputable def j8 (S:aa)(i:Jp):Jn (Jf (T×W)):=match S[i]? with
 | some (.dic kvs)=>ba kvs
 | some (.frd kvs)=>ba kvs
 | _=>gV
noncomputable def o5 (S:aa)(i:Jp):Jn (Jf (T×W)):=match S[i]? with
 | some (.dic kvs)=>ba kvs
 | _=>gV
noncomputable def cz (kvs:Jf (T×W))(k:T):Jn W:=(kvs.find? λp=>decide (p.1=k)).map (·.2)
noncomputable def eQ (kvs:Jf (T×W))(k:T)(v:W):Jf (T×W):=
 if (kvs.any λp=>decide (p.1=k))=true then kvs.map (λp=>if p.1=k then(p.1,v)else p)else kvs++[(k,v)]
noncomputable def gR (w:W):Jn T:=match W.t w with
 | some k=>if k.isTup=true/\k.depth<=aH then ba k else gV
 | none=>gV
theorem en {w:W}{k:T}(h:gR w=ba k):k.w=w/\k.isTup=true/\k.depth<=aH:=by
 unfold gR at h;split at h
 ·rename_i k' hk;split at h
  ·rename_i hc;cases h;exact⟨W.t_w hk,hc.1,hc.2⟩
  ·cases h
 ·cases h
theorem dg (kvs:Jf (T×W))(k:T)(v:W):(eQ kvs k v).length<=kvs.length+1:=by
 unfold eQ;split
 ·rw[Ji]; omega
 ·rw[Jt,Ky,Lk]; omega
section
variable{X:Cx}{pins:Jf (Jq×K2)}{σ:L2.St}{H:Hp}{s:Jk}{A:Jf Jq}{S:aa}
mutual
theorem o7 (I:Inv X pins σ H s):∀(k:T) {v:V} {u:Jh},Rel X.K A H k.w v->RelV v u->IsT s.heap k u
 | .int i,_,_,r,q=>by
  cases r;obtain⟨t,rfl⟩ : ∃t,_=N7 _ t:=q;exact .int
 | .str x,_,_,r,q=>by
  cases r;obtain⟨t,rfl⟩ : ∃t,_=M7 _ t:=q;exact .str
 | .tup ks,_,_,r,q=>by
  simp only[T.w]at r;cases r with
  | tup sq rl=>
   obtain⟨its,rv,⟨o,h1,h2,n,h3⟩,hz⟩:=I.tuple sq;obtain rfl:_=J3 _:=q;exact .tup h1 h2 h3 (fM I ks rl (by simpa using rv))
theorem fM (I:Inv X pins σ H s):∀(ks:Jf T) {vs:Jf V} {us:Jf Jh},RelL X.K A H (T.ws ks) vs->Vals vs us->IsTs s.heap ks us
 | [],_,_,r,q=>by
  simp only[T.ws]at r;cases r; cases q; exact .nil
 | k::ks,_,_,r,q=>by
  simp only[T.ws]at r;cases r with
  | cons r1 r2=>
   cases q with
   | cons q1 q2=>exact .cons (o7 I k r1 q1) (fM I ks r2 q2)
end
theorem ju (I:Inv X pins σ H s){k:T}{b:Jq}(r:Rel X.K A H k.w (.ref b))(hd:k.depth<=aH):(bI X.prog X.w).is s.heap k b:=⟨o7 I k r rfl,hd⟩
theorem iT {w:W}{k:T}{v:V}{u:Jh}(hk:gR w=ba k)(r:Rel X.K A H w v)(q:RelV v u):∃b,v=.ref b/\u=.ref b/\Rel X.K A H k.w (.ref b):=by
 obtain⟨h1,h2,h3⟩:=en hk;subst h1;cases k with
 | tup ks=>
  simp only[T.w]at r;cases r with
  | tup a b=>exact⟨_,rfl,q,by simp only[T.w]; exact .tup a b⟩
 | _=>cases h2
theorem KRel.is {kvs:Jf (T×W)}{xs:Jf (T×Jq×Jh)}(I:Inv X pins σ H s)(r:KRel X.K A H kvs xs):∀x∈xs,(bI X.prog X.w).is s.heap x.1 x.2.1:=by
 unfold KRel at r
 induction r with
 | nil=>intro x hx; exact nomatch hx
 | @cons p q ps qs h t ih=>
  intro x hx;rcases JP.mp hx with e|hx
  ·subst e;obtain⟨h1,h2,h3,h4,_⟩:=h;rw[h1]at h3 h4;exact ju I h4 h3
  ·exact ih x hx
theorem KRel.length {kvs:Jf (T×W)}{xs:Jf (T×Jq×Jh)}(r:KRel X.K A H kvs xs):kvs.length=xs.length:=N1 r
theorem KRel.val {kvs:Jf (T×W)}{xs:Jf (T×Jq×Jh)}(r:KRel X.K A H kvs xs)(k:T) :
  (∀w,cz kvs k=ba w->∃p v,atKey xs k=ba p/\Rel X.K A H w v/\RelV v p.2)/\(cz kvs k=gV->atKey xs k=gV):=by
 unfold KRel at r
 induction r with
 | nil=>exact⟨λw h=>(nomatch h),λ_=>rfl⟩
 | @cons p q ps qs h t ih=>
  obtain⟨h1,_,_,_,v,h5,h6⟩:=h
  by_cases e:p.1=k
  ·have e':q.1=k:=h1.symm.trans e;have a1:cz (p::ps) k=ba p.2:=by simp[cz,Mk,e]
   have a2:atKey (q::qs) k=ba q.2:=by simp[atKey,Mk,e']
   rw[a1,a2];exact⟨λw hw=>(by cases hw; exact⟨_,v,rfl,h5,h6⟩),λh=>nomatch h⟩
  ·have e':¬ q.1=k:=λz=>e (h1.trans z)
   have a1:cz (p::ps) k=cz ps k:=by simp[cz,Mk,e]
   have a2:atKey (q::qs) k=atKey qs k:=by simp[atKey,Mk,e']
   rw[a1,a2];exact ih
theorem KRel.repl {kvs:Jf (T×W)}{xs:Jf (T×Jq×Jh)}(r:KRel X.K A H kvs xs)(k:T){w:W}{v:V}{u:Jh}(rw':Rel X.K A H w v)(rv:RelV v u) :
  KRel X.K A H (kvs.map λp=>if p.1=k then(p.1,w)else p) (xs.map (putAt k u)):=by
 unfold KRel at r ⊢
 induction r with
 | nil=>exact .nil
 | @cons p q ps qs h t ih=>
  rw[KF,KF];refine .cons ?_ ih;obtain⟨h1,h2,h3,h4,h5⟩:=h;unfold putAt
  by_cases e:p.1=k
  ·rw[JN e,JN (h1.symm.trans e)]; exact⟨h1,h2,h3,h4,v,rw',rv⟩
  ·rw[JX e,JX (λz=>e (h1.trans z))]; exact⟨h1,h2,h3,h4,h5⟩
theorem qx (k:T):∀kvs:Jf (T×W),(kvs.any λp=>decide (p.1=k))=(cz kvs k).isSome
 | []=>rfl
 | p::r=>by
  rw[LI]
  by_cases e:p.1=k
  ·have a1:cz (p::r) k=ba p.2:=by simp[cz,Mk,e]
   rw[a1,Lr e]; rfl
  ·have a1:cz (p::r) k=cz r k:=by simp[cz,Mk,e]
   rw[a1,JZ e,N3]; exact qx k r
theorem KRel.put {kvs:Jf (T×W)}{xs:Jf (T×Jq×Jh)}(r:KRel X.K A H kvs xs){k:T}{b:Jq}{w:W}{v:V}{u:Jh}(h1:k.isTup=true)(h2:k.depth<=aH)(h3:Rel X.K A H k.w (.ref b))(rw':Rel X.K A H w v)(rv:RelV v u) :
  KRel X.K A H (eQ kvs k w) (storedH xs k b u):=by
 have e:(kvs.any λp=>decide (p.1=k))=(atKey xs k).isSome:=by
  rw[qx];cases q:cz kvs k with
  | none=>rw[(r.val k).2 q]; rfl
  | some x=>obtain⟨p,_,h,_⟩:=(r.val k).1 x q; rw[h]; rfl
 unfold eQ storedH;rw[e]
 by_cases q:(atKey xs k).isSome=true
 ·rw[JN q,JN q]; exact r.repl k rw' rv
 ·rw[JX q,JX q]; exact Paired.snoc r ⟨rfl,h1,h2,h3,v,rw',rv⟩
theorem DicAt.of {h:Kg}{a:Jq}{xs:Jf (T×Jq×Jh)}(hz:xs.length<=sizeLine)(hs:(a==sysModules)=false)(d:h.DictOfH (bI X.prog X.w) a xs):DicAt X.w a xs h:=
 let ⟨o,es,ep,h1,h2,h3,h4,_,h6⟩:=d; ⟨hz,hs,h6,o,es,ep,h1,h2,h3,h4⟩
theorem DicAt.stay {wd:J6}{h h':Kg}{a:Jq}{xs:Jf (T×Jq×Jh)}(d:DicAt wd a xs h)(k:∀o,h.get? a=ba o->h'.get? a=ba o):DicAt wd a xs h':=
 let ⟨h0,hs,hn,o,es,ep,h1,h2⟩:=d; ⟨h0,hs,hn,o,es,ep,k _ h1,h2⟩
theorem DicAt.ok {P:JY}{h:Kg}{wd:J6}{a:Jq}{xs:Jf (T×Jq×Jh)}(d:DicAt wd a xs h):ObjOk P wd H h a (ey wd a xs):=
 ⟨d,let ⟨_,_,_,o,_,_,h1,_⟩:=d; ⟨o,h1⟩,λ_ _ p k=>p.stay k⟩
theorem cZ {a:Jq}{xs:Jf (T×Jq×Jh)}(I:Inv X pins σ H s)(e:Rd H a (ey X.w a xs)):DicAt X.w a xs s.heap:=(show ObjOk X.prog X.w H s.heap a (ey X.w a xs)from e.ok I.hok).1
theorem DicAt.dict {kvs:Jf (T×W)}{a:Jq}{xs:Jf (T×Jq×Jh)}(d:DicAt X.w a xs s.heap)(I:Inv X pins σ H s)(r:KRel X.K A H kvs xs):s.heap.DictOfH (bI X.prog X.w) a xs:=
 let ⟨_,_,hn,o,es,ep,h1,h2,h3,h4⟩:=d; ⟨o,es,ep,h1,h2,h3,h4,r.is I,hn⟩
theorem gl {i:Jp}{kvs:Jf (T×W)}{a:Jq}(so:StoreOk X.w X.K A H S)(e:j8 S i=ba kvs)(ea:A[i]?=ba a):∃xs,Rd H a (ey X.w a xs)/\KRel X.K A H kvs xs:=by
 unfold j8 at e;split at e
 ·rename_i k h;cases e;obtain⟨xs,q,r⟩:=so.obj i _ a h ea;exact⟨xs,.inl q,r⟩
 ·rename_i k h;cases e;obtain⟨o,xs,q,r⟩:=so.obj i _ a h ea;exact⟨xs,.inr ⟨o,q⟩,r⟩
 ·cases e
theorem iU {i:Jp}{kvs:Jf (T×W)}(e:o5 S i=ba kvs):S[i]?=ba (.dic kvs):=by
 unfold o5 at e;split at e
 ·rename_i h; cases e; exact h
 ·cases e
theorem t4 {i:Jp}{kvs:Jf (T×W)}{a:Jq}(so:StoreOk X.w X.K A H S)(e:o5 S i=ba kvs)(ea:A[i]?=ba a):∃xs,H a=ba (ey X.w a xs)/\KRel X.K A H kvs xs:=
 so.obj i _ a (iU e) ea
theorem qz {B:J1}(hu:B.units+10 < cLine):(bI X.prog X.w).room B.in1:=by
 show B.in1.units+aH < cLine;rw[br]; unfold aH; omega
noncomputable def r9 (x y:W)(S:aa):Jn (W×aa):=match x,y with
 | .ref r,.tup ks=>match j8 S r,gR (.tup ks)with
  | some kvs,ba k=>(cz kvs k).map λw=>(w,S)
  | _,_=>gV
 | x,y=>wH x y S
theorem HN (hu:X.A.units+10 < cLine):LIx X r9:=by
 intro value slice pins s σ H A S x y a b u v w S' I so rx ru ry rv e hs
 by_cases hxy:∃r ks,x=.ref r/\y=.tup ks
 ·obtain⟨r,ks,rfl,rfl⟩:=hxy;simp only[r9]at e;split at e
  ·rename_i kvs k hk1 hk2;rw[Jl]at e;obtain⟨w',e1,e2⟩:=e;cases e2;cases rx with
   | ref ea=>
    obtain⟨xs,rd,kr⟩:=gl so hk1 ea;have d:=cZ I rd;have dd:=d.dict I kr;obtain⟨bk,rfl,rfl,rk⟩:=iT hk2 ry rv;obtain⟨p,vv,h1,h2,h3⟩:=(kr.val k).1 _ e1;obtain rfl:u=J3 _:=ru;refine MY (x:=p.2) dd.typeIs slot_dict_getitem.lookup
     (wpAny_getItem_heap (Q:=λr s'=>r=p.2/\dX X pins σ A H S w r s') (qz hu) (ju I rk (en hk2).2.2) dd h1 ⟨rfl,vv,H,A,I.tok _,h3,.refl,so,h2⟩) hs
  ·cases e
 ·have:r9 x y S=wH x y S:=by
   cases x <;> cases y <;> first|rfl|exact absurd ⟨_,_,rfl,rfl⟩ hxy
  rw[this]at e;exact IX hu value slice pins s σ H A S x y a b u v w S' I so rx ru ry rv e hs
noncomputable def iV (o i v:W)(S:aa):Jn aa:=match o,i with
 | .ref r,.tup ks=>match o5 S r,gR (.tup ks)with
  | some kvs,ba k=>if kvs.length < sizeLine then ba (S.set r (.dic (eQ kvs k v)))else gV
  | _,_=>gV
 | o,i=>vw o i v S
theorem FU (hu:X.A.units+10 < cLine):LSet X iV:=by
 intro pins s σ H A S o i x ao ai ax uo ui ux S' I so ro ruo ri rui rx rux e
 by_cases hxy:∃r ks,o=.ref r/\i=.tup ks
 ·obtain⟨r,ks,rfl,rfl⟩:=hxy;simp only[iV]at e;split at e
  ·rename_i kvs k hk1 hk2;split at e
   ·rename_i hl;cases e;cases ro with
    | ref ea=>
     obtain⟨xs,hH,kr⟩:=t4 so hk1 ea;have d:=cZ I (.inl hH);have dd:=d.dict I kr;obtain⟨bk,rfl,rfl,rk⟩:=iT hk2 ri rui;obtain⟨q1,q2,q3⟩:=en hk2;obtain rfl:uo=J3 _:=ruo;have hz:xs.length<=sizeLine:=by rw[<- kr.length]; exact LG ‹_›
     refine wpAny_setItem_heap (hsz:=hz) (qz hu) (ju I rk q3) dd λh' dd' hs=>?_
     have kr':=kr.put q2 q3 rk rx rux;have hz':(storedH xs k bk ux).length<=sizeLine:=by
      rw[<- kr'.length];have:=dg kvs k x;omega
     have dn:DicAt X.w _ (storedH xs k bk ux) h':=.of hz' d.2.1 dd';obtain⟨so',ex⟩:=so.writeO (iU hk1) rfl ea (u:=ey X.w _ (storedH xs k bk ux)) (n:=.dic (eQ kvs k x)) ⟨_,bv,kr'.mono (dG (.ext hH))⟩;exact⟨_,A,oR I (by rw[hH]; exact Nb) hs (let ⟨q,_,_,hq,_⟩:=dd'; ⟨q,hq⟩) dn.ok,ex,so'⟩
   ·cases e
  ·cases e
 ·have:iV o i x S=vw o i x S:=by
   cases o <;> cases i <;> first|rfl|exact absurd ⟨_,_,rfl,rfl⟩ hxy
  rw[this]at e;exact lset hu pins s σ H A S o i x ao ai ax uo ui ux S' I so ro ruo ri rui rx rux e
noncomputable def t8 (x:W)(xs:Jf W)(S:aa):Jn (W×aa):=match x,xs with
 | .ref r,[y,z]=>match j8 S r,gR y with
  | some kvs,ba k=>ba ((cz kvs k).getD z,S)
  | _,_=>gV
 | _,_=>gV
theorem sG (hu:X.A.units+10 < cLine):LMeth X "dict.get" t8:=by
 intro pins s σ H A S x a u xs vs us w S' I so rx ru rl rv e;cases rx with
 | ref ea=>
  cases rl with
  | nil=>cases e
  | cons r1 t1=>
   cases t1 with
   | nil=>cases e
   | cons r2 t2=>
    cases t2 with
    | cons _ _=>cases e
    | nil=>
     simp only[t8]at e;split at e
     ·rename_i kvs k hk1 hk2;cases e;obtain⟨xs,rd,kr⟩:=gl so hk1 ea;have d:=cZ I rd;have dd:=d.dict I kr;cases rv with
      | cons v1 rv2=>
       cases rv2 with
       | cons v2 rv3=>
        cases rv3;obtain⟨bk,rfl,rfl,rk⟩:=iT hk2 r1 v1;obtain rfl:u=J3 _:=ru;refine call_meetsIn OI dd.typeIs PySem.F.entry_dict_get (PySem.F.args_dict_get_3 _ _ _) (meetsH_dict_get_default (bI X.prog X.w) _ bk d.2.1 _) ⟨qz hu,k,xs,ju I rk (en hk2).2.2,dd,?_⟩;cases q:cz kvs k with
        | none=>
         rw[(kr.val k).2 q];exact⟨_,H,A,I.tok _,v2,.refl,so,r2⟩
        | some w'=>
         obtain⟨p,vv,h1,h2,h3⟩:=(kr.val k).1 _ q;rw[h1];exact⟨vv,H,A,I.tok _,h3,.refl,so,h2⟩
     ·cases e
 | _=>cases e
noncomputable def G8 (x:W)(i:Jp)(S:aa):Jn JW:=match W.t x,iL S i with
 | some k,ba ys=>match W.ts ys with
  | some ks=>if k.depth<=aH/\T.depths ks<=aH then ba (decide (k∈ks))else gV
  | none=>gV
 | _,_=>gV
theorem t9 {h:Kg}:∀ {ks:Jf T} {vs:Jf Jh},IsTs h ks vs->∀v∈vs,∃k∈ks,IsT h k v
 | _,_,.cons a b,v,hv=>by
  rcases JP.mp hv with rfl|hv
  ·exact⟨_,.head _,a⟩
  ·obtain⟨k,hk,q⟩:=t9 b v hv;exact⟨k,.tail _ hk,q⟩
noncomputable def DK (h:Kg)(k:T)(v:Jh):JW:=@decide (IsT h k v) (Rv _)
theorem xP {h:Kg}{k k':T}{v:Jh}(x:IsT h k' v):DK h k v=decide (k'=k):=by
 unfold DK
 by_cases e:k'=k
 ·subst e; simp[x]
 ·have:¬ IsT h k v:=λy=>e (x.inj y)
  simp[e,this]
theorem ub {h:Kg}{k:T}:∀ {ks:Jf T} {vs:Jf Jh},IsTs h ks vs->vs.any (DK h k)=decide (k∈ks)
 | _,_,.nil=>by simp
 | _,_,.cons (k:=k') a b=>by
  rw[LI,xP a,ub b]
  by_cases e:k'=k
  ·simp[e]
  ·have:¬ k=k':=λz=>e z.symm
   simp[e,this]
theorem qA:∀ {ks:Jf T} {k:T},k∈ks->k.depth<=T.depths ks
 | x::ks,k,h=>by
  simp only[T.depths];rcases JP.mp h with rfl|h
  ·omega
  ·have:=qA h; omega
theorem xQ {x:W}{i:Jp}{a b:V}{u v:Jh}{c:JW}(hu:X.A.units+10 < cLine)(I:Inv X pins σ H s)(so:StoreOk X.w X.K A H S)(rx:Rel X.K A H x a)(ru:RelV a u)(ry:Rel X.K A H (.ref i) b)(rv:RelV b v)(e:G8 x i S=ba c) :
  ∃l its k ks,v=.ref l/\s.heap.IsList l its/\(∀y,y∈its->Nz X.A.in1 s y u (DK s.heap k y))/\its.any (DK s.heap k)=c/\c=decide (k∈(ks:Jf T)):=by
 unfold G8 at e;split at e
 ·rename_i k ys h1 h2;split at e
  ·rename_i ks h3;split at e
   ·rename_i h4;cases e;cases ry with
    | ref ea=>
     obtain⟨vs,g1,g2⟩:=cR so h2 ea;obtain⟨its,rv',p,_⟩:=I.list g1;obtain rfl:v=J3 _:=rv;have hT:IsTs s.heap ks its:=fM I ks ((W.ts_w h3).symm ▸ g2) rv';have hk:IsT s.heap k u:=o7 I k ((W.t_w h1).symm ▸ rx) ru;refine⟨_,its.toArray,k,ks,rfl,p.isList,λy hy=>?_,by rw[List.any_toArray]; exact ub hT,rfl⟩
     obtain⟨k',hk',q⟩:=t9 hT y (by simpa using hy)
     rw[xP q];have:=qA hk';have kl:aH=6:=rfl;exact xL aH k' k _ _ _ _ (by omega) q hk (by rw[br]; omega) (by rw[br]; omega)
   ·cases e
  ·cases e
 ·cases e
noncomputable def cU (o:COp)(x y:W)(S:aa):Jn (W×aa):=match o,y with
 | .isin,.ref i=>match j8 S i with
  | some kvs=>(gR x).map λk=>(.bl (cz kvs k).isSome,S)
  | none=>match x with
   | .tup xs=>(G8 (.tup xs) i S).map λb=>(.bl (b),S)
   | x=>iM .isin x (.ref i) S
 | .notin,.ref i=>match j8 S i with
  | some kvs=>(gR x).map λk=>(.bl (!(cz kvs k).isSome),S)
  | none=>match x with
   | .tup xs=>(G8 (.tup xs) i S).map λb=>(.bl (!b),S)
   | x=>iM .notin x (.ref i) S
 | o,y=>iM o x y S
theorem qB (hu:X.A.units+ip < cLine)(o:COp):LOp X (compareOp o.py) (cU o):=by
 intro pins s σ H A S x y a b u v w S' I so rx ru ry rv e;have get:∀ {i:Jp} {kvs:Jf (T×W)} {k:T},y=.ref i->j8 S i=ba kvs->gR x=ba k->∃d c xs,v=.ref d/\u=.ref c/\(d==sysModules)=false/\(bI X.prog X.w).is s.heap k c/\s.heap.DictOfH (bI X.prog X.w) d xs/\(cz kvs k).isSome=(atKey xs k).isSome:=by
  intro i kvs k hy hk1 hk2;subst hy;cases ry with
  | ref ea=>
   obtain⟨xs,rd,kr⟩:=gl so hk1 ea;have d:=cZ I rd;obtain⟨bk,rfl,rfl,rk⟩:=iT hk2 rx ru;obtain rfl:v=J3 _:=rv;refine⟨_,bk,xs,rfl,rfl,d.2.1,ju I rk (en hk2).2.2,d.dict I kr,?_⟩;cases q:cz kvs k with
   | none=>rw[(kr.val k).2 q]; rfl
   | some w'=>obtain⟨p,_,h1,_⟩:=(kr.val k).1 _ q; rw[h1]; rfl
 have old:iM o x y S=ba (w,S')->wpAny (model X.prog X.w) X.A (compareOp o.py u v) (dX X pins σ A H S' w) X.xe s:=λh=>AY hu o pins s σ H A S x y a b u v w S' I so rx ru ry rv h
 have hu':X.A.units+10 < cLine:=by have:ip=20:=rfl; omega
 unfold cU at e;split at e
 ·split at e
  ·rename_i kvs hk1;rw[Jl]at e;obtain⟨k,hk2,e2⟩:=e;cases e2;obtain⟨d,c,xs,rfl,rfl,q1,q2,q3,q4⟩:=get rfl hk1 hk2;rw[q4];exact wpAny_in_heap (qz hu') q2 q1 q3 ⟨.bl _,H,A,I.tok _,rfl,.refl,so,.bl⟩
  ·split at e
   ·rw[Jl]at e;obtain⟨c,hc,e⟩:=e;cases e;obtain⟨l,its,k,ks,rfl,p1,p2,p3,_⟩:=xQ hu' I so rx ru ry rv hc;refine Qx (DK s.heap k) p1 p2 ?_;rw[p3];exact⟨.bl _,H,A,I,rfl,.refl,so,.bl⟩
   ·exact old e
 ·split at e
  ·rename_i kvs hk1;rw[Jl]at e;obtain⟨k,hk2,e2⟩:=e;cases e2;obtain⟨d,c,xs,rfl,rfl,q1,q2,q3,q4⟩:=get rfl hk1 hk2;rw[q4];exact wpAny_notIn_heap (qz hu') q2 q1 q3 ⟨.bl _,H,A,I.tok _,rfl,.refl,so,.bl⟩
  ·split at e
   ·rw[Jl]at e;obtain⟨c,hc,e⟩:=e;cases e;obtain⟨l,its,k,ks,rfl,p1,p2,p3,_⟩:=xQ hu' I so rx ru ry rv hc;refine Pn (DK s.heap k) p1 p2 ?_;rw[p3];exact⟨.bl _,H,A,I,rfl,.refl,so,.bl⟩
   ·exact old e
 ·exact old e
end
noncomputable def RawD (d:Jq)(es:JV LA)(ep:Jp)(h:Kg):Prop:=∃o,h.get? d=ba o/\o.ExactDict/\o.data=.dict es ep
theorem RawD.at {d:Jq}{es:JV LA}{ep:Jp}{h h':Kg}(x:RawD d es ep h)(e:∀o,h.get? d=ba o->h'.get? d=ba o):RawD d es ep h':=let ⟨o,ho,r⟩:=x; ⟨o,e _ ho,r⟩
theorem RawD.lt {d:Jq}{es:JV LA}{ep:Jp}{h:Kg}(x:RawD d es ep h):d < h.objs.size:=let ⟨_,ho,_⟩:=x; JE ho
theorem RawD.type {d:Jq}{es:JV LA}{ep:Jp}{s:Jk}(x:RawD d es ep s.heap):s.TypeIs (.ref d) "dict":=let ⟨o,ho,hc,_⟩:=x; ⟨o,ho,hc.1⟩
section
variable{prog:JY}{w:J6}{A:J1}{E:Jh->Jk->Prop}{s:Jk}{it d:Jq}{i ep:Jp}{es:JV LA}
theorem qC {Q:Jh->Jk->Prop}(hd:(d==sysModules)=false)(hm:RawD d es ep s.heap)
  (hQ:Q (.ref s.heap.objs.size) { s with heap:=s.heap.push { cls:=.type "dict_keyiterator",data:=.fields [.ref d,.int 0 0,.int es.size 0,.int ep 0].toArray } }):wpAny (model prog w) A (pyIter (.ref d)) Q E s:=by
 have hT:=hm.type;obtain⟨o,ho,hc,hdat⟩:=id hm;refine NU hT F.slot_dict_iter (Kx F.slot_dict_iter hT F.entry_dict_iter ?_ (F.args_dict_iter_1 _));unfold Mn.«dict.__iter__» Rb;refine Jg (Jg (wpAny_notOrdered_dict hT ?_));show wpAny _ _ (pure (J3 d)) _ _ s;refine Jm ?_;show wpAny _ _ (OJ d >>= _) _ _ s;unfold OJ;rw[JX (by rw[hd]; exact JU)]
 refine Jg (Jm (Jg (M4 ho hdat (Jg (Oz ho hdat ?_)))));refine Jg (J7 (Jm ⟨_,rfl,"dict_keyiterator",_,⟨_,JA _ rfl,rfl⟩,F.slot_dict_keyiterator_next.lookup,?_⟩))
 simpa [rawInt]using hQ
theorem qD {Q:Jn Jh->Jk->Prop}(hit:s.heap.IsKeyIter it d i es.size ep)(hm:RawD d es ep s.heap)(hi:i < es.size)
  (hQ:∀h',h'.IsKeyIter it d (i+1) es.size ep->K9 it s.heap h'->Q (ba es[i].key) { s with heap:=h' }):wpAny (model prog w) A (pyNext (.ref it)) Q E s:=by
 obtain⟨o,ho,hc,hd⟩:=id hit;obtain⟨od,hod,hcd,hdd⟩:=id hm;unfold pyNext;refine Jg (Nd (Kw (name:=Lp "__next__") hit.typeIs F.slot_dict_keyiterator_next
  (Kx F.slot_dict_keyiterator_next hit.typeIs F.entry_dict_keyiterator_next ?_ (F.args_dict_keyiterator_next_1 _))))
 refine Jg (Jm (Jg (Jg ?_)))
 first|refine Jg (Lw hit.typeIs (Jm ?_))|refine Jg (L4 hit.typeIs (Jm ?_))
 refine Jg (ND ho hd ?_);have hown:Nj "dict_keyiterator" = false:=by decide
 simp only[hown,JS,KH];show wpAny _ _ (if (J3 d==Ke)=true then _ else _) _ _ s
 rw[JX (show ¬ ((J3 d==Ke)=true)from JU)]
 refine Jg (Jm (Jg (M4 hod hdd ?_)));rw[JX (by simp)]
 refine Jg (Jm (Jg (Oz hod hdd ?_)));rw[JX (by simp)]
 refine Jm ?_;simp only[show ¬ ((i:Jy) < 0)from by omega,KH,JH,Lm hi]
 refine Jg ?_
 first|refine Jg (Lw hit.typeIs (Jm ?_))|refine Jg (L4 hit.typeIs (Jm ?_))
 refine Jg (OL hit.typeIs ?_);show wpAny _ _ (setField (.ref it) 1 (rawInt ((i:Jy)+1)) >>= _) _ _ s;refine Jg (NH ho hd (by simp) ?_)
 have hit':(s.heap.update it (Rp (·.setIfInBounds 1 (rawInt ((i:Jy)+1))))).IsKeyIter it d (i+1) es.size ep:=
  ⟨_,KU _ ho (OM (MS hd _)),(P0 ..).trans hc,by rw[MS hd]; simp[rawInt]⟩
 refine Jg (Ku ?_);refine Jg (OL (s:={ s with heap:=s.heap.update it (Rp (·.setIfInBounds 1 (rawInt ((i:Jy)+1)))) }) hit'.typeIs ?_)
 show wpAny _ _ (pure es[i].key) _ _ _;exact Jm (Jm ⟨_,rfl,Jm (hQ _ hit' (L6 ..))⟩)
theorem uc {Q:Jn Jh->Jk->Prop}(hh:A.handled=gV)(hit:s.heap.IsKeyIter it d i es.size ep)(hm:RawD d es ep s.heap)(hge:es.size<=i)
  (hQ:∀h',OV it s.heap h'->Q gV { s with heap:=h' }):wpAny (model prog w) A (pyNext (.ref it)) Q E s:=by
 obtain⟨o,ho,hc,hd⟩:=id hit;obtain⟨od,hod,hcd,hdd⟩:=id hm;unfold pyNext;refine Jg (Nd (Kw (name:=Lp "__next__") hit.typeIs F.slot_dict_keyiterator_next
  (Kx F.slot_dict_keyiterator_next hit.typeIs F.entry_dict_keyiterator_next ?_ (F.args_dict_keyiterator_next_1 _))))
 refine Jg (Jm (Jg (Jg ?_)))
 first|refine Jg (Lw hit.typeIs (Jm ?_))|refine Jg (L4 hit.typeIs (Jm ?_))
 refine Jg (ND ho hd ?_);have hown:Nj "dict_keyiterator" = false:=by decide
 simp only[hown,JS,KH];show wpAny _ _ (if (J3 d==Ke)=true then _ else _) _ _ s
 rw[JX (show ¬ ((J3 d==Ke)=true)from JU)]
 refine Jg (Jm (Jg (M4 hod hdd ?_)));rw[JX (by simp)]
 refine Jg (Jm (Jg (Oz hod hdd ?_)));rw[JX (by simp)]
 refine Jm ?_;simp only[show ¬ ((i:Jy) < 0)from by omega,KH,JH,Array.getElem?_eq_none hge]
 refine Jg ?_
 first|refine Jg (Lw hit.typeIs (Jm ?_))|refine Jg (L4 hit.typeIs (Jm ?_))
 show wpAny _ _ (setField (.ref it) 0 .none >>= _) _ _ s;refine Jg (NH ho hd (by simp) ?_)
 show wpAny _ _ (newExc (.type "StopIteration") [] >>= _) _ _ _;refine Jg ?_;simp only[newExc,newTuple];refine Jg (J7 ?_ (by size_fits))
 refine Jg (m:=firstArgMember _ _) (MU (a:=Ke) (by first|rfl|(simp only[firstArgMember]; rfl)) ?_)
 refine J7 ?_ (by size_fits)
 simp only[raiseNew];refine Jg (Pf ?_);rw[show A.in1.handled=gV from hh]
 refine Jg (Jm (Qq ?_));refine Jg (My (T:="StopIteration") (b:=true) ⟨_,JA _ rfl,rfl⟩ OR ?_);exact Jm (hQ _ (((L6 ..).extBut.push _).push _))
theorem vG (hh:A.handled=gV)(I d:Jq)(hne:d≠I)(es:JV LA)(ep:Jp) :
  Qr prog w A I [I,d] [I] es.size (λi v=>∃e,es[i]?=ba e/\e.key=v) (λi h=>h.IsKeyIter I d i es.size ep/\RawD d es ep h) where
 sub:=λb hb=>by simp at hb; simp[hb]
 frame:=λ_ _ _ st hk=>⟨st.1.at λo e=>hk I (by simp) o e,st.2.at λo e=>hk d (by simp) o e⟩
 item:=λi s Q E hi st hQ=>
  qD st.1 st.2 hi λh' hit' hs'=>hQ _ h' s.toks ⟨es[i],by simp[hi],rfl⟩ ⟨hit',st.2.at λo e=>(hs'.2 d hne).trans e⟩ λb o hb e=>hs'.extBut b o (λh=>hb (by simp[h])) e
 done:=λs Q E st hQ=>uc hh st.1 st.2 (Js _) λh' he'=>hQ h' s.toks λb o hb e=>he' b o (λh=>hb (by simp[h])) e
 self:=λ_ _ _ _ st hQ=>OW st.1 hQ
theorem ud (lo:(d==sysModules)=false):OX prog w "dict" d d es.size (λi v=>∃e,es[i]?=ba e/\e.key=v) (RawD d es ep) where
 type:=λ_ hm=>hm.type
 there:=λ_ hm=>⟨hm.lt,hm.lt⟩
 keep:=λ_ _ hm hk=>hm.at λo e=>hk d (.inl rfl) o e
 notList:=by decide
 notTuple:=by decide
 hint:=λ_ _ _ _ hm hq=>PySem.W.kdl_hint_dict hm.type hq
 iter:=λ_ _ hh hm=>⟨_,_,(λ_ _ hq=>qC lo hm hq),vG hh _ d (JM hm.lt) es ep,⟨⟨_,JA _ rfl,rfl,rfl⟩,hm.at λo e=>Jj _ e⟩⟩
theorem xR {T:KQ}{r d S:Jq}{n:Jp}{P:Jp->Jh->Prop}{OK:Kg->Prop}{R:Qe->Jk->Prop}(K:OX prog w T r d n P OK)(hh:A.handled=gV)(hok:OK s.heap)(hn:n<=sizeLine)(hSr:S≠r)(hSd:S≠d)
  (hS:s.heap.get? S=ba { cls:=.type "list",data:=.seq #[] 0 })
  (hR:∀h' tk acc' c',(∀b o,b≠S->s.heap.get? b=ba o->h'.get? b=ba o)->h'.get? S=ba { cls:=.type "list",dict:=gV,data:=.seq acc' c',slots:=#[] }->On P acc' n->R (.ok (.ret (.ref S))) { s with heap:=h',toks:=tk }) :
  codeAny (model prog w) A (.builtin "list.__iadd__" ⟨[.ref S,.ref r],[]⟩) R s:=by
 refine KA F.entry_list_iadd ?_;rw[Ks F.plain_list_iadd _];show wpAny _ A.in1 (KW (.ref S) (.ref r) (.ref S)) _ _ _;exact PySem.W.kdl_extend K hh hok S hSr hSd _ 0 hS hR hn
theorem qE {T:KQ}{r d:Jq}{n:Jp}{P:Jp->Jh->Prop}{OK:Kg->Prop}{Q:Jf Jh->Jk->Prop}(K:OX prog w T r d n P OK)(hh:A.handled=gV)(hok:OK s.heap)(hn:n<=sizeLine)
  (hQ:∀h' tk acc,(∀b o,s.heap.get? b=ba o->h'.get? b=ba o)->s.heap.objs.size<=h'.objs.size->On P acc n->Q acc.toList { s with heap:=h',toks:=tk }):wpAny (model prog w) A (collect (.ref r)) Q E s:=by
 unfold collect;refine Jg (M0 (KA F.entry_proto_collect ?_));rw[Ks F.plain_proto_collect _];show wpAny _ A.in1 (newList [] >>= λl=>again (.builtin "list.__iadd__" ⟨[l,.ref r],[]⟩)) _ _ s
 refine Jg (J7 ?_);have hlt:=K.there _ hok;refine Jm ⟨Lh F.plain_list_iadd _,xR (s:={ s with heap:=s.heap.push { cls:=.type "list",data:=.seq ([]:Jf Jh).toArray } }) K hh (K.keep _ _ hok λb _ o e=>Jj _ e) hn (J2 hlt.1) (J2 hlt.2) (JA _ rfl) λh' tk acc' c' hk hS' hacc=>?_⟩
 show wpAny (model prog w) A (do
   let o <- load s.heap.objs.size
   match o.data with
   | .seq xs _=>pure xs.toList
   | _=>unsupported "internal:collect") Q E { s with heap:=h',toks:=tk }
 refine Jg (Oh hS' ?_);exact Jm (hQ h' tk acc' (λb o e=>hk b o (JM (JE e)) (Jj _ e)) (LG (JE hS')) hacc)
end
mutual
noncomputable def mE:T->T->Jn JW
 | .int a,.int b=>ba (decide (a < b))
 | .str a,.str b=>ba (decide (a.cps.toList < b.cps.toList))
 | .tup xs,.tup ys=>ga xs ys
 | _,_=>gV
noncomputable def ga:Jf T->Jf T->Jn JW
 | [],[]=>ba false
 | [],_::_=>ba true
 | _::_,[]=>ba false
 | x::xs,y::ys=>if x=y then ga xs ys else mE x y
end
mutual
theorem IsT.kept {h h':Kg}(hk:∀b o,o.cls=.type "tuple"->h.get? b=ba o->h'.get? b=ba o):∀ {x:T} {v:Jh},IsT h x v->IsT h' x v
 | _,_,.int=>.int
 | _,_,.str=>.str
 | _,_,.tup a1 c1 d1 t1=>.tup (hk _ _ c1 a1) c1 d1 (IsTs.kept hk t1)
theorem IsTs.kept {h h':Kg}(hk:∀b o,o.cls=.type "tuple"->h.get? b=ba o->h'.get? b=ba o):∀ {x:Jf T} {v:Jf Jh},IsTs h x v->IsTs h' x v
 | _,_,.nil=>.nil
 | _,_,.cons a b=>.cons (IsT.kept hk a) (IsTs.kept hk b)
end
theorem FV {B:J1}{s:Jk}{d:Jp}(hu:B.units+d < cLine)(hl:∀(x y:T) (u v:Jh) (k:JW),x.depth<=d->y.depth<=d->IsT s.heap x u->IsT s.heap y v->mE x y=ba k->LtAt B s u v k) :
  ∀(xs ys:Jf T) (us vs:Jf Jh) (k:JW),T.depths xs<=d->T.depths ys<=d->IsTs s.heap xs us->IsTs s.heap ys vs->ga xs ys=ba k->LexR B s us vs k
 | [],[],_,_,k,_,_,h1,h2,e=>by cases h1; cases h2; cases e; exact .nn
 | [],y::ys,_,_,k,_,_,h1,h2,e=>by cases h1; cases h2; cases e; exact .nc
 | x::xs,[],_,_,k,_,_,h1,h2,e=>by cases h1; cases h2; cases e; exact .cn
 | x::xs,y::ys,_,_,k,d1,d2,h1,h2,e=>by
  simp only[T.depths]at d1 d2;cases h1 with
  | cons p1 q1=>
   cases h2 with
   | cons p2 q2=>
    have he:=xL d x y _ _ B s (by omega) p1 p2 hu (by omega)
    simp only[ga]at e
    by_cases hxy:x=y
    ·rw[JN hxy]at e;rw[Lr hxy]at he;exact .eq he (FV hu hl xs ys _ _ k (by omega) (by omega) q1 q2 e)
    ·rw[JX hxy]at e;rw[JZ hxy]at he;exact .ne he (hl x y _ _ k (by omega) (by omega) p1 p2 e)
theorem FW:∀(d:Jp) (x y:T) (u v:Jh) (B:J1) (s:Jk) (k:JW),x.depth<=d->y.depth<=d->IsT s.heap x u->IsT s.heap y v->B.units+d < cLine->mE x y=ba k->LtAt B s u v k:=by
 intro d
 induction d with
 | zero=>
  intro x y u v B s k d1 d2 h1 h2 hu e;cases h1 with
  | int=>cases h2 with
   | int=>cases e; exact λprog w E Q h=>(O8 h:wpAny (model prog w) B (compareOp .Lt _ _) Q E s)
   | _=>cases e
  | str=>cases h2 with
   | str=>cases e; exact λprog w E Q h=>(lt_str h:wpAny (model prog w) B (compareOp .Lt _ _) Q E s)
   | _=>cases e
  | tup _ _ _ _=>simp[T.depth]at d1
 | succ d ih=>
  intro x y u v B s k d1 d2 h1 h2 hu e;cases h1 with
  | int=>cases h2 with
   | int=>cases e; exact λprog w E Q h=>(O8 h:wpAny (model prog w) B (compareOp .Lt _ _) Q E s)
   | _=>cases e
  | str=>cases h2 with
   | str=>cases e; exact λprog w E Q h=>(lt_str h:wpAny (model prog w) B (compareOp .Lt _ _) Q E s)
   | _=>cases e
  | tup a1 c1 e1 t1=>cases h2 with
   | tup a2 c2 e2 t2=>
    simp only[T.depth]at d1 d2;have hu1:B.in1.units+d < cLine:=by rw[br]; omega
    exact LtAt.tuples ⟨_,a1,c1,_,e1⟩ ⟨_,a2,c2,_,e2⟩ (by omega) (FV hu1 (λx y u v k q1 q2 q3 q4 q5=>ih x y u v B.in1 s k q1 q2 q3 q4 hu1 q5) _ _ _ _ k (by omega) (by omega) t1 t2 e)
   | _=>cases e
section
variable{prog:JY}{w:J6}{A:J1}{R:Qe->Jk->Prop}{I S:Jq}{fp wr:Jf Jq}{n:Jp}{P:Jp->Jh->Prop}{St:Jp->Kg->Prop}{Ok:Kg->Prop}{bt:Jp->Jp->JW}
noncomputable def xS (prog:JY)(w:J6)(A:J1)(P:Jp->Jh->Prop)(Ok:Kg->Prop)(bt:Jp->Jp->JW):Prop:=
 ∀i j vi vj (s:Jk) (Q:Jh->Jk->Prop) (E:Jh->Jk->Prop),Ok s.heap->P i vi->P j vj->Q (.bool (bt i j)) s->wpAny (model prog w) A (richCompare .Lt vi vj) Q E s
theorem xT (W:Qr prog w A.in1 I fp wr n P St)(hcmp:xS prog w A.in1 P Ok bt)(hSf:S∉fp)(hok:∀h h',Ok h->(∀b o,b∉wr->b≠S->h.get? b=ba o->h'.get? b=ba o)->Ok h') :
  ∀(k j:Jp) (s:Jk) (vb:Jh) (c:Jp),n - (j+1)=k->j < n->St (j+1) s.heap->P (argBest bt j) vb->Ok s.heap->s.heap.get? S=ba { cls:=.type "list",dict:=gV,data:=.seq [vb,vb].toArray c,slots:=#[] }->
  (∀v h' tk,P (argBest bt (n - 1)) v->(∀b o,b∉wr->b≠S->s.heap.get? b=ba o->h'.get? b=ba o)->R (.ok (.ret v)) { s with heap:=h',toks:=tk })->
  codeAny (model prog w) A (.builtin "min.loop" ⟨[.ref I,.none,.ref S],[]⟩) R s:=by
 have hSw:S∉wr:=λh=>hSf (W.sub _ h)
 have hname:(toString "min" ++ toString ".loop" : KQ) = "min.loop":=by decide
 intro k
 induction k with
 | zero=>
  intro j s vb c hk hj hst hPb hO hS hR;have hin:j+1=n:=by omega
  refine KA F.entry_min_loop ?_;rw[Ks F.plain_min_loop _];show wpAny _ A.in1 (seqItems? (.ref S) >>= _) _ _ s;refine Jg (Ls hS rfl ?_);show wpAny _ A.in1 (tryCatch (pyNext (.ref I)) _ >>= _) _ _ s;refine Jg (NI (W.done s _ _ (hin ▸ hst) λh' tk hk'=>?_))
  have hS':=hk' S _ hSw hS;show wpAny _ A.in1 (updateSeq S (λ_=>#[]) >>= _) _ _ _
  refine Jg (MO hS' rfl (Jg (Ng (Jm ?_))));have e:j=n - 1:=by omega
  exact hR vb _ tk (e ▸ hPb) λb o hbw hbS e=>(Kc _ _ (Ne.symm hbS)).trans (hk' b o hbw e)
 | succ k ih=>
  intro j s vb c hk hj hst hPb hO hS hR;have hlt:j+1 < n:=by omega
  refine KA F.entry_min_loop ?_;rw[Ks F.plain_min_loop _];show wpAny _ A.in1 (seqItems? (.ref S) >>= _) _ _ s;refine Jg (Ls hS rfl ?_);show wpAny _ A.in1 (tryCatch (pyNext (.ref I)) _ >>= _) _ _ s;refine Jg (NI (W.item (j+1) s _ _ hlt hst λv h' tk hP hst' hk'=>?_))
  have hS':=hk' S _ hSw hS;have hO':Ok h':=hok _ _ hO λb o hb _ e=>hk' b o hb e
  show wpAny _ A.in1 (tryCatch (holding [v,v] (richCompare .Lt v vb >>= _)) _ >>= _) _ _ _;refine Jg (NI (Ku (Jg (hcmp (j+1) (argBest bt j) v vb _ _ _ hO' hP hPb ?_))));refine Jg (Ku (Ly ?_));refine Jg (Ng (Jm ?_));cases hb:bt (j+1) (argBest bt j)with
  | true=>
   simp only[K6];refine Jg (MO hS' rfl (Jg (Ng ?_)));rw[hname];refine Jm ⟨Lh F.plain_min_loop _,ih (j+1) _ v _ (by omega) hlt (W.frame _ _ _ hst' λb hbf o e=>?_) (by simp only[argBest,hb,K6]; exact hP) (hok _ _ hO' λb o _ hbS e=>(Kc _ _ (Ne.symm hbS)).trans e) (KU _ hS' rfl)
    λv' h'' tk'' hP' hk''=>?_⟩
   ·exact(Kc _ _ (λh:S=b=>hSf (by rw[h]; exact hbf))).trans e
   ·exact hR v' h'' tk'' hP' λb o hbw hbS e=>hk'' b o hbw hbS ((Kc _ _ (Ne.symm hbS)).trans (hk' b o hbw e))
  | false=>
   simp only[JS,KH];refine Jg (Ng ?_);rw[hname];refine Jm ⟨Lh F.plain_min_loop _,ih (j+1) _ vb c (by omega) hlt hst' (by simp only[argBest,hb,JS,KH]; exact hPb) hO' hS' λv' h'' tk'' hP' hk''=>?_⟩
   exact hR v' h'' tk'' hP' λb o hbw hbS e=>hk'' b o hbw hbS (hk' b o hbw e)
theorem vH (W:Qr prog w A.in1 I fp wr n P St)(hcmp:xS prog w A.in1 P Ok bt)(hSf:S∉fp)(hok:∀h h',Ok h->(∀b o,b∉wr->b≠S->h.get? b=ba o->h'.get? b=ba o)->Ok h')(hn:0 < n){s:Jk}{c:Jp}(hst:St 0 s.heap)(hO:Ok s.heap)
  (hS:s.heap.get? S=ba { cls:=.type "list",dict:=gV,data:=.seq #[] c,slots:=#[] })
  (hR:∀v h' tk,P (argBest bt (n - 1)) v->(∀b o,b∉wr->b≠S->s.heap.get? b=ba o->h'.get? b=ba o)->R (.ok (.ret v)) { s with heap:=h',toks:=tk }) :
  codeAny (model prog w) A (.builtin "min.loop" ⟨[.ref I,.none,.ref S],[]⟩) R s:=by
 have hSw:S∉wr:=λh=>hSf (W.sub _ h)
 have hname:(toString "min" ++ toString ".loop" : KQ) = "min.loop":=by decide
 refine KA F.entry_min_loop ?_;rw[Ks F.plain_min_loop _];show wpAny _ A.in1 (seqItems? (.ref S) >>= _) _ _ s;refine Jg (Ls hS rfl ?_);show wpAny _ A.in1 (tryCatch (pyNext (.ref I)) _ >>= _) _ _ s;refine Jg (NI (W.item 0 s _ _ hn hst λv h' tk hP hst' hk'=>?_))
 have hS':=hk' S _ hSw hS;show wpAny _ A.in1 (updateSeq S (λ_=>[v,v].toArray) >>= _) _ _ _
 refine Jg (MO hS' rfl ?_);rw[hname];have hO':Ok h':=hok _ _ hO λb o hb _ e=>hk' b o hb e
 refine Jm ⟨Lh F.plain_min_loop _,xT W hcmp hSf hok _ 0 _ v _ rfl hn (W.frame _ _ _ hst' λb hbf o e=>?_) hP (hok _ _ hO' λb o _ hbS e=>(Kc _ _ (Ne.symm hbS)).trans e) (KU _ hS' rfl) λv' h'' tk'' hP' hk''=>?_⟩
 ·exact(Kc _ _ (λh:S=b=>hSf (by rw[h]; exact hbf))).trans e
 ·exact hR v' h'' tk'' hP' λb o hbw hbS e=>hk'' b o hbw hbS ((Kc _ _ (Ne.symm hbS)).trans (hk' b o hbw e))
end
section
variable{prog:JY}{w:J6}{A:J1}{E:Jh->Jk->Prop}{s:Jk}
theorem xU {l:Jq}{items:JV Jh}{bt:Jp->Jp->JW}{Q:Jh->Jk->Prop}(hh:A.handled=gV)(hl:s.heap.IsList l items)(hn:0 < items.size)
  (hcmp:xS prog w A.in1 (λi v=>items[i]?=ba v) (λh=>∀b o,s.heap.get? b=ba o->h.get? b=ba o) bt)
  (hQ:∀v h' tk,items[argBest bt (items.size - 1)]?=ba v->(∀b o,s.heap.get? b=ba o->h'.get? b=ba o)->Q v { s with heap:=h',toks:=tk }) :
  wpAny (model prog w) A (call (.builtin "min") [.ref l]) Q E s:=by
 have hname:(toString "min" ++ toString ".loop" : KQ) = "min.loop":=by decide
 refine call_function_tree F.kind_min F.plain_min F.entry_min (F.args_min1 _) ?_;show wpAny _ A.in1 (Nt "min" ["key","default"] 0 ⟨[],[]⟩ >>= _) _ _ s;refine Jg (MU (show Nt "min" ["key","default"] 0 ⟨[],[]⟩=pure [gV,gV]from rfl) ?_)
 refine Jg (Jm ?_);refine Jg (M3 hl ?_);refine Jg (J7 ?_);rw[hname];have hlt:l < s.heap.objs.size:=let ⟨_,ho,_⟩:=hl; JE ho
 have hne:l≠s.heap.objs.size:=JM hlt;have W:=QZ (prog:=prog) (w:=w) (A:=A.in1) hh s.heap.objs.size l hne items;have hsz:∀o:K2,(s.heap.push o).objs.size=s.heap.objs.size+1:=λo=>by simp[Heap.push]
 refine Jm ⟨Lh F.plain_min_loop _,vH (A:=A) (Ok:=λh=>∀b o,s.heap.get? b=ba o->h.get? b=ba o) W hcmp (λhm=>?_) (λh h' ho hk b o e=>?_) hn ⟨?_,?_⟩ (λb o e=>Jj _ (Jj _ e)) (JA _ rfl) λv h' tk hv hk=>?_⟩
 ·rcases JP.mp hm with e|hm
  ·exact absurd (show(s.heap.push _).objs.size=s.heap.objs.size from e) (by rw[hsz]; exact Nat.succ_ne_self _)
  ·have e:(s.heap.push _).objs.size=l:=JC.mp hm;rw[hsz]at e;exact absurd hlt (by rw[<- e]; exact Pr.mpr (LX _))
 ·have hb:=JE e;refine hk b o (λz=>?_) (λz=>?_) (ho b o e)
  ·rw[JC.mp z]at hb; exact KT _ hb
  ·have z':b=(s.heap.push _).objs.size:=z;rw[hsz]at z';rw[z']at hb;exact absurd hb (Pr.mpr (LX _))
 ·exact⟨_,Jj _ (JA _ rfl),rfl,rfl⟩
 ·obtain⟨o,ho,hc⟩:=hl;exact⟨o,Jj _ (Jj _ ho),hc⟩
 ·refine hQ v h' tk hv λb o e=>hk b o (λz=>?_) (λz=>?_) (Jj _ (Jj _ e))
  ·have hb:=JE e;rw[JC.mp z]at hb; exact KT _ hb
  ·have hb:=JE e;have z':b=(s.heap.push _).objs.size:=z;rw[hsz]at z';rw[z']at hb;exact absurd hb (Pr.mpr (LX _))
end
open PySem.W (KasT kas_sort kas_ask kas_cmp kas_item kas_asc kas_desc kas_tail3 kas_descPart kas_count kas_place kas_bin kas_rev)
noncomputable def cq {α:Type}(lt:Jp->Jp->JW):KasT α->α
 | .ret a=>a
 | .ask i j k=>cq lt (k (lt i j))
noncomputable def OkK {α:Type}(n:Jp)(P:α->Prop):KasT α->Prop
 | .ret a=>P a
 | .ask i j k=>i < n/\j < n/\∀b,OkK n P (k b)
theorem qF {α:Type}{n:Jp}{P:α->Prop}{lt:Jp->Jp->JW}:∀(t:KasT α),OkK n P t->P (cq lt t)
 | .ret _,h=>h
 | .ask i j k,h=>qF (k (lt i j)) (h.2.2 _)
theorem o8 {α:Type}{n:Jp}{P:α->Prop}{lt:Jp->Jp->JW}{t:KasT α}(h:OkK n P t):P (cq lt t):=qF t h
theorem OkK.bind {α β:Type}{n:Jp}{P:α->Prop}{P':β->Prop}{f:α->KasT β}:∀ {t:KasT α},OkK n P t->(∀a,P a->OkK n P' (f a))->OkK n P' (t.bind f)
 | .ret a,h,hf=>hf a h
 | .ask _ _ _,h,hf=>⟨h.1,h.2.1,λb=>OkK.bind (h.2.2 b) hf⟩
theorem nR {α:Type}{n:Jp}{P:α->Prop}{lt:Jp->Jp->JW}{cmp:Jp->Jp->(JW->Jk->Prop)->Jk->Prop}{Q:α->Jk->Prop}{s:Jk}(hc:∀i j,i < n->j < n->∀C:JW->Jk->Prop,C (lt i j) s->cmp i j C s) :
  ∀ {t:KasT α},OkK n P t->Q (cq lt t) s->t.kasWp cmp Q s
 | .ret _,_,h=>h
 | .ask i j k,h,hq=>hc i j h.1 h.2.1 _ (nR hc (h.2.2 _) hq)
noncomputable def Pm (n:Jp)(p:JV Jp):Prop:=p.toList.Perm (Kh n)
theorem Pm.size {n:Jp}{p:JV Jp}(h:Pm n p):p.size=n:=by rw[<- JB,h.length_eq,Kj]
theorem Pm.lt {n:Jp}{p:JV Jp}(h:Pm n p)(hn:0 < n)(i:Jp):p.getD i 0 < n:=by
 by_cases hi:i < p.size
 ·have e:p.getD i 0=p[i]:=by simp[MQ,hi]
  rw[e];have:p[i]∈p.toList:=by simp
  exact KJ.mp (h.mem_iff.mp this)
 ·have e:p.getD i 0=0:=by simp[MQ,hi]
  rw[e]; exact hn
theorem Pm.rev {n:Jp}{p:JV Jp}(h:Pm n p)(i j:Jp):Pm n (kas_rev p i j):=(NJ.mp (mirror_perm p i j _)).trans h
theorem Pm.bub {n:Jp}{p:JV Jp}(h:Pm n p)(i j:Jp):Pm n (bubble p i j):=(NJ.mp (bubble_perm p i j)).trans h
section
variable{n:Jp}(hn:0 < n)
include hn
theorem sH {p:JV Jp}(h:Pm n p):∀(f m:Jp),OkK n (λ_=>Qc) (kas_asc p f m)
 | 0,_=>trivial
 | f+1,m=>⟨h.lt hn _,h.lt hn _,λb=>by
  show OkK n _ (if b=true then _ else _)
  split
  ·trivial
  ·exact sH h f (m+1)⟩
theorem kW:∀(f:Jp) (p:JV Jp) (m q:Jp),Pm n p->OkK n (λr=>Pm n r.1) (kas_desc f p m q)
 | 0,p,m,q,h=>h
 | f+1,p,m,q,h=>⟨h.lt hn _,h.lt hn _,λb=>by
  show OkK n _ (if b=true then _ else _)
  split
  ·split
   ·exact kW f _ _ _ (h.rev _ _)
   ·exact kW f _ _ _ h
  ·refine⟨h.lt hn _,h.lt hn _,λc=>?_⟩
   show OkK n _ (if c=true then _ else _)
   split
   ·exact h
   ·exact kW f _ _ _ h⟩
theorem ue {p:JV Jp}(h:Pm n p)(m k:Jp):OkK n (λr=>Pm n r.2) (kas_tail3 m k p):=by
 unfold kas_tail3;exact OkK.bind (sH hn (h.rev 0 m) _ _) λa _=>h.rev 0 m
theorem j9 {p:JV Jp}(h:Pm n p)(m k:Jp):OkK n (λr=>Pm n r.2) (kas_descPart m k p):=by
 unfold kas_descPart;refine OkK.bind (kW hn _ _ _ _ h) λr hr=>?_
 split
 ·exact ue hn (hr.rev _ _) _ _
 ·exact ue hn hr _ _
theorem xV {p:JV Jp}(h:Pm n p)(k:Jp):OkK n (λr=>Pm n r.2) (kas_count k p):=by
 unfold kas_count;refine OkK.bind (sH hn h _ _) λm _=>?_
 split
 ·exact h
 ·split
  ·refine⟨h.lt hn _,h.lt hn _,λc=>?_⟩
   show OkK n _ (if c=true then _ else _)
   split
   ·exact h
   ·exact j9 hn (h.rev _ _) _ _
  ·exact j9 hn h _ _
theorem lB {p:JV Jp}(h:Pm n p)(k:Jp):∀(f l r:Jp),OkK n (λ_=>Qc) (kas_place p k f l r)
 | 0,_,_=>trivial
 | f+1,l,r=>by
  unfold kas_place;split
  ·trivial
  ·refine⟨h.lt hn _,h.lt hn _,λc=>?_⟩
   show OkK n _ (if c=true then _ else _)
   split
   ·exact lB h k f _ _
   ·exact lB h k f _ _
theorem xW:∀(f:Jp) (p:JV Jp) (k:Jp),Pm n p->OkK n (Pm n) (kas_bin f p k)
 | 0,p,k,h=>h
 | f+1,p,k,h=>by
  unfold kas_bin;exact OkK.bind (lB hn h k _ _ _) λl _=>xW f _ _ (h.bub _ _)
theorem kX:OkK n (Pm n) (kas_sort n):=by
 unfold kas_sort;refine OkK.bind (xV hn (by unfold Pm; simp) _) λr hr=>?_
 split
 ·exact xW hn _ _ _ hr
 ·exact hr
end
section
variable{prog:JY}{w:J6}{A:J1}{E:Jh->Jk->Prop}{s:Jk}{vs:Jf Jh}
noncomputable def dN (lt:Jp->Jp->JW){β:Type}(d:β)(vs:Jf β):Jf β:=if vs.length < 2 then vs else(cq lt (kas_sort vs.length)).toList.map λi=>vs.getD i d
theorem qG {lt:Jp->Jp->JW}{β:Type}{d:β}{vs:Jf β}:(dN lt d vs).length=vs.length:=by
 unfold dN;split
 ·rfl
 ·rw[Ji,JB,(o8 (lt:=lt) (kX (n:=vs.length) (by omega))).size]
theorem nS {a:Jq}{n:Jp}{lt:Jp->Jp->JW}{κ:Oa}{P:Sk->Jk->Prop}(ho:s.heap.get? a=ba (seqObj "list" vs.toArray n))(h64:vs.length < 64)
  (hkind:2<=vs.length->∀h',(∀b o,b≠a->s.heap.get? b=ba o->h'.get? b=ba o)->∀Q:Oa->Jk->Prop,Q κ { s with heap:=h' }->wpAny (model prog w) A (keyKind' vs.toArray) Q (λ_ _=>KN) { s with heap:=h' })
  (hlt:2<=vs.length->∀h',(∀b o,b≠a->s.heap.get? b=ba o->h'.get? b=ba o)->∀i j,i < vs.length->j < vs.length->∀Q:JW->Jk->Prop,Q (lt i j) { s with heap:=h' }->
   wpAny (model prog w) A (keyLt' κ (vs.getD i Ke) (vs.getD j Ke)) Q (λ_ _=>KN) { s with heap:=h' })
  (h:∀h' c,(∀b o,b≠a->s.heap.get? b=ba o->h'.get? b=ba o)->h'.get? a=ba (seqObj "list" (dN lt Ke vs).toArray c)->P (.done (.ret .none)) { s with heap:=h' }) :
  wpAny (model prog w) A (Mn.«list.sort» ⟨[.ref a],[]⟩) P E s:=by
 have ha:a < s.heap.objs.size:=JE ho;obtain⟨e1,ho1⟩ : ∃e1,(s.heap.update a (KR λ_=>(#[]:JV Jh))).get? a=ba (seqObj "list" #[] e1):=⟨_,OA ho λ_=>#[]⟩
 have keep:∀b o,b≠a->s.heap.get? b=ba o->(((s.heap.update a (KR λ_=>(#[]:JV Jh))).push (seqObj "tuple" vs.toArray 0)).push (seqObj "list" #[] 0)).get? b=ba o:=λb o hb e=>
  Jj _ (Jj _ ((ME _ _ _ _ hb).trans e))
 have ho3:(((s.heap.update a (KR λ_=>(#[]:JV Jh))).push (seqObj "tuple" vs.toArray 0)).push (seqObj "list" #[] 0)).get? a=ba (seqObj "list" #[] e1):=Jj _ (Jj _ ho1)
 have fin:∀(out:Jf Jh),out.length=vs.length->out=dN lt Ke vs->P (.done (.ret .none)) { s with heap:=(((s.heap.update a (KR λ_=>(#[]:JV Jh))).push (seqObj "tuple" vs.toArray 0)).push (seqObj "list" #[] 0)).update a (KR λ_=>out.toArray) }:=λout hl e=>by
  obtain⟨c2,hc2⟩ : ∃c2,((((s.heap.update a (KR λ_=>(#[]:JV Jh))).push (seqObj "tuple" vs.toArray 0)).push (seqObj "list" #[] 0)).update a (KR λ_=>out.toArray)).get? a=ba (seqObj "list" out.toArray c2):=⟨_,OA ho3 λ_=>out.toArray⟩
  exact h _ c2 (λb o hb q=>(ME _ _ _ _ hb).trans (keep b o hb q)) (e ▸ hc2)
 rw[list_sort_plain];refine Jg (P1 ho rfl ?_);refine Jg (N4 ho rfl ?_ (by rw[Jz,Ki]; omega) (KY _))
 refine Jg (Qu ho1 rfl ?_);refine Jg (OS ?_ (by show vs.length<=_; rw[Ki]; omega))
 refine Jg (N5 ?_ (KY _));refine Ku ?_;show wpAny (model prog w) A _ P E { s with heap:=((s.heap.update a (KR λ_=>(#[]:JV Jh))).push (seqObj "tuple" vs.toArray 0)).push (seqObj "list" #[] 0) }
 dsimp only
 by_cases h2:vs.length < 2
 ·rw[JN (by rw[Jz]; exact h2),JN (by rw[Jz]; exact h2)]
  refine Jg (Jm (Jg ?_));rw[StateT.run_pure];refine Jm ?_;dsimp only;refine Jg (Qu ho3 rfl ?_);have hs:((arrOf (SortSt.mk' general' (vs.toArray.zip vs.toArray) #[] 7 gV)).map (·.2))=vs.toArray:=by
   show(vs.toArray.zip vs.toArray).map (·.2)=vs.toArray
   apply Array.toList_inj.mp;rw[Ob,Array.toList_zip];exact List.map_snd_zip (Js _)
  rw[hs];refine Jg (N4 ho3 rfl ?_ (KY _) (by rw[Jz,Ki]; omega))
  simp only[P2,JS,KH];exact Jm (fin vs rfl (by unfold dN; rw[JN h2]))
 ·have hn2:¬ vs.toArray.size < 2:=by rw[Jz]; exact h2
  have h2':2<=vs.length:=by omega
  rw[JX hn2,JX hn2];refine Jg (Lc (hkind h2' _ keep (λ(k:Oa) (s':Jk)=>k=κ/\s'={ s with heap:=((s.heap.update a (KR λ_=>(#[]:JV Jh))).push (seqObj "tuple" vs.toArray 0)).push (seqObj "list" #[] 0) }) ⟨rfl,rfl⟩) ?_ λ_ _ x=>x.elim)
  rintro _ _ ⟨rfl,rfl⟩;refine Jg (Lc (PySem.W.kat_run (Q:=λst' s'=>∃p:JV Jp,p.size=vs.length/\arrOf st'=p.map (kas_item (vs.toArray.zip vs.toArray))/\failedOf st'=gV/\p=cq lt (kas_sort vs.length)/\s'={ s with heap:=((s.heap.update a (KR λ_=>(#[]:JV Jh))).push (seqObj "tuple" vs.toArray 0)).push (seqObj "list" #[] 0) })
   (G:=λp s'=>p=cq lt (kas_sort vs.length)/\s'={ s with heap:=((s.heap.update a (KR λ_=>(#[]:JV Jh))).push (seqObj "tuple" vs.toArray 0)).push (seqObj "list" #[] 0) }) rfl h2' h64 (λp' st' s' a1 a2 a3 a4=>⟨p',a1,a2,a3,a4⟩)
   (nR (lt:=lt) (λi j hi hj C hC=>hlt h2' _ keep i j hi hj C hC) (kX (n:=vs.length) (by omega)) ⟨rfl,rfl⟩)) ?_ λ_ _ e=>e)
  rintro⟨⟨⟩,st'⟩ s' ⟨p,hp,har,hf,ep,rfl⟩;dsimp only;have hout:=PySem.W.kat_snds rfl har;have hsz:(p.toList.map λi=>vs.getD i Ke).length=vs.length:=by rw[Ji,JB,hp]
  rw[hout];refine Jg (Qu ho3 rfl ?_);refine Jg (N4 ho3 rfl ?_ (KY _) (by rw[Jz,hsz,Ki]; omega))
  rw[hf];simp only[P2,JS,KH];exact Jm (fin _ hsz (by unfold dN; rw[JX h2,ep]))
theorem vI {x:Jh}{lt:Jp->Jp->JW}{κ:Oa}{Q:Jh->Jk->Prop}(h64:vs.length < 64)
  (hcol:∀Q':Jf Jh->Jk->Prop,(∀h' tk,(∀b o,s.heap.get? b=ba o->h'.get? b=ba o)->s.heap.objs.size<=h'.objs.size->Q' vs { s with heap:=h',toks:=tk })->wpAny (model prog w) A.in1 (collect x) Q' E s)
  (hkind:2<=vs.length->∀h' tk,(∀b o,s.heap.get? b=ba o->h'.get? b=ba o)->∀Q:Oa->Jk->Prop,Q κ { s with heap:=h',toks:=tk }->wpAny (model prog w) A.in1.in1 (keyKind' vs.toArray) Q (λ_ _=>KN) { s with heap:=h',toks:=tk })
  (hlt:2<=vs.length->∀h' tk,(∀b o,s.heap.get? b=ba o->h'.get? b=ba o)->∀i j,i < vs.length->j < vs.length->∀Q:JW->Jk->Prop,Q (lt i j) { s with heap:=h',toks:=tk }->
   wpAny (model prog w) A.in1.in1 (keyLt' κ (vs.getD i Ke) (vs.getD j Ke)) Q (λ_ _=>KN) { s with heap:=h',toks:=tk })
  (h:∀D h' tk c,(∀b o,s.heap.get? b=ba o->h'.get? b=ba o)->s.heap.objs.size<=D->h'.get? D=ba (seqObj "list" (dN lt Ke vs).toArray c)->Q (.ref D) { s with heap:=h',toks:=tk }) :
  wpAny (model prog w) A (call (.builtin "sorted") [x]) Q E s:=by
 refine MB RS RB RC (RD _) ?_;unfold Mn.«sorted»;refine Jg (m:=checkCount "sorted" 1 1 _) (Jm ?_);refine Jg (hcol _ λh1 tk1 hk1 hle=>?_)
 refine Jg (N5 ?_ (by rw[Ki]; omega))
 have hoL:(h1.push (seqObj "list" vs.toArray 0)).get? h1.objs.size=ba (seqObj "list" vs.toArray 0):=JA _ rfl;have kp:∀b o,s.heap.get? b=ba o->(h1.push (seqObj "list" vs.toArray 0)).get? b=ba o:=λb o e=>Jj _ (hk1 b o e)
 have hne:∀b o,s.heap.get? b=ba o->b≠h1.objs.size:=λb o e=>JM (JR (JE e) hle)
 show wpAny _ _ _ _ _ { s with heap:=h1.push (seqObj "list" vs.toArray 0),toks:=tk1 }
 refine Jg (Ku (Kx Q1 ⟨_,hoL,rfl⟩ QD ?_ (Q6 _)));refine nS (s:={ s with heap:=h1.push (seqObj "list" vs.toArray 0),toks:=tk1 }) (lt:=lt) (κ:=κ) hoL h64 (λh2 h' hk Q hq=>hkind h2 h' tk1 (λb o e=>hk b o (hne b o e) (kp b o e)) Q hq)
  (λh2 h' hk i j hi hj Q hq=>hlt h2 h' tk1 (λb o e=>hk b o (hne b o e) (kp b o e)) i j hi hj Q hq) λh' c hk hD=>?_
 exact⟨_,rfl,Jm ⟨_,rfl,h _ h' tk1 c (λb o e=>hk b o (hne b o e) (kp b o e)) hle hD⟩⟩
end
end Mi
namespace Mi
open PySem PySem.Spec PyProof.Rows L2
noncomputable def fY:T->KQ
 | .int _=>"int"|.str _=>"str"|.tup _=>"tuple"
noncomputable def bV:T->Jn T
 | .tup (x::_)=>ba x
 | _=>gV
noncomputable def sI (ks:Jf T):Jn Jp:=
 if ks.all (λk=>fY k == "int")then ba 0
 else if ks.all (λk=>fY k == "str")then ba 1
 else if ks.all (λk=>(bV k).any λf=>fY f == "int")then ba 2
 else if ks.all (λk=>(bV k).any λf=>fY f == "str")then ba 3
 else if ks.all (λk=>(bV k).any λf=>fY f == "tuple")then ba 4
 else gV
noncomputable def uf:Jp->Oa
 | 0=>oneType'|1=>oneType'|2=>tuples' true|3=>tuples' true|_=>tuples' false
noncomputable def ib (ks:Jf T):JW:=ks.all λx=>ks.all λy=>(mE x y).isSome
noncomputable def qH (ks:Jf T)(i j:Jp):JW:=(mE (ks.getD i (.int 0)) (ks.getD j (.int 0))).getD false
theorem eA {ks:Jf T}(h:ib ks=true){i j:Jp}(hi:i < ks.length)(hj:j < ks.length):mE (ks[i]) (ks[j])=ba (qH ks i j):=by
 unfold ib at h;rw[JO]at h;have h1:=h ks[i] (Kq hi);rw[JO]at h1;have h2:=h1 ks[j] (Kq hj);unfold qH;rw[show ks.getD i (.int 0)=ks[i] by simp[hi],show ks.getD j (.int 0)=ks[j] by simp[hj]]
 obtain⟨b,hb⟩:=Km.mp h2;rw[hb]; rfl
noncomputable def IK (c:Jp)(x y:T):Prop:=match c with|0=>fY x = "int"/\fY y = "int"|1=>fY x = "str"/\fY y = "str"|2=>∃f g,bV x=ba f/\bV y=ba g/\fY f = "int"/\fY g = "int"|3=>∃f g,bV x=ba f/\bV y=ba g/\fY f = "str"/\fY g = "str"|_=>∃f g,bV x=ba f/\bV y=ba g
section
variable{prog:JY}{w:J6}{A:J1}{E:Jh->Jk->Prop}{s:Jk}
theorem ug {h:Kg}{k:T}{v:Jh}(x:IsT h k v):Rq (model prog w) h (typeOf v) (.type (fY k)):=by
 cases x with
 | int=>exact .now
 | str=>exact .now
 | tup a c d t=>exact c ▸ ((Sl a).andThen .now:Rq (model prog w) h (typeOf (.ref _)) _)
theorem IsTs.mem {h:Kg}:∀ {ks:Jf T} {vs:Jf Jh},IsTs h ks vs->∀v∈vs,∃k∈ks,IsT h k v
 | _,_,.cons a b,v,hv=>by
  rcases JP.mp hv with rfl|hv
  ·exact⟨_,.head _,a⟩
  ·obtain⟨k,hk,q⟩:=IsTs.mem b v hv;exact⟨k,.tail _ hk,q⟩
theorem nT {h:Kg}{p:T->JW}:∀ {ks:Jf T} {vs:Jf Jh},IsTs h ks vs->ks.all (λk=>(bV k).any p)=true->∃fs,PySem.W.KatTups h vs fs/\fs.length=vs.length/\∀v∈fs,∃k,p k=true/\IsT h k v
 | _,_,.nil,_=>⟨[],.nil,rfl,λv hv=>nomatch hv⟩
 | k::ks,_,.cons a b,hp=>by
  rw[Kv,Jo]at hp;obtain⟨fs,h1,h2,h3⟩:=nT b hp.2;cases a with
  | int=>simp[bV]at hp
  | str=>simp[bV]at hp
  | @tup kk ad o items n a1 c1 d1 t1=>
   cases kk with
   | nil=>simp[bV]at hp
   | cons x xs=>
    have hx:p x=true:=by simpa [bV]using hp.1
    generalize hit:items.toList=its at t1;cases t1 with
    | @cons _ u _ us q1 q2=>
     refine⟨u::fs,.cons a1 c1 d1 (by rw[<- KI,hit]; rfl) h1,by simp[h2],λv hv=>?_⟩
     rcases JP.mp hv with rfl|hv
     ·exact⟨x,hx,q1⟩
     ·exact h3 v hv
theorem xX {ks:Jf T}{vs:Jf Jh}{c:Jp}{Q:Oa->Jk->Prop}(h:IsTs s.heap ks vs)(h2:2<=vs.length)(hc:sI ks=ba c)(hq:Q (uf c) s):wpAny (model prog w) A (keyKind' vs.toArray) Q E s:=by
 have one:∀ty:KQ,(K4 ty != K4 "tuple")=true->ks.all (λk=>fY k==ty)=true->Q oneType' s->wpAny (model prog w) A (keyKind' vs.toArray) Q E s:=λty hty hall hq=>
  PySem.W.kas_kind (T:=.type ty) h2 (λv hv=>by
   obtain⟨k,hk,x⟩:=h.mem v hv;have:=eq_of_beq (JO.mp hall k hk);exact this ▸ ug x) hty (by simp) hq
 have tup:∀ty:KQ,ks.all (λk=>(bV k).any λf=>fY f==ty)=true->Q (tuples' (K4 ty != K4 "tuple")) s->wpAny (model prog w) A (keyKind' vs.toArray) Q E s:=λty hall hq=>by
  obtain⟨fs,h1,h3,h4⟩:=nT h hall;exact PySem.W.kat_kind (T:=.type ty) h1 (by omega) (λv hv=>by
   obtain⟨k,hk,x⟩:=h4 v hv;have:=eq_of_beq hk;exact this ▸ ug x) (by simp) hq
 unfold sI at hc;split at hc
 ·cases hc; exact one "int" (by decide) ‹_› hq
 ·split at hc
  ·cases hc; exact one "str" (by decide) ‹_› hq
  ·split at hc
   ·cases hc; exact tup "int" ‹_› hq
   ·split at hc
    ·cases hc; exact tup "str" ‹_› hq
    ·split at hc
     ·cases hc; exact tup "tuple" ‹_› hq
     ·cases hc
theorem qI {b:JW}{Q:JW->Jk->Prop}{d:Jp}(hu:A.units+d < cLine):∀(xs ys:Jf T) (us vs:Jf Jh) (i:Jp) (k:JW),T.depths xs<=d->T.depths ys<=d->IsTs s.heap xs us->IsTs s.heap ys vs->ga xs ys=ba k->
  (b=true->i=0->∀x y,xs.head?=ba x->ys.head?=ba y->(fY x = "int"/\fY y = "int")\/(fY x = "str"/\fY y = "str"))->Q k s->PySem.W.KatLex prog w A b (decide (us.length < vs.length)) Q (us.zip vs) i s
 | [],[],_,_,i,k,_,_,h1,h2,e,hb,hq=>by cases h1; cases h2; cases e; exact OB (by simpa using hq)
 | [],y::ys,_,_,i,k,_,_,h1,h2,e,hb,hq=>by cases h1; cases h2; cases e; exact OB (by simpa using hq)
 | x::xs,[],_,_,i,k,_,_,h1,h2,e,hb,hq=>by cases h1; cases h2; cases e; exact OB (by simpa using hq)
 | x::xs,y::ys,_,_,i,k,d1,d2,h1,h2,e,hb,hq=>by
  simp only[T.depths]at d1 d2;cases h1 with
  | @cons _ u _ us p1 q1=>
   cases h2 with
   | @cons _ v _ vs p2 q2=>
    have he:=xL d x y _ _ A s (by omega) p1 p2 hu (by omega)
    rw[Mh];refine PySem.W.kat_cons (he prog w _ _ ?_);simp only[ga]at e;have hlen:decide ((u::us).length < (v::vs).length)=decide (us.length < vs.length):=by simp
    rw[hlen]
    by_cases hxy:x=y
    ·rw[JN hxy]at e;rw[Lr hxy];exact PySem.W.kat_yes (qI hu xs ys us vs (i+1) k (by omega) (by omega) q1 q2 e (λ_ z=>absurd z (Qj _)) hq)
    ·rw[JX hxy]at e;rw[JZ hxy];refine PySem.W.kat_no ?_
     by_cases hb0:b=true/\i=0
     ·obtain⟨rfl,rfl⟩:=hb0;rcases hb rfl rfl x y rfl rfl with⟨hx,hy⟩|⟨hx,hy⟩
      ·cases p1 with
       | int=>cases p2 with
        | int=>cases e; exact oneLt_int hq
        | _=>exact absurd hy (by simp[fY])
       | _=>exact absurd hx (by simp[fY])
      ·cases p1 with
       | str=>cases p2 with
        | str=>cases e; exact oneLt_str hq
        | _=>exact absurd hy (by simp[fY])
       | _=>exact absurd hx (by simp[fY])
     ·have hf:(b&&i==0)=false:=by
       cases b with
       | false=>rfl
       | true=>
        have:i≠0:=λz=>hb0 ⟨rfl,z⟩
        simpa using this
      rw[hf];exact PySem.W.kat_one _ _ ((FW d x y _ _ A s k (by omega) (by omega) p1 p2 hu e) prog w _ _ hq)
theorem uh {c d:Jp}{x y:T}{u v:Jh}{k:JW}{Q:JW->Jk->Prop}(hu:A.units+d < cLine)(d1:x.depth<=d)(d2:y.depth<=d)(h1:IsT s.heap x u)(h2:IsT s.heap y v)(e:mE x y=ba k)
  (hc:IK c x y)
  (hq:Q k s):wpAny (model prog w) A (keyLt' (uf c) u v) Q E s:=by
 have tup:∀b:JW,(∃f g,bV x=ba f/\bV y=ba g/\(b=true->(fY f = "int"/\fY g = "int")\/(fY f = "str"/\fY g = "str")))->wpAny (model prog w) A (keyLt' (tuples' b) u v) Q E s:=by
  rintro b ⟨f,g,hf,hg,hb⟩;cases h1 with
  | int=>cases hf
  | str=>cases hf
  | @tup xs a o items n a1 c1 e1 t1=>
   cases h2 with
   | int=>cases hg
   | str=>cases hg
   | @tup ys a' o' items' n' a2 c2 e2 t2=>
    simp only[T.depth]at d1 d2;refine PySem.W.kat_lt a1 e1 a2 e2 ?_;have:=qI (prog:=prog) (w:=w) (b:=b) (Q:=Q) hu xs ys items.toList items'.toList 0 k (by omega) (by omega) t1 t2 e (λhb' _ p q hp hq'=>by
     cases xs with
     | nil=>cases hp
     | cons x0 xs=>cases ys with
      | nil=>cases hq'
      | cons y0 ys=>cases hp; cases hq'; cases hf; cases hg; exact hb hb') hq
    simpa using this
 match c,hc with
 | 0,⟨hx,hy⟩=>
  cases h1 with
  | int=>cases h2 with
   | int=>cases e; exact PySem.W.kat_lt_int hq
   | _=>exact absurd hy (by simp[fY])
  | _=>exact absurd hx (by simp[fY])
 | 1,⟨hx,hy⟩=>
  cases h1 with
  | str=>cases h2 with
   | str=>cases e; exact PySem.W.kas_lt_str hq
   | _=>exact absurd hy (by simp[fY])
  | _=>exact absurd hx (by simp[fY])
 | 2,⟨f,g,h1',h2',h3,h4⟩=>exact tup true ⟨f,g,h1',h2',λ_=>.inl ⟨h3,h4⟩⟩
 | 3,⟨f,g,h1',h2',h3,h4⟩=>exact tup true ⟨f,g,h1',h2',λ_=>.inr ⟨h3,h4⟩⟩
 | n+4,⟨f,g,h1',h2'⟩=>exact tup false ⟨f,g,h1',h2',λz=>nomatch z⟩
end
theorem uj {ks:Jf T}{c:Jp}(h:sI ks=ba c){x y:T}(hx:x∈ks)(hy:y∈ks) :
  IK c x y:=by
 have one:∀ {ty:KQ},ks.all (λk=>fY k==ty)=true->fY x=ty/\fY y=ty:=λha=>⟨eq_of_beq (JO.mp ha x hx),eq_of_beq (JO.mp ha y hy)⟩
 have fst:∀ {ty:KQ},ks.all (λk=>(bV k).any λf=>fY f==ty)=true->∃f g,bV x=ba f/\bV y=ba g/\fY f=ty/\fY g=ty:=λ{ty} ha=>by
  have h1:=JO.mp ha x hx;have h2:=JO.mp ha y hy;cases e1:bV x with
  | none=>rw[e1]at h1; cases h1
  | some f=>
   cases e2:bV y with
   | none=>rw[e2]at h2; cases h2
   | some g=>
    rw[e1]at h1; rw[e2]at h2
    exact⟨f,g,rfl,rfl,eq_of_beq (by simpa using h1),eq_of_beq (by simpa using h2)⟩
 unfold sI at h;split at h
 ·cases h; exact one ‹_›
 ·split at h
  ·cases h; exact one ‹_›
  ·split at h
   ·cases h; exact fst ‹_›
   ·split at h
    ·cases h; exact fst ‹_›
    ·split at h
     ·cases h;obtain⟨f,g,h1,h2,_⟩:=fst ‹_›;exact⟨f,g,h1,h2⟩
     ·cases h
noncomputable def eB (S:aa):W->Jn (Jf W)
 | .tup xs=>ba xs
 | .ref i=>match iL S i with
  | some xs=>ba xs
  | none=>(j8 S i).map λkvs=>kvs.map λp=>p.1.w
 | _=>gV
noncomputable def c7:Jp:=8
noncomputable def ir (ks:Jf T):JW:=decide (ks.length < 64)&&decide (T.depths ks<=c7)&&(decide (ks.length < 2)||((sI ks).isSome&&ib ks))
noncomputable def fN (xs:Jf W)(S:aa):Jn (W×aa):=match xs with
 | [x]=>match eB S x with
  | some ws=>match W.ts ws with
   | some ks=>if ir ks then ba (.ref S.length,S++[.lst (dN (qH ks) .non ws)])else gV
   | none=>gV
  | none=>gV
 | _=>gV
noncomputable def nU (xs:Jf W)(S:aa):Jn (W×aa):=match xs with
 | [.ref i]=>match j8 S i with
  | some kvs=>ba (.ref S.length,S++[.lst (kvs.map λp=>p.1.w)])
  | none=>iN [.ref i] S
 | xs=>iN xs S
noncomputable def sJ (xs:Jf W)(S:aa):Jn (W×aa):=match xs with
 | [.ref i]=>match j8 S i with
  | some kvs=>ba (.int kvs.length,S)
  | none=>sy [.ref i] S
 | xs=>sy xs S
noncomputable def o9 (ks:Jf T):Jp:=argBest (qH ks) (ks.length - 1)
noncomputable def A7 (xs:Jf W)(S:aa):Jn (W×aa):=match xs with
 | [.ref i]=>match iL S i with
  | some ws=>match W.ts ws with
   | some ks=>if T.depths ks<=c7/\ib ks=true then(ws[o9 ks]?).map λw=>(w,S)else gV
   | none=>gV
  | none=>gV
 | _=>gV
noncomputable def iu:Jf W->Jn (Jf JW)
 | []=>ba []
 | .bl b::ws=>(iu ws).map (b :: ·)
 | _::_=>gV
noncomputable def DL (xs:Jf W)(S:aa):Jn (W×aa):=match xs with
 | [.ref i]=>match iL S i with
  | some ws=>(iu ws).map λbs=>(.bl (bs.all id),S)
  | none=>gV
 | _=>gV
section
variable{X:Cx}{pins:Jf (Jq×K2)}{σ:L2.St}{H:Hp}{s:Jk}{A:Jf Jq}{S:aa}
theorem RelL.pick {K:Jv}{ws:Jf W}{vs:Jf V}(r:RelL K A H ws vs)(d:W)(d':V):∀(is:Jf Jp),(∀i∈is,i < ws.length)->RelL K A H (is.map λi=>ws.getD i d) (is.map λi=>vs.getD i d')
 | [],_=>.nil
 | i::is,h=>by
  have hi:=h i (.head _);obtain⟨v,h1,h2⟩:=r.get (Jw hi);refine .cons ?_ (RelL.pick r d d' is λj hj=>h j (.tail _ hj))
  have e1:ws.getD i d=ws[i]:=by simp[hi]
  have e2:vs.getD i d'=v:=by simp[h1]
  show Rel K A H (ws.getD i d) (vs.getD i d');rw[e1,e2]; exact h2
theorem Vals.pick {vs:Jf V}{us:Jf Jh}(r:Vals vs us)(d:V)(d':Jh):∀(is:Jf Jp),(∀i∈is,i < vs.length)->Vals (is.map λi=>vs.getD i d) (is.map λi=>us.getD i d')
 | [],_=>.nil
 | i::is,h=>by
  have hi:=h i (.head _);obtain⟨v,h1,h2⟩:=L2.Vals.get r (Jw hi);refine .cons ?_ (Vals.pick r d d' is λj hj=>h j (.tail _ hj))
  have e1:vs.getD i d=vs[i]:=by simp[hi]
  have e2:us.getD i d'=v:=by simp[h1]
  show L2.RelV (vs.getD i d) (us.getD i d');rw[e1,e2]; exact h2
theorem kY {n:Jp}{lt:Jp->Jp->JW}(hn:0 < n):∀i∈(cq lt (Mf n)).toList,i < n:=λi hi=>KJ.mp ((o8 (lt:=lt) (kX hn)).mem_iff.mp hi)
theorem xY {K:Jv}{lt:Jp->Jp->JW}{ws:Jf W}{vs:Jf V}(r:RelL K A H ws vs):RelL K A H (dN lt .non ws) (dN lt .non vs):=by
 unfold dN;rw[r.length];split
 ·exact r
 ·exact r.pick _ _ _ λi hi=>by rw[r.length]; exact kY (by omega) i hi
theorem vJ {lt:Jp->Jp->JW}{vs:Jf V}{us:Jf Jh}(r:Vals vs us):Vals (dN lt .non vs) (dN lt .none us):=by
 unfold dN;rw[L2.Vals.length r];split
 ·exact r
 ·exact Vals.pick r _ _ _ λi hi=>by rw[L2.Vals.length r]; exact kY (by omega) i hi
theorem qJ {prog:JY}{w:J6}{B:J1}{E:Jh->Jk->Prop}{l:Jq}{vs:Jf Jh}{Q:Jf Jh->Jk->Prop}(hl:PB s.heap l vs.toArray)(hsz:vs.length<=sizeLine)
  (h:∀h' tk,(∀b o,s.heap.get? b=ba o->h'.get? b=ba o)->s.heap.objs.size<=h'.objs.size->Q vs { s with heap:=h',toks:=tk }):wpAny (model prog w) B (collect (.ref l)) Q E s:=by
 obtain⟨o,ho,hc,n,hd⟩:=id hl;unfold collect;refine Jg (M0 (KA entry_proto_collect' ?_));show wpAny _ _ (do again (.builtin "list.__iadd__" ⟨[<- newList [],.ref l],[]⟩)) _ _ s
 refine Jg (N5 (Jm ⟨Ps _ (by decide +kernel),KA entry_list_iadd' ?_⟩))
 show wpAny _ _ (KW (.ref s.heap.objs.size) (.ref l) (.ref s.heap.objs.size)) _ _ { s with heap:=s.heap.push (seqObj "list" #[] 0) }
 unfold KW;have ho':(s.heap.push (seqObj "list" #[] 0)).get? l=ba o:=Jj _ ho;refine Jg (Mg (T:="tuple") ⟨o,ho',hc⟩ ?_);have ht:(K4 "tuple" == K4 "tuple")=true:=by rfl
 rw[JN (by rw[ht]; simp)]
 refine Jg (P1 ho' hd ?_);refine Jg (P1 (xs:=#[]) (n:=0) (JA _ rfl) rfl ?_);rw[JX (by simp)]
 refine Jg (N4 (xs:=#[]) (n:=0) (JA _ rfl) rfl ?_ (KY _) (by show(#[]++vs.toArray).size<=sizeLine+1; simp only[Array.size_append,Jz,Lk]; omega))
 refine Jm ?_;show wpAny (model prog w) B (do
   let o <- load s.heap.objs.size
   match o.data with
   | .seq xs _=>pure xs.toList
   | _=>unsupported "internal:collect") Q E { s with heap:=(s.heap.push (seqObj "list" #[] 0)).update s.heap.objs.size (KR (· ++ vs.toArray)) }
 refine Jg (Oh (OA (JA _ rfl) _) ?_);show wpAny _ _ (pure ((#[]:JV Jh)++vs.toArray).toList) Q E _;rw[show((#[]:JV Jh)++vs.toArray).toList=vs by simp]
 refine Jm (h _ s.toks (λb o' e=>(ME _ _ _ _ (JM (JE e))).trans (Jj _ e)) ?_)
 rw[Qk,size_push'];exact LX _
theorem DicAt.raw {wd:J6}{a:Jq}{xs:Jf (T×Jq×Jh)}{h:Kg}(d:DicAt wd a xs h):∃es ep,RawD a es ep h/\es.toList=xs.map (xv wd):=
 let ⟨_,_,_,o,es,ep,h1,h2,h3,h4⟩:=d; ⟨es,ep,⟨o,h1,h2,h3⟩,h4⟩
theorem KRel.keysL {kvs:Jf (T×W)}{xs:Jf (T×Jq×Jh)}(r:KRel X.K A H kvs xs):RelL X.K A H (kvs.map λp=>p.1.w) (xs.map λq=>V.ref q.2.1):=by
 unfold KRel at r
 induction r with
 | nil=>exact .nil
 | cons h t ih=>exact .cons h.2.2.2.1 ih
theorem nV (xs:Jf (T×Jq×Jh)):Vals (xs.map λq=>V.ref q.2.1) (xs.map λq=>J3 q.2.1):=by
 induction xs with
 | nil=>exact .nil
 | cons x xs ih=>exact .cons rfl ih
theorem lC {wd:J6}{es:JV LA}{xs:Jf (T×Jq×Jh)}(he:es.toList=xs.map (xv wd)){acc:JV Jh}(ha:On (λi v=>∃e,es[i]?=ba e/\e.key=v) acc es.size):acc.toList=xs.map λq=>J3 q.2.1:=by
 have hl:es.size=xs.length:=by rw[<- JB,he,Ji]
 apply Na
 ·rw[JB,ha.1,Ji,hl]
 ·intro i h1 h2;rw[JB]at h1;obtain⟨e,q1,q2⟩:=ha.2 i acc[i] (by simp[h1])
  rw[<- KI,he,Jr]at q1;rw[Ji]at h2;rw[Jw h2]at q1;simp only[Kb,J5]at q1;subst q1;rw[Ql,Nf];exact q2.symm
theorem vK {x:W}{a:V}{u:Jh}{ws:Jf W}(hh:X.A.handled=gV)(I:Inv X pins σ H s)(so:StoreOk X.w X.K A H S)(rx:Rel X.K A H x a)(ru:RelV a u)(e:eB S x=ba ws):∃vs us,RelL X.K A H ws vs/\Vals vs us/\us.length<=sizeLine/\
  ∀(B:J1) (hB:B.handled=gV) (E:Jh->Jk->Prop) (Q':Jf Jh->Jk->Prop),(∀h' tk,(∀b o,s.heap.get? b=ba o->h'.get? b=ba o)->s.heap.objs.size<=h'.objs.size->Q' us { s with heap:=h',toks:=tk })->wpAny (model X.prog X.w) B (collect u) Q' E s:=by
 cases rx with
 | tup h1 r1=>
  cases e;obtain⟨its,rv,ht,hz⟩:=I.tuple h1;obtain rfl:u=J3 _:=ru;exact⟨_,its,r1,rv,by rw[<- L2.Vals.length rv]; exact hz,λB hB E Q' h=>qJ ht (by rw[<- L2.Vals.length rv]; exact hz) h⟩
 | ref ea=>
  simp only[eB]at e;split at e
  ·rename_i xs hx;cases e;obtain⟨vs,h1,r1⟩:=cR so hx ea;obtain⟨its,rv,p,hz⟩:=I.list h1;obtain rfl:u=J3 _:=ru;refine⟨_,its,r1,rv,by rw[<- L2.Vals.length rv]; exact hz,λB hB E Q' h=>collect_list p.isList (h _ s.toks (λb o' e=>(ME _ _ _ _ (JM (JE e))).trans (Jj _ e)) ?_) (by rw[<- L2.Vals.length rv]; exact hz)⟩
   rw[Qk,size_push'];exact LX _
  ·rw[Jl]at e;obtain⟨kvs,hk,rfl⟩:=e;obtain⟨xs,rd,kr⟩:=gl so hk ea;have d:=cZ I rd;obtain⟨es,ep,raw,he⟩:=d.raw;obtain rfl:u=J3 _:=ru;have hl:es.size=xs.length:=by rw[<- JB,he,Ji]
   refine⟨_,_,kr.keysL,nV xs,by rw[Ji]; exact d.1,λB hB E Q' h=>qE (ud d.2.1) hB raw (by rw[hl]; exact d.1) λh' tk acc hk' hle ha=>?_⟩
   rw[lC he ha];exact h h' tk hk' hle
 | _=>cases e
theorem nW {h':Kg}{tk c:Jp}{D:Jq}{ws:Jf W}{vs:Jf V}{us:Jf Jh}(I:Inv X pins σ H s)(so:StoreOk X.w X.K A H S)(r:RelL X.K A H ws vs)(rv:Vals vs us)(hz:us.length<=sizeLine)(hk:∀b o,s.heap.get? b=ba o->h'.get? b=ba o)(hD:s.heap.objs.size<=D)
  (ho:h'.get? D=ba { cls:=.type "list",data:=.seq us.toArray c }):dX X pins σ A H (S++[.lst ws]) (.ref S.length) (.ref D) { s with heap:=h',toks:=tk }:=by
 have hn:H D=gV:=I.hok.fresh hD;refine⟨.ref D,_,A++[D],I.laid (a:=D) (o:=.lst vs) (t':=tk) hk hD ⟨by rw[L2.Vals.length rv]; exact hz,us,c,rv,ho⟩,rfl,dt hn,so.push hn r,.ref ?_⟩
 rw[<- so.len]; simp
theorem pb (hh:X.A.handled=gV)(hu:X.A.units+12 < cLine):LCall X (.builtin "sorted") fN:=by
 intro pins s σ H A S xs vs us w S' I so rl rv e;cases rl with
 | nil=>cases e
 | cons r t=>
  cases t with
  | cons _ _=>cases e
  | nil=>
   cases rv with
   | cons ru rv2=>
    cases rv2;simp only[fN]at e;split at e
    ·rename_i ws hw;split at e
     ·rename_i ks hk;split at e
      ·rename_i hok;cases e;obtain⟨vs',us',r1,rv1,hz,hcol⟩:=vK hh I so r ru hw;simp only[ir,Jo,JK]at hok;obtain⟨⟨h64,hd⟩,hok⟩:=hok;have hws:T.ws ks=ws:=W.ts_w hk;have hT:IsTs s.heap ks us':=fM I ks (hws ▸ r1) rv1;have hl:us'.length=ks.length:=hT.length.symm;have sk:2<=us'.length->(sI ks).isSome=true/\ib ks=true:=λh2=>by
        rcases La _ _ ▸ hok with h|h
        ·simp only[JK]at h; omega
        ·simpa using h
       refine vI (vs:=us') (lt:=qH ks) (κ:=uf ((sI ks).getD 0)) (by omega) (λQ' hQ'=>hcol X.A.in1 hh _ Q' hQ') (λh2 h' tk hk' Q hq=>?_) (λh2 h' tk hk' i j hi hj Q hq=>?_) λD h' tk c hk' hD ho=>?_
       ·obtain⟨q1,q2⟩:=sk h2;obtain⟨c,hc⟩:=Km.mp q1;rw[hc]at hq;exact xX (s:={ s with heap:=h',toks:=tk }) (hT.kept λb o _ e=>hk' b o e) h2 hc hq
       ·obtain⟨q1,q2⟩:=sk h2;obtain⟨c,hc⟩:=Km.mp q1;rw[hc];have hi':i < ks.length:=by omega
        have hj':j < ks.length:=by omega
        have g:=(hT.kept (h':=h') λb o _ e=>hk' b o e)
        have e1:us'.getD i Ke=us'[i]:=by simp[hi]
        have e2:us'.getD j Ke=us'[j]:=by simp[hj]
        rw[e1,e2];have b1:=cW (ks:=ks) i hi';have b2:=cW (ks:=ks) j hj';exact uh (s:={ s with heap:=h',toks:=tk }) (d:=c7) (c:=c) (by rw[br,br]; unfold c7; omega) (JF ‹_› ‹_›) (JF ‹_› ‹_›) (g.get i hi' hi) (g.get j hj' hj) (eA q2 hi' hj') (uj hc (Kq hi') (Kq hj')) hq
       ·exact nW I so (xY r1) (vJ rv1) (by rw[qG]; exact hz) hk' hD ho
      ·cases e
     ·cases e
    ·cases e
theorem qK (hh:X.A.handled=gV):LCall X (.type "list") nU:=by
 intro pins s σ H A S xs vs us w S' I so rl rv e
 by_cases hd:∃i kvs,xs=[.ref i]/\j8 S i=ba kvs
 ·obtain⟨i,kvs,rfl,hk⟩:=hd;simp only[nU,hk]at e;cases e;cases rl with
  | cons r t=>
   cases t;cases rv with
   | cons ru rv2=>
    cases rv2;cases r with
    | ref ea=>
     obtain⟨xs,rd,kr⟩:=gl so hk ea;have d:=cZ I rd;obtain⟨es,ep,raw,he⟩:=d.raw;obtain rfl:_=J3 _:=ru;have hl:es.size=xs.length:=by rw[<- JB,he,Ji]
     refine PySem.W.kdl_call (ud d.2.1) hh raw (by rw[hl]; exact d.1) λh' tk acc' c' hk' hD ha=>?_
     have ea':=lC he ha;refine nW (us:=acc'.toList) I so kr.keysL (ea' ▸ nV xs) (by rw[ea',Ji]; exact d.1) hk' (Js _) (c:=c') ?_
     simpa using hD
 ·have:nU xs S=iN xs S:=by
   unfold nU;split
   ·rename_i i;split
    ·rename_i kvs hk;exact absurd ⟨i,kvs,rfl,hk⟩ hd
    ·rfl
   ·rfl
  rw[this]at e;exact iq pins s σ H A S xs vs us w S' I so rl rv e
end
open PySem.W (KasT kas_sort kas_asc kas_desc kas_tail3 kas_descPart kas_count kas_place kas_bin kas_rev)
theorem eu {α β:Type}{lt:Jp->Jp->JW}{f:α->KasT β}:∀t:KasT α,cq lt (t.bind f)=cq lt (f (cq lt t))
 | .ret _=>rfl
 | .ask i j k=>eu (k (lt i j))
structure Lin (n:Jp)(lt:Jp->Jp->JW):Prop where
 tr:∀i j k,i < n->j < n->k < n->lt i j=true->lt j k=true->lt i k=true
 as:∀i j,i < n->j < n->lt i j=true->lt j i=false
 to:∀i j,i < n->j < n->i≠j->lt j i=false->lt i j=true
noncomputable def gt (p:JV Jp)(i:Jp):Jp:=p.getD i 0
theorem jv {p:JV Jp}{i:Jp}:gt p i=(p[i]?).getD 0:=by unfold gt; simp[Array.getD_eq_getD_getElem?]
theorem Pm.inj {n:Jp}{p:JV Jp}(h:Pm n p){i j:Jp}(hi:i < n)(hj:j < n)(hne:i≠j):gt p i≠gt p j:=by
 have nd:p.toList.Nodup:=h.nodup_iff.mpr List.nodup_range;have hi':i < p.toList.length:=by rw[JB,h.size]; exact hi
 have hj':j < p.toList.length:=by rw[JB,h.size]; exact hj
 intro e;have e1:gt p i=p.toList[i]:=by unfold gt; simp[MQ,h.size,hi]
 have e2:gt p j=p.toList[j]:=by unfold gt; simp[MQ,h.size,hj]
 rw[e1,e2]at e;have pw:=MC.mp nd;rcases Pu hne with h|h
 ·exact pw i j hi' hj' h e
 ·exact pw j i hj' hi' h e.symm
noncomputable def Up (lt:Jp->Jp->JW)(p:JV Jp)(m:Jp):Prop:=∀i j,i < j->j < m->lt (gt p i) (gt p j)=true
section
variable{n:Jp}{lt:Jp->Jp->JW}(L:Lin n lt)
include L
theorem Up.more {p:JV Jp}{a:Jp}(hp:Pm n p)(ha:1<=a)(han:a < n)(h:Up lt p a)(hl:lt (gt p (a - 1)) (gt p a)=true):Up lt p (a+1):=by
 have hn:0 < n:=by omega
 intro i j hij hj
 by_cases e:j=a
 ·subst e
  by_cases e2:i=j - 1
  ·subst e2; exact hl
  ·exact L.tr _ _ _ (hp.lt hn _) (hp.lt hn _) (hp.lt hn _) (h i (j - 1) (by omega) (by omega)) hl
 ·exact h i j hij (by omega)
theorem sK {p:JV Jp}(hp:Pm n p):∀(f a:Jp),1<=a->a+f=n->Up lt p a->Up lt p (cq lt (kas_asc p f a))/\a<=cq lt (kas_asc p f a)/\cq lt (kas_asc p f a)<=n/\(cq lt (kas_asc p f a) < n->lt (gt p (cq lt (kas_asc p f a))) (gt p (cq lt (kas_asc p f a) - 1))=true)
 | 0,a,h1,h2,h=>⟨h,Js _,by show a<=n; omega,λz=>by have:a < n:=z; omega⟩
 | f+1,a,h1,h2,h=>by
  have hn:0 < n:=by omega
  have e:cq lt (kas_asc p (f+1) a)=cq lt (if lt (gt p a) (gt p (a - 1))=true then .ret a else kas_asc p f (a+1)):=rfl
  rw[e];cases c:lt (gt p a) (gt p (a - 1))with
  | true=>exact⟨h,Js _,by show a<=n; omega,λ_=>c⟩
  | false=>
   have l:lt (gt p (a - 1)) (gt p a)=true:=L.to _ _ (hp.lt hn (a - 1)) (hp.lt hn a) (hp.inj (by omega) (by omega) (by omega)) c
   obtain⟨q1,q2,q3,q4⟩:=sK hp f (a+1) (by omega) (by omega) (Up.more L hp h1 (by omega) h l)
   exact⟨q1,by show a<=cq lt (kas_asc p f (a+1)); omega,q3,q4⟩
noncomputable def Dn (lt:Jp->Jp->JW)(p:JV Jp)(m:Jp):Prop:=∀i j,i < j->j < m->lt (gt p j) (gt p i)=true
theorem uk {p:JV Jp}(hp:Pm n p):∀(f a:Jp),1<=a->a+f=n->Dn lt p a->∃m,cq lt (kas_desc f p a 0)=(p,m,0)/\a<=m/\m<=n/\Dn lt p m
 | 0,a,h1,h2,h=>⟨a,rfl,Js _,by omega,h⟩
 | f+1,a,h1,h2,h=>by
  have hn:0 < n:=by omega
  have e:cq lt (kas_desc (f+1) p a 0)=cq lt (if lt (gt p a) (gt p (a - 1))=true then(if 0 > 0 then kas_desc f (kas_rev p (a - (0+1)) a) (a+1) 0 else kas_desc f p (a+1) 0)else .ask (gt p (a - 1)) (gt p a) λd=>if d=true then .ret (p,a,0)else kas_desc f p (a+1) (0+1)):=rfl
  rw[e];cases c:lt (gt p a) (gt p (a - 1))with
  | true=>
   obtain⟨m,q1,q2,q3,q4⟩:=uk hp f (a+1) (by omega) (by omega) λi j hij hj=>by
    by_cases e:j=a
    ·subst e
     by_cases e2:i=j - 1
     ·subst e2; exact c
     ·exact L.tr _ _ _ (hp.lt hn _) (hp.lt hn _) (hp.lt hn _) c (h i (j - 1) (by omega) (by omega))
    ·exact h i j hij (by omega)
   exact⟨m,q1,by omega,q3,q4⟩
  | false=>
   have l:lt (gt p (a - 1)) (gt p a)=true:=L.to _ _ (hp.lt hn (a - 1)) (hp.lt hn a) (hp.inj (by omega) (by omega) (by omega)) c
   refine⟨a,?_,Js _,by omega,h⟩
   show cq lt (if lt (gt p (a - 1)) (gt p a)=true then .ret (p,a,0)else kas_desc f p (a+1) (0+1))=_
   rw[l]; rfl
omit L in
theorem DM {p:JV Jp}{m:Jp}(hp:Pm n p)(hm:m<=n)(h:Dn lt p m):Up lt (kas_rev p 0 m) m:=by
 intro i j hij hj;have g:∀k,k < m->gt (kas_rev p 0 m) k=gt p (m - 1 - k):=λk hk=>by
  rw[jv,jv];show((mirror p 0 m ((m - 0) / 2))[k]?).getD 0=_;rw[getElem?_mirror_all (by rw[hp.size]; exact hm),JN ⟨KY _,hk⟩,Nat.zero_add]
 rw[g i (by omega),g j hj]
 exact h _ _ (by omega) (by omega)
theorem xZ {p:JV Jp}(hp:Pm n p)(hn:1<=n):∃m p',cq lt (kas_count n p)=(m,p')/\Pm n p'/\1<=m/\m<=n/\Up lt p' m:=by
 unfold kas_count;rw[eu];obtain⟨q1,q2,q3,q4⟩:=sK L hp (n - 1) 1 (Js _) (by omega) λi j hij hj=>by omega
 generalize cq lt (kas_asc p (n - 1) 1)=m at q1 q2 q3 q4
 by_cases hm:m=n
 ·subst hm;rw[JN (Ko _)];exact⟨m,p,rfl,hp,q2,Js _,q1⟩
 ·rw[JX (by simp[hm])]
  by_cases h1:m > 1
  ·rw[JN h1];have l:=q1 0 (m - 1) (by omega) (by omega)
   refine⟨m,p,?_,hp,q2,q3,q1⟩;show cq lt (if lt (gt p 0) (gt p (m - 1))=true then .ret (m,p)else kas_descPart m n (kas_rev p 0 m))=_
   rw[l]; rfl
  ·rw[JX h1];obtain rfl:m=1:=by omega
   unfold kas_descPart;rw[eu];have l:=q4 (by omega)
   obtain⟨m,e,r1,r2,r3⟩:=uk L hp (n - (1+1)) (1+1) (by omega) (by omega) λi j hij hj=>by
    obtain rfl:j=1:=by omega
    obtain rfl:i=0:=by omega
    exact l
   rw[e];dsimp only;rw[JX (by omega)]
   unfold kas_tail3;rw[eu];have hp':Pm n (kas_rev p 0 m):=hp.rev 0 m;obtain⟨z1,z2,z3,z4⟩:=sK L hp' (n - m) m (by omega) (by omega) (DM hp r2 r3)
   exact⟨_,_,rfl,hp',by omega,z3,z1⟩
theorem lD {p:JV Jp}{k:Jp}(hp:Pm n p)(hk:k < n)(hu:Up lt p k):∀(f l r:Jp),l<=r->r<=k->r - l<=f->(∀i,i < l->lt (gt p i) (gt p k)=true)->(∀i,r<=i->i < k->lt (gt p k) (gt p i)=true)->
  ∃m,cq lt (kas_place p k f l r)=m/\m<=k/\(∀i,i < m->lt (gt p i) (gt p k)=true)/\(∀i,m<=i->i < k->lt (gt p k) (gt p i)=true)
 | 0,l,r,h1,h2,h3,ha,hb=>⟨l,rfl,by omega,ha,λi hi=>hb i (by omega)⟩
 | f+1,l,r,h1,h2,h3,ha,hb=>by
  have hn:0 < n:=by omega
  unfold kas_place
  by_cases hge:l>=r
  ·rw[JN hge];exact⟨l,rfl,by omega,ha,λi hi=>hb i (by omega)⟩
  ·rw[JX hge];show ∃m,cq lt (if lt (gt p k) (gt p ((l+r) / 2))=true then kas_place p k f l ((l+r) / 2)else kas_place p k f ((l+r) / 2+1) r)=m/\_
   cases c:lt (gt p k) (gt p ((l+r) / 2))with
   | true=>
    rw[JN rfl];refine lD hp hk hu f l ((l+r) / 2) (by omega) (by omega) (by omega) ha λi hi hik=>?_
    by_cases e:i=(l+r) / 2
    ·rw[e]; exact c
    ·exact L.tr _ _ _ (hp.lt hn _) (hp.lt hn _) (hp.lt hn _) c (hu _ _ (by omega) hik)
   | false=>
    rw[JX JU];have l':=L.to _ _ (hp.lt hn ((l+r) / 2)) (hp.lt hn k) (hp.inj (by omega) (by omega) (by omega)) c
    refine lD hp hk hu f ((l+r) / 2+1) r (by omega) h2 (by omega) (λi hi=>?_) hb
    by_cases e:i=(l+r) / 2
    ·rw[e]; exact l'
    ·exact L.tr _ _ _ (hp.lt hn _) (hp.lt hn _) (hp.lt hn _) (hu i ((l+r) / 2) (by omega) (by omega)) l'
theorem ya:∀(f:Jp) (p:JV Jp) (k:Jp),Pm n p->k+f=n->Up lt p k->Pm n (cq lt (kas_bin f p k))/\Up lt (cq lt (kas_bin f p k)) n
 | 0,p,k,hp,h,hu=>by
  have:k=n:=by omega
  exact⟨hp,this ▸ hu⟩
 | f+1,p,k,hp,h,hu=>by
  unfold kas_bin;rw[eu];obtain⟨m,e,h1,ha,hb⟩:=lD L hp (by omega) hu k 0 k (KY _) (Js _) (by omega) (λi hi=>by omega) λi h1 h2=>by omega
  rw[e];refine ya f _ (k+1) (hp.bub _ _) (by omega) λi j hij hj=>?_
  have g:∀i,gt (bubble p k (k - m)) i=if i=m then gt p k else if m < i/\i<=k then gt p (i - 1)else gt p i:=λi=>by
   rw[jv,jv,jv,jv,getElem?_bubble (by rw[hp.size]; omega) _ (by omega),show k - (k - m)=m by omega]
   split
   ·rfl
   ·split <;> rfl
  rw[g,g]
  repeat' split
  all_goals first
   | (exfalso; omega)
   | exact ha _ (by omega)
   | exact hb _ (by omega) (by omega)
   | exact hu _ _ (by omega) (by omega)
theorem Ba (hn:1<=n):Pm n (cq lt (kas_sort n))/\Up lt (cq lt (kas_sort n)) n:=by
 unfold kas_sort;rw[eu];obtain⟨m,p',e,h1,h2,h3,h4⟩:=xZ L (p:=(Kh n).toArray) (by unfold Pm; simp) hn
 rw[e];dsimp only
 by_cases hm:m < n
 ·rw[JN hm];have:max m 1=m:=by omega
  rw[this];exact ya L _ _ _ h1 (by omega) h4
 ·rw[JX hm];have:m=n:=by omega
  exact⟨h1,this ▸ h4⟩
end
end Mi
namespace Mi
open PySem PySem.Spec PyProof.Rows L2
mutual
theorem pc:∀x y:T,fL x=true->mE x y=ba true->mE y x=ba false
 | .int a,.int b,_,h=>by
  simp only[mE,J5,JK]at h;simp only[mE,J5,Oc];omega
 | .str _,_,h,_=>by cases h
 | .tup xs,.tup ys,hn,h=>um xs ys hn h
 | .int _,.str _,_,h|.int _,.tup _,_,h|.tup _,.int _,_,h|.tup _,.str _,_,h=>by cases h
theorem um:∀xs ys:Jf T,dC xs=true->ga xs ys=ba true->ga ys xs=ba false
 | [],[],_,h=>by cases h
 | [],_::_,_,_=>rfl
 | _::_,[],_,h=>by cases h
 | x::xs,y::ys,hn,h=>by
  simp only[dC,Jo]at hn;simp only[ga]at h ⊢
  by_cases e:x=y
  ·rw[JN e]at h;rw[JN e.symm];exact um xs ys hn.2 h
  ·rw[JX e]at h;rw[JX (Ne.symm e)];exact pc x y hn.1 h
end
mutual
theorem yb:∀x y:T,fL x=true->x≠y->mE y x=ba false->mE x y=ba true
 | .int a,.int b,_,hne,h=>by
  simp only[mE,J5,Oc]at h;simp only[mE,J5,JK];have:a≠b:=λe=>hne (e ▸ rfl)
  omega
 | .str _,_,h,_,_=>by cases h
 | .tup xs,.tup ys,hn,hne,h=>uq xs ys hn (λe=>hne (e ▸ rfl)) h
 | .int _,.str _,_,_,h|.int _,.tup _,_,_,h|.tup _,.int _,_,_,h|.tup _,.str _,_,_,h=>by cases h
theorem uq:∀xs ys:Jf T,dC xs=true->xs≠ys->ga ys xs=ba false->ga xs ys=ba true
 | [],[],_,h,_=>absurd rfl h
 | [],_::_,_,_,_=>rfl
 | _::_,[],_,_,h=>by cases h
 | x::xs,y::ys,hn,hne,h=>by
  simp only[dC,Jo]at hn;simp only[ga]at h ⊢
  by_cases e:x=y
  ·rw[JN e.symm]at h;rw[JN e];exact uq xs ys hn.2 (λz=>hne (by rw[e,z])) h
  ·rw[JX (Ne.symm e)]at h;rw[JX e];exact yb x y hn.1 e h
end
mutual
theorem yc:∀x y z:T,fL x=true->fL y=true->mE x y=ba true->mE y z=ba true->mE x z=ba true
 | .int a,.int b,.int c,_,_,h,h'=>by
  simp only[mE,J5,JK]at h h' ⊢;omega
 | .tup xs,.tup ys,.tup zs,hn,hn',h,h'=>ur xs ys zs hn hn' h h'
 | .str _,_,_,h,_,_,_=>by cases h
 | .int _,.str _,_,_,_,h,_|.int _,.tup _,_,_,_,h,_|.tup _,.int _,_,_,_,h,_|.tup _,.str _,_,_,_,h,_=>by cases h
 | .int _,.int _,.str _,_,_,_,h|.int _,.int _,.tup _,_,_,_,h|.tup _,.tup _,.int _,_,_,_,h|.tup _,.tup _,.str _,_,_,_,h=>by cases h
theorem ur:∀xs ys zs:Jf T,dC xs=true->dC ys=true->ga xs ys=ba true->ga ys zs=ba true->ga xs zs=ba true
 | [],[],_,_,_,h,_=>by cases h
 | _::_,[],_,_,_,h,_=>by cases h
 | _,_::_,[],_,_,_,h=>by cases h
 | [],_::_,_::_,_,_,_,_=>rfl
 | x::xs,y::ys,z::zs,hn,hn',h,h'=>by
  simp only[dC,Jo]at hn hn';simp only[ga]at h h' ⊢
  by_cases e:x=y
  ·subst e;rw[JN rfl]at h
   by_cases e':x=z
   ·rw[JN e']at h' ⊢;exact ur xs ys zs hn.2 hn'.2 h h'
   ·rw[JX e']at h' ⊢;exact h'
  ·rw[JX e]at h
   by_cases e':y=z
   ·subst e';rw[JX e];exact h
   ·rw[JX e']at h';have t:=yc x y z hn.1 hn'.1 h h';have e2:x≠z:=λe2=>by
     subst e2;have:=pc x x hn.1 t;rw[t]at this; cases this
    rw[JX e2];exact t
end
noncomputable def G9 (ks:Jf T):Prop:=ks.Pairwise λx y=>mE x y=ba true
noncomputable def eW (ks:Jf T):Jf T:=dN (qH ks) (.int 0) ks
structure Nice (ks:Jf T):Prop where
 num:∀x∈ks,fL x=true
 lt:ib ks=true
 nd:ks.Nodup
theorem Nice.lin {ks:Jf T}(h:Nice ks):Lin ks.length (qH ks):=by
 have nm:∀i (hi:i < ks.length),fL ks[i]=true:=λi hi=>h.num _ (Kq hi)
 refine⟨λi j k hi hj hk a b=>?_,λi j hi hj a=>?_,λi j hi hj hne a=>?_⟩
 ·have e1:=eA h.lt hi hj;have e2:=eA h.lt hj hk;have e3:=eA h.lt hi hk;rw[a]at e1; rw[b]at e2
  rw[yc _ _ _ (nm i hi) (nm j hj) e1 e2]at e3;exact(Kz e3).symm
 ·have e1:=eA h.lt hi hj;have e2:=eA h.lt hj hi;rw[a]at e1;rw[pc _ _ (nm i hi) e1]at e2;exact(Kz e2).symm
 ·have e1:=eA h.lt hj hi;have e2:=eA h.lt hi hj;rw[a]at e1;have hne':ks[i]≠ks[j]:=λe=>by
   have pw:=MC.mp h.nd;rcases Pu hne with q|q
   ·exact pw i j hi hj q e
   ·exact pw j i hj hi q e.symm
  rw[yb _ _ (nm i hi) hne' e1]at e2;exact(Kz e2).symm
theorem eC {α:Type}{lt:Jp->Jp->JW}{d:α}{xs:Jf α}:(dN lt d xs).Perm xs:=by
 unfold dN;split
 ·exact .refl _
 ·have p:Pm xs.length (cq lt (Mf xs.length)):=o8 (kX (by omega))
  refine(SF _ p).trans ?_;have:(Kh xs.length).map (λi=>xs.getD i d)=xs:=by
   apply Na
   ·simp
   ·intro k h1 h2; simp[h2]
  rw[this]
theorem iW {ks:Jf T}(h:Nice ks):G9 (eW ks):=by
 unfold eW dN G9;split
 ·rename_i hl
  match ks,hl with
  | [],_=>exact .nil
  | [x],_=>simp
  | _::_::_,hl=>simp only[Ky]at hl; omega
 ·rename_i hl;obtain⟨p,u⟩:=Ba h.lin (by omega)
  rw[MC];intro i j hi hj hij;rw[Ji,JB,p.size]at hi hj;have hn:0 < ks.length:=by exact P3 ‹_›
  have l:=u i j hij hj;have e1:=eA h.lt (p.lt hn i) (p.lt hn j);have g:∀k (hk:k < ks.length),(cq (qH ks) (Mf ks.length)).getD k 0=(cq (qH ks) (Mf ks.length)).toList[k]'(by rw[JB,p.size]; exact hk):=λk hk=>by simp[MQ,p.size,hk]
  have l':qH ks ((cq (qH ks) (Mf ks.length)).getD i 0) ((cq (qH ks) (Mf ks.length)).getD j 0)=true:=l;rw[l']at e1;have gd:∀k (hk:k < ks.length),ks.getD k (.int 0)=ks[k]:=λk hk=>by simp[hk]
  simp only[Ql];rw[<- g i hi,<- g j hj,gd _ (p.lt hn i),gd _ (p.lt hn j)];exact e1
theorem lE:∀ {a b:Jf T},(∀x∈a,fL x=true)->a.Perm b->G9 a->G9 b->a=b
 | [],b,_,p,_,_=>(Sn p)
 | x::a,[],_,p,_,_=>absurd p.length_eq (by simp)
 | x::a,y::b,hn,p,h,h'=>by
  have e:x=y:=by
   rcases JP.mp (p.mem_iff.mp (KO))with e|e
   ·exact e
   ·rcases JP.mp (p.mem_iff.mpr (KO))with e'|e'
    ·exact e'.symm
    ·have l1:=NP h e';have l2:=NP h' e;have:=pc _ _ (hn x (.head _)) l1;rw[l2]at this; cases this
  subst e;rw[lE (λz hz=>hn z (.tail _ hz)) ((List.perm_cons x).mp p) (Pw.mp h).2 (Pw.mp h').2]
theorem Nice.of_sub {ks us:Jf T}(h:Nice ks)(hs:∀x∈us,x∈ks)(hd:us.Nodup):Nice us:=by
 refine⟨λx hx=>h.num x (hs x hx),?_,hd⟩
 have:=h.lt;unfold ib at this ⊢;rw[JO]at this ⊢;intro x hx;have h2:=this x (hs x hx);rw[JO]at h2 ⊢;exact λy hy=>h2 y (hs y hy)
theorem vL {us ks:Jf T}(h:Nice ks)(p:us.Perm ks):eW us=eW ks:=by
 have hu:Nice us:=h.of_sub (λx hx=>p.mem_iff.mp hx) (p.nodup_iff.mpr h.nd)
 have pu:(eW us).Perm us:=eC;have pk:(eW ks).Perm ks:=eC;exact lE (λx hx=>hu.num x (pu.mem_iff.mp hx)) (pu.trans (p.trans pk.symm)) (iW hu) (iW h)
theorem yd {us ks:Jf T}(h:Nice ks)(p:us.Sublist (eW ks)):eW us=us:=by
 have pk:(eW ks).Perm ks:=eC;have hu:Nice us:=h.of_sub (λx hx=>pk.mem_iff.mp (p.subset hx)) (p.nodup (pk.nodup_iff.mpr h.nd))
 have pu:(eW us).Perm us:=eC;exact lE (λx hx=>hu.num x (pu.mem_iff.mp hx)) pu (iW hu) ((iW h).sublist p)
mutual
noncomputable def nX:T->Jy
 | .int i=>hashInt i
 | .str _=>0
 | .tup xs=>reduceHash (MA (pd xs))
noncomputable def pd:Jf T->Jf Jy
 | []=>[]
 | x::xs=>nX x::pd xs
end
mutual
theorem qL {w:J6}:∀x:T,fL x=true->eS w x=nX x
 | .int _,_=>rfl
 | .str _,h=>by cases h
 | .tup xs,h=>by simp only[eS,nX]; rw[nY xs h]
theorem nY {w:J6}:∀xs:Jf T,dC xs=true->im w xs=pd xs
 | [],_=>rfl
 | x::xs,h=>by
  simp only[dC,Jo]at h;simp only[im,pd];rw[qL x h.1,nY xs h.2]
end
theorem qM {w:J6}:∀(ks:Jf T) (st:JV (Jy×T)×KG),(∀x∈ks,fL x=true)->ks.foldlM (bU (eS w)) st=ks.foldlM (bU nX) st
 | [],_,_=>rfl
 | x::ks,st,h=>by
  rw[Mc,Mc];have e:bU (eS w) st x=bU nX st x:=by unfold bU; rw[qL x (h x (.head _))]
  rw[e];congr 1
  funext st'
  exact qM ks st' λy hy=>h y (.tail _ hy)
noncomputable def qN (l:JW)(ks:Jf T):Jn (JV (Jy×T)×KG):=ks.foldlM (bU nX) (#[],.fresh 0 0 l)
noncomputable def ke (ks:Jf T):Jn (Jf T):=match qN true ks with
 | some r=>if fK r.2 r.1.size then ba (r.1.toList.map (·.2))else gV
 | none=>gV
noncomputable def gb (b:JW)(t:KG):KG:={ t with led:=b }
theorem sL {b:JW}{t:KG}{ha:Jp->Jy}{h:Jy}:∀(f:Jp) (p:NE),NX (gb b t) ha h f p=NX t ha h f p
 | 0,_=>rfl
 | f+1,p=>by
  unfold NX;rw[show(gb b t).slot p.j=t.slot p.j from rfl]
  cases t.slot p.j with
  | empty=>rfl
  | dummy=>exact sL f _
  | live i=>
   dsimp only;split
   ·rfl
   ·exact sL f _
theorem kg {b:JW}{es:JV (Jy×T)}{t:KG}{x:T}{h:Jy}:∀(f:Jp) (st:Jn NE),d6 es (gb b t) x h f st=d6 es t x h f st
 | 0,_=>rfl
 | f+1,st=>by
  unfold d6;have e:∀p,(gb b t).probe (λi=>(es[i]?.map (·.1)).getD 0) h p=t.probe (λi=>(es[i]?.map (·.1)).getD 0) h p:=λp=>sL _ _
  rw[show(gb b t).probeStart h=t.probeStart h from rfl,e]
  split
  ·rfl
  ·rfl
  ·rfl
  ·rename_i j i next _;cases es[i]? with
   | none=>rfl
   | some q=>
    dsimp only;split
    ·rfl
    ·rw[show(gb b t).slot j=t.slot j from rfl]
     split
     ·exact kg f _
     ·rfl
theorem sM {b:JW}{t:KG}{hs:JV Jy}{n:Jp}:(gb b t).relaid hs n=(t.relaid hs n).map λr=>(gb b r.1,r.2):=by
 unfold Sr SG;show(do let owner <- P4 (NG n - 1) hs; _)=_
 cases P4 (NG n - 1) hs <;> rfl
theorem sN {b:JW}{hf:T->Jy}{es:JV (Jy×T)}{t:KG}{x:T}:bU hf (es,gb b t) x=(bU hf (es,t) x).map λr=>(r.1,gb b r.2):=by
 unfold bU;dsimp only;rw[kg];cases d6 es t x (hf x) 100 gV with
 | none=>rfl
 | some f=>
  cases f with
  | there=>rfl
  | free slot=>
   dsimp only;rw[show(gb b t).put slot=(gb b (t.put slot).1,(t.put slot).2)from rfl]
   dsimp only;rw[show ∀n,dM (gb b (t.put slot).1) n=dM (t.put slot).1 n from λ_=>rfl,show(gb b (t.put slot).1).tooFull=(t.put slot).1.tooFull from rfl,sM]
   split
   ·split
    ·split
     ·cases(t.put slot).1.relaid ((J4 es (t.put slot).2 (hf x,x)).map (·.1)) (M1 (es.size+1))with
      | none=>rfl
      | some q=>
       obtain⟨t2,order⟩:=q;dsimp only[Kb];rw[show ∀n,dM (gb b t2) n=dM t2 n from λ_=>rfl]
       split <;> rfl
     ·rfl
    ·rfl
   ·rfl
theorem qO {b:JW}{hf:T->Jy}:∀(ks:Jf T) (es:JV (Jy×T)) (t:KG),ks.foldlM (bU hf) (es,gb b t)=(ks.foldlM (bU hf) (es,t)).map λr=>(r.1,gb b r.2)
 | [],_,_=>rfl
 | x::ks,es,t=>by
  rw[Mc,Mc,sN];cases bU hf (es,t) x with
  | none=>rfl
  | some r=>exact qO ks r.1 r.2
theorem vM {ks us:Jf T}(h:ke ks=ba us)(l:JW):∃r,qN l ks=ba r/\r.1.toList.map (·.2)=us/\r.2.led=l/\(r.2.plain=true->fK r.2 r.1.size=true):=by
 unfold ke at h;have e:qN l ks=(qN true ks).map λr=>(r.1,gb l r.2):=qO (b:=l) ks #[] (.fresh 0 0 true)
 cases hr:qN true ks with
 | none=>rw[hr]at h; cases h
 | some r=>
  rw[hr]at h e;dsimp only at h;split at h
  ·rename_i hok;cases h;exact⟨_,e,rfl,rfl,λ_=>hok⟩
  ·cases h
theorem pe {α:Type}{xs:JV α}{p:Jp}{x y:α}(h:y∈(J4 xs p x).toList):y∈xs.toList\/y=x:=by
 unfold J4 at h;rw[Np,NT,J9,J9]at h;rcases h with(h|h)|h
 ·rw[Mu]at h;refine .inl ?_;simp only[RE]at h;exact Mv (Lv h)
 ·exact .inr (JC.mp h)
 ·rw[Mu]at h;refine .inl ?_;simp only[RE]at h;exact Mv (Lv h)
theorem sO {hf:T->Jy}{es:JV (Jy×T)}{t:KG}{x:T}{r:JV (Jy×T)×KG}(h:bU hf (es,t) x=ba r):∀y∈r.1.toList,y∈es.toList\/y.2=x:=by
 intro y hy;unfold bU at h;dsimp only at h;split at h
 ·cases h
 ·cases h; exact .inl hy
 ·rename_i slot _;have ins:∀y∈(J4 es (t.put slot).2 (hf x,x)).toList,y∈es.toList\/y.2=x:=λy hy=>(pe hy).imp id λe=>by rw[e]
  split at h
  ·split at h
   ·split at h
    ·split at h
     ·cases h
     ·rename_i t2 order _;split at h
      ·cases h;refine ins y ?_;simp only[Array.toList_filterMap,Nw]at hy;obtain⟨i,_,hi⟩:=hy;rw[Mt];exact M6 hi
      ·cases h
    ·cases h
   ·cases h; exact ins y hy
  ·cases h
theorem qP {hf:T->Jy}:∀(ks:Jf T) (es:JV (Jy×T)) (t:KG) (r:JV (Jy×T)×KG),ks.foldlM (bU hf) (es,t)=ba r->∀y∈r.1.toList,y∈es.toList\/y.2∈ks
 | [],_,_,_,h,y,hy=>by cases h; exact .inl hy
 | x::ks,es,t,r,h,y,hy=>by
  rw[Mc]at h;cases hs:bU hf (es,t) x with
  | none=>rw[hs]at h; cases h
  | some q=>
   rw[hs]at h;rcases qP ks q.1 q.2 r h y hy with h1|h1
   ·rcases sO hs y h1 with h2|h2
    ·exact .inl h2
    ·exact .inr (h2 ▸ KO)
   ·exact .inr (.tail _ h1)
theorem ye {ks us:Jf T}(h:ke ks=ba us):∀k∈us,k∈ks:=by
 unfold ke at h;split at h
 ·rename_i r hr;split at h
  ·cases h;intro k hk;obtain⟨y,hy,rfl⟩:=JT.mp hk;rcases qP ks _ _ r hr y hy with h1|h1
   ·simp at h1
   ·exact h1
  ·cases h
 ·cases h
noncomputable def yf (k:T):JW:=fL k&&k.isTup&&decide (k.depth<=aH)
noncomputable def lF (xs:Jf W)(S:aa):Jn (W×aa):=match xs with
 | [.ref i]=>match iL S i with
  | some ws=>match W.ts ws with
   | some ks=>if ks.all yf then(ke ks).map λus=>(.ref S.length,S++[.stt us])else gV
   | none=>gV
  | none=>gV
 | _=>gV
noncomputable def E3 (S:aa)(i:Jp):Jn (Jf T):=match S[i]? with
 | some (.stt us)=>ba us
 | _=>gV
noncomputable def lG (us:Jf T):JW:=us.all fL&&ib us&&decide us.Nodup&&ir us
noncomputable def du (xs:Jf W)(S:aa):Jn (W×aa):=match xs with
 | [.ref i]=>match E3 S i with
  | some us=>if lG us then ba (.ref S.length,S++[.lst (T.ws (eW us))])else gV
  | none=>gV
 | _=>gV
noncomputable def lH (xs:Jf W)(S:aa):Jn (W×aa):=match xs with
 | [.ref i]=>match A6 S i with
  | some (lo,hi)=>if -(2 ^ 62)<=lo/\lo < 2 ^ 62/\-(2 ^ 62)<=hi/\hi < 2 ^ 62/\(hi - lo).toNat<=sizeLine then ba (.tup (FQ lo (hi - lo).toNat),S)else gV
  | none=>lr [.ref i] S
 | xs=>lr xs S
theorem yg:∀ks:Jf T,T.ws ks=ks.map T.w
 | []=>rfl
 | x::xs=>by simp only[T.ws,KF,yg xs]
theorem vN {h:Kg}{us vs:Jf Jh}(p:us.Perm vs):∀ {ks:Jf T},IsTs h ks vs->∃js,IsTs h js us/\js.Perm ks:=by
 induction p with
 | nil=>intro ks i; exact⟨ks,i,.refl _⟩
 | cons x p ih=>
  intro ks i;cases i with
  | cons a b=>obtain⟨js,h1,h2⟩:=ih b; exact⟨_,.cons a h1,h2.cons _⟩
 | swap x y l=>
  intro ks i;cases i with
  | cons a b=>cases b with
   | cons b c=>exact⟨_,.cons b (.cons a c),.swap _ _ _⟩
 | trans p q ih1 ih2=>
  intro ks i;obtain⟨js,h1,h2⟩:=ih2 i;obtain⟨is,h3,h4⟩:=ih1 h1;exact⟨is,h3,h4.trans h2⟩
theorem yh {p:T->JW}{js ks:Jf T}(h:js.Perm ks):js.all p=ks.all p:=by
 rw[QE,JO,JO];exact⟨λq x hx=>q x (h.mem_iff.mpr hx),λq x hx=>q x (h.mem_iff.mp hx)⟩
theorem yi {js ks:Jf T}(h:js.Perm ks):sI js=sI ks:=by unfold sI; simp only[yh h]
theorem iX:∀ {ks:Jf T} {d:Jp},(∀x∈ks,x.depth<=d)->T.depths ks<=d
 | [],_,_=>KY _
 | x::ks,d,h=>by
  have h1:=h x (.head _);have h2:=iX λy hy=>h y (.tail _ hy)
  simp only[T.depths]; omega
theorem nZ {h:Kg}{js:Jf T}{us:Jf Jh}(r:IsTs h js us):∀is:Jf Jp,(∀i∈is,i < js.length)->IsTs h (is.map λi=>js.getD i (.int 0)) (is.map λi=>us.getD i .none)
 | [],_=>.nil
 | i::is,hl=>by
  have hi:=hl i (.head _);have hi':i < us.length:=by rw[<- r.length]; exact hi
  have e1:js.getD i (.int 0)=js[i]:=by simp[hi]
  have e2:us.getD i .none=us[i]:=by simp[hi']
  have:=r.get i hi hi';refine .cons ?_ (nZ r is λj hj=>hl j (.tail _ hj))
  show IsT h (js.getD i (.int 0)) (us.getD i .none);rw[e1,e2]; exact this
theorem vO {h:Kg}{lt:Jp->Jp->JW}{js:Jf T}{us:Jf Jh}(r:IsTs h js us):IsTs h (dN lt (.int 0) js) (dN lt Ke us):=by
 unfold dN;rw[<- r.length];split
 ·exact r
 ·exact nZ r _ λi hi=>kY (by omega) i hi
section
variable{prog:JY}{w:J6}{A:J1}{E:Jh->Jk->Prop}{s:Jk}
theorem mJ {Q:Jf Jh->Jk->Prop}{r:Jq}{a b c:Jy}{t u v:SI}{n:Jp}(hh:A.handled=gV)(hr:Sg s.heap r a b c t u v)(hsmall:Nq a b c=true)
  (hn:Ld a b c=n) (hlen:n<=2 ^ 24)
  (hQ:∀h' tk (acc:JV Jh),(∀b o,s.heap.get? b=ba o->h'.get? b=ba o)->s.heap.objs.size<=h'.objs.size->On (λi v=>∃t,v=.int (a+i*c) t) acc n->Q acc.toList { s with heap:=h',toks:=tk }):wpAny (model prog w) A (collect (.ref r)) Q E s:=by
 unfold collect;refine Jg (M0 (KA F.entry_proto_collect ?_));rw[Ks F.plain_proto_collect _];show wpAny _ A.in1 (newList [] >>= λl=>again (.builtin "list.__iadd__" ⟨[l,.ref r],[]⟩)) _ _ s
 refine Jg (J7 ?_);refine Jm ⟨Lh F.plain_list_iadd _,KA F.entry_list_iadd ?_⟩;rw[Ks F.plain_list_iadd _];show wpAny _ A.in1 (KW (.ref s.heap.objs.size) (.ref r) (.ref s.heap.objs.size)) _ _ _;have hS:(s.heap.push { cls:=.type "list",data:=.seq ([]:Jf Jh).toArray }).get? s.heap.objs.size=ba { cls:=.type "list",data:=.seq #[] 0 }:=JA _ rfl;have fin':∀s',(∃h' tk acc c',s'={ s with heap:=h',toks:=tk }/\(∀b o,s.heap.get? b=ba o->h'.get? b=ba o)/\h'.get? s.heap.objs.size=ba { cls:=.type "list",dict:=gV,data:=.seq acc c',slots:=#[] }/\On (λi v=>∃t,v=.int (a+i*c) t) acc n)->wpAny (model prog w) A (do
   let o <- load s.heap.objs.size
   match o.data with
   | .seq xs _=>pure xs.toList
   | _=>unsupported "internal:collect") Q E s':=by
  rintro s' ⟨h',tk,acc,c',rfl,hk,hS',hacc⟩;exact Jg (Oh hS' (Jm (hQ h' tk acc hk (LG (JE hS')) hacc)))
 refine Lc (wpAny_extend_range (A:=A) (s:={ s with heap:=s.heap.push { cls:=.type "list",data:=.seq ([]:Jf Jh).toArray } }) (R:=λr s'=>r=.ok (.ret (.ref s.heap.objs.size))/\∃h' tk acc c',s'={ s with heap:=h',toks:=tk }/\(∀b o,s.heap.get? b=ba o->h'.get? b=ba o)/\h'.get? s.heap.objs.size=ba { cls:=.type "list",dict:=gV,data:=.seq acc c',slots:=#[] }/\On (λi v=>∃t,v=.int (a+i*c) t) acc n) hh (Jj _ hr) hsmall hn hlen _ _ 0 hS λh' tk acc' c' hk hS' hacc=>⟨rfl,h',tk,acc',c',rfl,λb o e=>hk b o (JM (JE e)) (Jj _ e),hS',hacc⟩) (λfin s' h=>?_) (λe s' h=>?_)
 ·cases fin with
  | done f=>
   obtain⟨e,h⟩:=h;cases e;exact fin' s' h
  | again c'=>exact⟨h.1,MW h.2 λr s'' hr=>by obtain⟨rfl,hr⟩:=hr; exact fin' s'' hr⟩
 ·exact absurd h.1 (by simp)
theorem jw {Q₁:Jh->Jk->Prop}{r:Jq}{a b c:Jy}{t u v:SI}{n:Jp}(hh:A.handled=gV)(hr:Sg s.heap r a b c t u v)(hsmall:Nq a b c=true)
  (hn:Ld a b c=n) (hlen:n<=2 ^ 24)
  (h:∀(h':Kg) (tk:Jp) (acc:JV Jh),(∀b o,s.heap.get? b=ba o->h'.get? b=ba o)->s.heap.objs.size<=h'.objs.size->On (λi v=>∃t,v=.int (a+i*c) t) acc n->Q₁ (.ref h'.objs.size) { s with heap:=h'.push { cls:=.type "tuple",data:=.seq acc },toks:=tk }) :
  codeAny (model prog w) A (.call (.builtin "tuple.__new__") ⟨[.type "tuple",.ref r],[]⟩) (wants Q₁ E) s:=by
 refine Ow ?_;show wpAny _ A.in1 (do checkBuiltinCall "tuple.__new__" ⟨[.type "tuple",.ref r],[]⟩; again (.builtin "tuple.__new__" ⟨[.type "tuple",.ref r],[]⟩)) _ _ s
 refine Jg (MU (F.newCall_tuple_1 _) (Jm ⟨Lh F.plain_tuple_new _,KA F.entry_tuple_new ?_⟩));rw[Ks F.plain_tuple_new _];have hsub:=PySem.sub_tuple_self;have hinit:=PySem.init_tuple_lookup;have hmh:=PySem.madeHere_tuple;have hTI:s.TypeIs (.ref r) "range":=⟨_,hr,rfl⟩;have hh1:A.in1.handled=gV:=by simp[hh]
 wp_walk using Mg hTI,mJ (A:=A.in1) hh1 hr hsmall hn hlen
 intro h' tk acc hk hle hacc;show wpAny _ _ (K8 acc.toList.toArray >>= λv=>ret v) _ _ _
 unfold K8;refine Jg (J7 ?_ (by show acc.toList.toArray.size<=sizeLine; simp only[Array.toArray_toList]; rw[hacc.1,Ki]; assumption))
 refine Jm ?_;have e:acc.toList.toArray=acc:=by simp
 rw[e];exact h h' tk acc hk hle hacc
theorem jx {Q:Jh->Jk->Prop}{r:Jq}{a b c:Jy}{t u v:SI}{n:Jp}(hh:A.handled=gV)(hr:Sg s.heap r a b c t u v)(hsmall:Nq a b c=true)
  (hn:Ld a b c=n) (hlen:n<=2 ^ 24)
  (hQ:∀(h':Kg) (tk:Jp) (acc:JV Jh),(∀b o,s.heap.get? b=ba o->h'.get? b=ba o)->s.heap.objs.size<=h'.objs.size->On (λi v=>∃t,v=.int (a+i*c) t) acc n->Q (.ref h'.objs.size) { s with heap:=h'.push { cls:=.type "tuple",data:=.seq acc },toks:=tk }) :
  wpAny (model prog w) A (call (.type "tuple") [.ref r]) Q E s:=by
 refine callType_codes (Q₁:=λobj s₁=>s₁.TypeIs obj "tuple"/\Q obj s₁) F.called_tuple (F.typeCall_tuple_1 _) F.entry_object_init
  (jw (by simp[hh]) hr hsmall hn hlen λh' tk acc hk hle hacc=>⟨⟨_,JA _ rfl,rfl⟩,hQ h' tk acc hk hle hacc⟩) λobj s₁ h₁=>?_
 exact⟨h₁.1,F.args_object_init_2 obj _,object_init_meets F.called_tuple.init.lookup F.called_tuple.made (by decide) prog w A.in1 _ s₁ ⟨h₁.1,rfl,h₁.2⟩⟩
theorem qQ {a:Jq}{o:K2}{es:JV (Jy×Jh)}{ep:Jp}{t:KG}{ks:Jf T}{Q:Jh->Jk->Prop}(hh:A.handled=gV)(hu:A.units+12 < cLine)(ho:s.heap.get? a=ba o)(hex:o.ExactSet)(hd:o.data=.set es ep t)(hz:es.size<=sizeLine)(fit:t.fits es.size=true)(led:t.led = !fA w)(pl:t.plain=true->es.size=0\/fK t es.size=true)
  (hT:IsTs s.heap ks (es.toList.map (·.2))) (hok:lG ks=true)
  (h:∀D h' tk dr c us,(∀b u,s.heap.get? b=ba u->h'.get? b=ba u)->s.heap.objs.size<=D->h'.get? D=ba (seqObj "list" us.toArray c)->IsTs s.heap (eW ks) us->us.Perm (es.toList.map (·.2))->Q (.ref D) { s with heap:=h',toks:=tk,drawn:=dr }) :
  wpAny (model prog w) A (call (.builtin "sorted") [.ref a]) Q E s:=by
 simp only[lG,Jo,JK]at hok;obtain⟨⟨⟨hnum,halt⟩,hnd⟩,hok⟩:=hok;have hN:Nice ks:=⟨λx hx=>JO.mp hnum x hx,halt,hnd⟩
 refine MB RS RB RC (RD _) ?_;unfold Mn.«sorted»;refine Jg (m:=checkCount "sorted" 1 1 _) (Jm ?_);refine Jg (qt (A:=A.in1) (by simp[hh]) ho hex hd hz fit led pl λh1 tk dr us kp hle hP=>?_)
 obtain⟨js,hjs,hperm⟩:=vN hP hT;simp only[ir,Jo,JK]at hok;obtain⟨⟨h64,hdp⟩,hok⟩:=hok;have hl:us.length=ks.length:=by rw[hjs.length.symm,hperm.length_eq]
 have hJ:Nice js:=hN.of_sub (λx hx=>hperm.mem_iff.mp hx) (hperm.nodup_iff.mpr hN.nd)
 have hsk:2<=us.length->(sI js).isSome=true:=λh2=>by
  have h3:(sI ks).isSome=true:=by
   rcases La _ _ ▸ hok with h|h
   ·simp only[JK]at h; omega
   ·simp only[Jo]at h; exact h.1
  rw[yi hperm]; exact h3
 have hdj:T.depths js<=c7:=iX λx hx=>by
  obtain⟨i,hi,rfl⟩:=Ms.mp (hperm.mem_iff.mp hx);exact JF (cW i hi) hdp
 refine Jg (N5 ?_ (by rw[Ki]; omega))
 have hoL:(h1.push (seqObj "list" us.toArray 0)).get? h1.objs.size=ba (seqObj "list" us.toArray 0):=JA _ rfl;have kp2:∀b o,s.heap.get? b=ba o->(h1.push (seqObj "list" us.toArray 0)).get? b=ba o:=λb o e=>Jj _ (kp b o e)
 have hne:∀b o,s.heap.get? b=ba o->b≠h1.objs.size:=λb o e=>JM (JR (JE e) hle)
 show wpAny _ _ _ _ _ { s with heap:=h1.push (seqObj "list" us.toArray 0),toks:=tk,drawn:=dr }
 refine Jg (Ku (Kx Q1 ⟨_,hoL,rfl⟩ QD ?_ (Q6 _)));refine nS (s:={ s with heap:=h1.push (seqObj "list" us.toArray 0),toks:=tk,drawn:=dr }) (lt:=qH js) (κ:=uf ((sI js).getD 0)) hoL (by omega) (λh2 h' hk Q hq=>?_) (λh2 h' hk i j hi hj Q hq=>?_) λh' c hk hD=>?_
 ·obtain⟨c,hc⟩:=Km.mp (hsk h2);rw[hc]at hq;exact xX (s:={ s with heap:=h',toks:=tk,drawn:=dr }) (hjs.kept λb o _ e=>hk b o (hne b o e) (kp2 b o e)) h2 hc hq
 ·obtain⟨c,hc⟩:=Km.mp (hsk h2);rw[hc];have hjl:=hjs.length;have hi':i < js.length:=by omega
  have hj':j < js.length:=by omega
  have g:=(hjs.kept (h':=h') λb o _ e=>hk b o (hne b o e) (kp2 b o e))
  have e1:us.getD i Ke=us[i]:=by simp[hi]
  have e2:us.getD j Ke=us[j]:=by simp[hj]
  rw[e1,e2];have b1:=cW (ks:=js) i hi';have b2:=cW (ks:=js) j hj';exact uh (s:={ s with heap:=h',toks:=tk,drawn:=dr }) (d:=c7) (c:=c) (by rw[br,br]; unfold c7; omega) (JF ‹_› ‹_›) (JF ‹_› ‹_›) (g.get i hi' hi) (g.get j hj' hj) (eA hJ.lt hi' hj') (uj hc (Kq hi') (Kq hj')) hq
 ·refine⟨_,rfl,Jm ⟨_,rfl,h _ h' tk dr c (dN (qH js) Ke us) (λb o e=>hk b o (hne b o e) (kp2 b o e)) hle hD ?_ (eC.trans hP)⟩⟩
  rw[<- vL hN hperm];exact vO hjs
end
section
variable{X:Cx}{pins:Jf (Jq×K2)}{σ:L2.St}{H:Hp}{s:Jk}{A:Jf Jq}{S:aa}
theorem n0:∀as:Jf Jq,Vals (as.map V.ref) (as.map J3)
 | []=>.nil
 | _::as=>.cons rfl (n0 as)
theorem yj:∀ {ks:Jf T} {as:Jf Jq},RelL X.K A H (T.ws ks) (as.map V.ref)->∀b∈as,∃k∈ks,Rel X.K A H k.w (.ref b)
 | [],[],_,_,h=>nomatch h
 | [],_::_,r,_,_=>nomatch r
 | _::_,[],r,_,_=>nomatch r
 | k::ks,a::as,r,b,h=>by
  cases r with
  | cons r1 r2=>
   rcases JP.mp h with rfl|h
   ·exact⟨k,.head _,r1⟩
   ·obtain⟨k',h1,h2⟩:=yj r2 b h;exact⟨k',.tail _ h1,h2⟩
theorem yk (I:Inv X pins σ H s):∀ {js:Jf T} {us:Jf Jh},IsTs s.heap js us->(∀u∈us,∃k b,u=J3 b/\Rel X.K A H (T.w k) (.ref b))->∃vs,RelL X.K A H (T.ws js) vs/\Vals vs us
 | _,_,.nil,_=>⟨[],.nil,.nil⟩
 | _,_,.cons a b,h=>by
  obtain⟨k,c,rfl,r⟩:=h _ (.head _);obtain⟨vs,h1,h2⟩:=yk I b λu hu=>h u (.tail _ hu)
  have:IsT s.heap k (.ref c):=o7 I k r rfl;obtain rfl:=a.inj this;exact⟨.ref c::vs,.cons r h1,.cons rfl h2⟩
theorem qR (hh:X.A.handled=gV)(hu:X.A.units+12 < cLine):LCall X (.builtin "sorted") du:=by
 intro pins s σ H A S xs vs us w S' I so rl rv e;unfold du at e;split at e
 ·rename_i i;obtain⟨a,ea,rfl⟩:=kS (xs:=[]) rl rv;split at e
  ·rename_i ks hs;split at e
   ·rename_i hb;cases e;unfold E3 at hs;split at hs
    ·rename_i us hx;cases hs;obtain⟨o,φ,as,q,⟨hex,es,ep,t,hd,hz,fit,led,pl,he⟩,r⟩:=so.obj i _ a hx ea;have ho:s.heap.get? a=ba o:=(show ObjOk X.prog X.w H s.heap a (.frz o (.ext φ))from I.hok a _ q).1
     have hT:IsTs s.heap ks (es.toList.map (·.2)):=by rw[he]; exact fM I ks r (n0 as)
     refine qQ hh hu ho hex hd hz fit led pl hT hb λD h' tk dr c us hk hD oD hU hP=>?_
     obtain⟨vs,h1,h2⟩:=yk I hU λu hu=>by
      have:=hP.mem_iff.mp hu;rw[he]at this;obtain⟨b,hb,rfl⟩:=JT.mp this;obtain⟨k,_,rk⟩:=yj r b hb;exact⟨k,b,rfl,rk⟩
     have hl:us.length<=sizeLine:=by rw[hP.length_eq,Ji,JB]; exact hz
     exact iR (u:=.lst vs) I so hk hD ⟨by rw[L2.Vals.length h2]; exact hl,us,c,h2,oD⟩ λhn=>⟨_,bv,h1.mono (dt hn)⟩
    ·cases hs
   ·cases e
  ·cases e
 ·cases e
theorem sP (hh:X.A.handled=gV)(hu:X.A.units+12 < cLine):LCall X (.type "set") lF:=by
 intro pins s σ H A S xs vs us w S' I so rl rv e;unfold lF at e;split at e
 ·rename_i i;obtain⟨a,ea,rfl⟩:=kS (xs:=[]) rl rv;split at e
  ·rename_i ws hw;split at e
   ·rename_i ks hs;split at e
    ·rename_i hb;rw[Jl]at e;obtain⟨us,hp,e⟩:=e;cases e;have hkk:∀x∈ks,fL x=true/\x.isTup=true/\x.depth<=aH:=λx hx=>by
      have:=JO.mp hb x hx;simp only[yf,Jo,JK]at this;exact⟨this.1.1,this.1.2,this.2⟩
     obtain⟨vs',h1,r1⟩:=cR so hw ea;obtain⟨its,rv',p,hzz⟩:=I.list h1;have hws:T.ws ks=ws:=W.ts_w hs;rw[<- hws]at r1;have hT:IsTs s.heap ks its:=fM I ks r1 rv';obtain⟨res,hplay,hkeys,hled,hpl⟩:=vM hp (!fA X.w);have itm:∀(j:Jp) (u:Jh),its[j]?=ba u->∃k b,ks[j]?=ba k/\u=J3 b/\Rel X.K A H (T.w k) (.ref b):=λj u hj=>by
      have hjl:=(Ju.mp hj).1;have hjk:j < ks.length:=by rw[hT.length]; exact hjl
      have hkw:(T.ws ks)[j]?=ba (T.w ks[j]):=by rw[yg,Jr,Jw hjk]; rfl
      obtain⟨v,hv,rkv⟩:=r1.get hkw;obtain⟨u',hu',ruv⟩:=L2.Vals.get rv' hv;rw[hj]at hu';cases hu';have ht:=(hkk _ (Kq hjk)).2.1;generalize hk0:ks[j]=k0 at rkv ht;cases k0 with
      | int _=>cases ht
      | str _=>cases ht
      | tup ys=>
       cases rkv with
       | tup q1 q2=>
        obtain rfl:u=J3 _:=ruv;exact⟨.tup ys,_,by rw[<- hk0]; exact Jw hjk,rfl,.tup q1 q2⟩
     refine vF (ks:=ks) (res:=res) hh p.isList (by simpa using hT) (λx hx=>⟨(hkk x hx).1,(hkk x hx).2.2⟩) (λj v hj=>?_) (by show _+aH < cLine; rw[br,br,br]; unfold aH; omega) (by rw[qM ks _ λx hx=>(hkk x hx).1]; exact hplay) λh' tk zs ep ho ez hok hz hy hk=>?_
     ·obtain⟨k,b,_,hb,_⟩:=itm j v (by simpa using hj)
      exact⟨b,hb⟩
     ·have ezt:zs.toList.map (λz=>z.2.1)=us:=by
       rw[<- hkeys,<- ez,Ob,LZ]; rfl
      have hsz:res.1.size=zs.size:=by rw[<- ez,KP]
      refine iR (dr:=s.drawn) (u:=.frz (lA X.w zs ep res.2) (.ext λh=>h.get? s.heap.objs.size=ba (lA X.w zs ep res.2))) I so hk (Js _) ⟨ho,ho,⟨_,ho⟩,λh1 h2 q k=>k _ q⟩ λhn=>⟨_,_,zs.toList.map λz=>z.2.2,bv,⟨⟨rfl,rfl,rfl⟩,zs.map zV,ep,res.2,rfl,?_,?_,hled,?_,?_⟩,?_⟩
      ·rw[KP,Ki];simp only[dM,Jo,JK]at hok;have:=hok.2; exact JF ‹_› (JJ rfl)
      ·rw[KP];simp only[dM,Jo,JK]at hok;exact hok.1.1
      ·rw[KP,<- hsz]; exact λz=>.inr (hpl z)
      ·rw[Ob,LZ,LZ]; rfl
      ·rw[<- ezt];have all:∀z∈zs.toList,Rel X.K (A++[s.heap.objs.size]) (cj H s.heap.objs.size (.frz (lA X.w zs ep res.2) (.ext λh=>h.get? s.heap.objs.size=ba (lA X.w zs ep res.2)))) (T.w z.2.1) (.ref z.2.2):=λz hz'=>by
        obtain⟨j,g1,g2⟩:=hy z hz';obtain⟨k,b,g3,g4,g5⟩:=itm j _ (by simpa using g2)
        rw[g1]at g3;cases g3; cases g4
        exact g5.mono (dt hn)
       clear hy ezt;generalize zs.toList=l at all
       induction l with
       | nil=>exact .nil
       | cons z l ih=>exact .cons (all z (.head _)) (ih λy hy=>all y (.tail _ hy))
    ·cases e
   ·cases e
  ·cases e
 ·cases e
theorem pf (hh:X.A.handled=gV):LCall X (.type "tuple") lH:=by
 intro pins s σ H A S xs vs us w S' I so rl rv e;unfold lH at e;split at e
 ·rename_i i;split at e
  ·rename_i lo hi hr;split at e
   ·rename_i hb;cases e;obtain⟨a,ea,rfl⟩:=kS (xs:=[]) rl rv;obtain⟨b1,b2,b3,b4,b5⟩:=hb;have hH:H a=ba (.rng lo hi):=by
     unfold A6 at hr;split at hr
     ·rename_i hx; cases hr; exact so.obj i _ a hx ea
     ·cases hr
    obtain⟨t,u,v,ho⟩:=I.hok a _ hH;have hn:Ld lo hi 1=((hi - lo).toNat:Jp):=by rw[Pc]; split <;> omega
    refine jx hh ho (Rt b1 b2 b3 b4) hn b5 λh' tk acc hk hle hacc=>?_
    have hv:Vals ((Kh (hi - lo).toNat).map λ(k:Jp)=>V.int (lo+(k:Jy))) acc.toList:=by
     refine oY (by rw[Ji,Kj,JB,hacc.1]) λi v u e1 e2=>?_
     rw[Jr,Jl]at e1;obtain⟨k,e1,rfl⟩:=e1;obtain⟨hk,rfl⟩:=Ju.mp e1;obtain⟨t,rfl⟩:=hacc.2 i u (by rw[<- KI]; exact e2)
     exact⟨t,by simp⟩
    have hnn:H h'.objs.size=gV:=I.hok.fresh hle;refine⟨.ref h'.objs.size,_,A,I.laid (a:=h'.objs.size) (o:=.tup ((Kh (hi - lo).toNat).map λ(k:Jp)=>V.int (lo+(k:Jy)))) (t':=tk) (λb o e=>Jj _ (hk b o e)) hle ⟨by simpa using b5,acc.toList,hv,?_⟩,rfl,dG (.inl hnn),so.lay hnn,.tup (.inl (.inl bv)) (oZ _)⟩
    exact⟨_,JA _ rfl,rfl,0,by simp⟩
   ·cases e
  ·exact j6 pins s σ H A S _ vs us w S' I so rl rv e
 ·exact j6 pins s σ H A S _ vs us w S' I so rl rv e
end
section
variable{X:Cx}{pins:Jf (Jq×K2)}{σ:L2.St}{H:Hp}{s:Jk}{A:Jf Jq}{S:aa}
theorem vP (hh:X.A.handled=gV)(hu:X.A.units+12 < cLine):LCall X (.builtin "min") A7:=by
 intro pins s σ H A S xs vs us w S' I so rl rv e;cases rl with
 | nil=>cases e
 | cons r t=>
  cases t with
  | cons _ _=>cases r <;> cases e
  | nil=>
   cases rv with
   | cons ru rv2=>
    cases rv2;cases r with
    | ref ea=>
     simp only[A7]at e;split at e
     ·rename_i ws hw;split at e
      ·rename_i ks hk;split at e
       ·rename_i hc;rw[Jl]at e;obtain⟨w',e1,e2⟩:=e;cases e2;obtain⟨vs',h1,r1⟩:=cR so hw ea;obtain⟨its,rv1,p,hz⟩:=I.list h1;obtain rfl:_=J3 _:=ru;have hws:T.ws ks=ws:=W.ts_w hk;have hT:IsTs s.heap ks its:=fM I ks (hws ▸ r1) rv1;have hl:its.length=ks.length:=hT.length.symm;have hlw:ws.length=ks.length:=by rw[r1.length,L2.Vals.length rv1,hl]
        have hn:0 < ks.length:=by
         have:=(Ju.mp e1).1;omega
        refine xU (items:=its.toArray) (bt:=qH ks) hh p.isList (by simpa [hl]using hn) (λi j vi vj s' Q E hk' hi hj hq=>?_) λv h' tk hv hk'=>?_
        ·have hi':i < ks.length:=by
          have:=(K1.mp hi).1
          simpa [hl]using this
         have hj':j < ks.length:=by
          have:=(K1.mp hj).1
          simpa [hl]using this
         have g:=hT.kept (h':=s'.heap) λb o _ e=>hk' b o e
         have e1:vi=its[i]'(by omega):=by
          have:=(K1.mp hi).2
          simpa using this.symm
         have e2:vj=its[j]'(by omega):=by
          have:=(K1.mp hj).2
          simpa using this.symm
         subst e1 e2;have b1:=cW (ks:=ks) i hi';have b2:=cW (ks:=ks) j hj';exact FW c7 _ _ _ _ X.A.in1 s' _ (by omega) (by omega) (g.get i hi' (by omega)) (g.get j hj' (by omega)) (by rw[br]; unfold c7; omega) (eA hc.2 hi' hj') X.prog X.w _ _ hq
        ·have hv':its[o9 ks]?=ba v:=by
          have:its.toArray.size=ks.length:=by simpa using hl
          rw[this]at hv
          simpa [o9]using hv
         obtain⟨v',q1,q2⟩:=r1.get e1;obtain⟨u',q3,q4⟩:=L2.Vals.get rv1 q1;rw[hv']at q3;cases q3;exact⟨v',H,A,I.kept hk',q4,.refl,so,q2⟩
       ·cases e
      ·cases e
     ·cases e
    | _=>cases e
theorem n6:∀ {ws:Jf W} {bs:Jf JW},iu ws=ba bs->ws=bs.map W.bl
 | [],bs,h=>by cases h; rfl
 | .bl b::ws,bs,h=>by
  simp only[iu,Jl]at h;obtain⟨r,h1,h2⟩:=h;subst h2;rw[n6 h1]; rfl
 | .non::_,_,h|.int _::_,_,h|.str _::_,_,h|.tup _::_,_,h|.ref _::_,_,h=>by cases h
theorem sQ {bs:Jf JW}{vs:Jf V}{us:Jf Jh}(r:RelL X.K A H (bs.map W.bl) vs)(rv:Vals vs us):us=bs.map Mp:=by
 induction bs generalizing vs us with
 | nil=>cases r; cases rv; rfl
 | cons b bs ih=>
  cases r with
  | cons r1 r2=>
   cases rv with
   | cons v1 v2=>
    cases r1;obtain rfl:_=Mp b:=v1;rw[ih r2 v2]; rfl
theorem vQ (bs:Jf JW):(Kh bs.length).all (λi=>bs.getD i false)=bs.all id:=by
 induction bs with
 | nil=>rfl
 | cons b bs ih=>simp[Ol,Ry,P5]at ih ⊢; rw[ih]
theorem DN {id:KQ}{fb:Jf JW->JW}{g:Jf W->aa->Jn (W×aa)}(hg:∀xs S,g xs S=match xs with|[.ref i]=>(match iL S i with|some ws=>(iu ws).map λbs=>(.bl (fb bs),S)|none=>gV)|_=>gV)
  (hcall:∀ {s:Jk} {x:Jh} {Q:Jh->Jk->Prop} {E:Jh->Jk->Prop} {bs:Jf JW},wpAny (model X.prog X.w) X.A.in1 (pyIter x) (λit s₂=>∃I fp wr P St,it=.ref I/\Qr X.prog X.w X.A.in1 I fp wr bs.length P St/\St 0 s₂.heap/\TruthOf X.prog X.w X.A.in1 P (λi=>bs.getD i false)/\
   ∀h' tk,(∀b o,b∉wr->s₂.heap.get? b=ba o->h'.get? b=ba o)->Q (.bool (fb bs)) { s₂ with heap:=h',toks:=tk }) E s->wpAny (model X.prog X.w) X.A (call (.builtin id) [x]) Q E s)
  (hh:X.A.handled=gV):LCall X (.builtin id) g:=by
 intro pins s σ H A S xs vs us w S' I so rl rv e;rw[hg]at e;cases rl with
 | nil=>cases e
 | cons r t=>
  cases t with
  | cons _ _=>cases r <;> cases e
  | nil=>
   cases rv with
   | cons ru rv2=>
    cases rv2;cases r with
    | @ref ri ad ea=>
     simp only at e;split at e
     ·rename_i ws hw;rw[Jl]at e;obtain⟨bs,e1,e2⟩:=e;cases e2;obtain⟨vs',h1,r1⟩:=cR so hw ea;obtain⟨its,rv1,p,hz⟩:=I.list h1;obtain rfl:_=J3 _:=ru;rw[n6 e1]at r1;have hits:=sQ r1 rv1;refine hcall (bs:=bs) ?_;refine M3 p.isList ?_;have hlt:ad < s.heap.objs.size:=by obtain⟨_,ho,_⟩:=p.isList; exact JE ho
      have W:=QZ (prog:=X.prog) (w:=X.w) (A:=X.A.in1) hh s.heap.objs.size ad (JM hlt) its.toArray;have hsz:its.toArray.size=bs.length:=by rw[Jz,hits,Ji]
      rw[hsz]at W;refine⟨_,_,_,_,_,rfl,W,⟨⟨_,JA _ rfl,rfl,rfl⟩,?_⟩,λi v s' Q E hi hq=>?_,λh' tk hk=>?_⟩
      ·obtain⟨o,ho,hc⟩:=p.isList;exact⟨o,Jj _ ho,hc⟩
      ·have hb:bs[i]?.map Mp=ba v:=by rw[<- Jr,<- hits]; simpa using hi
       cases q:bs[i]? with
       | none=>rw[q]at hb; cases hb
       | some b=>
        rw[q]at hb;cases hb;have eb:bs.getD i false=b:=by simp[q]
        have hq:Q (bs.getD i false) s':=hq;rw[eb]at hq;exact Ly hq
      ·refine⟨.bl (fb bs),H,A,I.kept (λb o e=>hk b o (λz=>?_) (Jj _ e)),rfl,.refl,so,.bl⟩
       have hb:=JE e;rw[JC.mp z]at hb;exact KT _ hb
     ·cases e
    | _=>cases e
theorem vR (hh:X.A.handled=gV):LCall X (.builtin "all") DL:=
 DN (fb:=λbs=>bs.all id) (λxs S=>rfl) (λ{s x Q E bs} h=>call_all_walk (Lc h (λit s₂ ⟨I,fp,wr,P,St',a,b,c,d,f⟩=>⟨I,fp,wr,_,P,St',_,a,b,c,d,λh' tk hk=>by rw[vQ]; exact f h' tk hk⟩) λ_ _ e=>e)) hh
end
noncomputable abbrev FA:=Fm->aa->Jn (Jf W×aa)
noncomputable abbrev FT:=Fm->aa->Jn (JW×aa)
inductive Out where
 | nx (ρ:Fm)|rt (w:W)|bk (ρ:Fm)|ct (ρ:Fm)
noncomputable abbrev FS:=Fm->aa->Jn (Out×aa)
section
variable (X:Cx)
noncomputable def tE (f:FE):TE:=λσ H Q=>∃A ρ S w S',EnvRel X.K A H ρ σ/\StoreOk X.w X.K A H S/\f ρ S=ba (w,S')/\∀v H',EndV X.w X.K A H S' w v H'->Q v H'
noncomputable def EndB (A:Jf Jq)(H:Hp)(S':aa)(k:JW):JW->Hp->Prop:=λb H'=>b=k/\∃A',Ext X.K A H A' H'/\StoreOk X.w X.K A' H' S'
noncomputable def tT (f:FT):TT:=λσ H Q=>∃A ρ S k S',EnvRel X.K A H ρ σ/\StoreOk X.w X.K A H S/\f ρ S=ba (k,S')/\∀b H',EndB X A H S' k b H'->Q b H'
noncomputable def DO (A:Jf Jq)(H:Hp)(S':aa)(ws:Jf W):Jf V->Hp->Prop:=λvs H'=>∃A',Ext X.K A H A' H'/\StoreOk X.w X.K A' H' S'/\RelL X.K A' H' ws vs
noncomputable def tA (f:FA):TA:=λσ H Q=>∃A ρ S ws S',EnvRel X.K A H ρ σ/\StoreOk X.w X.K A H S/\f ρ S=ba (ws,S')/\∀vs H',DO X A H S' ws vs H'->Q vs H'
noncomputable def EndS (A:Jf Jq)(H:Hp)(o:Out)(S':aa):Ends where
 nx:=λσ' H'=>∃ρ' A',o=.nx ρ'/\Ext X.K A H A' H'/\StoreOk X.w X.K A' H' S'/\EnvRel X.K A' H' ρ' σ'
 rt:=λv H'=>∃w A',o=.rt w/\Ext X.K A H A' H'/\StoreOk X.w X.K A' H' S'/\Rel X.K A' H' w v
 bk:=λσ' H'=>∃ρ' A',o=.bk ρ'/\Ext X.K A H A' H'/\StoreOk X.w X.K A' H' S'/\EnvRel X.K A' H' ρ' σ'
 ct:=λσ' H'=>∃ρ' A',o=.ct ρ'/\Ext X.K A H A' H'/\StoreOk X.w X.K A' H' S'/\EnvRel X.K A' H' ρ' σ'
structure Imp (E D:Ends):Prop where
 nx:∀σ H,E.nx σ H->D.nx σ H
 rt:∀v H,E.rt v H->D.rt v H
 bk:∀σ H,E.bk σ H->D.bk σ H
 ct:∀σ H,E.ct σ H->D.ct σ H
noncomputable def tS (f:FS):TS:=λD σ H=>∃A ρ S o S',EnvRel X.K A H ρ σ/\StoreOk X.w X.K A H S/\f ρ S=ba (o,S')/\Imp (EndS X A H o S') D
noncomputable abbrev GE (e:JQ)(f:FE):Prop:=PE X e (tE X f)
noncomputable abbrev GT (e:JQ)(f:FT):Prop:=PT X e (tT X f)
noncomputable abbrev GW (e:JQ)(f:FT):Prop:=PW X e (tT X f)
noncomputable abbrev GA (es:Jf JQ)(f:FA):Prop:=PA X es (tA X f)
noncomputable abbrev GS (st:L0)(f:FS):Prop:=PS X st (tS X f)
noncomputable abbrev GSs (sts:Jf L0)(f:FS):Prop:=PSs X sts (tS X f)
end
theorem Imp.trans {E D F:Ends}(a:Imp E D)(b:Imp D F):Imp E F:=⟨λ_ _ h=>b.nx _ _ (a.nx _ _ h),λ_ _ h=>b.rt _ _ (a.rt _ _ h),λ_ _ h=>b.bk _ _ (a.bk _ _ h),λ_ _ h=>b.ct _ _ (a.ct _ _ h)⟩
section
variable{X:Cx}
theorem GE.of {e:JQ}{t:TE}{f:FE}(h:PE X e t)(hf:∀(σ:L2.St) (H:Hp) (A:Jf Jq) (ρ:Fm) (S:aa) (w:W) (S':aa),EnvRel X.K A H ρ σ->StoreOk X.w X.K A H S->f ρ S=ba (w,S')->∀Q:VK,(∀v H',EndV X.w X.K A H S' w v H'->Q v H')->t σ H Q):GE X e f:=
 λpins s σ H Q I ⟨A,ρ,S,w,S',er,so,e1,hq⟩=>h pins s σ H Q I (hf σ H A ρ S w S' er so e1 Q hq)
theorem GT.of {e:JQ}{t:TT}{f:FT}(h:PT X e t)(hf:∀(σ:L2.St) (H:Hp) (A:Jf Jq) (ρ:Fm) (S:aa) (k:JW) (S':aa),EnvRel X.K A H ρ σ->StoreOk X.w X.K A H S->f ρ S=ba (k,S')->∀Q:JW->Hp->Prop,(∀b H',EndB X A H S' k b H'->Q b H')->t σ H Q):GT X e f:=
 λpins s σ H Q I ⟨A,ρ,S,w,S',er,so,e1,hq⟩=>h pins s σ H Q I (hf σ H A ρ S w S' er so e1 Q hq)
theorem GW.of {e:JQ}{t:TT}{f:FT}(h:PW X e t)(hf:∀(σ:L2.St) (H:Hp) (A:Jf Jq) (ρ:Fm) (S:aa) (k:JW) (S':aa),EnvRel X.K A H ρ σ->StoreOk X.w X.K A H S->f ρ S=ba (k,S')->∀Q:JW->Hp->Prop,(∀b H',EndB X A H S' k b H'->Q b H')->t σ H Q):GW X e f:=
 λwh pins s σ H Q I ⟨A,ρ,S,w,S',er,so,e1,hq⟩=>h wh pins s σ H Q I (hf σ H A ρ S w S' er so e1 Q hq)
theorem GA.of {es:Jf JQ}{t:TA}{f:FA}(h:PA X es t)(hf:∀(σ:L2.St) (H:Hp) (A:Jf Jq) (ρ:Fm) (S:aa) (ws:Jf W) (S':aa),EnvRel X.K A H ρ σ->StoreOk X.w X.K A H S->f ρ S=ba (ws,S')->∀Q:Jf V->Hp->Prop,(∀vs H',DO X A H S' ws vs H'->Q vs H')->t σ H Q):GA X es f:=
 λpos pins s σ H Q I ⟨A,ρ,S,w,S',er,so,e1,hq⟩=>h pos pins s σ H Q I (hf σ H A ρ S w S' er so e1 Q hq)
theorem GS.of {st:L0}{t:TS}{f:FS}(h:PS X st t)(hf:∀(σ:L2.St) (H:Hp) (A:Jf Jq) (ρ:Fm) (S:aa) (o:Out) (S':aa),EnvRel X.K A H ρ σ->StoreOk X.w X.K A H S->f ρ S=ba (o,S')->∀D:Ends,Imp (EndS X A H o S') D->t D σ H):GS X st f:=
 λpins s σ H D I ⟨A,ρ,S,o,S',er,so,e1,hq⟩=>h pins s σ H D I (hf σ H A ρ S o S' er so e1 D hq)
theorem GSs.of {st:Jf L0}{t:TS}{f:FS}(h:PSs X st t)(hf:∀(σ:L2.St) (H:Hp) (A:Jf Jq) (ρ:Fm) (S:aa) (o:Out) (S':aa),EnvRel X.K A H ρ σ->StoreOk X.w X.K A H S->f ρ S=ba (o,S')->∀D:Ends,Imp (EndS X A H o S') D->t D σ H):GSs X st f:=
 λpins s σ H D I ⟨A,ρ,S,o,S',er,so,e1,hq⟩=>h pins s σ H D I (hf σ H A ρ S o S' er so e1 D hq)
theorem EndV.after {A A1:Jf Jq}{H H1:Hp}{S':aa}{w:W}{v:V}{H':Hp}(e:Ext X.K A H A1 H1)(h:EndV X.w X.K A1 H1 S' w v H'):EndV X.w X.K A H S' w v H':=by
 obtain⟨A',x,y,z⟩:=h;exact⟨A',e.trans x,y,z⟩
theorem EndB.after {A A1:Jf Jq}{H H1:Hp}{S':aa}{k b:JW}{H':Hp}(e:Ext X.K A H A1 H1)(h:EndB X A1 H1 S' k b H'):EndB X A H S' k b H':=by
 obtain⟨h1,A',x,y⟩:=h;exact⟨h1,A',e.trans x,y⟩
theorem EndS.after {A A1:Jf Jq}{H H1:Hp}{S':aa}{o:Out}(e:Ext X.K A H A1 H1):Imp (EndS X A1 H1 o S') (EndS X A H o S'):=
 ⟨λ_ _ ⟨ρ',A',a,b,c,d⟩=>⟨ρ',A',a,e.trans b,c,d⟩,λ_ _ ⟨ρ',A',a,b,c,d⟩=>⟨ρ',A',a,e.trans b,c,d⟩,λ_ _ ⟨ρ',A',a,b,c,d⟩=>⟨ρ',A',a,e.trans b,c,d⟩,λ_ _ ⟨ρ',A',a,b,c,d⟩=>⟨ρ',A',a,e.trans b,c,d⟩⟩
noncomputable def fC (w:W):FE:=λ_ S=>ba (w,S)
noncomputable def fV (i:Jp):FE:=λρ S=>match ρ[i]? with
 | some (ba w)=>ba (w,S)
 | _=>gV
theorem qS {e:JQ}{v:V}{w:W}(h:PE X e (tC v))(r:∀A H,Rel X.K A H w v):GE X e (fC w):=
 GE.of h λσ H A ρ S w' S' er so e Q hq=>by cases e; exact hq _ _ (.here so (r A H))
theorem HP {i:Jp}{e:JQ}(h:PE X e (C3 i)):GE X e (fV i):=GE.of h λσ H A ρ S w S' er so e Q hq=>by
 unfold fV at e;split at e
 ·rename_i w' hw;cases e;obtain⟨v,h1,h2⟩:=er.2 i _ hw;exact⟨v,h1,hq _ _ (.here so h2)⟩
 ·cases e
noncomputable def Bb (g:W->W->aa->Jn (W×aa))(fa fb:FE):FE:=λρ S=>match fa ρ S with
 | some (x,S1)=>match fb ρ S1 with
  | some (y,S2)=>g x y S2
  | none=>gV
 | none=>gV
theorem Ha {fa fb:FE}{g:W->W->aa->Jn (W×aa)}{ρ:Fm}{S:aa}{r:W×aa}(e:Bb g fa fb ρ S=ba r):∃x S1 y S2,fa ρ S=ba (x,S1)/\fb ρ S1=ba (y,S2)/\g x y S2=ba r:=by
 unfold Bb at e;split at e
 ·rename_i x S1 h1;split at e
  ·rename_i y S2 h2;exact⟨x,S1,y,S2,h1,h2,e⟩
  ·cases e
 ·cases e
theorem iY {fa fb:FE}{ρ:Fm}{S S1 S2:aa}{x y:W}{σ:L2.St}{H:Hp}{A:Jf Jq}{R:V->V->Hp->Prop}(er:EnvRel X.K A H ρ σ)(so:StoreOk X.w X.K A H S)(h1:fa ρ S=ba (x,S1))(h2:fb ρ S1=ba (y,S2))
  (h:∀a b H2 A2,Ext X.K A H A2 H2->StoreOk X.w X.K A2 H2 S2->Rel X.K A2 H2 x a->Rel X.K A2 H2 y b->R a b H2):tE X fa σ H λa H1=>tE X fb σ H1 λb H2=>R a b H2:=by
 refine⟨A,ρ,S,x,S1,er,so,h1,λa H1 ⟨A1,e1,o1,r1⟩=>?_⟩
 refine⟨A1,ρ,S1,y,S2,er.mono e1,o1,h2,λb H2 ⟨A2,e2,o2,r2⟩=>?_⟩
 exact h a b H2 A2 (e1.trans e2) o2 (r1.mono e2) r2
theorem LOp.opr {f:Jh->Jh->RI Jh}{g:W->W->aa->Jn (W×aa)}(h:LOp X f g):OpR X f (λa b H Q=>∃A S x y w S',StoreOk X.w X.K A H S/\Rel X.K A H x a/\Rel X.K A H y b/\g x y S=ba (w,S')/\∀v H',EndV X.w X.K A H S' w v H'->Q v H'):=by
 intro pins s σ H a b u v Q I ru rv ⟨A,S,x,y,w,S',so,rx,ry,e,hq⟩;exact b8 (h pins s σ H A S x y a b u v w S' I so rx ru ry rv e) λu' s' ⟨v',H',A',I',r',e1,o1,z1⟩=>⟨v',H',I',r',hq v' H' ⟨A',e1,o1,z1⟩⟩
theorem Cw {a b:JQ}{op:PH}{pos:LK}{fa fb:FE}{g:W->W->aa->Jn (W×aa)}(ho:LOp X (binaryOp op) g)(ha:GE X a fa)(hb:GE X b fb):GE X (.BinOp a op b pos) (Bb g fa fb):=
 GE.of (Fq ho.opr ha hb) λσ H A ρ S w S' er so e Q hq=>by
  obtain⟨x,S1,y,S2,h1,h2,h3⟩:=Ha e;exact iY er so h1 h2 λa b H2 A2 e2 o2 r1 r2=>⟨A2,S2,x,y,w,S',o2,r1,r2,h3,λv H' z=>hq v H' (z.after e2)⟩
noncomputable def ym (fa:FE):FE:=λρ S=>match fa ρ S with
 | some (.int i,S1)=>ba (.int (-i),S1)
 | _=>gV
theorem yn {a:JQ}{pos:LK}{fa:FE}(ha:GE X a fa):GE X (.UnaryOp .USub a pos) (ym fa):=
 GE.of (Fs Dv ha) λσ H A ρ S w S' er so e Q hq=>by
  unfold ym at e;split at e
  ·rename_i i S1 h1;cases e;refine⟨A,ρ,S,_,_,er,so,h1,λv H1 ⟨A1,e1,o1,r1⟩=>?_⟩
   cases r1;exact⟨_,rfl,hq _ _ ⟨A1,e1,o1,.int⟩⟩
  ·cases e
noncomputable def Bc (o:COp)(fa fb:FE):FE:=Bb (cU o) fa fb
theorem DP {a b:JQ}{o:COp}{pos:LK}{fa fb:FE}(hu:X.A.units+ip < cLine)(ha:GE X a fa)(hb:GE X b fb)(hm:behindInMarks o.py b=false):GE X (.Compare a [o.py] [b] pos) (Bc o fa fb):=
 GE.of (Au (qB hu o).opr ha hb hm) λσ H A ρ S w S' er so e Q hq=>by
  obtain⟨x,S1,y,S2,h1,h2,h3⟩:=Ha e;exact iY er so h1 h2 λa b H2 A2 e2 o2 r1 r2=>⟨A2,S2,x,y,w,S',o2,r1,r2,h3,λv H' z=>hq v H' (z.after e2)⟩
noncomputable def yo (f:FE):FT:=λρ S=>match f ρ S with
 | some (.bl k,S')=>ba (k,S')
 | _=>gV
theorem DQ {a b:JQ}{o:COp}{pos:LK}{fa fb:FE}(hu:X.A.units+ip < cLine)(ha:GE X a fa)(hb:GE X b fb)(hm:behindInMarks o.py b=false):GT X (.Compare a [o.py] [b] pos) (yo (Bc o fa fb)):=
 GT.of (Av (qB hu o).opr ha hb hm) λσ H A ρ S k S' er so e Q hq=>by
  unfold yo at e;split at e
  ·rename_i k' S'' h0;cases e;obtain⟨x,S1,y,S2,h1,h2,h3⟩:=Ha h0;refine iY er so h1 h2 λa b H2 A2 e2 o2 r1 r2=>⟨A2,S2,x,y,_,_,o2,r1,r2,h3,λv H' ⟨A',z1,z2,z3⟩=>?_⟩
   cases z3;exact⟨k,rfl,hq _ _ ⟨rfl,A',e2.trans z1,z2⟩⟩
  ·cases e
noncomputable def gS (f:FE):FT:=λρ S=>match f ρ S with
 | some (w,S')=>(gQ S' w).map λk=>(k,S')
 | none=>gV
theorem da {e:JQ}{f:FE}(h:GE X e f)(he:∀whole,isTrue e X.env whole=(do let v <- whole; standAt e.pos; holding [v] (truthy v))):GT X e (gS f):=by
 intro pins s σ H Q I ⟨A,ρ,S,k,S',er,so,e1,hq⟩;unfold gS at e1;split at e1
 ·rename_i w S1 h1;rw[Jl]at e1;obtain⟨k',ek,e2⟩:=e1;cases e2;refine isTrue_plain (b8 (h pins s σ H (EndV X.w X.K A H _ w) I ⟨A,ρ,S,w,_,er,so,h1,λ_ _ z=>z⟩) λv s1 ⟨x,H1,I1,r1,A1,e1,o1,z1⟩=>?_) (he _)
  exact HM I1 o1 z1 r1 ek λs' I'=>⟨H1,I',hq _ _ ⟨rfl,A1,e1,o1⟩⟩
 ·cases e1
noncomputable def yp (f g:FT):FT:=λρ S=>match f ρ S with
 | some (true,S1)=>g ρ S1
 | some (false,S1)=>ba (false,S1)
 | none=>gV
noncomputable def FX (f g:FT):FT:=λρ S=>match f ρ S with
 | some (true,S1)=>ba (true,S1)
 | some (false,S1)=>g ρ S1
 | none=>gV
noncomputable def Bd (f:FT):FT:=λρ S=>match f ρ S with
 | some (k,S1)=>ba (!k,S1)
 | none=>gV
theorem yq {f g:FT}{σ:L2.St}{H:Hp}{A:Jf Jq}{ρ:Fm}{S:aa}{k:JW}{S':aa}(er:EnvRel X.K A H ρ σ)(so:StoreOk X.w X.K A H S)(e:yp f g ρ S=ba (k,S'))(Q:JW->Hp->Prop)(hq:∀b H',EndB X A H S' k b H'->Q b H') :
  Fa (tT X f) (tT X g) σ H Q:=by
 unfold yp at e;split at e
 ·rename_i S1 h1;refine⟨A,ρ,S,true,S1,er,so,h1,λb H1 ⟨z0,A1,z1,z2⟩=>?_⟩
  subst z0;rw[JN rfl];exact⟨A1,ρ,S1,k,S',er.mono z1,z2,e,λb H' q=>hq b H' (q.after z1)⟩
 ·rename_i S1 h1;cases e;refine⟨A,ρ,S,false,_,er,so,h1,λb H1 ⟨z0,A1,z1,z2⟩=>?_⟩
  subst z0;rw[JX JU];exact hq _ _ ⟨rfl,A1,z1,z2⟩
 ·cases e
theorem Be {f g:FT}{σ:L2.St}{H:Hp}{A:Jf Jq}{ρ:Fm}{S:aa}{k:JW}{S':aa}(er:EnvRel X.K A H ρ σ)(so:StoreOk X.w X.K A H S)(e:FX f g ρ S=ba (k,S'))(Q:JW->Hp->Prop)(hq:∀b H',EndB X A H S' k b H'->Q b H') :
  II (tT X f) (tT X g) σ H Q:=by
 unfold FX at e;split at e
 ·rename_i S1 h1;cases e;refine⟨A,ρ,S,true,_,er,so,h1,λb H1 ⟨z0,A1,z1,z2⟩=>?_⟩
  subst z0;rw[JN rfl];exact hq _ _ ⟨rfl,A1,z1,z2⟩
 ·rename_i S1 h1;refine⟨A,ρ,S,false,S1,er,so,h1,λb H1 ⟨z0,A1,z1,z2⟩=>?_⟩
  subst z0;rw[JX JU];exact⟨A1,ρ,S1,k,S',er.mono z1,z2,e,λb H' q=>hq b H' (q.after z1)⟩
 ·cases e
theorem Bf {a:JQ}{pos:LK}{f:FT}(h:GT X a f):GW X (.BoolOp .And [a] pos) f:=Al h
theorem DR {a:JQ}{pos:LK}{f:FT}(h:GT X a f):GW X (.BoolOp .Or [a] pos) f:=C4 h
theorem DS {a b:JQ}{r:Jf JQ}{pos:LK}{f g:FT}(h:GT X a f)(h2:GW X (.BoolOp .And (b::r) pos) g):GW X (.BoolOp .And (a::b::r) pos) (yp f g):=
 GW.of (C5 h h2) λσ H A ρ S k S' er so e Q hq=>yq er so e Q hq
theorem FY {a b:JQ}{r:Jf JQ}{pos:LK}{f g:FT}(h:GT X a f)(h2:GW X (.BoolOp .Or (b::r) pos) g):GW X (.BoolOp .Or (a::b::r) pos) (FX f g):=
 GW.of (Fb h h2) λσ H A ρ S k S' er so e Q hq=>Be er so e Q hq
theorem DT {a:JQ}{pos:LK}{f:FT}(h:GT X a f):GT X (.UnaryOp .Not a pos) (Bd f):=
 GT.of (C6 h) λσ H A ρ S k S' er so e Q hq=>by
  unfold Bd at e;split at e
  ·rename_i k1 S1 h1;cases e;refine⟨A,ρ,S,k1,_,er,so,h1,λb H1 ⟨z0,A1,z1,z2⟩=>?_⟩
   subst z0;exact hq _ _ ⟨rfl,A1,z1,z2⟩
  ·cases e
noncomputable def ut (f g:FE):FE:=λρ S=>match f ρ S with
 | some (.bl true,S1)=>g ρ S1
 | some (.bl false,S1)=>ba (.bl false,S1)
 | _=>gV
noncomputable def Bg (f g:FE):FE:=λρ S=>match f ρ S with
 | some (.bl true,S1)=>ba (.bl true,S1)
 | some (.bl false,S1)=>g ρ S1
 | _=>gV
noncomputable def uu (f:FE):FE:=λρ S=>match f ρ S with
 | some (.bl k,S1)=>ba (.bl (!k),S1)
 | _=>gV
theorem DU {a:JQ}{op:R9}{pos:LK}{f:FE}(h:GE X a f):GE X (.BoolOp op [a] pos) f:=C7 h
theorem DV {a b:JQ}{r:Jf JQ}{pos:LK}{f g:FE}(h:GE X a f)(h2:GE X (.BoolOp .And (b::r) pos) g):GE X (.BoolOp .And (a::b::r) pos) (ut f g):=
 GE.of (C8 h h2) λσ H A ρ S w S' er so e Q hq=>by
  unfold ut at e;split at e
  ·rename_i S1 h1;refine⟨A,ρ,S,_,S1,er,so,h1,λv H1 ⟨A1,z1,z2,z3⟩=>?_⟩
   cases z3;refine⟨true,rfl,?_⟩;rw[JN rfl];exact⟨A1,ρ,S1,w,S',er.mono z1,z2,e,λb H' q=>hq b H' (q.after z1)⟩
  ·rename_i S1 h1;cases e;refine⟨A,ρ,S,_,_,er,so,h1,λv H1 ⟨A1,z1,z2,z3⟩=>?_⟩
   cases z3;refine⟨false,rfl,?_⟩;rw[JX JU];exact hq _ _ ⟨A1,z1,z2,.bl⟩
  ·cases e
theorem FZ {a b:JQ}{r:Jf JQ}{pos:LK}{f g:FE}(h:GE X a f)(h2:GE X (.BoolOp .Or (b::r) pos) g):GE X (.BoolOp .Or (a::b::r) pos) (Bg f g):=
 GE.of (Fe h h2) λσ H A ρ S w S' er so e Q hq=>by
  unfold Bg at e;split at e
  ·rename_i S1 h1;cases e;refine⟨A,ρ,S,_,_,er,so,h1,λv H1 ⟨A1,z1,z2,z3⟩=>?_⟩
   cases z3;refine⟨true,rfl,?_⟩;rw[JN rfl];exact hq _ _ ⟨A1,z1,z2,.bl⟩
  ·rename_i S1 h1;refine⟨A,ρ,S,_,S1,er,so,h1,λv H1 ⟨A1,z1,z2,z3⟩=>?_⟩
   cases z3;refine⟨false,rfl,?_⟩;rw[JX JU];exact⟨A1,ρ,S1,w,S',er.mono z1,z2,e,λb H' q=>hq b H' (q.after z1)⟩
  ·cases e
theorem DW {a:JQ}{pos:LK}{f:FE}(h:GE X a f):GE X (.UnaryOp .Not a pos) (uu f):=
 GE.of (C9 h) λσ H A ρ S w S' er so e Q hq=>by
  unfold uu at e;split at e
  ·rename_i k1 S1 h1;cases e;refine⟨A,ρ,S,_,_,er,so,h1,λb H1 ⟨A1,z1,z2,z3⟩=>?_⟩
   cases z3;exact⟨_,rfl,hq _ _ ⟨A1,z1,z2,.bl⟩⟩
  ·cases e
noncomputable def Bh (c:FT)(f g:FE):FE:=λρ S=>match c ρ S with
 | some (true,S1)=>f ρ S1
 | some (false,S1)=>g ρ S1
 | none=>gV
theorem DX {c a b:JQ}{pos:LK}{fc:FT}{f g:FE}(hc:GT X c fc)(ha:GE X a f)(hb:GE X b g):GE X (.IfExp c a b pos) (Bh fc f g):=
 GE.of (wW hc ha hb) λσ H A ρ S w S' er so e Q hq=>by
  unfold Bh at e;split at e
  ·rename_i S1 h1;refine⟨A,ρ,S,_,S1,er,so,h1,λb H1 ⟨z0,A1,z1,z2⟩=>?_⟩
   subst z0;rw[JN rfl];exact⟨A1,ρ,S1,w,S',er.mono z1,z2,e,λb H' q=>hq b H' (q.after z1)⟩
  ·rename_i S1 h1;refine⟨A,ρ,S,_,S1,er,so,h1,λb H1 ⟨z0,A1,z1,z2⟩=>?_⟩
   subst z0;rw[JX JU];exact⟨A1,ρ,S1,w,S',er.mono z1,z2,e,λb H' q=>hq b H' (q.after z1)⟩
  ·cases e
noncomputable def kz:FA:=λ_ S=>ba ([],S)
noncomputable def eX (f:FE)(g:FA):FA:=λρ S=>match f ρ S with
 | some (w,S1)=>match g ρ S1 with
  | some (ws,S2)=>ba (w::ws,S2)
  | none=>gV
 | none=>gV
theorem DY:GA X [] kz:=GA.of xg λσ H A ρ S ws S' er so e Q hq=>by cases e; exact hq _ _ ⟨A,.refl,so,.nil⟩
theorem Bj {e:JQ}{es:Jf JQ}{f:FE}{g:FA}(h:GE X e f)(h2:GA X es g)(hs:starEach (e::es) X.env=(false,eval e X.env)::starEach es X.env):GA X (e::es) (eX f g):=
 GA.of (oJ h h2 hs) λσ H A ρ S ws S' er so e Q hq=>by
  unfold eX at e;split at e
  ·rename_i w S1 h1;split at e
   ·rename_i ws2 S2 h2;cases e;refine⟨A,ρ,S,w,S1,er,so,h1,λv H1 ⟨A1,z1,z2,z3⟩=>?_⟩
    refine⟨A1,ρ,S1,ws2,_,er.mono z1,z2,h2,λvs H2 ⟨A2,y1,y2,y3⟩=>?_⟩
    exact hq _ _ ⟨A2,z1.trans y1,y2,.cons (z3.mono y1) y3⟩
   ·cases e
  ·cases e
noncomputable def yr (f:FA):FE:=λρ S=>match f ρ S with
 | some (ws,S1)=>sw S1 ws
 | none=>gV
noncomputable def yt (f:FA):FE:=λρ S=>match f ρ S with
 | some (ws,S1)=>mI S1 ws
 | none=>gV
theorem yu {es:Jf JQ}{k:Jp}{pos:LK}{f:FA}(h:GA X es f):GE X (.Tuple es k pos) (yr f):=
 GE.of (Dy h) λσ H A ρ S w S' er so e Q hq=>by
  unfold yr at e;split at e
  ·rename_i ws S1 h1;obtain⟨hl,rfl,rfl⟩:=tP e;refine⟨A,ρ,S,ws,_,er,so,h1,λvs H1 ⟨A1,z1,z2,z3⟩=>⟨by rw[<- z3.length]; exact hl,λp hp=>?_⟩⟩
   exact hq _ _ (EndV.after z1 (.tup z2 z3 hp))
  ·cases e
theorem yv {es:Jf JQ}{pos:LK}{f:FA}(h:GA X es f):GE X (.List es pos) (yt f):=
 GE.of (Dz h) λσ H A ρ S w S' er so e Q hq=>by
  unfold yt at e;split at e
  ·rename_i ws S1 h1;obtain⟨hl,rfl,rfl⟩:=kR e;refine⟨A,ρ,S,ws,_,er,so,h1,λvs H1 ⟨A1,z1,z2,z3⟩=>⟨by rw[<- z3.length]; exact hl,λp hp=>?_⟩⟩
   exact hq _ _ (EndV.after z1 (.lst z2 z3 hp))
  ·cases e
noncomputable def kh (g:Jf W->aa->Jn (W×aa))(f:FA):FE:=λρ S=>match f ρ S with
 | some (ws,S1)=>g ws S1
 | none=>gV
theorem LCall.callr {v:Jh}{g:Jf W->aa->Jn (W×aa)}(h:LCall X v g):CallR X v (λvs H Q=>∃A S ws w S',StoreOk X.w X.K A H S/\RelL X.K A H ws vs/\g ws S=ba (w,S')/\∀v H',EndV X.w X.K A H S' w v H'->Q v H'):=by
 intro pins s σ H vs us Q I rv ⟨A,S,ws,w,S',so,rl,e,hq⟩;exact b8 (h pins s σ H A S ws vs us w S' I so rl rv e) λu' s' ⟨v',H',A',I',r',e1,o1,z1⟩=>⟨v',H',I',r',hq v' H' ⟨A',e1,o1,z1⟩⟩
theorem n8 {g:Jf W->aa->Jn (W×aa)}{f:FA}{σ:L2.St}{H:Hp}{A:Jf Jq}{ρ:Fm}{S:aa}{w:W}{S':aa}(er:EnvRel X.K A H ρ σ)(so:StoreOk X.w X.K A H S)(e:kh g f ρ S=ba (w,S'))(Q:VK)(hq:∀v H',EndV X.w X.K A H S' w v H'->Q v H') :
  tA X f σ H λvs H1=>∃A S ws w S',StoreOk X.w X.K A H1 S/\RelL X.K A H1 ws vs/\g ws S=ba (w,S')/\∀v H',EndV X.w X.K A H1 S' w v H'->Q v H':=by
 unfold kh at e;split at e
 ·rename_i ws S1 h1;exact⟨A,ρ,S,ws,S1,er,so,h1,λvs H1 ⟨A1,z1,z2,z3⟩=>⟨A1,S1,ws,w,S',z2,z3,e,λv H' q=>hq v H' (q.after z1)⟩⟩
 ·cases e
theorem uw {id:KQ}{x:JG}{e:JQ}{es:Jf JQ}{p pos:LK}{f:FA}{g:Jf W->aa->Jn (W×aa)}(hc:LCall X (.builtin id) g)(hg:Gl X x)(hm:X.mg x=gV)(hv:bootBuiltins x=ba (.builtin id))(ha:GA X (e::es) f)
  (hn:x≠"__name__") (hdb:(x==("__debug__" : JG))=false) (hs:starEach (e::es) X.env=(false,eval e X.env)::starEach es X.env) (hpl:(backTo pos (starEach es X.env)).any (·.1)=false):GE X (.Call (.Name x p) (e::es) [] pos) (kh g f):=
 GE.of (qf hc.callr hg hm hv ha hn hdb hs hpl) λσ H A ρ S w S' er so e Q hq=>n8 er so e Q hq
theorem qT {id:KQ}{x:JG}{e:JQ}{es:Jf JQ}{p pos:LK}{f:FA}{g:Jf W->aa->Jn (W×aa)}(hc:LCall X (.type id) g)(hg:Gl X x)(hm:X.mg x=gV)(hv:bootBuiltins x=ba (.type id))(ha:GA X (e::es) f)
  (hn:x≠"__name__") (hdb:(x==("__debug__" : JG))=false) (hs:starEach (e::es) X.env=(false,eval e X.env)::starEach es X.env) (hpl:(backTo pos (starEach es X.env)).any (·.1)=false):GE X (.Call (.Name x p) (e::es) [] pos) (kh g f):=
 GE.of (vg hc.callr hg hm hv ha hn hdb hs hpl) λσ H A ρ S w S' er so e Q hq=>n8 er so e Q hq
end
noncomputable def tyOk (T:KQ)(S:aa):W->JW
 | .str _=>T == "str"
 | .ref i=>(T == "list" && (iL S i).isSome)||(T == "dict" && (j8 S i).isSome)
 | _=>false
noncomputable def E4 (T:KQ)(g:W->Jf W->aa->Jn (W×aa))(fo:FE)(f:FA):FE:=λρ S=>match fo ρ S with
 | some (x,S1)=>if tyOk T S1 x then match f ρ S1 with
  | some (ws,S2)=>g x ws S2
  | none=>gV
  else gV
 | none=>gV
noncomputable def HQ (fa fb:FE):FE:=Bb r9 fa fb
noncomputable abbrev FO:=Fm->aa->Jn (Jn Jy×aa)
noncomputable def DZ:FO:=λ_ S=>ba (gV,S)
noncomputable def uy (f:FE):FO:=λρ S=>match f ρ S with
 | some (.int i,S1)=>ba (ba i,S1)
 | _=>gV
noncomputable def F0 (fa:FE)(fl fh:FO):FE:=λρ S=>match fa ρ S with
 | some (x,S1)=>match fl ρ S1 with
  | some (lo,S2)=>match fh ρ S2 with
   | some (hi,S3)=>p9 x lo hi S3
   | none=>gV
  | none=>gV
 | none=>gV
section
variable{X:Cx}
theorem tyOk.is {pins:Jf (Jq×K2)}{σ:L2.St}{s:Jk}{A:Jf Jq}{H:Hp}{S:aa}{T:KQ}{x:W}{a:V}{v:Jh}(I:Inv X pins σ H s)(so:StoreOk X.w X.K A H S)(r:Rel X.K A H x a)(rv:RelV a v)(h:tyOk T S x=true) :
  s.TypeIs v T/\∀b,v=.ref b->∃ob,s.heap.get? b=ba ob/\ob.dict=gV:=by
 cases r with
 | str=>exact xp I rv (show HI X.K T (.str _) H from eq_of_beq h)
 | ref ea=>
  simp only[tyOk,La,Jo]at h;rcases h with⟨h1,h2⟩|⟨h1,h2⟩
  ·obtain⟨xs,hx⟩:=Km.mp h2;obtain⟨vs,h3,_⟩:=cR so hx ea;exact xp I rv (show HI X.K T (.ref _) H from .inl ⟨eq_of_beq h1,vs,h3⟩)
  ·obtain⟨kvs,hx⟩:=Km.mp h2;obtain⟨xs,rd,_⟩:=gl so hx ea;obtain⟨_,_,_,o,es,ep,q1,q2,q3,q4⟩:=cZ I rd;have e:=eq_of_beq h1;subst e;obtain rfl:v=J3 _:=rv;exact⟨⟨o,q1,q2.1⟩,λb e=>by cases e; exact⟨o,q1,q2.2.1⟩⟩
 | _=>cases h
theorem qU {o e:JQ}{es:Jf JQ}{name:JG}{apos cpos:LK}{T id:KQ}{g:W->Jf W->aa->Jn (W×aa)}{fo:FE}{f:FA}(pa:PlainAttrs T)(slot:Slot T name id)(hty:typeOf (.builtin id)=pure (.type "method_descriptor"))(hm:LMeth X id g)
  (ho:GE X o fo) (ha:GA X (e::es) f) (hbase:attributeBase o name X.env (eval o X.env)=eval o X.env)
  (hfew:((backTo cpos (starEach (e::es) X.env)).all (λx=>!x.1)&&(backToKw cpos (keywordEach [] X.env)).all (λx=>x.1.isSome)
   && decide ((e::es).length+([]:Jf QH).length+(if ([]:Jf QH).isEmpty then 0 else 1) < 30))=true)
  (hline:(apos.endLine==cpos.line)=true) (hs:starEach (e::es) X.env=(false,eval e X.env)::starEach es X.env) (hplain:(backTo cpos (starEach es X.env)).any (·.1)=false) :
  GE X (.Call (.Attribute o name apos) (e::es) [] cpos) (E4 T g fo f):=by
 intro pins s σ H Q I ⟨A,ρ,S,w,S',er,so,e,hq⟩;unfold E4 at e;split at e
 ·rename_i x S1 h1;split at e
  ·rename_i ht;split at e
   ·rename_i ws S2 h2;refine wpAny_Call_method_late hbase hfew hline rfl (b8 (ho pins s σ H (EndV X.w X.K A H S1 x) I ⟨A,ρ,S,_,_,er,so,h1,λ_ _ z=>z⟩) λv s1 ⟨a,H1,I1,r1,A1,e1,o1,z1⟩=>?_)
    obtain⟨t1,t2⟩:=tyOk.is I1 o1 z1 r1 ht;refine⟨T,id,pa,slot,hty,t1,t2,?_⟩;have hA:=ha cpos pins s1 σ H1 (DO X A1 H1 S2 ws) I1 ⟨A1,ρ,S1,ws,S2,er.mono e1,o1,h2,λ_ _ z=>z⟩
    rw[hs]at hA ⊢;refine Calls.callWith_builtin (by show(false||(backTo cpos (starEach es X.env)).any (·.1))=false; rw[hplain] <;> rfl) (Calls.evalArgs_plain ?_)
    refine b8 hA λus s2 ⟨vs,H2,I2,r2,A2,e2,o2,z2⟩=>?_
    refine b8 (hm pins s2 σ H2 A2 S2 x a v ws vs us w S' I2 o2 (z1.mono e2) r1 z2 r2 e) λu' s' ⟨v',H',A',I',r',e3,o3,z3⟩=>?_
    exact⟨v',H',I',r',hq v' H' ⟨A',(e1.trans e2).trans e3,o3,z3⟩⟩
   ·cases e
  ·cases e
 ·cases e
theorem LIx.ixr {g:W->W->aa->Jn (W×aa)}(h:LIx X g):IxR X (λa b H Q=>∃A S x y w S',StoreOk X.w X.K A H S/\Rel X.K A H x a/\Rel X.K A H y b/\g x y S=ba (w,S')/\∀v H',EndV X.w X.K A H S' w v H'->Q v H'):=by
 intro value slice pins s σ H a b u v Q I ru rv ⟨A,S,x,y,w,S',so,rx,ry,e,hq⟩ hs;exact b8 (h value slice pins s σ H A S x y a b u v w S' I so rx ru ry rv e hs) λu' s' ⟨v',H',A',I',r',e1,o1,z1⟩=>⟨v',H',I',r',hq v' H' ⟨A',e1,o1,z1⟩⟩
theorem F1 {a b:JQ}{pos:LK}{fa fb:FE}(hu:X.A.units+10 < cLine)(ha:GE X a fa)(hb:GE X b fb)(hs:oN b):GE X (.Subscript a b pos) (HQ fa fb):=
 GE.of (FJ (HN hu).ixr ha hb hs) λσ H A ρ S w S' er so e Q hq=>by
  obtain⟨x,S1,y,S2,h1,h2,h3⟩:=Ha e;exact iY er so h1 h2 λa b H2 A2 e2 o2 r1 r2=>⟨A2,S2,x,y,w,S',o2,r1,r2,h3,λv H' z=>hq v H' (z.after e2)⟩
noncomputable def tO (X:Cx)(f:FO):TO:=λσ H Q=>∃A ρ S k S',EnvRel X.K A H ρ σ/\StoreOk X.w X.K A H S/\f ρ S=ba (k,S')/\∀H' A',Ext X.K A H A' H'->StoreOk X.w X.K A' H' S'->Q k H'
noncomputable abbrev GO (X:Cx)(e:Jn JQ)(f:FO):Prop:=PO X e (tO X f)
theorem Bk:GO X gV DZ:=λpins s σ H Q I ⟨A,ρ,S,k,S',er,so,e,hq⟩=>by
 cases e;exact Az pins s σ H Q I (hq H A .refl so)
theorem Bl {e:JQ}{f:FE}(h:GE X e f):GO X (ba e) (uy f):=λpins s σ H Q I ⟨A,ρ,S,k,S',er,so,e,hq⟩=>by
 unfold uy at e;split at e
 ·rename_i i S1 h1;cases e;refine AA h pins s σ H Q I ⟨A,ρ,S,_,_,er,so,h1,λv H1 ⟨A1,z1,z2,z3⟩=>?_⟩
  cases z3;exact⟨i,rfl,hq H1 A1 z1 z2⟩
 ·cases e
theorem LSl.slr {g:W->Jn Jy->Jn Jy->aa->Jn (W×aa)}(h:LSl X g):FH X (λa lo hi H Q=>∃A S x w S',StoreOk X.w X.K A H S/\Rel X.K A H x a/\g x lo hi S=ba (w,S')/\∀v H',EndV X.w X.K A H S' w v H'->Q v H'):=by
 intro pins s σ H a v vl vu lo hi sl Q I rv hs pl pu ⟨A,S,x,w,S',so,rx,e,hq⟩;obtain⟨T,id,h1,h2,h3⟩:=h pins s σ H A S x a v vl vu lo hi sl w S' I so rx rv hs pl pu e;exact⟨T,id,h1,h2,b8 h3 λu' s' ⟨v',H',A',I',r',e1,o1,z1⟩=>⟨v',H',I',r',hq v' H' ⟨A',e1,o1,z1⟩⟩⟩
theorem F2 {a:JQ}{lo hi:Jn JQ}{p2 pos:LK}{fa:FE}{fl fh:FO}(ha:GE X a fa)(hl:GO X lo fl)(hh:GO X hi fh):GE X (.Subscript a (.Slice lo hi gV p2) pos) (F0 fa fl fh):=
 GE.of (xm IY.slr ha hl hh) λσ H A ρ S w S' er so e Q hq=>by
  unfold F0 at e;split at e
  ·rename_i x S1 h1;split at e
   ·rename_i l S2 h2;split at e
    ·rename_i h S3 h3;refine⟨A,ρ,S,x,S1,er,so,h1,λv H1 ⟨A1,z1,z2,z3⟩=>?_⟩
     refine⟨A1,ρ,S1,l,S2,er.mono z1,z2,h2,λH2 A2 y1 y2=>?_⟩
     refine⟨A2,ρ,S2,h,S3,er.mono (z1.trans y1),y2,h3,λH3 A3 x1 x2=>?_⟩
     exact⟨A3,S3,x,w,S',x2,(z3.mono y1).mono x1,e,λv H' q=>hq v H' (q.after ((z1.trans y1).trans x1))⟩
    ·cases e
   ·cases e
  ·cases e
noncomputable abbrev FF:=Jf W->aa->Jn (W×aa)
noncomputable def yw (wd:J6)(K:Jv)(n:Jp)(g:FF):Sp:=λvs H Q _=>∃A S ws w S',StoreOk wd K A H S/\RelL K A H ws vs/\ws.length=n/\g ws S=ba (w,S')/\∀v H',EndV wd K A H S' w v H'->Q v H'
noncomputable def qV (n:Jp)(g:FF)(f:FA):FE:=λρ S=>match f ρ S with
 | some (ws,S1)=>if ws.length=n then g ws S1 else gV
 | none=>gV
theorem qW {n:Jp}{g:FF}{f:FA}{σ:L2.St}{H:Hp}{A:Jf Jq}{ρ:Fm}{S:aa}{w:W}{S':aa}{E:XK}(er:EnvRel X.K A H ρ σ)(so:StoreOk X.w X.K A H S)(e:qV n g f ρ S=ba (w,S'))(Q:VK)(hq:∀v H',EndV X.w X.K A H S' w v H'->Q v H') :
  xi (yw X.w X.K n g) [] E (tA X f) σ H Q:=by
 unfold qV at e;split at e
 ·rename_i ws S1 h1;split at e
  ·rename_i hl;refine⟨A,ρ,S,ws,S1,er,so,h1,λvs H1 ⟨A1,z1,z2,z3⟩=>?_⟩
   show yw X.w X.K n g (vs++[]) H1 Q E;rw[LC];exact⟨A1,S1,ws,w,S',z2,z3,hl,e,λv H' q=>hq v H' (q.after z1)⟩
  ·cases e
 ·cases e
theorem D0 {k n:Jp}{fa:Jq}{fd:LL}{ps:Jf JG}{g:FF}{x:JG}{e:JQ}{es:Jf JQ}{p pos:LK}{f:FA}(F:FnOk X.prog X.w X.K X.mg X.base wF k fa fd ps (yw X.w X.K n g))(hr:Room k X.A)(hg:Gl X x)(hm:X.mg x=ba (.ref fa))(hk:KZ X.K (.ref fa)=true)
  (hb:Binds X.K fd ps []) (ha:GA X (e::es) f) (hdb:(x==("__debug__" : JG))=false) (he:starEach (e::es) X.env=(false,eval e X.env)::starEach es X.env) (hpl:(backTo pos (starEach es X.env)).any (·.1)=false) :
  GE X (.Call (.Name x p) (e::es) [] pos) (qV n g f):=
 GE.of (Aw F hr hg hm hk hb .nil Ct ha hdb he hpl) λσ H A ρ S w S' er so e Q hq=>qW er so e Q hq
theorem Bm {k n:Jp}{fa:Jq}{fd:LL}{ps:Jf JG}{g:FF}{x:JG}{p pos:LK}(F:FnOk X.prog X.w X.K X.mg X.base wF k fa fd ps (yw X.w X.K n g))(hr:Room k X.A)(hg:Gl X x)(hm:X.mg x=ba (.ref fa))(hk:KZ X.K (.ref fa)=true)
  (hb:Binds X.K fd ps []) (hdb:(x==("__debug__" : JG))=false):GE X (.Call (.Name x p) [] [] pos) (qV n g kz):=
 GE.of (xk F hr hg hm hk hb .nil Ct hdb) λσ H A ρ S w S' er so e Q hq=>by
  obtain⟨A1,S1,ws,w1,S1',a1,a2,a3,a4,a5⟩:=qW (f:=kz) (E:=E0) er so e Q hq |> λ⟨A,ρ,S,ws,S',b1,b2,b3,b4⟩=>b4 [] H (by cases b3; exact⟨A,.refl,b2,.nil⟩)
  exact⟨A1,S1,ws,w1,S1',a1,a2,a3,a4,a5⟩
theorem Bn:GSs X [] (λρ S=>ba (.nx ρ,S)):=GSs.of Am λσ H A ρ S o S' er so e D hd=>by cases e; exact hd.nx _ _ ⟨ρ,A,rfl,.refl,so,er⟩
noncomputable def Bo (f g:FS):FS:=λρ S=>match f ρ S with
 | some (.nx ρ',S1)=>g ρ' S1
 | some (.rt w,S1)=>ba (.rt w,S1)
 | some (.bk ρ',S1)=>ba (.bk ρ',S1)
 | some (.ct ρ',S1)=>ba (.ct ρ',S1)
 | none=>gV
theorem yy {st:L0}{sts:Jf L0}{f g:FS}(h:GS X st f)(h2:GSs X sts g):GSs X (st::sts) (Bo f g):=GSs.of (wY h h2) λσ H A ρ S o S' er so e D hd=>by
 unfold Bo at e;split at e
 ·rename_i ρ1 S1 h1;refine⟨A,ρ,S,_,_,er,so,h1,⟨λσ' H' ⟨ρ',A',e1,e2,e3,e4⟩=>?_,λv H' ⟨w,A',e1,_⟩=>(by cases e1),λv H' ⟨w,A',e1,_⟩=>(by cases e1),λv H' ⟨w,A',e1,_⟩=>(by cases e1)⟩⟩
  cases e1;exact⟨A',_,S1,o,S',e4,e3,e,(EndS.after e2).trans hd⟩
 ·rename_i w S1 h1;cases e;exact⟨A,ρ,S,_,_,er,so,h1,⟨λσ' H' ⟨w,A',e1,_⟩=>(by cases e1),hd.rt,hd.bk,hd.ct⟩⟩
 ·rename_i w S1 h1;cases e;exact⟨A,ρ,S,_,_,er,so,h1,⟨λσ' H' ⟨w,A',e1,_⟩=>(by cases e1),hd.rt,hd.bk,hd.ct⟩⟩
 ·rename_i w S1 h1;cases e;exact⟨A,ρ,S,_,_,er,so,h1,⟨λσ' H' ⟨w,A',e1,_⟩=>(by cases e1),hd.rt,hd.bk,hd.ct⟩⟩
 ·cases e
noncomputable def Bp (f:FE):FS:=λρ S=>match f ρ S with
 | some (_,S1)=>ba (.nx ρ,S1)
 | none=>gV
theorem F3 {e:JQ}{pos:LK}{f:FE}(h:GE X e f)(hs:swapsWith e gV pos.line X.env=pure false):GS X (.Expr e pos) (Bp f):=GS.of (Ao h hs) λσ H A ρ S o S' er so e D hd=>by
 unfold Bp at e;split at e
 ·rename_i w S1 h1;cases e;exact⟨A,ρ,S,w,_,er,so,h1,λv H1 ⟨A1,z1,z2,z3⟩=>hd.nx _ _ ⟨ρ,A1,rfl,z1,z2,er.mono z1⟩⟩
 ·cases e
noncomputable def yz:FS:=λρ S=>ba (.nx ρ,S)
theorem D2 {x:JG}{j:Jp}{pos pos':LK}:GS X (.Expr (.Constant (.str x) j pos) pos') yz:=GS.of Db λσ H A ρ S o S' er so e D hd=>by cases e; exact hd.nx _ _ ⟨ρ,A,rfl,.refl,so,er⟩
theorem Bq {pos:LK}:GS X (.Pass pos) yz:=GS.of An λσ H A ρ S o S' er so e D hd=>by cases e; exact hd.nx _ _ ⟨ρ,A,rfl,.refl,so,er⟩
theorem yA {pos:LK}:GS X (.Break pos) (λρ S=>ba (.bk ρ,S)):=GS.of w6 λσ H A ρ S o S' er so e D hd=>by cases e; exact hd.bk _ _ ⟨ρ,A,rfl,.refl,so,er⟩
theorem Br {pos:LK}:GS X (.Continue pos) (λρ S=>ba (.ct ρ,S)):=GS.of qb λσ H A ρ S o S' er so e D hd=>by cases e; exact hd.ct _ _ ⟨ρ,A,rfl,.refl,so,er⟩
noncomputable def Bs (f:FE):FS:=λρ S=>match f ρ S with
 | some (w,S1)=>ba (.rt w,S1)
 | none=>gV
theorem D6 {e:JQ}{pos:LK}{f:FE}(h:GE X e f):GS X (.Return (ba e) pos) (Bs f):=GS.of (Dc h) λσ H A ρ S o S' er so e D hd=>by
 unfold Bs at e;split at e
 ·rename_i w S1 h1;cases e;exact⟨A,ρ,S,w,_,er,so,h1,λv H1 ⟨A1,z1,z2,z3⟩=>hd.rt _ _ ⟨w,A1,rfl,z1,z2,z3⟩⟩
 ·cases e
theorem Bt {pos:LK}:GS X (.Return gV pos) (λρ S=>ba (.rt .non,S)):=GS.of Ap λσ H A ρ S o S' er so e D hd=>by cases e; exact hd.rt _ _ ⟨_,A,rfl,.refl,so,.non⟩
noncomputable def Bu (c:FT)(f g:FS):FS:=λρ S=>match c ρ S with
 | some (true,S1)=>f ρ S1
 | some (false,S1)=>g ρ S1
 | none=>gV
theorem F4 {c:JQ}{a b:Jf L0}{pos:LK}{fc:FT}{f g:FS}(hc:GT X c fc)(ha:GSs X a f)(hb:GSs X b g):GS X (.If c a b pos) (Bu fc f g):=GS.of (Fi hc ha hb) λσ H A ρ S o S' er so e D hd=>by
 unfold Bu at e;split at e
 ·rename_i S1 h1;refine⟨A,ρ,S,_,S1,er,so,h1,λb H1 ⟨z0,A1,z1,z2⟩=>?_⟩
  subst z0;rw[JN rfl];exact⟨A1,ρ,S1,o,S',er.mono z1,z2,e,(EndS.after z1).trans hd⟩
 ·rename_i S1 h1;refine⟨A,ρ,S,_,S1,er,so,h1,λb H1 ⟨z0,A1,z1,z2⟩=>?_⟩
  subst z0;rw[JX JU];exact⟨A1,ρ,S1,o,S',er.mono z1,z2,e,(EndS.after z1).trans hd⟩
 ·cases e
noncomputable abbrev FG:=W->Fm->aa->Jn (Fm×aa)
noncomputable def tG (X:Cx)(f:FG):TG:=λv σ H Q=>∃A ρ S w ρ' S',EnvRel X.K A H ρ σ/\StoreOk X.w X.K A H S/\Rel X.K A H w v/\f w ρ S=ba (ρ',S')/\∀σ' H' A',Ext X.K A H A' H'->StoreOk X.w X.K A' H' S'->EnvRel X.K A' H' ρ' σ'->Q σ' H'
noncomputable abbrev GG (X:Cx)(tg:JQ)(f:FG):Prop:=PG X tg (tG X f)
noncomputable def Cy (i:Jp):FG:=λw ρ S=>ba (ρ.set i (ba w),S)
theorem uz {i:Jp}{x:JG}{pos:LK}(hN:X.N.Nodup)(hi:X.N[i]?=ba x)(hx:Aj X.env.scope x)(hf:X.fn x=true\/X.env.scope.names.lookup x=ba .local):GG X (.Name x pos) (Cy i):=by
 intro pins s σ H v u Q I r ⟨A,ρ,S,w,ρ',S',er,so,rw',e,hq⟩;cases e;exact tH hN hi hx hf pins s σ H v u Q I r (hq _ _ A .refl so (er.set rw' i))
noncomputable def eD:Jf Jp->Jf W->Fm->Jn Fm
 | [],[],ρ=>ba ρ
 | i::is,w::ws,ρ=>eD is ws (ρ.set i (ba w))
 | _,_,_=>gV
noncomputable def E5 (is:Jf Jp):FG:=λw ρ S=>match w with
 | .tup ws=>(eD is ws ρ).map λρ'=>(ρ',S)
 | _=>gV
theorem vS:∀ {ts:Jf JQ} {is:Jf Jp},(∀x∈ts,∃y p,x=.Name y p)->Oe (λ(t:JQ) (i:Jp)=>∃x p,t=O5 x p/\X.N[i]?=ba x/\Aj X.env.scope x/\(X.fn x=true\/X.env.scope.names.lookup x=ba .local)) ts is->X.N.Nodup->
  Fj X ts (λvs σ H Q=>∃A ρ ws ρ' S,EnvRel X.K A H ρ σ/\StoreOk X.w X.K A H S/\RelL X.K A H ws vs/\eD is ws ρ=ba ρ'/\∀σ',EnvRel X.K A H ρ' σ'->Q σ' H):=by
 intro ts
 induction ts with
 | nil=>
  intro is _ h hN;cases h;intro pins s σ H vs us Q I r ⟨A,ρ,ws,ρ',S,er,so,rl,e,hq⟩;cases rl with
  | nil=>cases e; exact Aq pins s σ H [] us Q I r ⟨rfl,hq _ er⟩
  | cons _ _=>cases e
 | cons t ts ih=>
  intro is hs h hN;cases h with
  | cons h1 h2=>
   obtain⟨x,p,rfl,hi,hl,hf⟩:=h1;have:=ih (λy hy=>hs y (KL _ hy)) h2 hN
   intro pins s σ H vs us Q I r ⟨A,ρ,ws,ρ',S,er,so,rl,e,hq⟩;cases rl with
   | nil=>cases e
   | cons r1 r2=>
    refine w8 (tH hN hi hl hf) this rfl pins s σ H _ us Q I r ⟨_,_,rfl,?_⟩;exact⟨A,_,_,ρ',S,er.set r1 _,so,r2,e,hq⟩
theorem Ea {ts:Jf JQ}{is:Jf Jp}{k:Jp}{pos:LK}(hc:X.calm=true)(hs:∀x∈ts,∃y p,x=.Name y p)(h:Oe (λ(t:JQ) (i:Jp)=>∃x p,t=O5 x p/\X.N[i]?=ba x/\Aj X.env.scope x/\(X.fn x=true\/X.env.scope.names.lookup x=ba .local)) ts is)(hN:X.N.Nodup)
  (hn:(assignEach ts X.env).length=ts.length) (hst:(assignEach ts X.env).findIdx? (·.1)=gV):GG X (.Tuple ts k pos) (E5 is):=by
 intro pins s σ H v u Q I r ⟨A,ρ,S,w,ρ',S',er,so,rw',e,hq⟩;unfold E5 at e;split at e
 ·rw[Jl]at e;obtain⟨ρ1,e1,e2⟩:=e;cases e2;cases rw' with
  | tup h1 r1=>
   have hl:∀(is:Jf Jp) (ws:Jf W) (ρ ρ':Fm),eD is ws ρ=ba ρ'->is.length=ws.length:=by
    intro is
    induction is with
    | nil=>intro ws ρ ρ' e; cases ws <;> first|rfl|cases e
    | cons i is ih=>intro ws ρ ρ' e; cases ws <;> first|cases e|(simp; exact ih _ _ _ e)
   exact Di hc (vS hs h hN) hn hst pins s σ H _ u Q I r ⟨_,_,rfl,h1,by rw[<- r1.length,<- hl _ _ _ _ e1,<- N1 h],A,ρ,_,_,_,er,so,r1,e1,λσ' z=>hq _ _ A .refl so z⟩
 ·cases e
noncomputable def Bv (fo fi:FE):FG:=λw ρ S=>match fo ρ S with
 | some (o,S1)=>match fi ρ S1 with
  | some (i,S2)=>match iV o i w S2 with
   | some S3=>ba (ρ,S3)
   | none=>gV
  | none=>gV
 | none=>gV
theorem LSet.pset {g:W->W->W->aa->Jn aa}(h:LSet X g):Dh X (λao ai av H Q=>∃A S o i w S',StoreOk X.w X.K A H S/\Rel X.K A H o ao/\Rel X.K A H i ai/\Rel X.K A H w av/\g o i w S=ba S'/\∀H' A',Ext X.K A H A' H'->StoreOk X.w X.K A' H' S'->Q H'):=by
 intro pins s σ H ao ai av uo ui uv Q I ro ri rv ⟨A,S,o,i,w,S',so,r1,r2,r3,e,hq⟩;exact b8 (h pins s σ H A S o i w ao ai av uo ui uv S' I so r1 ro r2 ri r3 rv e) λ_ s' ⟨H',A',I',e1,o1⟩=>⟨H',I',hq H' A' e1 o1⟩
theorem Eb {o i:JQ}{pos:LK}{fo fi:FE}(hu:X.A.units+10 < cLine)(ho:GE X o fo)(hi:GE X i fi)(ha:∀v,assign (.Subscript o i pos) X.env v=(do
   let ov <- holding [v] (eval o X.env)
   let iv <- holding [v,ov] (eval i X.env)
   standAt pos
   holding [v,ov,iv] (setItem ov iv v)
   release [v,ov,iv] [])):GG X (.Subscript o i pos) (Bv fo fi):=by
 intro pins s σ H v u Q I r ⟨A,ρ,S,w,ρ',S',er,so,rw',e,hq⟩;unfold Bv at e;split at e
 ·rename_i o' S1 h1;split at e
  ·rename_i i' S2 h2;split at e
   ·rename_i S3 h3;cases e;refine Dj ho hi (FU hu).pset ha pins s σ H v u Q I r ?_;refine⟨A,ρ,S,o',S1,er,so,h1,λa H1 ⟨A1,e1,o1,r1⟩=>?_⟩
    refine⟨A1,ρ,S1,i',S2,er.mono e1,o1,h2,λb H2 ⟨A2,e2,o2,r2⟩=>?_⟩
    exact⟨A2,S2,o',i',w,_,o2,r1.mono e2,r2,rw'.mono (e1.trans e2),h3,λH' A' z1 z2=>hq σ H' A' ((e1.trans e2).trans z1) z2 (er.mono ((e1.trans e2).trans z1))⟩
   ·cases e
  ·cases e
 ·cases e
noncomputable def lI (f:FE)(g:FG):FS:=λρ S=>match f ρ S with
 | some (w,S1)=>match g w ρ S1 with
  | some (ρ',S2)=>ba (.nx ρ',S2)
  | none=>gV
 | none=>gV
theorem sR {tg e:JQ}{pos:LK}{f:FE}{g:FG}(h:GE X e f)(hg:GG X tg g)(hs:swapsWithSole [tg] e pos.line X.env=pure false)(hw:swappedStores [tg] e X.env=pure gV)(h1:(assignEach [tg] X.env).map (·.2)=[assign tg X.env]) :
  GS X (.Assign [tg] e pos) (lI f g):=GS.of (Dk h hg hs hw h1) λσ H A ρ S o S' er so e D hd=>by
 unfold lI at e;split at e
 ·rename_i w S1 h1;split at e
  ·rename_i ρ1 S2 h2;cases e;refine⟨A,ρ,S,w,S1,er,so,h1,λv H1 ⟨A1,z1,z2,z3⟩=>?_⟩
   exact⟨A1,ρ,S1,w,ρ1,_,er.mono z1,z2,z3,h2,λσ' H' A' y1 y2 y3=>hd.nx _ _ ⟨ρ1,A',rfl,z1.trans y1,y2,y3⟩⟩
  ·cases e
 ·cases e
noncomputable def Bw (i j:Jp)(f:FA):FS:=λρ S=>match f ρ S with
 | some ([x,y],S1)=>ba (.nx ((ρ.set i (ba x)).set j (ba y)),S1)
 | _=>gV
theorem Ec {i j:Jp}{x y:JG}{a b:JQ}{f:FA}{px py pt pos:LK}{kt k2:Jp}{pt2:LK}(hc:X.calm=true)(hN:X.N.Nodup)(hi:X.N[i]?=ba x)(hj:X.N[j]?=ba y)(hij:i≠j)
  (hx:X.env.scope.names.lookup x=ba .local) (hy:X.env.scope.names.lookup y=ba .local) (ha:GA X [a,b] f)
  (hw:swappedStores [.Tuple [.Name x px,.Name y py] kt pt] (.Tuple [a,b] k2 pt2) X.env=pure (ba [x,y]))
  (hs:swapsWithSole [.Tuple [.Name x px,.Name y py] kt pt] (.Tuple [a,b] k2 pt2) pos.line X.env=pure false) :
  GS X (.Assign [.Tuple [.Name x px,.Name y py] kt pt] (.Tuple [a,b] k2 pt2) pos) (Bw i j f):=GS.of (Dl hc hN hi hj hij hx hy ha hw hs) λσ H A ρ S o S' er so e D hd=>by
 unfold Bw at e;split at e
 ·rename_i x y S1 h1;cases e;refine⟨A,ρ,S,_,_,er,so,h1,λvs H1 ⟨A1,z1,z2,z3⟩=>?_⟩
  cases z3 with
  | cons r1 t=>
   cases t with
   | cons r2 t=>
    cases t;exact⟨_,_,rfl,hd.nx _ _ ⟨_,A1,rfl,z1,z2,((er.mono z1).set r1 i).set r2 j⟩⟩
 ·cases e
noncomputable def pg (c:FT)(b:FS):Jp->FS
 | 0,_,_=>gV
 | n+1,ρ,S=>match c ρ S with
  | some (true,S1)=>match b ρ S1 with
   | some (.nx ρ',S2)=>pg c b n ρ' S2
   | some (.ct ρ',S2)=>pg c b n ρ' S2
   | some (.bk ρ',S2)=>ba (.nx ρ',S2)
   | some (.rt w,S2)=>ba (.rt w,S2)
   | none=>gV
  | some (false,S1)=>ba (.nx ρ,S1)
  | none=>gV
theorem yB {c:JQ}{body:Jf L0}{pos:LK}{fc:FT}{fb:FS}(n:Jp)(hp:O4 (model X.prog X.w) X.A X.env X.xe)(hc:GT X c fc)(hb:GSs X body fb):GS X (.While c body [] pos) (pg fc fb n):=GS.of (w9 hp hc hb) λσ H A ρ S o S' er so e D hd=>by
 refine⟨λm σ1 H1=>∃A1 ρ1 S1,Ext X.K A H A1 H1/\EnvRel X.K A1 H1 ρ1 σ1/\StoreOk X.w X.K A1 H1 S1/\pg fc fb m ρ1 S1=ba (o,S'),⟨n,A,ρ,S,.refl,er,so,e⟩,?_⟩
 rintro m σ1 H1 ⟨A1,ρ1,S1,e1,er1,so1,w1⟩;cases m with
 | zero=>cases w1
 | succ m=>
  simp only[pg]at w1;split at w1
  ·rename_i S2 h1;refine⟨A1,ρ1,S1,_,S2,er1,so1,h1,λb H2 ⟨z0,A2,z1,z2⟩=>?_⟩
   subst z0;rw[JN rfl];refine⟨λσ3 H3=>∃A3 ρ3 S3,Ext X.K A H A3 H3/\EnvRel X.K A3 H3 ρ3 σ3/\StoreOk X.w X.K A3 H3 S3/\pg fc fb m ρ3 S3=ba (o,S'),λσ' H' h=>⟨m,Lf _,h⟩,?_⟩
   split at w1
   ·rename_i ρ3 S3 h3;refine⟨A2,ρ1,S2,_,S3,er1.mono z1,z2,h3,⟨λσ' H' ⟨ρ',A',y0,y1,y2,y3⟩=>?_,λv H' ⟨w,A',y0,_⟩=>(by cases y0),λv H' ⟨w,A',y0,_⟩=>(by cases y0),λv H' ⟨w,A',y0,_⟩=>(by cases y0)⟩⟩
    cases y0;exact⟨A',_,S3,(e1.trans z1).trans y1,y3,y2,w1⟩
   ·rename_i ρ3 S3 h3;refine⟨A2,ρ1,S2,_,S3,er1.mono z1,z2,h3,⟨λv H' ⟨w,A',y0,_⟩=>(by cases y0),λv H' ⟨w,A',y0,_⟩=>(by cases y0),λv H' ⟨w,A',y0,_⟩=>(by cases y0),λσ' H' ⟨ρ',A',y0,y1,y2,y3⟩=>?_⟩⟩
    cases y0;exact⟨A',_,S3,(e1.trans z1).trans y1,y3,y2,w1⟩
   ·rename_i ρ3 S3 h3;cases w1;refine⟨A2,ρ1,S2,_,_,er1.mono z1,z2,h3,⟨λv H' ⟨w,A',y0,_⟩=>(by cases y0),λv H' ⟨w,A',y0,_⟩=>(by cases y0),λσ' H' ⟨ρ',A',y0,y1,y2,y3⟩=>?_,λv H' ⟨w,A',y0,_⟩=>(by cases y0)⟩⟩
    cases y0;exact hd.nx _ _ ⟨_,A',rfl,(e1.trans z1).trans y1,y2,y3⟩
   ·rename_i w3 S3 h3;cases w1;refine⟨A2,ρ1,S2,_,_,er1.mono z1,z2,h3,⟨λv H' ⟨w,A',y0,_⟩=>(by cases y0),λv H' ⟨w,A',y0,y1,y2,y3⟩=>?_,λv H' ⟨w,A',y0,_⟩=>(by cases y0),λv H' ⟨w,A',y0,_⟩=>(by cases y0)⟩⟩
    cases y0;exact hd.rt _ _ ⟨_,A',rfl,(e1.trans z1).trans y1,y2,y3⟩
   ·cases w1
  ·rename_i S2 h1;cases w1;refine⟨A1,ρ1,S1,_,_,er1,so1,h1,λb H2 ⟨z0,A2,z1,z2⟩=>?_⟩
   subst z0;rw[JX JU];exact hd.nx _ _ ⟨_,A2,rfl,e1.trans z1,z2,er1.mono z1⟩
  ·cases w1
end
set_option genInjectivity false in
inductive MI where
 | its (ws:Jf W)
 | live (r:Jp)
noncomputable def MI.at (S:aa)(i:Jp):MI->Jn (Jn W)
 | .its ws=>ba ws[i]?
 | .live r=>match iL S r with
  | some xs=>ba xs[i]?
  | none=>gV
noncomputable def MI.len (S:aa):MI->Jn Jp
 | .its ws=>ba ws.length
 | .live r=>(iL S r).map (·.length)
noncomputable abbrev FI:=Fm->aa->Jn (MI×aa)
structure MIt (wd:J6)(K:Jv)(mi:MI)(J:It)(A0:Jf Jq)(H0:Hp):Prop where
 go:∀A H S i w,Ext K A0 H0 A H->StoreOk wd K A H S->mi.at S i=ba (ba w)->J.go i H/\∀x H',J.yld i H x H'->Ext K A H A H'/\StoreOk wd K A H' S/\Rel K A H' w x
 stop:∀A H S i,Ext K A0 H0 A H->StoreOk wd K A H S->mi.at S i=ba gV->J.stop i H
noncomputable def tI (X:Cx)(f:FI):TI:=λσ H R=>∃A ρ S mi S',EnvRel X.K A H ρ σ/\StoreOk X.w X.K A H S/\f ρ S=ba (mi,S')/\∀J H' A',Ext X.K A H A' H'->StoreOk X.w X.K A' H' S'->MIt X.w X.K mi J A' H'->R J H'
noncomputable abbrev GI (X:Cx)(tg iter:JQ)(f:FI):Prop:=PI X tg iter (tI X f)
noncomputable def Bx (f:FE):FI:=λρ S=>match f ρ S with
 | some (.tup ws,S1)=>ba (.its ws,S1)
 | some (.ref r,S1)=>match iL S1 r with
  | some _=>ba (.live r,S1)
  | none=>gV
 | _=>gV
noncomputable def dR (lo:Jy)(n:Jp):Jf W:=(Kh n).map λ(k:Jp)=>.int (lo+(k:Jy))
noncomputable def vT (f:FA):FI:=λρ S=>match f ρ S with
 | some ([.int j],S1)=>if -(2 ^ 62)<=j/\j < 2 ^ 62 then ba (.its (dR 0 j.toNat),S1)else gV
 | _=>gV
noncomputable def iRng2 (f:FA):FI:=λρ S=>match f ρ S with
 | some ([.int i,.int j],S1)=>if -(2 ^ 62)<=i/\i < 2 ^ 62/\-(2 ^ 62)<=j/\j < 2 ^ 62 then ba (.its (dR i (j - i).toNat),S1)else gV
 | _=>gV
noncomputable def gm (mi:MI)(g:FG)(b:FS):Jp->Jp->FS
 | 0,i,ρ,S=>match mi.at S i with
  | some gV=>ba (.nx ρ,S)
  | _=>gV
 | n+1,i,ρ,S=>match mi.at S i with
  | some (ba w)=>match g w ρ S with
   | some (ρ1,S1)=>match b ρ1 S1 with
    | some (.nx ρ2,S2)=>gm mi g b n (i+1) ρ2 S2
    | some (.ct ρ2,S2)=>gm mi g b n (i+1) ρ2 S2
    | some (.bk ρ2,S2)=>ba (.nx ρ2,S2)
    | some (.rt w,S2)=>ba (.rt w,S2)
    | none=>gV
   | none=>gV
  | _=>gV
noncomputable def yC (fi:FI)(g:FG)(b:FS):FS:=λρ S=>match fi ρ S with
 | some (mi,S1)=>match mi.len S1 with
  | some n=>gm mi g b n 0 ρ S1
  | none=>gV
 | none=>gV
section
variable{X:Cx}
theorem By {A:Jf Jq}{H:Hp}{ws:Jf W}{a:Jq}{vs:Jf V}(h:SqT X.K H a vs)(r:RelL X.K A H ws vs):MIt X.w X.K (.its ws) (E1 X.K a) A H:=by
 refine⟨λA' H' S i w e so hi=>?_,λA' H' S i e so hi=>?_⟩
 ·simp only[MI.at,J5]at hi;obtain⟨v,h1,h2⟩:=(r.mono e).get hi;refine⟨⟨vs,v,e.tp _ _ h,h1⟩,λx H2 ⟨z1,z2⟩=>?_⟩
  subst z1;have:=z2 vs (e.tp _ _ h);rw[h1]at this; cases this
  exact⟨.refl,so,h2⟩
 ·simp only[MI.at,J5]at hi;refine⟨vs,e.tp _ _ h,?_⟩;rw[<- r.length];exact KD.mp hi
theorem Bz {A:Jf Jq}{H:Hp}{r:Jp}{a:Jq}(ea:A[r]?=ba a):MIt X.w X.K (.live r) (Hs X.K a) A H:=by
 refine⟨λA' H' S i w e so hi=>?_,λA' H' S i e so hi=>?_⟩
 ·simp only[MI.at]at hi;split at hi
  ·rename_i xs hx;simp only[J5]at hi;obtain⟨vs,h1,r1⟩:=cR so hx (e.ad _ _ ea);obtain⟨v,h2,h3⟩:=r1.get hi;refine⟨⟨vs,v,h1,h2⟩,λx H2 ⟨z1,z2⟩=>?_⟩
   subst z1;have:=z2 vs h1;rw[h2]at this; cases this
   exact⟨.refl,so,h3⟩
  ·cases hi
 ·simp only[MI.at]at hi;split at hi
  ·rename_i xs hx;simp only[J5]at hi;obtain⟨vs,h1,r1⟩:=cR so hx (e.ad _ _ ea);refine⟨vs,h1,?_⟩;rw[<- r1.length];exact KD.mp hi
  ·cases hi
theorem eE {lo:Jy}{n i:Jp}:(dR lo n)[i]?=if i < n then ba (.int (lo+i))else gV:=by
 unfold dR;rw[Jr]
 by_cases h:i < n
 ·rw[JN h,LF h]; rfl
 ·rw[JX h,KD.mpr (by simp; omega)]; rfl
theorem uA {A:Jf Jq}{H:Hp}{lo:Jy}{n:Jp}:MIt X.w X.K (.its (dR lo n)) (Fo lo n) A H:=by
 refine⟨λA' H' S i w e so hi=>?_,λA' H' S i e so hi=>?_⟩
 ·simp only[MI.at,J5]at hi;rw[eE]at hi;split at hi
  ·cases hi;refine⟨by assumption,λx H2 ⟨z1,z2⟩=>?_⟩
   subst z1 z2;exact⟨.refl,so,.int⟩
  ·cases hi
 ·simp only[MI.at,J5]at hi;rw[eE]at hi;split at hi
  ·cases hi
  ·show n<=i;omega
theorem qX {tg:JQ}{pins:Jf (Jq×K2)}{σ:L2.St}{H1:Hp}{s1:Jk}{R:It->Hp->Prop}{a:Jq}{xs:Jf V}{v:Jh}(I1:Inv X pins σ H1 s1)(r1:RelV (.ref a) v)(hq:SqL X.K H1 a xs)(q:R (Hs X.K a) H1) :
  wpAny (model X.prog X.w) X.A (pyIter v) (G4 X pins σ tg R) X.xe s1:=by
 cases r1;obtain⟨its,rv,p,hz⟩:=I1.list hq;refine M3 p.isList ?_;refine⟨s1.heap.objs.size,[s1.heap.objs.size],_,_,H1,rfl,I1.kept (t':=s1.toks) λb o e=>Jj _ e,u9 a _,⟨_,JA _ rfl,rfl,rfl⟩,λb hb=>?_,q⟩
 have e:b=s1.heap.objs.size:=by simpa using hb
 subst e;exact I1.fpOk (Js _) (I1.hok.fresh (Js _))
theorem sS {tg:JQ}{pins:Jf (Jq×K2)}{σ:L2.St}{H1:Hp}{s1:Jk}{R:It->Hp->Prop}{a:Jq}{xs:Jf V}{v:Jh}(I1:Inv X pins σ H1 s1)(r1:RelV (.ref a) v)(hq:SqT X.K H1 a xs)(q:R (E1 X.K a) H1) :
  wpAny (model X.prog X.w) X.A (pyIter v) (G4 X pins σ tg R) X.xe s1:=by
 cases r1;obtain⟨its,rv,p,hz⟩:=I1.tuple hq;refine Px (show s1.heap.IsTuple a its.toArray from p) ?_
 refine⟨s1.heap.objs.size,[s1.heap.objs.size],_,_,H1,rfl,I1.kept (t':=s1.toks) λb o e=>Jj _ e,sf a _,⟨_,JA _ rfl,rfl,rfl⟩,λb hb=>?_,q⟩
 have e:b=s1.heap.objs.size:=by simpa using hb
 subst e;exact I1.fpOk (Js _) (I1.hok.fresh (Js _))
theorem BA {tg a:JQ}{f:FA}{p pos:LK}(hg:Gl X "range")(hm:X.mg "range" = gV)(ha:GA X [a] f)(hs:starEach [a] X.env=[(false,eval a X.env)]):GI X tg (.Call (.Name "range" p) [a] [] pos) (vT f):=by
 intro pins s σ H R I ⟨A,ρ,S,mi,S',er,so,e,hq⟩;unfold vT at e;split at e
 ·rename_i j S1 h1;split at e
  ·rename_i hj;cases e;refine vc hg hm ha hs pins s σ H R I ⟨A,ρ,S,_,_,er,so,h1,λvs H1 ⟨A1,z1,z2,z3⟩=>?_⟩
   cases z3 with
   | cons r1 t=>
    cases t;cases r1;exact⟨j,rfl,hj.1,hj.2,hq _ _ A1 z1 z2 uA⟩
  ·cases e
 ·cases e
theorem BB {tg a b:JQ}{f:FA}{p pos:LK}(hg:Gl X "range")(hm:X.mg "range" = gV)(ha:GA X [a,b] f)(hs:starEach [a,b] X.env=[(false,eval a X.env),(false,eval b X.env)])(hs2:starEach [b] X.env=[(false,eval b X.env)]):GI X tg (.Call (.Name "range" p) [a,b] [] pos) (iRng2 f):=by
 intro pins s σ H R I ⟨A,ρ,S,mi,S',er,so,e,hq⟩;unfold iRng2 at e;split at e
 ·rename_i i j S1 h1;split at e
  ·rename_i hj;cases e;refine vd hg hm ha hs hs2 pins s σ H R I ⟨A,ρ,S,_,_,er,so,h1,λvs H1 ⟨A1,z1,z2,z3⟩=>?_⟩
   cases z3 with
   | cons r1 t=>
    cases t with
    | cons r2 t=>
     cases t;cases r1;cases r2;exact⟨i,j,rfl,hj,hq _ _ A1 z1 z2 uA⟩
  ·cases e
 ·cases e
theorem Ed {tg l:JQ}{f:FE}(h:GE X l f):GI X tg l (Bx f):=by
 intro pins s σ H R I ⟨A,ρ,S,mi,S',er,so,e,hq⟩;unfold Bx at e;split at e
 ·rename_i ws S1 h1;cases e;refine b8 (h pins s σ H (EndV X.w X.K A H _ (.tup ws)) I ⟨A,ρ,S,_,_,er,so,h1,λ_ _ z=>z⟩) λv s1 ⟨x,H1,I1,r1,A1,e1,o1,z1⟩=>?_
  cases z1 with
  | tup hq1 rl=>
   refine sS I1 r1 hq1 (hq _ _ A1 e1 o1 (By hq1 rl))
 ·rename_i r S1 h1;split at e
  ·rename_i ys hy;cases e;refine b8 (h pins s σ H (EndV X.w X.K A H _ (.ref r)) I ⟨A,ρ,S,_,_,er,so,h1,λ_ _ z=>z⟩) λv s1 ⟨x,H1,I1,r1,A1,e1,o1,z1⟩=>?_
   cases z1 with
   | ref ea=>
    obtain⟨vs,hl,_⟩:=cR o1 hy ea;exact qX I1 r1 hl (hq _ _ A1 e1 o1 (Bz ea))
  ·cases e
 ·cases e
theorem Ee {tg iter:JQ}{body:Jf L0}{pos:LK}{fi:FI}{g:FG}{fb:FS}(hp:O4 (model X.prog X.w) X.A X.env X.xe)(hc:X.calm=true)(hi:GI X tg iter fi)(hg:GG X tg g)(hb:GSs X body fb)
  (hs:∀x,foldedSetIterable iter X.env x=pure x):GS X (.For tg iter body [] pos) (yC fi g fb):=GS.of (Do hp hc hi hg hb hs) λσ H A ρ S o S' er so e D hd=>by
 unfold yC at e;split at e
 ·rename_i mi S1 h1;split at e
  ·rename_i n hn;refine⟨A,ρ,S,mi,S1,er,so,h1,λJ H1 A1 z1 z2 mit=>?_⟩
   refine⟨λi m σ2 H2=>∃A2 ρ2 S2,Ext X.K A1 H1 A2 H2/\EnvRel X.K A2 H2 ρ2 σ2/\StoreOk X.w X.K A2 H2 S2/\gm mi g fb m i ρ2 S2=ba (o,S'),⟨n,A1,ρ,S1,.refl,er.mono z1,z2,e⟩,?_⟩
   rintro i m σ2 H2 ⟨A2,ρ2,S2,e2,er2,so2,w2⟩;cases m with
   | zero=>
    simp only[gm]at w2;split at w2
    ·rename_i hs;cases w2;exact .inl ⟨mit.stop A2 H2 _ i e2 so2 hs,hd.nx _ _ ⟨_,A2,rfl,z1.trans e2,so2,er2⟩⟩
    ·cases w2
   | succ m=>
    simp only[gm]at w2;split at w2
    ·rename_i w hw;obtain⟨go,yl⟩:=mit.go A2 H2 S2 i w e2 so2 hw;refine .inr ⟨go,λσ3 H3=>∃A3 ρ3 S3,Ext X.K A1 H1 A3 H3/\EnvRel X.K A3 H3 ρ3 σ3/\StoreOk X.w X.K A3 H3 S3/\gm mi g fb m (i+1) ρ3 S3=ba (o,S'),λσ' H' h=>⟨m,Lf _,h⟩,λx H3 hy=>?_⟩
     obtain⟨x1,x2,x3⟩:=yl x H3 hy;split at w2
     ·rename_i ρ3 S3 h3;refine⟨A2,ρ2,S2,w,ρ3,S3,er2.mono x1,x2,x3,h3,λσ4 H4 A4 y1 y2 y3=>?_⟩
      have ex:Ext X.K A1 H1 A4 H4:=(e2.trans x1).trans y1;split at w2
      ·rename_i ρ5 S5 h5;refine⟨A4,ρ3,S3,_,S5,y3,y2,h5,⟨λσ' H' ⟨ρ',A',u0,u1,u2,u3⟩=>?_,λv H' ⟨w,A',y0,_⟩=>(by cases y0),λv H' ⟨w,A',y0,_⟩=>(by cases y0),λv H' ⟨w,A',y0,_⟩=>(by cases y0)⟩⟩
       cases u0;exact⟨A',_,S5,ex.trans u1,u3,u2,w2⟩
      ·rename_i ρ5 S5 h5;refine⟨A4,ρ3,S3,_,S5,y3,y2,h5,⟨λv H' ⟨w,A',y0,_⟩=>(by cases y0),λv H' ⟨w,A',y0,_⟩=>(by cases y0),λv H' ⟨w,A',y0,_⟩=>(by cases y0),λσ' H' ⟨ρ',A',u0,u1,u2,u3⟩=>?_⟩⟩
       cases u0;exact⟨A',_,S5,ex.trans u1,u3,u2,w2⟩
      ·rename_i ρ5 S5 h5;cases w2;refine⟨A4,ρ3,S3,_,_,y3,y2,h5,⟨λv H' ⟨w,A',y0,_⟩=>(by cases y0),λv H' ⟨w,A',y0,_⟩=>(by cases y0),λσ' H' ⟨ρ',A',u0,u1,u2,u3⟩=>?_,λv H' ⟨w,A',y0,_⟩=>(by cases y0)⟩⟩
       cases u0;exact hd.nx _ _ ⟨_,A',rfl,(z1.trans ex).trans u1,u2,u3⟩
      ·rename_i w5 S5 h5;cases w2;refine⟨A4,ρ3,S3,_,_,y3,y2,h5,⟨λv H' ⟨w,A',y0,_⟩=>(by cases y0),λv H' ⟨w,A',u0,u1,u2,u3⟩=>?_,λv H' ⟨w,A',y0,_⟩=>(by cases y0),λv H' ⟨w,A',y0,_⟩=>(by cases y0)⟩⟩
       cases u0;exact hd.rt _ _ ⟨_,A',rfl,(z1.trans ex).trans u1,u2,u3⟩
      ·cases w2
     ·cases w2
    ·cases w2
  ·cases e
 ·cases e
end
section
variable{prog:JY}{w:J6}{B:J1}{E:Jh->Jk->Prop}{s:Jk}
theorem BC {d:Jq}{es:JV LA}{ep:Jp}{Q:Jh->Jk->Prop}(hd:(d==sysModules)=false)(hm:RawD d es ep s.heap)(hfit:(es.size:Jy) < 2 ^ 63)
  (h:Q (.int es.size (s.toks+1)) { s with toks:=s.toks+1+1 }):wpAny (model prog w) B (call (.builtin "len") [.ref d]) Q E s:=by
 have hT:=hm.type;obtain⟨o,ho,hc,hdat⟩:=id hm;refine MB kind_len plain_len entry_len (args_len1 _) ?_;unfold Mn.«len»;refine Jg (m:=oneArg "len" _) (Jm ?_);refine Jg (m:=callSpecial? (.ref d) (Lp "__len__")) (Kw (name:=Lp "__len__") hT F.slot_dict_len (Kx F.slot_dict_len hT F.entry_dict_len ?_ (F.args_dict_len_1 _)));show wpAny _ _ (dictSize d >>= _) _ _ s;unfold dictSize;refine Jg (Jg (M4 ho hdat (Jm ?_)));show wpAny _ _ (Rc d >>= _) _ _ s;refine Jg (wpAny_pendingCount_other hd ?_);refine wpAny_ret_mkInt ?_;rw[Nat.add_zero];show wpAny _ _ _ _ _ { s with toks:=s.toks+1 }
 refine Jg (Ku (Jm ?_));refine Jg (Ng ?_);show wpAny _ _ (if ((es.size:Jp):Jy) < 0 then _ else _) _ _ _
 rw[JX (by omega)]
 show wpAny _ _ (if ((es.size:Jp):Jy)>=2 ^ 63 then _ else _) _ _ _
 rw[JX (by omega)]
 exact Jg (Qs (Jm ⟨_,rfl,h⟩))
end
section
variable{X:Cx}{pins:Jf (Jq×K2)}{σ:L2.St}{H:Hp}{s:Jk}{A:Jf Jq}{S:aa}
theorem sT:LCall X (.builtin "len") sJ:=by
 intro pins s σ H A S xs vs us w S' I so rl rv e
 by_cases hd:∃i kvs,xs=[.ref i]/\j8 S i=ba kvs
 ·obtain⟨i,kvs,rfl,hk⟩:=hd;simp only[sJ,hk]at e;cases e;cases rl with
  | cons r t=>
   cases t;cases rv with
   | cons ru rv2=>
    cases rv2;cases r with
    | ref ea=>
     obtain⟨xs,rd,kr⟩:=gl so hk ea;have d:=cZ I rd;obtain⟨es,ep,raw,he⟩:=d.raw;obtain rfl:_=J3 _:=ru;have hl:es.size=xs.length:=by rw[<- JB,he,Ji]
     have hz:=d.1;have hs:sizeLine=16777216:=Ki;refine BC d.2.1 raw (by omega) ⟨.int kvs.length,H,A,I.tok _,⟨_,by rw[kr.length,hl]⟩,.refl,so,.int⟩
 ·have:sJ xs S=sy xs S:=by
   unfold sJ;split
   ·rename_i i;split
    ·rename_i kvs hk;exact absurd ⟨i,kvs,rfl,hk⟩ hd
    ·rfl
   ·rfl
  rw[this]at e;exact vx pins s σ H A S xs vs us w S' I so rl rv e
noncomputable def IL (S:aa):W->Jn KQ
 | .non=>ba "NoneType"|.bl _=>ba "bool"|.int _=>ba "int"|.str _=>ba "str"|.tup _=>ba "tuple"
 | .ref i=>match iL S i with
  | some _=>ba "list"
  | none=>(j8 S i).map λ_=>"dict"
noncomputable def uB:Jf KQ:=["bool","int","str","tuple","list","dict"]
noncomputable def yD (S:aa)(x:W)(c:KQ):Jn JW:=match IL S x with
 | some t=>if uB.contains c then ba (t==c||(t == "bool" && c == "int"))else gV
 | none=>gV
theorem iw {K:Jv}{t c:KQ}(ht:t∈["NoneType","bool","int","str","tuple","list","dict"])(hc:c∈uB):PySem.W.kitOne K (.type t) (.type c)=ba (t==c||(t == "bool" && c == "int")):=by
 simp only[uB,JP,Kl,Lu]at ht hc;rcases ht with rfl|rfl|rfl|rfl|rfl|rfl|rfl <;> rcases hc with rfl|rfl|rfl|rfl|rfl|rfl <;> rfl
theorem yE:CallR X (.builtin "isinstance") (λvs H Q=>∃A S x v c b,vs=[v,.ty c]/\StoreOk X.w X.K A H S/\Rel X.K A H x v/\yD S x c=ba b/\Q (.bl b) H):=by
 intro pins s σ H vs us Q I rv ⟨A,S,x,v,c,b,e1,so,rx,e2,hq⟩;subst e1;cases rv with
 | cons r1 rv2=>cases rv2 with
  | cons r2 rv3=>
   cases rv3;obtain rfl:_=K4 c:=r2;unfold yD at e2;split at e2
   ·rename_i t ht;split at e2
    ·rename_i hc;cases e2;have hc':c∈uB:=by simpa using hc
     have fin:∀tk,EP X pins σ Q (.bool (t==c||(t == "bool" && c == "int"))) { s with toks:=tk }:=λtk=>⟨.bl _,H,I.tok _,rfl,hq⟩
     cases rx with
     | non=>cases ht; cases(show _=Ke from r1); exact LS PySem.W.kitx_none I.kIn Nb (iw (by simp) hc') (λz=>nomatch z) fin
     | bl=>cases ht; cases(show _=Mp _ from r1); exact LS PySem.W.kitx_bool I.kIn Nb (iw (by simp) hc') (λz=>nomatch z) fin
     | int=>cases ht; obtain⟨t',q⟩:=(show ∃t,_=N7 _ t from r1); cases q; exact LS PySem.W.kitx_int I.kIn Nb (iw (by simp) hc') (λz=>nomatch z) fin
     | str=>cases ht; obtain⟨t',q⟩:=(show ∃t,_=M7 _ t from r1); cases q; exact LS PySem.W.kitx_str I.kIn Nb (iw (by simp) hc') (λz=>nomatch z) fin
     | tup h1 r1'=>
      cases ht;obtain⟨its,rv,⟨o,q1,q2,_⟩,hz⟩:=I.tuple h1;cases(show _=J3 _ from r1)
      exact LS PySem.W.kitx_tuple I.kIn ⟨o,q1,q2⟩ (iw (by simp) hc') (λz=>nomatch z) fin
     | ref ea=>
      cases(show _=J3 _ from r1)
      simp only[IL]at ht;split at ht
      ·rename_i ws hw;cases ht;obtain⟨vs,h1,_⟩:=cR so hw ea;obtain⟨its,rv,p,hz⟩:=I.list h1;obtain⟨o,q1,q2,_⟩:=p.isList;exact LS PySem.W.kitx_list I.kIn ⟨o,q1,q2⟩ (iw (by simp) hc') (λz=>nomatch z) fin
      ·rw[Jl]at ht;obtain⟨kvs,hk,rfl⟩:=ht;obtain⟨xs,rd,kr⟩:=gl so hk ea;obtain⟨es,ep,⟨o,q1,q2,_⟩,he⟩:=(cZ I rd).raw;exact LS PySem.W.kitx_dict I.kIn ⟨o,q1,q2.1⟩ (iw (by simp) hc') (λz=>nomatch z) fin
    ·cases e2
   ·cases e2
noncomputable def yF (c:KQ)(f:FE):FE:=λρ S=>match f ρ S with
 | some (x,S1)=>(yD S1 x c).map λb=>(.bl b,S1)
 | none=>gV
theorem Ef {cn:JG}{c:KQ}{e:JQ}{p p2 pos:LK}{f:FE}(hg:Gl X "isinstance")(hm:X.mg "isinstance" = gV)(hg2:Gl X cn)(hm2:X.mg cn=gV)(hv2:bootBuiltins cn=ba (.type c))(hn2:cn≠"__name__")(hd2:(cn==("__debug__" : JG))=false)
  (he:GE X e f) (hs:starEach [e,.Name cn p2] X.env=(false,eval e X.env)::starEach [.Name cn p2] X.env):GE X (.Call (.Name "isinstance" p) [e,.Name cn p2] [] pos) (yF c f):=
 GE.of (qf (yE) hg hm rfl (oJ he (oJ (Ak (v:=.ty c) hg2 hm2 hv2 rfl hn2 hd2) xg) hs) (by decide) (by decide) hs rfl) λσ H A ρ S w S' er so e Q hq=>by
  unfold yF at e;split at e
  ·rename_i x1 S1 h1;rw[Jl]at e;obtain⟨b,e1,e2⟩:=e;cases e2;exact⟨A,ρ,S,x1,_,er,so,h1,λv H1 ⟨A1,z1,z2,z3⟩=>⟨A1,_,x1,v,c,b,rfl,z2,z3,e1,hq _ _ ⟨A1,z1,z2,.bl⟩⟩⟩
  ·cases e
end
noncomputable def dS:Jf (T×W)->Jf W->Jn (Jf (T×W))
 | kvs,[]=>ba kvs
 | kvs,k::v::ws=>match gR k with
  | some t=>dS (eQ kvs t v) ws
  | none=>gV
 | _,[_]=>gV
noncomputable def Cz:FE:=λ_ S=>ba (.ref S.length,S++[.dic []])
noncomputable def qY (f:FA):FE:=λρ S=>match f ρ (S++[.dic []])with
 | some (ws,S1)=>match S1[S.length]? with
  | some (.dic [])=>match dS [] ws with
   | some kvs=>ba (.ref S.length,S1.set S.length (.dic kvs))
   | none=>gV
  | _=>gV
 | none=>gV
section
variable (K:Jv) (A:Jf Jq) (H:Hp)
inductive RelP:Jf W->Jf (V×V)->Prop
 | nil:RelP [] []
 | cons {k v:W} {a b:V} {ws:Jf W} {ps:Jf (V×V)}:Rel K A H k a->Rel K A H v b->RelP ws ps->RelP (k::v::ws) ((a,b)::ps)
end
theorem RelP.mono {K:Jv}{A A':Jf Jq}{H H':Hp}(e:Ext K A H A' H'){ws:Jf W}{ps:Jf (V×V)}(h:RelP K A H ws ps):RelP K A' H' ws ps:=by
 induction h with
 | nil=>exact .nil
 | cons a b c ih=>exact .cons (a.mono e) (b.mono e) ih
section
variable{X:Cx}{pins:Jf (Jq×K2)}{σ:L2.St}{H:Hp}{s:Jk}{A:Jf Jq}{S:aa}
noncomputable def HR (X:Cx)(A:Jf Jq)(H:Hp)(S':aa)(ws:Jf W):Jf (V×V)->Hp->Prop:=λps H'=>∃A',Ext X.K A H A' H'/\StoreOk X.w X.K A' H' S'/\RelP X.K A' H' ws ps
noncomputable def F5 (X:Cx)(pos:LK)(keys:Jf (Jn JQ))(values:Jf JQ)(f:FA):Prop:=
 ∀(pins:Jf (Jq×K2)) (s:Jk) (σ:L2.St) (H:Hp) (A:Jf Jq) (ρ:Fm) (S:aa) (ws:Jf W) (S':aa),Inv X pins σ H s->EnvRel X.K A H ρ σ->StoreOk X.w X.K A H S->f ρ S=ba (ws,S')->
  wpAny (model X.prog X.w) X.A (evalPairs (pairTrees keys values X.env pos)) (λvs s'=>∃ps H',Inv X pins σ H' s'/\VV ps vs/\HR X A H S' ws ps H') X.xe s
theorem BE {pos:LK}:F5 X pos [] [] kz:=λpins s σ H A ρ S ws S' I er so e=>by
 cases e;exact pairTrees_nil_walk ⟨[],H,I,.nil,A,.refl,so,.nil⟩
theorem yG {pos:LK}{k v:JQ}{ks:Jf (Jn JQ)}{vs:Jf JQ}{fk fv:FE}{f:FA}(hk:GE X k fk)(hv:GE X v fv)(hr:F5 X pos ks vs f):F5 X pos (ba k::ks) (v::vs) (eX fk (eX fv f)):=λpins s σ H A ρ S ws S' I er so e=>by
 unfold eX at e;split at e
 ·rename_i w1 S1 h1;split at e
  ·rename_i w2 S2 h2;cases e;split at h2
   ·rename_i w3 S3 h3;split at h2
    ·rename_i w4 S4 h4;cases h2;refine pairTrees_cons_walk (b8 (hk pins s σ H (EndV X.w X.K A H S1 w1) I ⟨A,ρ,S,_,_,er,so,h1,λ_ _ z=>z⟩) λu s1 ⟨x,H1,I1,r1,A1,e1,o1,z1⟩=>
      b8 (hv pins s1 σ H1 (EndV X.w X.K A1 H1 S3 w3) I1 ⟨A1,ρ,S1,_,_,er.mono e1,o1,h3,λ_ _ z=>z⟩) λu2 s2 ⟨x2,H2,I2,r2,A2,e2,o2,z2⟩=>
      b8 (hr pins s2 σ H2 A2 ρ S3 _ _ I2 (er.mono (e1.trans e2)) o2 h4) λvs' s3 ⟨ps,H3,I3,rel,A3,e3,o3,z3⟩=>?_)
     exact⟨(x,x2)::ps,H3,I3,.cons ⟨r1,r2⟩ rel,A3,e1.trans (e2.trans e3),o3,.cons (z1.mono (e2.trans e3)) (z2.mono e3) z3⟩
    ·cases h2
   ·cases h2
  ·cases e
 ·cases e
theorem og {r:Jp}{d:Jq}{E:Jh->Jk->Prop}(hu:X.A.units+10 < cLine):∀(vs:Jf (Jh×Jh)) (ps:Jf (V×V)) (ws:Jf W) (kvs kvs':Jf (T×W)) (s:Jk) (H:Hp) (S:aa) (Q:PUnit->Jk->Prop),
  Inv X pins σ H s->StoreOk X.w X.K A H S->o5 S r=ba kvs->A[r]?=ba d->RelP X.K A H ws ps->VV ps vs->dS kvs ws=ba kvs'->kvs.length+vs.length<=30->
  (∀s' H',Inv X pins σ H' s'->Ext X.K A H A H'->StoreOk X.w X.K A H' (S.set r (.dic kvs'))->Q Pq s')->
  wpAny (model X.prog X.w) X.A (forIn vs Pq λ(x:Jh×Jh) (_:PUnit)=>(do dictSet d x.1 x.2; pure (Lb Pq):RI (ForInStep PUnit))) Q E s
 | [],_,_,kvs,kvs',s,H,S,Q,I,so,hr,ea,rp,vv,e,hl,hq=>by
  cases vv;cases rp;cases e;rw[Q7];refine Jm (hq s H I .refl ?_);have hS:=iU hr;have:S.set r (.dic kvs)=S:=by
   apply NV;intro j;rw[K7];split
   ·rename_i e; subst e
    split
    ·exact hS.symm
    ·rename_i h; exact absurd (Ju.mp hS).1 h
   ·rfl
  rw[this]; exact so
 | (ku,vu)::vs,_,_,kvs,kvs',s,H,S,Q,I,so,hr,ea,rp,vv,e,hl,hq=>by
  cases vv with
  | cons hv vv2=>
   cases rp with
   | @cons wk wv va vb ws2 ps2 rk rv' rp2=>
    simp only[dS]at e;split at e
    ·rename_i t ht;rw[Oy];obtain⟨xs,hH,kr⟩:=t4 so hr ea;have dd0:=cZ I (.inl hH);have dd:=dd0.dict I kr;obtain⟨bk,e1,e2,rkk⟩:=iT ht rk hv.1;have e2:ku=J3 bk:=e2;subst e2;obtain⟨q1,q2,q3⟩:=en ht;rw[Ky]at hl;have hz:xs.length<=sizeLine:=dd0.1;refine Jg (Jg (wpAny_dictSet_heap (hsz:=hz) (show X.A.units+aH < cLine by unfold aH; omega) (ju I rkk q3) dd λh' dd' hs=>Jm ?_))
     have kr':=kr.put q2 q3 rkk rv' hv.2;have hz':(storedH xs t bk vu).length<=sizeLine:=by
      rw[<- kr'.length];have h2:=dg kvs t wv;rw[Ki];omega
     have dn:DicAt X.w d (storedH xs t bk vu) h':=.of hz' dd0.2.1 dd';obtain⟨so',ex⟩:=so.writeO (iU hr) rfl ea (u:=ey X.w d (storedH xs t bk vu)) (n:=.dic (eQ kvs t wv)) ⟨_,bv,kr'.mono (dG (.ext hH))⟩;have I':Inv X pins σ (cj H d (ey X.w d (storedH xs t bk vu))) { s with heap:=h',toks:=s.toks+(bI X.prog X.w).draws t }:=oR I (by rw[hH]; exact Nb) hs (let ⟨q,_,_,hq,_⟩:=dd'; ⟨q,hq⟩) dn.ok
     have hl':(S.set r (.dic (eQ kvs t wv)))[r]?=ba (.dic (eQ kvs t wv)):=by
      rw[K7,JN rfl,JN (Ju.mp (iU hr)).1]
     refine og hu vs _ _ (eQ kvs t wv) kvs' _ _ _ Q I' so' (by unfold o5; rw[hl']) ea (rp2.mono ex) vv2 e (by have:=dg kvs t wv; omega) λs' H' I2 ex2 so2=>?_
     rw[List.set_set]at so2;exact hq s' H' I2 (ex.trans ex2) so2
    ·cases e
theorem BF {pos:LK}:GE X (.Dict [] [] pos) Cz:=λpins s σ H Q I ⟨A,ρ,S,w,S',er,so,e,hq⟩=>by
 cases e;have hn:=I.hok.fresh (Js s.heap.objs.size);have dn:DicAt X.w s.heap.objs.size [] (s.heap.push { cls:=.type "dict",data:=.dict #[] }):=⟨KY _,Nn.mpr (Ne.symm (JM I.big)),NK,_,#[],0,JA _ rfl,⟨rfl,rfl,rfl⟩,rfl,rfl⟩;refine wpAny_Dict_empty ⟨.ref s.heap.objs.size,_,I.laid (a:=s.heap.objs.size) (o:=ey X.w s.heap.objs.size []) (t':=s.toks) (λ_ _ q=>Jj _ q) (Js _) dn.ok,rfl,hq _ _ ⟨A++[s.heap.objs.size],dt hn,so.pushO hn ⟨[],bv,.nil⟩,.ref ?_⟩⟩
 rw[<- so.len]; simp
theorem BG {pos:LK}{keys:Jf (Jn JQ)}{values:Jf JQ}{f:FA}(hu:X.A.units+10 < cLine)(h:F5 X pos keys values f)(hall:keys.all (·.isSome)=true)(hl:keys.length=values.length)(h0:keys≠[])(h15:keys.length<=15):GE X (.Dict keys values pos) (qY f):=by
 intro pins s σ H Q I ⟨A,ρ,S,w,S',er,so,e,hq⟩;unfold qY at e;split at e
 ·rename_i ws S1 h1;split at e
  ·rename_i hS1;split at e
   ·rename_i kvs hp;cases e;have hn:=I.hok.fresh (Js s.heap.objs.size);have dn:DicAt X.w s.heap.objs.size [] (s.heap.push { cls:=.type "dict",data:=.dict #[] }):=⟨KY _,Nn.mpr (Ne.symm (JM I.big)),NK,_,#[],0,JA _ rfl,⟨rfl,rfl,rfl⟩,rfl,rfl⟩;have I1:=I.laid (a:=s.heap.objs.size) (o:=ey X.w s.heap.objs.size []) (h':=s.heap.push { cls:=.type "dict",data:=.dict #[] }) (t':=s.toks) (λ_ _ q=>Jj _ q) (Js _) dn.ok
    have ex0:Ext X.K A H (A++[s.heap.objs.size]) (cj H s.heap.objs.size (ey X.w s.heap.objs.size [])):=dt hn;have so0:StoreOk X.w X.K (A++[s.heap.objs.size]) (cj H s.heap.objs.size (ey X.w s.heap.objs.size [])) (S++[.dic []]):=so.pushO hn ⟨[],bv,.nil⟩;have hlen:=pairTrees_length keys values X.env pos hall hl;have hne:pairTrees keys values X.env pos≠[]:=λhe=>by
     rw[he]at hlen;exact h0 (LB.mp hlen.symm)
    rw[arm_eval_Dict,zip_pairTrees keys values X.env pos hall hl,dictDisplay_pairs _ hne (by omega)]
    refine Jg (Nc (Jg ?_));unfold subDict;refine Jg (RQ ?_);refine Jg (Ku ?_);rw[JN (by omega)]
    refine Jg (Lc (wpAny_evalPairs_len (h pins _ σ _ _ ρ _ _ _ I1 (er.mono ex0) so0 h1)) (λvs s₁ h₁=>?_) λ_ _ e=>e)
    obtain⟨hvl,ps,H2,I2,vv,A2,ex2,so2,rp⟩:=h₁;refine Ku ?_;have ea:A2[S.length]?=ba s.heap.objs.size:=ex2.ad _ _ (by rw[<- so.len]; simp)
    refine Jg (og hu vs ps ws [] kvs s₁ H2 S1 _ I2 so2 (by unfold o5; rw[hS1]) ea rp vv hp (by rw[Lk]; omega) λs' H' I3 ex3 so3=>?_)
    exact Jm (Jm (Jm ⟨.ref s.heap.objs.size,H',I3,rfl,hq _ _ ⟨A2,ex0.trans (ex2.trans ex3),so3,.ref ea⟩⟩))
   ·cases e
  ·cases e
 ·cases e
end
noncomputable def IM (wd:J6)(a:Jq)(o:K2)(xs:Jf (T×Jq×Jh)):It:=
 ⟨λi H=>H a=ba (.frz o (ey wd a xs))/\i < xs.length,λi H x H'=>H'=H/\∃q,xs[i]?=ba q/\x=.ref q.2.1,λi H=>H a=ba (.frz o (ey wd a xs))/\xs.length<=i⟩
theorem vU {P:JY}{w:J6}{K:Jv}{tg:JQ}(a it:Jq){o:K2}{es:JV LA}{ep:Jp}{xs:Jf (T×Jq×Jh)}(hx:o.ExactDict)(hd:o.data=.dict es ep)(he:es.toList=xs.map (xv w)) :
  Turn P w K tg (IM w a o xs) [it] it (λi h=>h.IsKeyIter it a i es.size ep) where
 mem:=by simp
 obj:=λi h st b hb=>by
  have e:b=it:=by simpa using hb
  subst e;obtain⟨o,e,c,d⟩:=st;exact⟨o,e,λv z=>by rw[d]at z; cases z⟩
 keep:=λi h h' st k=>st.at λo e=>k it (by simp) o e
 item:=by
  intro X hP hw hK hc i pins s σ H E I hf st hg;subst hP hw hK;obtain⟨hH,hi⟩:=hg;have ho:s.heap.get? a=ba o:=(show ObjOk X.prog X.w H s.heap a (.frz o (ey X.w a xs))from I.hok a _ hH).1
  have hl:es.size=xs.length:=by rw[<- JB,he,Ji]
  have hi':i < es.size:=by omega
  obtain⟨f0,f1,f2,f3,f4,f5⟩:=hf it (by simp)
  have hk:es[i].key=.ref (xs[i]).2.1:=by
   have:es.toList[i]?=ba (xv X.w xs[i]):=by rw[he,Jr,Jw hi]; rfl
   rw[KI,Lm hi']at this;have:=Kz this;rw[this]; rfl
  refine qD st ⟨o,ho,hx,hd⟩ hi' λh' st' sb=>?_
  have I1:Inv X pins σ H { s with heap:=h' }:=I.turned (t':=s.toks) (λb o hb e=>(sb.2 b hb).trans e) f0 f1 f3 f4 f5
  obtain⟨o',e,c,d⟩:=id st';exact⟨_,rfl,tJ (s:={ s with heap:=h' }) e c d (by decide) ⟨.ref (xs[i]).2.1,H,I1,hk,⟨rfl,xs[i],Jw hi,rfl⟩,st',λb hb=>(hf b hb).1⟩⟩
 done:=by
  intro X hP hw hK hc i pins s σ H E I hf st hg;subst hP hw hK;obtain⟨hH,hi⟩:=hg;have ho:s.heap.get? a=ba o:=(show ObjOk X.prog X.w H s.heap a (.frz o (ey X.w a xs))from I.hok a _ hH).1
  have hl:es.size=xs.length:=by rw[<- JB,he,Ji]
  obtain⟨f0,f1,f2,f3,f4,f5⟩:=hf it (by simp)
  exact uc (I.ok.hd hc) st ⟨o,ho,hx,hd⟩ (by omega) λh' eb=>⟨rfl,I.turned (t':=s.toks) (λb o hb e=>eb b o hb e) f0 f1 f3 f4 f5⟩
 self:=λ_ _ _ _ _ st h=>OW st h
noncomputable def fZ (f:FE):FI:=λρ S=>match f ρ S with
 | some (.tup ws,S1)=>ba (.its ws,S1)
 | some (.ref r,S1)=>match iL S1 r with
  | some _=>ba (.live r,S1)
  | none=>match j8 S1 r with
   | some kvs=>ba (.its (kvs.map λp=>p.1.w),S1.set r (.frd kvs))
   | none=>gV
 | _=>gV
section
variable{X:Cx}{pins:Jf (Jq×K2)}{σ:L2.St}{H:Hp}{s:Jk}{A:Jf Jq}{S:aa}
theorem yH {a:Jq}{o:K2}{kvs:Jf (T×W)}{xs:Jf (T×Jq×Jh)}(hH:H a=ba (.frz o (ey X.w a xs)))(kr:KRel X.K A H kvs xs):MIt X.w X.K (.its (kvs.map λp=>p.1.w)) (IM X.w a o xs) A H:=by
 refine⟨λA' H' S i w e so hi=>?_,λA' H' S i e so hi=>?_⟩
 ·simp only[MI.at,J5]at hi;obtain⟨v,h1,h2⟩:=((kr.mono e).keysL).get hi;rw[Jr,Jl]at h1;obtain⟨q,q1,q2⟩:=h1;refine⟨⟨e.fz _ _ _ hH,(Ju.mp q1).1⟩,λx H2 ⟨z1,q',z2,z3⟩=>?_⟩
  subst z1 z3;rw[q1]at z2; cases z2
  exact⟨.refl,so,by rw[q2]; exact h2⟩
 ·simp only[MI.at,J5]at hi;refine⟨e.fz _ _ _ hH,?_⟩;have:=KD.mp hi;rw[Ji,kr.length]at this;exact this
theorem BH {tg l:JQ}{f:FE}(h:GE X l f):GI X tg l (fZ f):=by
 intro pins s σ H R I ⟨A,ρ,S,mi,S',er,so,e,hq⟩
 by_cases hd:∃r S1 kvs,f ρ S=ba (.ref r,S1)/\iL S1 r=gV/\j8 S1 r=ba kvs
 ·obtain⟨r,S1,kvs,h1,h2,h3⟩:=hd;simp only[fZ,h1,h2,h3]at e;cases e;refine b8 (h pins s σ H (EndV X.w X.K A H S1 (.ref r)) I ⟨A,ρ,S,_,_,er,so,h1,λ_ _ z=>z⟩) λv s1 ⟨x,H1,I1,r1,A1,e1,o1,z1⟩=>?_
  cases z1 with
  | @ref _ a ea=>
   obtain rfl:v=J3 a:=r1;have fz:∃o xs H2,Inv X pins σ H2 s1/\Ext X.K A1 H1 A1 H2/\StoreOk X.w X.K A1 H2 (S1.set r (.frd kvs))/\H2 a=ba (.frz o (ey X.w a xs))/\KRel X.K A1 H2 kvs xs:=by
    unfold j8 at h3;split at h3
    ·rename_i k hk;cases h3;obtain⟨xs,hH,kr⟩:=o1.obj r _ a hk ea;have d:=cZ I1 (.inl hH);obtain⟨_,_,_,o,es,ep,q1,q2,q3,q4⟩:=id d;obtain⟨so',ex⟩:=o1.writeO hk rfl ea (u:=.frz o (ey X.w a xs)) (n:=.frd kvs) ⟨o,xs,bv,kr.mono (dG (.ext hH))⟩;exact⟨o,xs,_,oR (h':=s1.heap) (t':=s1.toks) (ob:=.frz o (ey X.w a xs)) I1 (by rw[hH]; exact Nb) (PZ _ _) ⟨o,q1⟩ ⟨q1,d.ok⟩,ex,so',bv,kr.mono ex⟩
    ·rename_i k hk;cases h3;obtain⟨o,xs,hH,kr⟩:=o1.obj r _ a hk ea;have:S1.set r (.frd kvs)=S1:=by
      apply NV;intro j;rw[K7];split
      ·rename_i e; subst e
       split
       ·exact hk.symm
       ·rename_i h; exact absurd (Ju.mp hk).1 h
      ·rfl
     rw[this];exact⟨o,xs,H1,I1,.refl,o1,hH,kr⟩
    ·cases h3
   obtain⟨o,xs,H2,I2,ex,so2,hH,kr⟩:=fz;have d:=cZ I2 (.inr ⟨o,hH⟩);have ho:s1.heap.get? a=ba o:=(show ObjOk X.prog X.w H2 s1.heap a (.frz o (ey X.w a xs))from I2.hok a _ hH).1
   obtain⟨_,hsm,_,o',es,ep,q1,q2,q3,q4⟩:=id d;rw[ho]at q1;cases q1;refine qC hsm ⟨o,ho,q2,q3⟩ ?_;refine⟨s1.heap.objs.size,[s1.heap.objs.size],_,_,H2,rfl,I2.kept (t':=s1.toks) λb o e=>Jj _ e,vU a _ q2 q3 q4,⟨_,JA _ rfl,rfl,rfl⟩,λb hb=>?_,hq _ _ A1 (e1.trans ex) so2 (yH hH kr)⟩
   have e:b=s1.heap.objs.size:=by simpa using hb
   subst e;exact I2.fpOk (Js _) (I2.hok.fresh (Js _))
 ·have:fZ f ρ S=Bx f ρ S:=by
   unfold fZ Bx;cases hf:f ρ S with
   | none=>rfl
   | some p=>
    obtain⟨w,S1⟩:=p;cases w with
    | ref r=>
     cases h2:iL S1 r with
     | some _=>simp only[h2]
     | none=>
      cases h3:j8 S1 r with
      | none=>simp only[h2,h3]
      | some kvs=>exact absurd ⟨r,S1,kvs,hf,h2,h3⟩ hd
    | _=>rfl
  rw[this]at e;exact Ed h pins s σ H R I ⟨A,ρ,S,mi,S',er,so,e,hq⟩
end
noncomputable def ce (mi:MI)(g:FG)(c:FT)(f:FE):Jp->Jp->Fm->aa->Jn (Jf W×aa)
 | 0,i,_,S=>match mi.at S i with
  | some gV=>ba ([],S)
  | _=>gV
 | n+1,i,ρ,S=>match mi.at S i with
  | some (ba w)=>match g w ρ S with
   | some (ρ1,S1)=>match c ρ1 S1 with
    | some (true,S2)=>match f ρ1 S2 with
     | some (y,S3)=>match ce mi g c f n (i+1) ρ1 S3 with
      | some (ys,S4)=>ba (y::ys,S4)
      | none=>gV
     | none=>gV
    | some (false,S2)=>ce mi g c f n (i+1) ρ1 S2
    | none=>gV
   | none=>gV
  | _=>gV
noncomputable def gT (cap:Jf (Jn Jp))(ρ:Fm):Fm:=cap.map λo=>match o with
 | some j=>(ρ[j]?).join
 | none=>gV
noncomputable def lJ (fi:FI)(g:FG)(c:FT)(f:FE)(cap:Jf (Jn Jp)):FE:=λρ S=>match fi ρ S with
 | some (mi,S1)=>match mi.len S1 with
  | some n=>match ce mi g c f n 0 (gT cap ρ) S1 with
   | some (ys,S2)=>mI S2 ys
   | none=>gV
  | none=>gV
 | none=>gV
noncomputable def CA:FT:=λ_ S=>ba (true,S)
noncomputable def mF (X:Cx)(scope:Mm)(cl:Jf (JG×Jq))(C:Jq)(N:Jf JG)(s0:Jk)(H0:Hp)(ex:Jf Jq):Cx:=
 { X with env:=compEnvC scope cl C X.env,N:=N,s₀:=s0,H₀:=H0,outer:=X.stack,stack:=X.stack,ex:=ex,fn:=λ_=>false,pn:=[],xe:=λ_ _=>KN }
structure CompOk (X:Cx)(scope:Mm)(cl:Jf (JG×Jq))(N:Jf JG)(cap:Jf (Jn Jp)):Prop where
 clos:closureFor scope X.env=pure cl
 kind:scope.kind=.function
 names:∀y∈scope.names,y.2=.local->scope.names.lookup y.1=ba .local
 nocell:∀y∈scope.names,y.2≠.cell
 sub:∀x c,cl.lookup x=ba c->X.env.cells.lookup x=ba c
 has:∀x,((relabel scope X.env).names.lookup x=ba .cell\/(relabel scope X.env).names.lookup x=ba .free)->∃c,cl.lookup x=ba c
 len:cap.length=N.length
 cap:∀(i j:Jp) (x:JG),cap[i]?=ba (ba j)->N[i]?=ba x->X.N[j]?=ba x/\(X.env.kindOf x=ba .cell\/X.env.kindOf x=ba .free)/\((relabel scope X.env).names.lookup x=ba .cell\/(relabel scope X.env).names.lookup x=ba .free)
theorem gU {prog:JY}{w:J6}{A:J1}{R:Qe->Jk->Prop}{s:Jk}{elt target iter:JQ}{ifs:Jf JQ}{scope:Mm}{pos:LK}{it acc:Jh}{env:PC}(I:Jp->Jk->Prop)
    (turn:∀n s,I n s->wpAny (model prog w) A (pyNext it) (λr s₁=>match r with
      | none=>R (.ok .next) s₁
      | some v=>wpAny (model prog w) A (letOwnedTupleGo target it v) (λ_ s₁=>wpAny (model prog w) A (assign target env v) (λ_ s₂=>
          wpAny (model prog w) A (forIn ifs true λc r=>if r=true then do let ok <- isTrue c env (eval c env); pure (Lb ok)else pure (Lb r)) (λok s₃=>
            if ok=true then wpAny (model prog w) A (eval elt env) (λx s₄=>
              wpAny (model prog w) A (call (.builtin "list.append") [acc,x]) (λ_ s₅=>∃m,m < n/\I m s₅) (λ_ _=>KN) s₄) (λ_ _=>KN) s₃
            else ∃m,m < n/\I m s₃) (λ_ _=>KN) s₂) (λ_ _=>KN) s₁) (λ_ _=>KN) s₁) (λ_ _=>KN) s)
    (n:Jp) (h:I n s) :
    codeAny (model prog w) A (.compLoop (.ListComp elt [⟨target,iter,ifs,0⟩] scope pos) 0 it acc env) R s:=by
  refine codeAny_loop rfl I (λn s hI=>?_) n h
  show wpAny _ A ((compTurn (.ListComp elt [⟨target,iter,ifs,0⟩] scope pos) 0 it acc env).onRaise (λx=>do noteFrame x env; theTreesLotGoes x)) _ _ s
  refine wpAny_noted ?_;rw[compTurn_list];refine Jg (Nc (Jg (Lc (turn n s hI) (λr s₁ h₁=>?_) λ_ _ h'=>h'.elim)))
  cases r with
  | none=>exact Jm h₁
  | some v=>
    refine Jg (Lc h₁ (λ_ s₁ h₁=>?_) λ_ _ h'=>h'.elim)
    refine Jg (Lc h₁ (λ_ s₂ h₂=>Jg (Lc h₂ (λok s₃ h₃=>?_) λ_ _ h'=>h'.elim)) λ_ _ h'=>h'.elim)
    cases ok with
    | false=>exact Jm ⟨rfl,h₃⟩
    | true=>
      exact Jg (Jg (Lc h₃ (λx s₄ h₄=>Jg (Lc h₄ (λ_ s₅ h₅=>Jm (Jm ⟨rfl,h₅⟩)) λ_ _ h'=>h'.elim)) λ_ _ h'=>h'.elim))
section
variable{X:Cx}{pins:Jf (Jq×K2)}{σ:L2.St}{H:Hp}{s:Jk}
theorem Inv.adopt {D:Jq}{o:HO}(I:Inv X pins σ H s)(hn:H D=gV)(h1:D∈X.ex\/X.s₀.heap.objs.size<=D)(hL:D≠X.env.locals)(h2:∀x c,X.env.cells.lookup x=ba c->c≠D)(h3:∀p∈X.pn++pins,p.1≠D)
  (new:ObjOk X.prog X.w (cj H D o) s.heap D o):Inv X pins σ (cj H D o) s:=by
 have nit:∀b u,H b=ba u->b≠D:=λb u e z=>by rw[z,hn]at e; cases e
 have key:Inv X pins σ (cj H D o) { s with heap:=s.heap,gens:=s.gens,drawn:=s.drawn,toks:=s.toks }:=by
  refine I.step (g':=s.gens) (d':=s.drawn) (t':=s.toks) (h':=s.heap) (ch:=[D]) (λb hb=>?_) (λb o _ _ hc e _=>e) (λb o _ _ hc e _=>⟨o.slots,e⟩) (λb o hc e n=>?_)
   (λb o hc e=>⟨o,e⟩) (λb xs e=>?_) (λb o xs e=>?_) (λb ps e=>⟨#[],?_⟩) (λm hm=>hm) (λb u e=>?_) I.bare
  ·have e:b=D:=by simpa using hb
   subst e;exact⟨h1,hL,h2,h3⟩
  ·rw[aN (λz=>hc (by simp[z]))]; exact n
  ·rw[aN (nit b _ e)]; exact e
  ·rw[aN (nit b _ e)]; exact e
  ·rw[aN (nit b _ e),e]; simp
  ·by_cases hb:b=D
   ·subst hb; rw[bv]at e; cases e; exact new
   ·rw[aN hb]at e;refine(I.hok b u e).stay (λc v hc q=>q) (λc q=>?_) λc xs q=>?_
    ·rw[aN (nit c _ q)]; exact q
    ·rw[aN (nit c _ q)]; exact q
 exact key
theorem Eg {scope:Mm}{cl:Jf (JG×Jq)}{N:Jf JG}{cap:Jf (Jn Jp)}{C:Jq}{s0:Jk}{ex:Jf Jq}(I:Inv X pins σ H s)(ck:CompOk X scope cl N cap)(hs:s.heap.objs.size<=s0.heap.objs.size)(hC:s0.heap.objs.size<=C)
  (hk:∀b o,s.heap.get? b=ba o->s0.heap.get? b=ba o) (hex:∀b∈ex,(b≠C)/\(∀x c,X.env.cells.lookup x=ba c->c≠b)/\(∀o,X.base.get? b≠ba o)/\b∉sd X.stack) :
  (mF X scope cl C N s0 H ex).Ok where
 mod:=I.ok.mod
 kind:=ck.kind
 glob:=I.ok.glob
 blt:=I.ok.blt
 above:=hC
 inj:=λx y c h1 h2=>I.ok.inj x y c (ck.sub x c h1) (ck.sub y c h2)
 has:=λx h=>ck.has x h
 cab:=λx c h=>by cases h
 hd:=I.ok.hd
 frames:=I.ok.frames
 stk:=.inl rfl
 exf:=λb hb=>⟨(hex b hb).1,λx c h=>(hex b hb).2.1 x c (ck.sub x c h)⟩
 bs:=λb o e=>⟨hk b o (I.bk b o e),(I.bs b o e).2⟩
 bsz:=JF (JF I.ok.bsz I.sz) hs
 noex:=λb o e hb=>(hex b hb).2.2.1 o e
 exfs:=λb hb=>(hex b hb).2.2.2
 funs:=I.stack.of_keeps λb o e _=>⟨o,hk b o e,rfl⟩
 frf:=I.stkFree
structure BlockOk (X:Cx)(scope:Mm)(cl:Jf (JG×Jq))(N:Jf JG)(tg elt:JQ)(ifs:Jf JQ)(g:FG)(c:FT)(f:FE):Prop where
 tgt:∀C s0 H0 ex,GG (mF X scope cl C N s0 H0 ex) tg g
 tst:∀C s0 H0 ex pins s σ H Q,Inv (mF X scope cl C N s0 H0 ex) pins σ H s->tT (mF X scope cl C N s0 H0 ex) c σ H Q->
  wpAny (model X.prog X.w) X.A (forIn ifs true λc r=>if r=true then do let ok <- isTrue c (compEnvC scope cl C X.env) (eval c (compEnvC scope cl C X.env)); pure (Lb ok)else pure (Lb r)) (TP (mF X scope cl C N s0 H0 ex) pins σ Q) (λ_ _=>KN) s
 elt:∀C s0 H0 ex,GE (mF X scope cl C N s0 H0 ex) elt f
theorem ph {prog:JY}{w:J6}{B:J1}{s:Jk}{E:Jh->Jk->Prop}{Q:Jh->Jk->Prop}{D:Jq}{its:Jf Jh}{n:Jp}{u:Jh}(e:s.heap.get? D=ba { cls:=.type "list",data:=.seq its.toArray n })(hz:its.length < sizeLine)
  (h:∀h' n',h'.get? D=ba { cls:=.type "list",data:=.seq (its++[u]).toArray n' }->(∀b o,b≠D->s.heap.get? b=ba o->h'.get? b=ba o)->Q .none { s with heap:=h' }) :
  wpAny (model prog w) B (call (.builtin "list.append") [.ref D,u]) Q E s:=by
 refine NA F.slot_list_append ⟨_,e,rfl⟩ F.entry_list_append (F.args_list_append_2 _ _) (PN D its.toArray n u (by rw[Jz]; exact LG ‹_›)) ⟨e,?_⟩
 have q:=Qh e (λa=>a.push u)
 have e2:its.toArray.push u=(its++[u]).toArray:=by simp
 rw[e2]at q;exact h _ _ q (λb o hb ho=>(Kc s.heap (KR λa=>a.push u) (Ne.symm hb)).trans ho)
theorem oh {scope:Mm}{cl:Jf (JG×Jq)}{N:Jf JG}{cap:Jf (Jn Jp)}{tg elt iter:JQ}{ifs:Jf JQ}{g:FG}{c:FT}{f:FE}{pos:LK}{A:Jf Jq}{ρ:Fm}{S S':aa}{mi:MI}{n:Jp}{ws:Jf W}{E:Jh->Jk->Prop}
  {it:Jq} {fp:Jf Jq} {tn:Jp->Kg->Prop} {J:It} {RR:Jh->Jq->Qe->Jk->Prop}
  (I:Inv X pins σ H s) (hc:X.calm=true) (er:EnvRel X.K A H ρ σ) (so:StoreOk X.w X.K A H S) (ck:CompOk X scope cl N cap) (bk:BlockOk X scope cl N tg elt ifs g c f)
  (T:Turn X.prog X.w X.K tg J fp it tn) (t0:tn 0 s.heap) (hfp:∀b∈fp,jn X pins H b) (mit:MIt X.w X.K mi J A H) (e:ce mi g c f n 0 (gT cap ρ) S=ba (ws,S')) (hz:ws.length<=sizeLine)
  (fin:∀D C s' H' A' vs m,s'.heap.Ns C m->H' D=gV->D≠C->C≠X.env.locals->C∉X.fs->H' C=gV->X.s₀.heap.objs.size<=C->(∀x c,X.env.cells.lookup x=ba c->c≠C)->(∀p∈X.pn++pins,p.1≠C)->
   Inv X pins σ (cj H' D (.lst vs)) s'->Ext X.K A H A' H'->StoreOk X.w X.K A' H' S'->RelL X.K A' H' ws vs->RR (.ref D) C (.ok .next) s') :
  wpAny (model X.prog X.w) X.A (newList []) (λacc s₃=>wpAny (model X.prog X.w) X.A (newFunctionEnv scope X.env.globals cl [] X.env.qual gV .none (ba X.env)) (λcenv s₄=>
   codeAny (model X.prog X.w) X.A (.compStart (.ListComp elt [⟨tg,iter,ifs,0⟩] scope pos) 0 (.ref it) acc { cenv with scope:=relabel scope X.env }) (RR acc cenv.locals) s₄) E s₃) E s:=by
 refine J7 (wpAny_newFunctionEnv ck.nocell (by intro y hy; simp at hy) (λh₁ hns₁ hsb₁=>?_) ck.kind)
 dsimp only at hns₁ hsb₁ ⊢;generalize hH2:s.heap.push { cls:=.type "list",dict:=gV,data:=.seq ([]:Jf Jh).toArray }=h2 at hns₁ hsb₁ ⊢;have hCs:h2.objs.size=s.heap.objs.size+1:=by rw[<- hH2,Ma]
 have k2:∀b o,s.heap.get? b=ba o->h2.get? b=ba o:=λb o z=>hH2 ▸ Jj _ z
 have lt2:∀b o,h2.get? b=ba o->b < h2.objs.size:=λb o z=>JE z
 have k1:∀b o,h2.get? b=ba o->h₁.get? b=ba o:=λb o z=>hsb₁.extBut b o (JM (lt2 b o z)) (Jj _ z)
 have hD2:h2.get? s.heap.objs.size=ba { cls:=.type "list",data:=.seq ([]:Jf Jh).toArray }:=hH2 ▸ JA _ rfl;have hDC:s.heap.objs.size≠h2.objs.size:=by rw[hCs]; omega
 have fresh:∀a,s.heap.objs.size<=a->H a=gV:=λa ha=>I.hok.fresh ha
 have cellLt:∀x c,X.env.cells.lookup x=ba c->c < s.heap.objs.size:=λx c z=>let ⟨_,q⟩:=I.cell x c z; q.lt
 have fpLt:∀b∈fp,b < s.heap.objs.size:=λb hb=>let ⟨_,q,_⟩:=T.obj 0 s.heap t0 b hb; JE q
 have stkLt:∀b∈sd X.stack,b < s.heap.objs.size:=λb hb=>let ⟨_,o,q,_⟩:=I.stack.mem hb; JE q
 have baseLt:∀b o,X.base.get? b=ba o->b < s.heap.objs.size:=λb o z=>JE (I.bk b o z)
 have fpStk:∀b∈fp,b∉sd X.stack:=λb hb z=>by
  rcases JP.mp (I.stkSub b z)with q|q
  ·exact(hfp b hb).2.1 q
  ·exact(hfp b hb).2.2.1 q
 have fpBase:∀b∈fp,∀o,X.base.get? b≠ba o:=λb hb o z=>by
  rcases(hfp b hb).2.2.2.1 with q|q
  ·exact I.ok.noex b o z q
  ·exact absurd (JR (JE (I.ok.bs b o z).1) q) (KT _)
 have ltC:∀ {b:Jq},b < s.heap.objs.size->b≠h2.objs.size:=λhb=>by rw[hCs]; exact JM (LY hb)
 let s3:Jk:={ s with heap:=h2 }
 have ok':(mF X scope cl h2.objs.size N s3 H (fp++[s.heap.objs.size])).Ok:=by
  refine Eg I ck (show s.heap.objs.size<=h2.objs.size by rw[hCs]; omega) (Js _) k2 λb hb=>?_
  rcases J9.mp hb with hb|hb
  ·exact⟨ltC (fpLt b hb),(hfp b hb).2.2.2.2.1,fpBase b hb,fpStk b hb⟩
  ·have eb:b=s.heap.objs.size:=by simpa using hb
   subst eb;exact⟨hDC,λx c z=>JM (cellLt x c z),λo z=>KT _ (baseLt _ o z),λz=>KT _ (stkLt _ z)⟩
 obtain⟨m0,hn0,hl0⟩:=I.loc;have I0:Inv (mF X scope cl h2.objs.size N s3 H (fp++[s.heap.objs.size])) [] (cap.map λo=>match o with|some j=>(σ[j]?).join|none=>gV) H { s3 with heap:=h₁,toks:=s3.toks+([]:Jf (JG×Jh)).length }:=by
  refine⟨ok',rfl,I.bare,Un.kept k1,⟨_,hns₁,λi x v e1 e2 e3=>?_⟩,λx cc z=>?_,fresh _ (show s.heap.objs.size<=h2.objs.size by rw[hCs]; exact LX _),λx cc z=>I.freeC x cc (ck.sub x cc z),λp hp=>absurd hp (by simp[mF]),(I.hok.kept k2).kept k1,by rw[Ji]; exact ck.len⟩
  ·rw[Jr]at e2;cases q:cap[i]? with
   | none=>rw[q]at e2; cases e2
   | some oj=>
    rw[q]at e2;cases oj with
    | none=>cases e2
    | some j=>
     obtain⟨z1,z2,z3⟩:=ck.cap i j x q e1;have e2':(σ[j]?).join=ba v:=by simpa using e2
     have e2'':σ[j]?=ba (ba v):=by
      cases r:σ[j]? with
      | none=>rw[r]at e2'; cases e2'
      | some y=>rw[r]at e2'; exact congrArg ba e2'
     obtain⟨u,ru,lk⟩:=hl0 j x v z1 e2'' (by
      rcases z2 with z|z
      ·exact .inr (.inl z)
      ·exact .inr (.inr z))
     refine⟨u,ru,?_⟩;rcases lk with⟨zk,_⟩|⟨_,cc,zc,zi⟩
     ·rcases z2 with z|z <;> (rw[zk]at z; cases z)
     ·obtain⟨c2,hc2⟩:=ck.has x z3;have:=ck.sub x c2 hc2;rw[zc]at this; cases this
      refine .inr ⟨z3,cc,hc2,?_⟩;obtain⟨o,ho,hd⟩:=zi;exact⟨o,k1 _ _ (k2 _ _ ho),hd⟩
  ·obtain⟨v,o,ho,hd⟩:=I.cell x cc (ck.sub x cc z);exact⟨v,o,k1 _ _ (k2 _ _ ho),hd⟩
 have er0:EnvRel X.K A H (gT cap ρ) (cap.map λo=>match o with|some j=>(σ[j]?).join|none=>gV):=by
  refine⟨by simp[gT],λi w q=>?_⟩
  unfold gT at q;rw[Jr]at q ⊢;cases r:cap[i]? with
  | none=>rw[r]at q; cases q
  | some oj=>
   rw[r]at q;cases oj with
   | none=>cases q
   | some j=>
    have q':(ρ[j]?).join=ba w:=by simpa using q
    have q'':ρ[j]?=ba (ba w):=by
     cases z:ρ[j]? with
     | none=>rw[z]at q'; cases q'
     | some y=>rw[z]at q'; exact congrArg ba q'
    obtain⟨v,z1,z2⟩:=er.2 j w q'';exact⟨v,by simp[z1],z2⟩
 have t1:tn 0 h₁:=T.keep 0 s.heap h₁ t0 λb hb o z=>k1 b o (k2 b o z)
 have fpOk':∀ {H':Hp} {pp:Jf (Jq×K2)},(∀b∈fp,H' b=gV)->(∀p∈pp,p.1=s.heap.objs.size)->∀b∈fp,jn (mF X scope cl h2.objs.size N s3 H (fp++[s.heap.objs.size])) pp H' b:=λhn hp b hb=>
  ⟨hn b hb,ltC (fpLt b hb),fpStk b hb,.inl (LV _ hb),λx cc z=>(hfp b hb).2.2.2.2.1 x cc (ck.sub x cc z),λp hpp=>by
   rw[hp p (by simpa [mF]using hpp)]
   exact(JM (fpLt b hb)).symm⟩
 have DinEx:s.heap.objs.size∈fp++[s.heap.objs.size]:=J0 _ (by simp)
 have cellD:∀x c,cl.lookup x=ba c->c≠s.heap.objs.size:=λx cc z=>JM (cellLt x cc (ck.sub x cc z))
 have fpD:∀b∈fp,b≠s.heap.objs.size:=λb hb=>JM (fpLt b hb)
 have theEnd:∀s' σ' H' A' vs its nn,Inv (mF X scope cl h2.objs.size N s3 H (fp++[s.heap.objs.size])) [] σ' H' s'->s'.heap.get? s.heap.objs.size=ba { cls:=.type "list",data:=.seq its nn }->∀(hits:∃l:Jf Jh,its=l.toArray/\Vals vs l),H' s.heap.objs.size=gV->Ext X.K A H A' H'->StoreOk X.w X.K A' H' S'->RelL X.K A' H' ws vs->
   RR (.ref s.heap.objs.size) h2.objs.size (.ok .next) s':=by
  intro s' σ' H' A' vs its nn I' hD hits hDn ex so' rl;obtain⟨l,rfl,rv⟩:=hits;obtain⟨m,hn,_⟩:=id I'.loc;have un:Un (sd X.stack) (fp++[s.heap.objs.size]) H H' s.heap s'.heap:=(Un.kept k2).trans I'.base;have hch:∀b∈fp++[s.heap.objs.size],(b∈X.ex\/X.s₀.heap.objs.size<=b)/\b≠X.env.locals/\(∀x c,X.env.cells.lookup x=ba c->c≠b)/\∀p∈X.pn++pins,p.1≠b:=λb hb=>by
   rcases J9.mp hb with hb|hb
   ·exact⟨(hfp b hb).2.2.2.1,(hfp b hb).2.1,(hfp b hb).2.2.2.2.1,(hfp b hb).2.2.2.2.2⟩
   ·have eb:b=s.heap.objs.size:=by simpa using hb
    subst eb;exact⟨.inr I.sz,(JM I.lt).symm,λx cc z=>JM (cellLt x cc z),λp hp=>JM (JE (I.pin p hp).1)⟩
  have I2:Inv X pins σ H' s':=I.call' (show s'.os=s.os from I'.os) un I'.hok I'.bare hch
  have I3:Inv X pins σ (cj H' s.heap.objs.size (.lst vs)) s':=Inv.adopt I2 hDn (hch _ DinEx).1 (hch _ DinEx).2.1 (hch _ DinEx).2.2.1 (hch _ DinEx).2.2.2 ⟨by rw[<- rl.length]; exact hz,l,nn,rv,hD⟩
  have hCle:s.heap.objs.size<=h2.objs.size:=by rw[hCs]; exact LX _
  exact fin _ _ s' H' A' vs m hn hDn hDC (J2 (JR I.lt hCle)) (I.nofs hCle) I'.free (JF I.sz hCle) (λx cc z=>JM (JR (cellLt x cc z) hCle))
   (λp hp=>JM (JR (JE (I.pin p hp).1) hCle)) I3 ex so' rl
 have loop:∀s4:Jk,s4={ s3 with heap:=h₁,toks:=s3.toks+([]:Jf (JG×Jh)).length }->
   codeAny (model X.prog X.w) X.A (.compLoop (.ListComp elt [⟨tg,iter,ifs,0⟩] scope pos) 0 (.ref it) (.ref s.heap.objs.size) (compEnvC scope cl h2.objs.size X.env)) (RR (.ref s.heap.objs.size) h2.objs.size) s4:=by
  rintro s4 rfl;refine gU (λk s5=>∃i σ5 H5 A5 ρ5 S5 done its nn vs ys,Inv (mF X scope cl h2.objs.size N s3 H (fp++[s.heap.objs.size])) [] σ5 H5 s5/\tn i s5.heap/\(∀b∈fp,H5 b=gV)/\s5.heap.get? s.heap.objs.size=ba { cls:=.type "list",data:=.seq (its:Jf Jh).toArray nn }/\H5 s.heap.objs.size=gV/\Vals vs its/\
   Ext X.K A H A5 H5/\EnvRel X.K A5 H5 ρ5 σ5/\StoreOk X.w X.K A5 H5 S5/\RelL X.K A5 H5 done vs/\ws=done++ys/\ce mi g c f k i ρ5 S5=ba (ys,S')) ?_ n
   ⟨0,_,H,A,_,S,[],[],0,[],ws,I0,t1,λb hb=>(hfp b hb).1,k1 _ _ hD2,fresh _ (Js _),.nil,.refl,er0,so,.nil,rfl,e⟩
  rintro k s5 ⟨i,σ5,H5,A5,ρ5,S5,done,its,nn,vs,ys,I5,t5,f5,d5,n5,v5,e5,er5,so5,rl5,hw5,w5⟩;have pinD:Inv (mF X scope cl h2.objs.size N s3 H (fp++[s.heap.objs.size])) [(s.heap.objs.size,{ cls:=.type "list",data:=.seq its.toArray nn })] σ5 H5 s5:=I5.pins_of λp hp=>by
   have hp':p=(s.heap.objs.size,{ cls:=.type "list",data:=.seq its.toArray nn }):=by simpa using hp
   subst hp';exact⟨d5,n5,hDC,λz=>KT _ (stkLt _ z),λv z=>by cases z⟩
  have oneD:∀p∈[(s.heap.objs.size,({ cls:=.type "list",data:=.seq its.toArray nn }:K2))],p.1=s.heap.objs.size:=λp hp=>by
   have hp':p=(s.heap.objs.size,{ cls:=.type "list",data:=.seq its.toArray nn }):=by simpa using hp
   rw[hp']
  cases k with
  | zero=>
   simp only[ce]at w5;split at w5
   ·rename_i hst;cases w5;rw[LC]at hw5;subst hw5;refine b8 (T.done (mF X scope cl h2.objs.size N s3 H (fp++[s.heap.objs.size])) rfl rfl rfl hc i _ s5 σ5 H5 _ pinD (fpOk' f5 oneD) t5 (mit.stop A5 H5 _ i e5 so5 hst)) λr s6 ⟨hr,I6⟩=>?_
    subst hr;have p6:=I6.pin _ (J0 _ (JC.mpr rfl));exact theEnd s6 σ5 H5 A5 vs _ nn (I6.pins_of λp hp=>absurd hp (by simp)) p6.1 ⟨its,rfl,v5⟩ n5 e5 so5 rl5
   ·cases w5
  | succ k=>
   simp only[ce]at w5;split at w5
   ·rename_i w hw;obtain⟨go,yl⟩:=mit.go A5 H5 S5 i w e5 so5 hw;refine b8 (T.item (mF X scope cl h2.objs.size N s3 H (fp++[s.heap.objs.size])) rfl rfl rfl hc i _ s5 σ5 H5 _ pinD (fpOk' f5 oneD) t5 go) λr s6 ⟨u,hr,h6⟩=>?_
    subst hr;refine b8 h6 λ_ s7 ⟨x,H7,I7,r7,y7,t7,f7⟩=>?_
    obtain⟨x1,x2,x3⟩:=yl x H7 y7;have I7':=I7.pinned (fpOk' f7 oneD) (T.obj _ _ t7);split at w5
    ·rename_i ρ8 S8 h8;refine b8 (bk.tgt _ _ _ _ _ s7 σ5 H7 x u (λσ' H'=>∃A',Ext X.K A5 H5 A' H'/\StoreOk X.w X.K A' H' S8/\EnvRel X.K A' H' ρ8 σ') I7' r7 ⟨A5,ρ5,S5,w,ρ8,S8,er5.mono x1,x2,x3,h8,λσ' H' A' q1 q2 q3=>⟨A',x1.trans q1,q2,q3⟩⟩) λ_ s8 ⟨σ8,H8,I8,A8,e58,so8,er8⟩=>?_
     have e8:Ext X.K A H A8 H8:=e5.trans e58;have pD:∀ {σ':L2.St} {H':Hp} {s':Jk},Inv (mF X scope cl h2.objs.size N s3 H (fp++[s.heap.objs.size])) ([(s.heap.objs.size,{ cls:=.type "list",data:=.seq its.toArray nn })]++jo fp s7.heap) σ' H' s'->s'.heap.get? s.heap.objs.size=ba { cls:=.type "list",data:=.seq its.toArray nn }/\H' s.heap.objs.size=gV:=λI'=>
      let q:=I'.pin _ (J0 _ (LV _ (JC.mpr rfl)))
      ⟨q.1,q.2.1⟩
     have pF:∀ {σ':L2.St} {H':Hp} {s':Jk},Inv (mF X scope cl h2.objs.size N s3 H (fp++[s.heap.objs.size])) ([(s.heap.objs.size,{ cls:=.type "list",data:=.seq its.toArray nn })]++jo fp s7.heap) σ' H' s'->(∀b∈fp,H' b=gV)/\∀b∈fp,∀o,s7.heap.get? b=ba o->s'.heap.get? b=ba o:=λI'=>
      ⟨λb hb=>by
       obtain⟨o,eo,_⟩:=T.obj _ _ t7 b hb;exact(I'.pin (b,o) (J0 _ (J0 _ (fJ hb eo)))).2.1,
       λb hb o eo=>(I'.pin (b,o) (J0 _ (J0 _ (fJ hb eo)))).1⟩
     split at w5
     ·rename_i S9 h9;refine b8 (bk.tst _ _ _ _ _ s8 σ8 H8 (λb H'=>b=true/\∃A',Ext X.K A8 H8 A' H'/\StoreOk X.w X.K A' H' S9) I8 ⟨A8,ρ8,S8,true,S9,er8,so8,h9,λb H' ⟨z0,A',z1,z2⟩=>⟨z0,A',z1,z2⟩⟩) λb s9 ⟨H9,I9,z0,A9,e9,so9⟩=>?_
      subst z0;rw[JN rfl];split at w5
      ·rename_i y S10 h10;split at w5
       ·rename_i ys' S4 h11;cases w5;refine b8 (bk.elt _ _ _ _ _ s9 σ8 H9 (EndV X.w X.K A9 H9 S10 y) I9 ⟨A9,ρ8,S9,y,S10,er8.mono e9,so9,h10,λ_ _ z=>z⟩) λu10 s10 ⟨v10,H10,I10,r10,A10,e10,so10,rl10⟩=>?_
        obtain⟨d10,n10⟩:=pD I10;obtain⟨f10,k10⟩:=pF I10;have hlen:its.length < sizeLine:=by
         have l1:=v5.length;have l2:=rl5.length;rw[hw5,Jt,Ky]at hz;omega
        refine ph d10 hlen λh' n' hd' hk'=>?_
        have Ib:Inv (mF X scope cl h2.objs.size N s3 H (fp++[s.heap.objs.size])) [] σ8 H10 { s10 with heap:=h' }:=by
         have Ia:Inv (mF X scope cl h2.objs.size N s3 H (fp++[s.heap.objs.size])) [] σ8 H10 s10:=I10.pins_of λp hp=>absurd hp (by simp)
         exact Ia.turned (t':=s10.toks) (it:=s.heap.objs.size) hk' n10 hDC (.inl DinEx) cellD (λp hp=>absurd hp (by simp[mF]))
        refine⟨k,Lf k,i+1,σ8,H10,A10,ρ8,S10,done++[y],its++[u10],n',vs++[v10],ys',Ib,?_,f10,hd',n10,v5.append (.cons r10 .nil),(e8.trans e9).trans e10,(er8.mono e9).mono e10,so10,?_,?_,h11⟩
        ·exact T.keep (i+1) s7.heap h' t7 λb hb o eo=>hk' b o (fpD b hb) (k10 b hb o eo)
        ·exact(rl5.mono ((e58.trans e9).trans e10)).append (.cons rl10 .nil)
        ·rw[hw5,Lj]; rfl
       ·cases w5
      ·cases w5
     ·rename_i S9 h9;refine b8 (bk.tst _ _ _ _ _ s8 σ8 H8 (λb H'=>b=false/\∃A',Ext X.K A8 H8 A' H'/\StoreOk X.w X.K A' H' S9) I8 ⟨A8,ρ8,S8,false,S9,er8,so8,h9,λb H' ⟨z0,A',z1,z2⟩=>⟨z0,A',z1,z2⟩⟩) λb s9 ⟨H9,I9,z0,A9,e9,so9⟩=>?_
      subst z0;rw[JX JU];obtain⟨d9,n9⟩:=pD I9;obtain⟨f9,k9⟩:=pF I9;refine⟨k,Lf k,i+1,σ8,H9,A9,ρ8,S9,done,its,nn,vs,ys,I9.pins_of λp hp=>absurd hp (by simp),T.keep (i+1) s7.heap _ t7 k9,f9,d9,n9,v5,e8.trans e9,er8.mono e9,so9,rl5.mono (e58.trans e9),hw5,w5⟩
     ·cases w5
    ·cases w5
   ·cases w5
 exact codeAny_compStart_list (loop _ rfl) (T.self X.A 0 _ _ _ t1 (loop _ rfl))
theorem qZ {fi:FI}{g:FG}{c:FT}{f:FE}{cap:Jf (Jn Jp)}{ρ:Fm}{S:aa}{w:W}{S':aa}(e:lJ fi g c f cap ρ S=ba (w,S')) :
  ∃mi S1 n ys S2,fi ρ S=ba (mi,S1)/\mi.len S1=ba n/\ce mi g c f n 0 (gT cap ρ) S1=ba (ys,S2)/\ys.length<=sizeLine/\w=.ref S2.length/\S'=S2++[.lst ys]:=by
 unfold lJ at e;split at e
 ·rename_i mi S1 h1;split at e
  ·rename_i n h2;split at e
   ·rename_i ys S2 h3;obtain⟨h4,h5,h6⟩:=kR e;exact⟨mi,S1,n,ys,S2,h1,h2,h3,h4,h5,h6⟩
   ·cases e
  ·cases e
 ·cases e
theorem BI {scope:Mm}{N:Jf JG}{cap:Jf (Jn Jp)}{tg elt iter:JQ}{ifs:Jf JQ}{fi:FI}{g:FG}{c:FT}{f:FE}{pos:LK}(hc:X.calm=true)(hi:GI X tg iter fi)(hck:X.Ok->∃cl,CompOk X scope cl N cap/\BlockOk X scope cl N tg elt ifs g c f)
  (hs:∀x,foldedSetIterable iter X.env x=pure x):GE X (.ListComp elt [⟨tg,iter,ifs,0⟩] scope pos) (lJ fi g c f cap):=by
 intro pins s σ H Q I ⟨A,ρ,S,w,S',er,so,e,hq⟩;obtain⟨mi,S1,n,ys,S2,h1,h2,h3,h4,rfl,rfl⟩:=qZ e;obtain⟨cl,ck,bk⟩:=hck I.ok;rw[eval_ListComp];refine N6 (use:=gV) rfl hs ck.clos ck.kind ck.names (b8 (hi pins s σ H (λJ H'=>∃A',Ext X.K A H A' H'/\StoreOk X.w X.K A' H' S1/\MIt X.w X.K mi J A' H') I ⟨A,ρ,S,mi,S1,er,so,h1,λJ H' A' z1 z2 z3=>⟨A',z1,z2,z3⟩⟩) λv s1 q1=>b8 q1 λitv s2 q2=>?_)
 obtain⟨it,fp,tn,J,H2,rfl,I2,T,t0,hfp,A2,e2,so2,mit⟩:=q2;refine oh (RR:=λacc C=>compPost (model X.prog X.w) X.A X.xe gV (EP X pins σ Q) acc C) I2 hc (er.mono e2) so2 ck bk T t0 hfp mit h3 h4 ?_
 intro D C s' H' A' vs m hn hDn hDC hCL hCf hCn hCs hCc hCp I3 ex so3 rl;refine⟨m,hn,λh' hs'=>?_⟩
 have I4:Inv X pins σ (cj H' D (.lst vs)) { s' with heap:=h' }:=I3.turned (t':=s'.toks) (it:=C) (λb o hb eo=>hs'.extBut b o hb eo) (by rw[aN (Ne.symm hDC)]; exact hCn) hCL (.inr hCs) hCc hCp
 exact⟨.ref D,_,I4,rfl,hq _ _ (EndV.after (e2.trans ex) (.lst so3 rl hDn))⟩
theorem sU {scope:Mm}{N:Jf JG}{cap:Jf (Jn Jp)}{tg elt iter:JQ}{ifs:Jf JQ}{fi:FI}{g:FG}{c:FT}{f:FE}{pos py spos:LK}{y:JG}{i:Jp}(hc:X.calm=true)(hi:GI X tg iter fi)(hck:X.Ok->∃cl,CompOk X scope cl N cap/\BlockOk X scope cl N tg elt ifs g c f)
  (hs:∀x,foldedSetIterable iter X.env x=pure x) (hsw:swapsWith (.ListComp elt [⟨tg,iter,ifs,0⟩] scope pos) (ba (.Name y py)) spos.line X.env=pure true) (hN:X.N.Nodup) (hy:X.N[i]?=ba y) (hl:X.env.scope.names.lookup y=ba .local) :
  GS X (.Assign [.Name y py] (.ListComp elt [⟨tg,iter,ifs,0⟩] scope pos) spos) (lI (lJ fi g c f cap) (Cy i)):=by
 intro pins s σ H Dd I ⟨A,ρ,S,o,S',er,so,e,hd⟩;unfold lI at e;split at e
 ·rename_i w S0 h0;simp only[Cy]at e;cases e;obtain⟨mi,S1,n,ys,S2,h1,h2,h3,h4,rfl,rfl⟩:=qZ h0;obtain⟨cl,ck,bk⟩:=hck I.ok;rw[exec_Assign_Name_used _ _ _ _ hsw];refine Jg (Nc (Jg ?_));show wpAny _ X.A (do let _ <- comprehension (.ListComp elt [⟨tg,iter,ifs,0⟩] scope pos) scope X.env _ (newList []) false (eval iter X.env) (ba (assign (.Name y py) X.env))) _ _ s
  refine Jg (Lc (N6 (use:=ba (assign (.Name y py) X.env)) (Q:=λ_ s'=>SP X pins Dd .next s') rfl hs ck.clos ck.kind ck.names
   (b8 (hi pins s σ H (λJ H'=>∃A',Ext X.K A H A' H'/\StoreOk X.w X.K A' H' S1/\MIt X.w X.K mi J A' H') I ⟨A,ρ,S,mi,S1,er,so,h1,λJ H' A' z1 z2 z3=>⟨A',z1,z2,z3⟩⟩) λv s1 q1=>b8 q1 λitv s2 q2=>?_)) (λ_ s' hq=>Jm (Jm hq)) λ_ _ e=>e)
  obtain⟨it,fp,tn,J,H2,rfl,I2,T,t0,hfp,A2,e2,so2,mit⟩:=q2;refine oh (RR:=λacc C=>compPost (model X.prog X.w) X.A X.xe (ba (assign (.Name y py) X.env)) (λ_ s'=>SP X pins Dd .next s') acc C) I2 hc (er.mono e2) so2 ck bk T t0 hfp mit h3 h4 ?_
  intro D C s' H' A' vs m hn hDn hDC hCL hCf hCn hCs hCc hCp I3 ex so3 rl;obtain⟨oC,esC,epC,hoC,hdC,hrC⟩:=id hn;have I3':Inv X (pins++[(C,oC)]) σ (cj H' D (.lst vs)) s':=I3.pins_of λp hp=>by
   rcases J9.mp hp with hp|hp
   ·exact I3.pin p (J0 _ hp)
   ·have hp':p=(C,oC):=by simpa using hp
    subst hp';exact⟨hoC,by rw[aN (Ne.symm hDC)]; exact hCn,hCL,hCf,λv z=>by rw[hdC]at z; cases z⟩
  show wpAny _ X.A (assign (.Name y py) X.env (.ref D)) _ _ _;refine PD (iI I3' hN hy (.inl hl) (v:=.ref D) rfl (λs4 I4=>?_) (.inr hl))
  have pC:=I4.pin (C,oC) (J0 _ (J0 _ (JC.mpr rfl)));refine⟨m,⟨oC,esC,epC,pC.1,hdC,hrC⟩,λh' hs'=>?_⟩
  have I5:Inv X pins (σ.set i (ba (.ref D))) (cj H' D (.lst vs)) s4:=I4.pins_of λp hp=>I4.pin p (J0 _ (LV _ hp))
  have I6:Inv X pins (σ.set i (ba (.ref D))) (cj H' D (.lst vs)) { s4 with heap:=h' }:=I5.turned (t':=s4.toks) (it:=C) (λb o hb eo=>hs'.extBut b o hb eo) (by rw[aN (Ne.symm hDC)]; exact hCn) hCL (.inr hCs) hCc hCp
  obtain⟨Af,f1,f2,f3⟩:=EndV.after (e2.trans ex) (EndV.lst so3 rl hDn);exact⟨_,_,I6,hd.nx _ _ ⟨_,Af,rfl,f1,f2,(er.mono f1).set f3 i⟩⟩
 ·cases e
end
open PySem.Builtin.SmallTypes (nextOf)
section
variable{prog:JY}{w:J6}
structure Zit (prog:JY)(w:J6)(it:Jq)(T:Jp->Kg->Prop)(C:Kg->Prop)(i:Jp)(U:Jn (Jh->Prop)):Prop where
 keep:∀j h h',T j h->(∀o,h.get? it=ba o->h'.get? it=ba o)->T j h'
 next:∀V,U=ba V->∀(B:J1) (s:Jk) (Q:Jh->Jk->Prop) (E:Jh->Jk->Prop),T i s.heap->C s.heap->(∀u h' tk,V u->T (i+1) h'->K9 it s.heap h'->Q u { s with heap:=h',toks:=tk })->wpAny (model prog w) B (nextOf (.ref it)) Q E s
 stop:U=gV->∀(B:J1) (s:Jk) (Q:Jh->Jk->Prop) (E:Jh->Jk->Prop),B.handled=gV->T i s.heap->C s.heap->(∀h' e,OV it s.heap h'->(∃o,h'.get? e=ba o/\o.cls=.type "StopIteration")->E (.ref e) { s with heap:=h' })->wpAny (model prog w) B (nextOf (.ref it)) Q E s
variable{B:J1}{E:Jh->Jk->Prop}{s:Jk}{z p q i1 i2:Jq}{T1 T2:Jp->Kg->Prop}{C1 C2:Kg->Prop}{i:Jp}{a b:Jh}
noncomputable def Zc (z q i1 i2:Jq)(C:Kg->Prop):Prop:=∀h h',C h->(∀c o,c≠z->c≠q->c≠i1->c≠i2->h.get? c=ba o->h'.get? c=ba o)->C h'
end
end Mi
namespace Mi
open PySem PySem.Spec PyProof.Rows L2
open PySem.Builtin.SmallTypes (nextOf)
noncomputable def sV (prog:JY)(w:J6)(v:Jh)(o:K2)(C:Kg->Prop):Prop:=∀(B:J1) (s:Jk) (Q:Jh->Jk->Prop) (E:Jh->Jk->Prop),C s.heap->Q (.ref s.heap.objs.size) { s with heap:=s.heap.push o }->wpAny (model prog w) B (pyIter v) Q E s
end Mi
namespace Mi
open PySem PySem.Spec PyProof.Rows L2
open PySem.Builtin.SmallTypes (nextOf)
section
variable{prog:JY}{w:J6}{A:J1}{E:Jh->Jk->Prop}{s:Jk}
theorem F6 {it t:Jq}{i:Jp}{items:JV Jh}{x:Jh}{Q:Jh->Jk->Prop}(hit:s.heap.IsTupleIter it t i)(ht:s.heap.IsTuple t items)(hx:items[i]?=ba x)
  (hQ:∀h',h'.IsTupleIter it t (i+1)->K9 it s.heap h'->Q x { s with heap:=h' }):wpAny (model prog w) A (nextOf (.ref it)) Q E s:=by
 obtain⟨o,ho,hc,hd⟩:=id hit;obtain⟨ot,hot,_,nt,hdt⟩:=ht;unfold NQ;refine Jg (Kw (name:=Lp "__next__") hit.typeIs F.slot_tuple_iterator_next (Kx F.slot_tuple_iterator_next hit.typeIs F.entry_tuple_iterator_next ?_ (F.args_tuple_iterator_next_1 _)));show wpAny _ _ (field (.ref it) 0 >>= _) _ _ s;refine Jg (Lq ho hd (x:=.ref t) rfl ?_);show wpAny _ _ (if (J3 t==Ke)=true then _ else _) _ _ s
 rw[JX (show ¬ ((J3 t==Ke)=true)from JU)]
 show wpAny _ _ (field (.ref it) 1 >>= _) _ _ s;refine Jg (Lq ho hd (x:=.int i 0) rfl (Jg (Ls hot hdt ?_)));simp only[JH,hx];refine Jg (NH ho hd (by simp) (Jm ⟨x,rfl,Jm (hQ _ ⟨_,KU _ ho (OM (MS hd _)),(P0 ..).trans hc,?_⟩ (L6 ..))⟩))
 rw[MS hd]; simp[rawInt]
theorem F7 {it t:Jq}{i:Jp}{items:JV Jh}{Q:Jh->Jk->Prop}(hh:A.handled=gV)(hit:s.heap.IsTupleIter it t i)(ht:s.heap.IsTuple t items)(hx:items[i]?=gV)
  (hE:∀h' e,OV it s.heap h'->(∃o,h'.get? e=ba o/\o.cls=.type "StopIteration")->E (.ref e) { s with heap:=h' }):wpAny (model prog w) A (nextOf (.ref it)) Q E s:=by
 obtain⟨o,ho,hc,hd⟩:=id hit;obtain⟨ot,hot,_,nt,hdt⟩:=ht;unfold NQ;refine Jg (Kw (name:=Lp "__next__") hit.typeIs F.slot_tuple_iterator_next (Kx F.slot_tuple_iterator_next hit.typeIs F.entry_tuple_iterator_next ?_ (F.args_tuple_iterator_next_1 _)));show wpAny _ _ (field (.ref it) 0 >>= _) _ _ s;refine Jg (Lq ho hd (x:=.ref t) rfl ?_);show wpAny _ _ (if (J3 t==Ke)=true then _ else _) _ _ s
 rw[JX (show ¬ ((J3 t==Ke)=true)from JU)]
 show wpAny _ _ (field (.ref it) 1 >>= _) _ _ s;refine Jg (Lq ho hd (x:=.int i 0) rfl (Jg (Ls hot hdt ?_)));simp only[JH,hx];refine Jg (Og (Jg (NH ho hd (by simp) ?_)))
 show wpAny _ _ (newExc (.type "StopIteration") [] >>= _) _ _ _;refine Jg ?_;simp only[newExc,newTuple];refine Jg (J7 ?_ (by size_fits))
 refine Jg (m:=firstArgMember _ _) (MU (a:=Ke) (by first|rfl|(simp only[firstArgMember]; rfl)) (J7 ?_ (by size_fits)))
 simp only[raiseNew];refine Jg (Pf ?_)
 first|rw[show A.in1.handled=gV from hh]|rw[hh]
 exact Jg (Jm (Qq (hE _ _ (((L6 ..).extBut.push _).push _) ⟨_,JA _ rfl,rfl⟩)))
end
set_option genInjectivity false in
inductive Zs where|tup (a:Jq)|lst (a:Jq)|txt (x:JG)
noncomputable def Zs.T (it:Jq):Zs->Jp->Kg->Prop
 | .tup a,i,h=>h.IsTupleIter it a i
 | .lst a,i,h=>h.IsListIter it a i
 | .txt x,i,h=>∃t,h.IsStrIter it "str_ascii_iterator" x t i\/h.IsStrIter it "str_iterator" x t i
noncomputable def Zs.at (K:Jv)(H:Hp)(i:Jp)(v:V):Zs->Prop
 | .tup a=>∃xs,SqT K H a xs/\xs[i]?=ba v
 | .lst a=>∃xs,SqL K H a xs/\xs[i]?=ba v
 | .txt x=>∃c,x.cps[i]?=ba c/\v=.str ⟨[c].toArray⟩
noncomputable def Zs.out (K:Jv)(H:Hp)(i:Jp):Zs->Prop
 | .tup a=>∃xs,SqT K H a xs/\xs.length<=i
 | .lst a=>∃xs,SqL K H a xs/\xs.length<=i
 | .txt x=>x.cps.size<=i
theorem Zs.keep {S:Zs}{it:Jq}{j:Jp}{h h':Kg}(t:S.T it j h)(k:∀o,h.get? it=ba o->h'.get? it=ba o):S.T it j h':=by
 cases S with
 | tup a=>exact t.at k
 | lst a=>exact t.at k
 | txt x=>
  obtain⟨tk,t⟩:=t;exact⟨tk,t.imp (λ⟨o,e,r⟩=>⟨o,k _ e,r⟩) λ⟨o,e,r⟩=>⟨o,k _ e,r⟩⟩
section
variable{X:Cx}{pins:Jf (Jq×K2)}{σ:L2.St}{H:Hp}{s:Jk}
theorem yI (I:Inv X pins σ H s){a b:Jq}{o:K2}(h:X.K.lookup a=ba o)(f:jn X pins H b):a≠b:=λz=>by
 subst z;have hb:=I.ok.mod.kin a o h;rcases f.2.2.2.1 with q|q
 ·exact I.ok.noex a o hb q
 ·exact absurd (JR (JE (I.ok.bs a o hb).1) q) (KT _)
end
end Mi
namespace Mi
open PySem PySem.Spec PyProof.Rows L2
open PySem.Builtin.SmallTypes (nextOf)
section
variable{X:Cx}{pins:Jf (Jq×K2)}{σ:L2.St}{H:Hp}{s:Jk}{h':Kg}
theorem yJ {a b:Jq}{u:HO}(h:Rd H a u)(f:H b=gV):a≠b:=λz=>by
 subst z;rcases h with h|⟨o,h⟩ <;> (rw[f]at h; cases h)
theorem Inv.turnedL {t':Jp}{ch:Jf Jq}(I:Inv X pins σ H s)(k:∀b o,b∉ch->s.heap.get? b=ba o->h'.get? b=ba o)(hf:∀b∈ch,jn X pins H b):Inv X pins σ H { s with heap:=h',toks:=t' }:=by
 have nit:∀b u,H b=ba u->b∉ch:=λb u e z=>by have:=(hf b z).1; rw[e]at this; cases this
 refine I.step (g':=s.gens) (d':=s.drawn) (ch:=ch) (λb hb=>?_) (λb o _ _ hc e _=>k b o hc e) (λb o _ _ hc e _=>⟨o.slots,k b o hc e⟩) (λ_ _ _ _ n=>n) (λb o hc e=>⟨o,k b o hc e⟩) (λ_ _ e=>e) (λ_ _ _ e=>e) (λb ps e=>⟨#[],by rw[e]; simp⟩) (λm hm=>?_) (λb u e=>?_) I.bare
 ·obtain⟨_,f1,_,f3,f4,f5⟩:=hf b hb;exact⟨f3,f1,f4,f5⟩
 ·obtain⟨o,es,ep,ho,r⟩:=hm;exact⟨o,es,ep,k _ o (λz=>(hf _ z).2.1 rfl) ho,r⟩
 ·refine(I.hok b u e).stay (λc v hc q=>k c v ?_ q) (λ_ q=>q) λ_ _ q=>q
  rcases hc with z|z
  ·rw[z]; exact nit b u e
  ·exact nit c _ z
theorem Zs.zit {S:Zs}{it z q i1 i2:Jq}{i:Jp}{U:Jn V}(I:Inv X pins σ H s)(hf:∀b∈[z,q,i1,i2],jn X pins H b)(g:match U with|some v=>S.at X.K H i v|none=>S.out X.K H i) :
  ∃C,Zit X.prog X.w it (S.T it) C i (U.map λv u=>RelV v u)/\C s.heap/\Zc z q i1 i2 C:=by
 have zc:∀(a:Jq) (P:Kg->Prop),(∀h h',P h->(∀o,h.get? a=ba o->h'.get? a=ba o)->P h')->(∀b∈[z,q,i1,i2],a≠b)->Zc z q i1 i2 P:=λa P hP hn h h' p k=>
  hP h h' p λo e=>k a o (hn z (by simp)) (hn q (by simp)) (hn i1 (by simp)) (hn i2 (by simp)) e
 have sep:∀ {a:Jq} {u:HO} {o:K2} {b:Jq},(Rd H a u\/X.K.lookup a=ba o)->b∈[z,q,i1,i2]->a≠b:=λh hb=>h.elim (λr=>yJ r (hf _ hb).1) λr=>yI I r (hf _ hb)
 cases S with
 | tup a=>
  obtain⟨xs,hq,hx⟩ : ∃xs,SqT X.K H a xs/\(match U with|some v=>xs[i]?=ba v|none=>xs.length<=i):=by
   cases U <;> exact g
  obtain⟨its,rv,p,_⟩:=I.tuple hq;have hne:∀b∈[z,q,i1,i2],a≠b:=λb hb=>by
   rcases hq with r|⟨o,_,_,r,_⟩
   ·exact yJ r (hf b hb).1
   ·exact yI I r (hf b hb)
  refine⟨λh=>h.IsTuple a its.toArray,⟨λj h h' t k=>Zs.keep (S:=.tup a) t k,λV hV B s2 Q E t c hQ=>?_,λhU B s2 Q E hh t c hE=>?_⟩,p,zc a _ (λh h' ⟨o,e,r⟩ k=>⟨o,k _ e,r⟩) hne⟩
  ·cases U with
   | none=>cases hV
   | some v=>
    cases hV;obtain⟨u,hu,ru⟩:=rv.get hx;exact F6 t c (x:=u) (by simpa using hu) λh' t' sb=>hQ u h' s2.toks ru t' sb
  ·cases U with
   | some v=>cases hU
   | none=>
    have:=L2.Vals.length rv;have hx':xs.length<=i:=hx;exact F7 hh t c (by simp; omega) hE
 | lst a=>
  obtain⟨xs,hq,hx⟩ : ∃xs,SqL X.K H a xs/\(match U with|some v=>xs[i]?=ba v|none=>xs.length<=i):=by
   cases U <;> exact g
  obtain⟨its,rv,p,_⟩:=I.list hq;have hne:∀b∈[z,q,i1,i2],a≠b:=λb hb=>by
   rcases hq with r|⟨o,_,_,r,_⟩
   ·exact yJ r (hf b hb).1
   ·exact yI I r (hf b hb)
  refine⟨λh=>h.IsList a its.toArray,⟨λj h h' t k=>Zs.keep (S:=.lst a) t k,λV hV B s2 Q E t c hQ=>?_,λhU B s2 Q E hh t c hE=>?_⟩,p.isList,zc a _ (λh h' ⟨o,e,r⟩ k=>⟨o,k _ e,r⟩) hne⟩
  ·cases U with
   | none=>cases hV
   | some v=>
    cases hV;obtain⟨u,hu,ru⟩:=rv.get hx;exact wpAny_nextOf_list_item t c (x:=u) (by simpa using hu) λh' t' sb=>hQ u h' s2.toks ru t' sb
  ·cases U with
   | some v=>cases hU
   | none=>
    have:=L2.Vals.length rv;have hx':xs.length<=i:=hx;exact wpAny_nextOf_list_end hh t c (by simp; omega) hE
 | txt x=>
  refine⟨λ_=>Qc,⟨λj h h' t k=>Zs.keep (S:=.txt x) t k,λV hV B s2 Q E t _ hQ=>?_,λhU B s2 Q E hh t _ hE=>?_⟩,trivial,λ_ _ _ _=>trivial⟩
  ·cases U with
   | none=>cases hV
   | some v=>
    cases hV;obtain⟨c,hc,rfl⟩ : ∃c,x.cps[i]?=ba c/\v=.str ⟨[c].toArray⟩:=g;obtain⟨tk,t|t⟩:=t
    ·exact wpAny_nextOf_ascii_item t hc λh' t' sb=>hQ _ h' _ ⟨_,rfl⟩ ⟨tk,.inl t'⟩ sb
    ·exact wpAny_nextOf_wide_item t hc λh' t' sb=>hQ _ h' _ ⟨_,rfl⟩ ⟨tk,.inr t'⟩ sb
  ·cases U with
   | some v=>cases hU
   | none=>
    have hx:x.cps[i]?=gV:=by simpa using(show x.cps.size<=i from g)
    obtain⟨tk,t|t⟩:=t
    ·exact wpAny_nextOf_ascii_end hh t hx hE
    ·exact wpAny_nextOf_wide_end hh t hx hE
end
noncomputable def Zs.is (K:Jv)(H:Hp)(i:Jp)(v:V):Zs->Prop
 | .tup a=>∀xs,SqT K H a xs->xs[i]?=ba v
 | .lst a=>∀xs,SqL K H a xs->xs[i]?=ba v
 | .txt x=>∃c,x.cps[i]?=ba c/\v=.str ⟨[c].toArray⟩
theorem Zs.at_is {S:Zs}{X:Cx}{pins:Jf (Jq×K2)}{σ:L2.St}{H:Hp}{s:Jk}{i:Jp}{v:V}(I:Inv X pins σ H s)(h:S.at X.K H i v):S.is X.K H i v:=by
 cases S with
 | tup a=>obtain⟨xs,hq,hx⟩:=h; exact λys hy=>by rw[I.tuple_inj hy hq]; exact hx
 | lst a=>obtain⟨xs,hq,hx⟩:=h; exact λys hy=>by rw[I.list_inj hy hq]; exact hx
 | txt x=>exact h
end Mi
namespace Mi
open PySem PySem.Spec PyProof.Rows L2
noncomputable def HS:W->Jn (Jf W)
 | .tup xs=>ba xs
 | .str x=>ba (x.cps.toList.map λc=>.str ⟨[c].toArray⟩)
 | _=>gV
section
variable{X:Cx}{pins:Jf (Jq×K2)}{σ:L2.St}{H:Hp}{s:Jk}{A:Jf Jq}
noncomputable def ZRel (K:Jv)(A:Jf Jq)(H:Hp)(xs:Jf W):Zs->Prop
 | .tup a=>∃vs,SqT K H a vs/\RelL K A H xs vs
 | .lst a=>KN
 | .txt x=>xs=x.cps.toList.map λc=>.str ⟨[c].toArray⟩
theorem ZRel.mono {K:Jv}{A A':Jf Jq}{H H':Hp}{xs:Jf W}{S:Zs}(e:Ext K A H A' H')(h:ZRel K A H xs S):ZRel K A' H' xs S:=by
 cases S with
 | tup a=>obtain⟨vs,h1,h2⟩:=h; exact⟨vs,e.tp _ _ h1,h2.mono e⟩
 | lst a=>exact h
 | txt x=>exact h
theorem ZRel.at {K:Jv}{xs:Jf W}{S:Zs}{i:Jp}{w:W}(h:ZRel K A H xs S)(hi:xs[i]?=ba w):∃v,S.at K H i v/\Rel K A H w v:=by
 cases S with
 | tup a=>obtain⟨vs,h1,h2⟩:=h; obtain⟨v,h3,h4⟩:=h2.get hi; exact⟨v,⟨vs,h1,h3⟩,h4⟩
 | lst a=>exact h.elim
 | txt x=>
  have h:xs=x.cps.toList.map λc=>.str ⟨[c].toArray⟩:=h
  subst h;rw[Jr,Jl]at hi;obtain⟨c,hc,rfl⟩:=hi;exact⟨.str ⟨[c].toArray⟩,⟨c,by rw[<- KI]; exact hc,rfl⟩,.str⟩
theorem ZRel.is {K:Jv}{xs:Jf W}{S:Zs}{i:Jp}{w:W}{v:V}(h:ZRel K A H xs S)(hi:xs[i]?=ba w)(z:S.is K H i v):Rel K A H w v:=by
 obtain⟨v',h1,h2⟩:=h.at hi;cases S with
 | tup a=>
  obtain⟨vs,q,e⟩:=h1;have:=z vs q;rw[e]at this; cases this
  exact h2
 | lst a=>exact h.elim
 | txt x=>
  obtain⟨c,e,rfl⟩:=h1;obtain⟨c',e',rfl⟩:=z;rw[e]at e'; cases e'
  exact h2
theorem ZRel.out {K:Jv}{xs:Jf W}{S:Zs}{i:Jp}(h:ZRel K A H xs S)(hi:xs.length<=i):S.out K H i:=by
 cases S with
 | tup a=>obtain⟨vs,h1,h2⟩:=h; exact⟨vs,h1,by rw[<- h2.length]; exact hi⟩
 | lst a=>exact h.elim
 | txt x=>
  have h:xs=x.cps.toList.map λc=>.str ⟨[c].toArray⟩:=h
  subst h;show x.cps.size<=i
  simpa using hi
theorem BJ {x:W}{v:V}{u:Jh}{xs:Jf W}(I:Inv X pins σ H s)(r:Rel X.K A H x v)(ru:RelV v u)(e:HS x=ba xs) :
  ∃(S:Zs) (o:K2) (C:Kg->Prop),ZRel X.K A H xs S/\sV X.prog X.w u o C/\C s.heap/\(∀h o,C h->C (h.push o))/\o.isFreed=false/\∀it h,h.get? it=ba o->S.T it 0 h:=by
 cases r with
 | @tup ws a vs hq rl=>
  cases e;obtain⟨its,rv,p,_⟩:=I.tuple hq;obtain rfl:u=J3 a:=ru;exact⟨.tup a,{ cls:=.type "tuple_iterator",data:=.fields [.ref a,.int 0 0].toArray },λh=>h.IsTuple a its.toArray,⟨vs,hq,rl⟩,λB s Q E c hQ=>Px c hQ,p,λh o ⟨ot,e,r⟩=>⟨ot,Jj _ e,r⟩,rfl,λit h e=>⟨_,e,rfl,rfl⟩⟩
 | @str x=>
  cases e;obtain⟨t,rfl⟩:=ru;cases ha:x.cps.all (· < 128)with
  | false=>exact⟨.txt x,{ cls:=.type "str_iterator",data:=.fields [.str x t,.int 0 0].toArray },λ_=>Qc,rfl,λB s Q E _ hQ=>wpAny_pyIter_wide ha hQ,trivial,λ_ _ _=>trivial,rfl,λit h e=>⟨t,.inr ⟨_,e,rfl,rfl⟩⟩⟩
  | true=>exact⟨.txt x,{ cls:=.type "str_ascii_iterator",data:=.fields [.str x t,.int 0 0].toArray },λ_=>Qc,rfl,λB s Q E _ hQ=>wpAny_pyIter_ascii ha hQ,trivial,λ_ _ _=>trivial,rfl,λit h e=>⟨t,.inl ⟨_,e,rfl,rfl⟩⟩⟩
 | _=>cases e
end
open PySem.Builtin.SmallTypes (nextOf)
section
variable{prog:JY}{w:J6}{B:J1}{E:Jh->Jk->Prop}{s:Jk}{e it:Jq}{T:Jp->Kg->Prop}{C:Kg->Prop}{i:Jp}{old:Jh}
structure EnAt (h0 h:Kg)(e it:Jq)(fs:JV Jh)(T:Kg->Prop):Prop where
 here:h.get? e=ba { cls:=.type "enumerate",dict:=gV,data:=.fields fs,slots:=#[] }
 turn:T h
 kept:∀b o,b≠e->b≠it->h0.get? b=ba o->h.get? b=ba o
theorem EnAt.put {h0:Kg}{fs:JV Jh}{T:Kg->Prop}{k:Jp}{v:Jh}{Q:Sy->Jk->Prop}(x:EnAt h0 s.heap e it fs T)(hne:e≠it)(kT:∀h h',T h->(∀o,h.get? it=ba o->h'.get? it=ba o)->T h')(hk:k < fs.size)
  (q:∀h',EnAt h0 h' e it (fs.setIfInBounds k v) T->K9 e s.heap h'->Q () { s with heap:=h' }):wpAny (model prog w) B (setField (.ref e) k v) Q E s:=
 Pp x.here hk λh' y sb=>q h' ⟨y,kT _ _ x.turn λo z=>sb.extBut _ _ (Ne.symm hne) z,λb o h1 h2 z=>sb.extBut b o h1 (x.kept b o h1 h2 z)⟩ sb
theorem ol {U:Jn (Jh->Prop)}{Q:Jh->Jk->Prop}(Z:Zit prog w it T C i U)(hh:B.handled=gV)(he:Sb s.heap e it (i:Jy) old)(t:T i s.heap)(c:C s.heap)(hne:e≠it)
  (hI:∀V,U=ba V->∀u h' tk tk0,V u->IsEnumOut h' e it ((i:Jy)+1) u s.heap.objs.size->T (i+1) h'->h'.get? s.heap.objs.size=ba { cls:=.type "tuple",data:=.seq [.int i tk0,u].toArray }->
   (∀b o,b≠e->b≠it->s.heap.get? b=ba o->h'.get? b=ba o)->Q (.ref s.heap.objs.size) { s with heap:=h',toks:=tk })
  (hE:U=gV->∀h' x,OV it s.heap h'->(∃o,h'.get? x=ba o/\o.cls=.type "StopIteration")->E (.ref x) { s with heap:=h' }) :
  wpAny (model prog w) B (Mn.«enumerate.__next__» ⟨[.ref e],[]⟩) (λfin s'=>∃v,fin=.done (.ret v)/\Q v s') E s:=by
 obtain⟨hp,g,d,tk,os⟩:=s;show wpAny _ _ (field (.ref e) 2 >>= _) _ _ _;refine Jg (Lq he rfl (x:=.ref it) rfl (Jg ?_));cases U with
 | none=>exact Z.stop rfl _ _ _ _ hh t c λh' x a b=>hE rfl h' x a b
 | some V=>
  refine Z.next V rfl _ _ _ _ t c λu ha tka hu ta sba=>?_
  have kT:=Z.keep (i+1);have xa:EnAt hp ha e it [.none,.bool false,.ref it,rawInt i,.none,old].toArray (T (i+1)):=⟨(sba.2 e hne).trans he,ta,λb o _ h2 z=>sba.extBut b o h2 z⟩
  have za:ha.objs.size=hp.objs.size:=sba.1;clear sba ta;show wpAny _ _ (field (.ref e) 3 >>= _) _ _ ⟨ha,g,d,tka,os⟩;refine Jg (Lq xa.here rfl (x:=rawInt i) rfl ?_);show wpAny _ _ (field (.ref e) 4 >>= _) _ _ ⟨ha,g,d,tka,os⟩;refine Jg (Lq xa.here rfl (x:=.none) rfl ?_);show wpAny _ _ (mkInt i >>= _) _ _ ⟨ha,g,d,tka,os⟩;refine Jg (Qs (Jg (xa.put (s:=⟨ha,g,d,tka+1,os⟩) hne kT (by simp) λhb xb sb1=>Jg (xb.put (s:=⟨hb,g,d,tka+1,os⟩) hne kT (by simp) λhc xc sb2=>Jg (OS ?_)))))
  have zc:hc.objs.size=hp.objs.size:=by rw[sb2.1,<- za]; exact sb1.1
  have hel:hp.objs.size≠e:=J2 (JE he);have new:=JA hc (o:={ cls:=.type "tuple",data:=.seq [.int i tka,u].toArray }) rfl;have xd:EnAt hp (hc.push { cls:=.type "tuple",data:=.seq [.int i tka,u].toArray }) e it [.none,.bool false,.ref it,rawInt ((i:Jy)+1),.none,old].toArray (T (i+1)):=⟨Jj _ xc.here,kT _ _ xc.turn λo z=>Jj _ z,λb o h1 h2 z=>Jj _ (xc.kept b o h1 h2 z)⟩
  rw[zc]at new;show wpAny _ _ (ML (.ref e) >>= _) _ _ ⟨hc.push _,g,d,tka+1,os⟩;rw[zc];generalize hc.push { cls:=.type "tuple",data:=.seq [.int i tka,u].toArray }=hd at new xd ⊢;clear zc sb2 xc sb1 xb hb xa za;refine Jg ?_;unfold ML;refine Jg (Lq xd.here rfl (x:=.none) rfl (Jm ?_));simp only[K6];refine Jg (Og (Jg (Lq xd.here rfl (x:=old) rfl (Jg (xd.put (s:=⟨hd,g,d,tka+1,os⟩) hne kT (by simp) λh1 x1 s1=>Jg ?_)))))
  unfold O9;refine Jg (x1.put (s:=⟨h1,g,d,tka+1,os⟩) hne kT (by simp) λh2 x2 s2=>x2.put (s:=⟨h2,g,d,tka+1,os⟩) hne kT (by simp) λh3 x3 s3=>Jg (Ng (Jm ⟨_,rfl,hI V rfl u h3 (tka+1) tka hu x3.here x3.turn ?_ x3.kept⟩)))
  exact s3.extBut _ _ hel (s2.extBut _ _ hel (s1.extBut _ _ hel new))
variable{v:Jh}{o:K2}
theorem q8 (h1:sV prog w v o C) :
  MeetsIn prog w (Mn.«enumerate.__new__» ⟨[.type "enumerate",v],[]⟩) (λ_ R s=>C s.heap/\R (.ok (.ret (.ref (s.heap.push o).objs.size))) { s with heap:=(s.heap.push o).push { cls:=.type "enumerate",data:=.fields [.none,.bool false,.ref s.heap.objs.size,rawInt 0,.none,.none].toArray } }):=
 .of_wp λA R s h=>by
  obtain⟨hp,g,d,tk,os⟩:=s;obtain⟨c,h⟩:=h;have hsub:=sub_enumerate;have d1:∀(B:J1) (Q:Jh->Jk->Prop) (E:Jh->Jk->Prop),Q (.ref hp.objs.size) ⟨hp.push o,g,d,tk,os⟩->wpAny (model prog w) B (pyIter v) Q E ⟨hp,g,d,tk,os⟩:=λB Q E q=>h1 B ⟨hp,g,d,tk,os⟩ Q E c q
  wp_walk
  refine wpAny_stack_any λst=>Jm ?_
  split
  ·rename_i c _ _ _ _ _;cases(c==K4 "enumerate")
   ·wp_walk using d1 _ _ _
    exact⟨_,rfl,h⟩
   ·wp_walk using d1 _ _ _
    exact⟨_,rfl,h⟩
  ·wp_walk using d1 _ _ _
   exact⟨_,rfl,h⟩
theorem vV {Q:Jh->Jk->Prop}(h1:sV prog w v o C)(c:C s.heap)(n1:o.isFreed=false)
  (h:∀h',Sb h' (s.heap.objs.size+1) s.heap.objs.size 0 .none->h'.get? s.heap.objs.size=ba o->(∀b o,s.heap.get? b=ba o->h'.get? b=ba o)->Q (.ref (s.heap.objs.size+1)) { s with heap:=h' }) :
  wpAny (model prog w) B (call (.type "enumerate") [v]) Q E s:=by
 refine callType_newIn F.called_enumerate (by decide) (F.typeCall_enumerate_1 _) (F.newCall_enumerate_1 _) (λobj=>F.args_object_init_2 obj _) F.entry_enumerate_new (q8 h1) ⟨c,?_⟩
 have hz:(s.heap.push o).objs.size=s.heap.objs.size+1:=Ma ..;show _/\_;rw[hz];have he:Sb ((s.heap.push o).push { cls:=.type "enumerate",data:=.fields [.none,.bool false,.ref s.heap.objs.size,rawInt 0,.none,.none].toArray }) (s.heap.objs.size+1) s.heap.objs.size 0 .none:=by
  have:=JA (s.heap.push o) (o:={ cls:=.type "enumerate",data:=.fields [.none,.bool false,.ref s.heap.objs.size,rawInt 0,.none,.none].toArray }) rfl;rw[hz]at this; exact this
 exact⟨⟨_,he,rfl⟩,h _ he (Jj _ (JA _ n1)) λb o x=>Jj _ (Jj _ x)⟩
end
noncomputable def IN (K:Jv)(S1:Zs):It:=
 ⟨λi H=>∃x,S1.at K H i x,λi H v H'=>∃p x,S1.is K H i x/\v=.ref p/\H p=gV/\H'=cj H p (.tup [.int i,x]),λi H=>S1.out K H i⟩
theorem vW {P:JY}{w:J6}{K:Jv}{els:Jf JQ}{k0:Jp}{tp:LK}{S1:Zs}{z i1:Jq}(D:z≠i1) :
  Turn P w K (.Tuple els k0 tp) (IN K S1) [z,i1] z (λi h=>(∃old,Sb h z i1 i old)/\S1.T i1 i h) where
 mem:=by simp
 obj:=λi h ⟨⟨old,a⟩,d⟩ b' hb=>by
  have it:∀ {S:Zs} {it:Jq},S.T it i h->∃o,h.get? it=ba o/\∀v,o.data≠.cell v:=λ{S it} t=>by
   cases S with
   | tup a=>obtain⟨o,e,_,d⟩:=t; exact⟨o,e,λv z=>by rw[d]at z; cases z⟩
   | lst a=>obtain⟨o,e,_,d⟩:=t; exact⟨o,e,λv z=>by rw[d]at z; cases z⟩
   | txt x=>obtain⟨tk,⟨o,e,_,d⟩|⟨o,e,_,d⟩⟩:=t <;> exact⟨o,e,λv z=>by rw[d]at z; cases z⟩
  simp only[JP,Kl,Lu]at hb;rcases hb with rfl|rfl
  ·exact⟨_,a,λv z=>by cases z⟩
  ·exact it d
 keep:=λi h h' ⟨⟨old,a⟩,d⟩ k=>⟨⟨old,k z (by simp) _ a⟩,Zs.keep d (k i1 (by simp))⟩
 item:=by
  intro X hP hw hK hc i pins s σ H E I hf st hg;subst hP hw hK;obtain⟨x,g1⟩:=hg;obtain⟨⟨old,a⟩,d⟩:=st;have hf4:∀b∈[z,z,i1,i1],jn X pins H b:=λb hb=>hf b (by simp only[JP,Kl,Lu]at hb ⊢; rcases hb with h|h|h|h <;> simp[h])
  obtain⟨C1,Z1,c1,k1⟩:=Zs.zit (it:=i1) (U:=ba x) I hf4 g1;have hT:s.TypeIs (.ref z) "enumerate":=⟨_,a,rfl⟩;unfold pyNext;refine Jg (Nd (Kw (name:=Lp "__next__") hT F.slot_enumerate_next (Kx F.slot_enumerate_next hT F.entry_enumerate_next ?_ (F.args_enumerate_next_1 _))));refine ol Z1 (I.ok.hd hc) a d c1 D (λV e1 u g tk tk0 r1 zg t1 ng kp=>?_) (λz=>by cases z)
  cases e1;refine Jm ⟨_,rfl,?_⟩;refine wpAny_letOwnedTupleGo_enum (s:={ s with heap:=g,toks:=tk }) zg λg' zg' sb=>?_
  have N0:H s.heap.objs.size=gV:=I.hok.fresh (Js _);have lt:∀ {b:Jq},b∈[z,i1]->s.heap.objs.size≠b:=λ{b} hb=>by
   have:∃o,s.heap.get? b=ba o:=by
    have it:∀ {S:Zs} {it:Jq},S.T it i s.heap->∃o,s.heap.get? it=ba o:=λ{S it} t=>by
     cases S with
     | tup a=>obtain⟨o,e,_⟩:=t; exact⟨o,e⟩
     | lst a=>obtain⟨o,e,_⟩:=t; exact⟨o,e⟩
     | txt x=>obtain⟨tk,⟨o,e,_⟩|⟨o,e,_⟩⟩:=t <;> exact⟨o,e⟩
    simp only[JP,Kl,Lu]at hb;rcases hb with rfl|rfl
    ·exact⟨_,a⟩
    ·exact it d
   obtain⟨o,e⟩:=this;exact J2 (JE e)
  have up:∀b o,b∉[z,i1]->s.heap.get? b=ba o->g'.get? b=ba o:=λb o hb e=>by
   simp only[JP,Kl,Lu,R8]at hb;exact sb.extBut _ _ hb.1 (kp b o hb.1 hb.2 e)
  have I1:Inv X pins σ H { s with heap:=g',toks:=tk }:=Mi.Inv.turnedL I up hf
  have ng':g'.get? s.heap.objs.size=ba { cls:=.type "tuple",data:=.seq [.int i tk0,u].toArray }:=sb.extBut _ _ (lt (by simp)) ng
  have I2:Inv X pins σ (cj H s.heap.objs.size (.tup [.int i,x])) { s with heap:=g',toks:=tk }:=by
   refine Mi.Inv.adopt I1 N0 (.inr I.sz) (J2 I.lt) (λw c e=>?_) (λp hp=>?_) ⟨by show 2<=sizeLine; decide,[.int i tk0,u],.cons ⟨_,rfl⟩ (.cons r1 .nil),⟨_,ng',rfl,0,rfl⟩⟩
   ·obtain⟨v,q⟩:=I.cell w c e;exact JM q.lt
   ·exact JM (JE (I.pin p hp).1)
  refine⟨.ref s.heap.objs.size,_,I2,rfl,⟨s.heap.objs.size,x,Zs.at_is I g1,rfl,N0,rfl⟩,⟨⟨_,zg'⟩,Zs.keep t1 λo e=>sb.extBut _ _ (Ne.symm D) e⟩,λb hb=>?_⟩
  rw[aN (Ne.symm (lt hb))];exact(hf b hb).1
 done:=by
  intro X hP hw hK hc i pins s σ H E I hf st hg;subst hP hw hK;obtain⟨⟨old,a⟩,d⟩:=st;have hf4:∀b∈[z,z,i1,i1],jn X pins H b:=λb hb=>hf b (by simp only[JP,Kl,Lu]at hb ⊢; rcases hb with h|h|h|h <;> simp[h])
  obtain⟨C1,Z1,c1,k1⟩:=Zs.zit (it:=i1) (U:=gV) I hf4 hg;have hT:s.TypeIs (.ref z) "enumerate":=⟨_,a,rfl⟩;unfold pyNext;refine Jg (Nd (Kw (name:=Lp "__next__") hT F.slot_enumerate_next (Kx F.slot_enumerate_next hT F.entry_enumerate_next ?_ (F.args_enumerate_next_1 _))));refine ol Z1 (I.ok.hd hc) a d c1 D (λV e1=>by cases e1) λ_ h' e k ⟨o,ho,hc⟩=>?_
  exact Jg (My (T:="StopIteration") (b:=true) ⟨o,ho,hc⟩ OR (Jm ⟨rfl,Mi.Inv.turnedL (t':=s.toks) I (λb o hb e=>by
    simp only[JP,Kl,Lu,R8]at hb;exact k b o hb.2 e) hf⟩))
 self:=λ_ _ _ _ _ st h=>by obtain⟨⟨old,a⟩,_⟩:=st; exact P6 a h
noncomputable def pi (xs:Jf W):Jf W:=xs.zipIdx.map λp=>.tup [.int (p.2:Jp),p.1]
theorem q9 {xs:Jf W}{i:Jp}{w:W}(h:(pi xs)[i]?=ba w):∃x,xs[i]?=ba x/\w=.tup [.int i,x]:=by
 unfold pi at h;rw[Jr,List.getElem?_zipIdx,QY,Jl]at h;obtain⟨x,h1,rfl⟩:=h;exact⟨x,h1,by simp⟩
noncomputable def BK (f:FA):FI:=λρ S=>match f ρ S with
 | some ([x],S1)=>match HS x with
  | some xs=>ba (.its (pi xs),S1)
  | none=>gV
 | _=>gV
section
variable{X:Cx}{pins:Jf (Jq×K2)}{σ:L2.St}{H:Hp}{s:Jk}{A:Jf Jq}
theorem yK {S1:Zs}{xs:Jf W}(z1:ZRel X.K A H xs S1):MIt X.w X.K (.its (pi xs)) (IN X.K S1) A H:=by
 refine⟨λA' H' S i w e so hi=>?_,λA' H' S i e so hi=>?_⟩
 ·simp only[MI.at,J5]at hi;obtain⟨x,e1,rfl⟩:=q9 hi;obtain⟨v,g1,r1⟩:=(z1.mono e).at e1;refine⟨⟨v,g1⟩,λp H2 ⟨a,v',q1,hp,hn,hH⟩=>?_⟩
  subst hp hH;have ex:Ext X.K A' H' A' (cj H' a (.tup [.int i,v'])):=dG (.inl hn);exact⟨ex,so.lay hn,.tup (.of bv) (.cons .int (.cons (((z1.mono e).is e1 q1).mono ex) .nil))⟩
 ·simp only[MI.at,J5,KD,pi,Ji,List.length_zipIdx]at hi;exact(z1.mono e).out hi
theorem vX:bootBuiltins "enumerate" = ba (.type "enumerate"):=rfl
theorem BL {els:Jf JQ}{k0:Jp}{tp:LK}{a:JQ}{f:FA}{p pos:LK}(hg:Gl X "enumerate")(hm:X.mg "enumerate" = gV)(ha:GA X [a] f)(hs:starEach [a] X.env=[(false,eval a X.env)]) :
  GI X (.Tuple els k0 tp) (.Call (.Name "enumerate" p) [a] [] pos) (BK f):=by
 intro pins s σ H R I ⟨A,ρ,S,mi,S',er,so,e,hq⟩;unfold BK at e;split at e
 ·rename_i x S1 h1;split at e
  ·rename_i xs e1;cases e;refine Call_ (jm I hg hm vX (LH (b8 (ha pos pins s σ H _ I ⟨A,ρ,S,_,_,er,so,h1,λ_ _ z=>z⟩) λus s1 ⟨vs,H1,I1,r1,A1,z1,z2,z3⟩=>?_) (by rw[hs]; rfl) (by rfl)))
   cases z3 with
   | cons ra t=>
    cases t;cases r1 with
    | cons ua t=>
     cases t;obtain⟨Sa,oa,Ca,za,ia,ca,ka,na,ta⟩:=BJ I1 ra ua e1;refine vV ia ca na λh' hz g1 kp=>?_
     have I2:Inv X pins σ H1 { s1 with heap:=h' }:=I1.kept (t':=s1.toks) kp
     refine P6 (s:={ s1 with heap:=h' }) hz ?_
     refine⟨s1.heap.objs.size+1,_,_,_,H1,rfl,I2,vW (S1:=Sa) (i1:=s1.heap.objs.size) (by simp),⟨⟨_,hz⟩,ta _ _ g1⟩,λb hb=>?_,hq _ _ A1 z1 z2 (yK za)⟩
     have hb':s1.heap.objs.size<=b:=by
      simp only[JP,Kl,Lu]at hb;rcases hb with rfl|rfl
      ·exact N9 _ _
      ·exact Js _
     exact I1.fpOk hb' (I1.hok.fresh hb')
  ·cases e
 ·cases e
end
end Mi
namespace Mi
open PySem PySem.Spec PyProof.Rows L2
noncomputable def CB (g1 g2:Jf W->aa->Jn (W×aa))(xs:Jf W)(S:aa):Jn (W×aa):=match g1 xs S with
 | some r=>ba r
 | none=>g2 xs S
theorem rc {X:Cx}{f:Jh}{g1 g2:Jf W->aa->Jn (W×aa)}(h1:LCall X f g1)(h2:LCall X f g2):LCall X f (CB g1 g2):=by
 intro pins s σ H A S xs vs us w S' I so rl rv e;unfold CB at e;split at e
 ·rename_i r hr;cases e;exact h1 pins s σ H A S xs vs us w S' I so rl rv hr
 ·exact h2 pins s σ H A S xs vs us w S' I so rl rv e
inductive Bi where|len|list|tuple|int|set|sorted|range|all|min
 deriving Mo
noncomputable def Bi.fn:Bi->Jf W->aa->Jn (W×aa)
 | .len=>sJ|.list=>CB nO nU|.tuple=>lH|.int=>FN|.set=>lF|.sorted=>CB du fN|.range=>sD|.all=>DL|.min=>A7
noncomputable def Bi.name:Bi->JG
 | .len=>"len"|.list=>"list"|.tuple=>"tuple"|.int=>"int"|.set=>"set"|.sorted=>"sorted"|.range=>"range"|.all=>"all"|.min=>"min"
inductive Me where|append|extend|join|pop|get
 deriving Mo
noncomputable def Me.fn:Me->W->Jf W->aa->Jn (W×aa)
 | .append=>iO|.extend=>iP|.join=>tX|.pop=>DJ|.get=>t8
noncomputable def Me.name:Me->JG
 | .append=>"append"|.extend=>"extend"|.join=>"join"|.pop=>"pop"|.get=>"get"
noncomputable def Me.ty:Me->KQ
 | .append=>"list"|.extend=>"list"|.join=>"str"|.pop=>"list"|.get=>"dict"
inductive Tg where
 | nm (i:Jp)|tp (is:Jf Jp)
set_option genSizeOf false in
set_option genInjectivity false in
mutual
inductive E where
 | c (w:W)|v (i:Jp)
 | op (o:BOp) (a b:E)
 | cmp (o:COp) (a b:E)
 | and (a b:E)|or (a b:E)|not (a:E)
 | own (f:JG) (n:Jp) (es:Es)|bi (b:Bi) (es:Es)|me (m:Me) (o:E) (es:Es)
 | ix (a b:E)|sl (a:E) (lo hi:Ep)|tup (es:Es)|lst (es:Es)
 | isi (c:KQ) (a:E)
 | neg (a:E)|dnew|disp (es:Es)|ite (t a b:E)
 | comp (elt:E) (tg:Tg) (it:Ie) (cs:Es) (cap:Jf (Jn Jp))
inductive Es where
 | nil|cons (e:E) (es:Es)
inductive Ep where
 | no|yes (e:E)
inductive Ie where
 | seq (e:E)|rng (es:Es)|rng2 (es:Es)|enu (es:Es)
end
set_option genSizeOf false in
set_option genInjectivity false in
mutual
inductive Sm where
 | set (i:Jp) (e:E)|asg (is:Jf Jp) (e:E)|par (i j:Jp) (es:Es)|put (o k e:E)
 | ex (e:E)|ret (e:E)|retN|pass|brk|cont|bad
 | ite (t:E) (a b:Ss)|whl (t:E) (b:Ss)|loop (tg:Tg) (it:Ie) (b:Ss)
inductive Ss where
 | nil|cons (s:Sm) (ss:Ss)
end
noncomputable def gW:Tg->FG
 | .nm i=>Cy i
 | .tp is=>E5 is
section
variable (Φ:JG->FF)
mutual
noncomputable def aI:E->FE
 | .c w=>fC w
 | .v i=>fV i
 | .op o a b=>Bb (gj o) (aI a) (aI b)
 | .cmp o a b=>Bc o (aI a) (aI b)
 | .and a b=>ut (aI a) (aI b)
 | .or a b=>Bg (aI a) (aI b)
 | .not a=>uu (aI a)
 | .own f n es=>qV n (Φ f) (dE es)
 | .bi b es=>kh b.fn (dE es)
 | .me m o es=>E4 m.ty m.fn (aI o) (dE es)
 | .ix a b=>HQ (aI a) (aI b)
 | .sl a lo hi=>F0 (aI a) (uC lo) (uC hi)
 | .tup es=>yr (dE es)
 | .lst es=>yt (dE es)
 | .isi c a=>yF c (aI a)
 | .neg a=>ym (aI a)
 | .dnew=>Cz
 | .disp es=>qY (dE es)
 | .ite t a b=>Bh (dA t) (aI a) (aI b)
 | .comp elt tg it cs cap=>lJ (mK it) (gW tg) (BM cs) (aI elt) cap
noncomputable def dA:E->FT
 | .cmp o a b=>yo (Bc o (aI a) (aI b))
 | .and a b=>yp (dA a) (dA b)
 | .or a b=>FX (dA a) (dA b)
 | .not a=>Bd (dA a)
 | .c w=>gS (fC w)
 | .v i=>gS (fV i)
 | .op o a b=>gS (Bb (gj o) (aI a) (aI b))
 | .own f n es=>gS (qV n (Φ f) (dE es))
 | .bi b es=>gS (kh b.fn (dE es))
 | .me m o es=>gS (E4 m.ty m.fn (aI o) (dE es))
 | .ix a b=>gS (HQ (aI a) (aI b))
 | .sl a lo hi=>gS (F0 (aI a) (uC lo) (uC hi))
 | .tup es=>gS (yr (dE es))
 | .lst es=>gS (yt (dE es))
 | .isi c a=>gS (yF c (aI a))
 | .neg a=>gS (ym (aI a))
 | .dnew=>λ_ _=>gV
 | .disp _=>λ_ _=>gV
 | .ite _ _ _=>λ_ _=>gV
 | .comp _ _ _ _ _=>λ_ _=>gV
noncomputable def dE:Es->FA
 | .nil=>kz
 | .cons e es=>eX (aI e) (dE es)
noncomputable def BM:Es->FT
 | .nil=>CA
 | .cons e .nil=>dA e
 | .cons _ (.cons _ _)=>λ_ _=>gV
noncomputable def uC:Ep->FO
 | .no=>DZ
 | .yes e=>uy (aI e)
noncomputable def mK:Ie->FI
 | .seq e=>fZ (aI e)
 | .rng es=>vT (dE es)
 | .rng2 es=>iRng2 (dE es)
 | .enu es=>BK (dE es)
end
variable (fuel:Jp)
mutual
noncomputable def gn:Sm->FS
 | .set i e=>lI (aI Φ e) (Cy i)
 | .asg is e=>lI (aI Φ e) (E5 is)
 | .par i j es=>Bw i j (dE Φ es)
 | .put o k e=>lI (aI Φ e) (Bv (aI Φ o) (aI Φ k))
 | .ex e=>Bp (aI Φ e)
 | .ret e=>Bs (aI Φ e)
 | .retN=>λ_ S=>ba (.rt .non,S)
 | .pass=>yz
 | .brk=>λρ S=>ba (.bk ρ,S)
 | .cont=>λρ S=>ba (.ct ρ,S)
 | .bad=>λ_ _=>gV
 | .ite t a b=>Bu (dA Φ t) (gp a) (gp b)
 | .whl t b=>pg (dA Φ t) (gp b) fuel
 | .loop tg it b=>yC (mK Φ it) (gW tg) (gp b)
noncomputable def gp:Ss->FS
 | .nil=>λρ S=>ba (.nx ρ,S)
 | .cons s ss=>Bo (gn s) (gp ss)
end
end
set_option genInjectivity false in
structure Gam where
 sc:Jf (JG×Le)
 N:Jf JG
 fns:Jf (JG×Jp)
 blt:Jf JG
 dfn:JW
noncomputable def Eh:Jn Le->JW
 | some .local=>true|some .cell=>true|some .free=>true|_=>false
noncomputable def BN:Jn Le->JW
 | some .cell=>true|some .free=>true|_=>false
noncomputable def gq (names outer:Jf (JG×Le)):Jf (JG×Le):=names.map λ(n,k)=>if (k==.free&&outer.lookup n==ba .cell)then(n,.cell)else(n,k)
noncomputable def slot (Γ:Gam)(x:JG):Jn Jp:=if Eh (Γ.sc.lookup x) && !(x==("__debug__" : JG)) && !(x==("__classdict__" : JG))then Γ.N.findIdx? (· == x)else gV
noncomputable def uD:PH->Jn BOp
 | .Add=>ba .add|.Sub=>ba .sub|.Mult=>ba .mul|.FloorDiv=>ba .fdiv|.Mod=>ba .mod|.Pow=>ba .pow|_=>gV
noncomputable def uE:Ru->Jn COp
 | .Eq=>ba .eq|.NotEq=>ba .ne|.Lt=>ba .lt|.LtE=>ba .le|.Gt=>ba .gt|.GtE=>ba .ge|.In=>ba .isin|.NotIn=>ba .notin|.Is=>ba .is|.IsNot=>ba .isnot
noncomputable def BO (x:JG):Jn Bi:=[Bi.len,.list,.tuple,.int,.set,.sorted,.range,.all,.min].find? λb=>b.name==x
noncomputable def BP (x:JG):Jn Me:=[Me.append,.extend,.join,.pop,.get].find? λb=>b.name==x
noncomputable def F8 (Γ:Gam)(x:JG):JW:=Γ.sc.lookup x==ba .globalImplicit && !(x==("__debug__" : JG))
noncomputable def yL (x:JG):Jn KQ:=if x==("bool" : JG)then ba "bool" else if x==("int" : JG)then ba "int" else if x==("str" : JG)then ba "str" else if x==("tuple" : JG)then ba "tuple" else if x==("list" : JG)then ba "list" else if x==("dict" : JG)then ba "dict" else gV
noncomputable def uF:Jf (Jn JQ)->Jf JQ->Jf JQ
 | some k::ks,v::vs=>k::v::uF ks vs
 | _,_=>[]
noncomputable def BQ (Γ:Gam)(f:JQ->Jn E):Jf JQ->Jn E
 | [a,.Name c _]=>if F8 Γ c&&Γ.blt.contains c then match yL c,f a with
  | some cs,ba a'=>ba (.isi cs a')
  | _,_=>gV
  else gV
 | _=>gV
noncomputable def gL:JQ->JW
 | .Name _ _=>true|.Constant _ _ _=>true|.Subscript _ _ _=>true|_=>false
noncomputable def mL (Γ:Gam)(x:JG):JW:=Γ.sc.lookup x==ba .globalImplicit && !(x==("__debug__" : JG))
noncomputable def dF (Γ:Gam)(x:JG):Jn Jp:=if (Γ.sc.lookup x==ba .local)||(Γ.dfn&&Γ.sc.lookup x==ba .cell)then Γ.N.findIdx? (· == x)else gV
noncomputable def cA (f:JQ->Jn E)(es:Jf JQ):Jn Es:=es.foldr (λe acc=>match f e,acc with|some e',ba es'=>ba (.cons e' es')|_,_=>gV) (ba .nil)
noncomputable def cB (f:JQ->Jn E)(op:R9):Jf JQ->Jn E
 | []=>gV
 | [a]=>f a
 | a::b::cb=>match f a,cB f op (b::cb)with
  | some a',ba b'=>ba (match op with|.And=>.and a' b'|.Or=>.or a' b')
  | _,_=>gV
noncomputable def cP (f:JQ->Jn E):Jn JQ->Jn Ep
 | none=>ba .no
 | some e=>(f e).map .yes
noncomputable def isTup:JQ->JW
 | .Tuple _ _ _=>true
 | _=>false
noncomputable def cI (Γ:Gam)(f:JQ->Jn E)(tg:JQ):JQ->Jn Ie
 | .Call (.Name x p) [a] [] q=>if x==("range" : JG)&&mL Γ x&&Γ.blt.contains x then(cA f [a]).map .rng else if x==("enumerate" : JG)&&mL Γ x&&Γ.blt.contains x&&isTup tg then(cA f [a]).map .enu else(f (.Call (.Name x p) [a] [] q)).map .seq
 | .Call (.Name x p) [a,b] [] q=>if x==("range" : JG)&&mL Γ x&&Γ.blt.contains x then(cA f [a,b]).map .rng2 else(f (.Call (.Name x p) [a,b] [] q)).map .seq
 | e=>(f e).map .seq
noncomputable def E6 (Γ:Gam):Jf JQ->Jn (Jf Jp)
 | []=>ba []
 | .Name x _::ts=>match dF Γ x,E6 Γ ts with
  | some i,ba is=>ba (i::is)
  | _,_=>gV
 | _::_=>gV
noncomputable def cT (Γ:Gam):JQ->Jn Tg
 | .Name x _=>(dF Γ x).map .nm
 | .Tuple ts _ _=>(E6 Γ ts).map .tp
 | _=>gV
noncomputable def ic (names:Jf (JG×Le)):Jf JG:=(names.filter λp=>p.2==.local||p.2==.free).map (·.1)
noncomputable def gM (Γ:Gam)(names:Jf (JG×Le)):Jf (Jn Jp):=(ic names).map λx=>if names.lookup x==ba .local then gV else Γ.N.findIdx? (· == x)
noncomputable def yM (Γ:Gam)(scope:Mm):JW:=
 (scope.kind==.function)&&scope.names.all (λy=>!(y.2==.local)||scope.names.lookup y.1==ba .local)&&scope.names.all (λy=>!(y.2==.cell)) &&
 scope.names.all (λy=>!(y.2==.free)||(BN (Γ.sc.lookup y.1)&&scope.names.lookup y.1==ba .free&&(Γ.N.findIdx? (· == y.1)).isSome))&&decide (ic scope.names).Nodup
noncomputable def ie (Γ:Gam)(scope:Mm):Gam:={ Γ with sc:=gq scope.names Γ.sc,N:=ic scope.names,dfn:=false }
noncomputable def yN (f:JQ->Jn E)(keys:Jf (Jn JQ))(values:Jf JQ):Jn E:=
 if keys.isEmpty&&values.isEmpty then ba .dnew
 else if keys.all (·.isSome)&&decide (keys.length=values.length)&&decide (keys.length<=15)then(cA f (uF keys values)).map .disp else gV
noncomputable def cE:Jp->Gam->JQ->Jn E
 | 0,_,_=>gV
 | n+1,Γ,e=>match e with
  | .Constant (.int i) _ _=>ba (.c (.int i))
  | .Constant (.str x) _ _=>ba (.c (.str x))
  | .Constant (.bool b) _ _=>ba (.c (.bl b))
  | .Constant .none _ _=>ba (.c .non)
  | .Name x _=>match slot Γ x with
   | some i=>ba (.v i)
   | none=>gV
  | .BinOp a op b _=>match uD op,cE n Γ a,cE n Γ b with
   | some o,ba a',ba b'=>ba (.op o a' b')
   | _,_,_=>gV
  | .UnaryOp .Not a _=>(cE n Γ a).map .not
  | .UnaryOp .USub a _=>(cE n Γ a).map .neg
  | .BoolOp op vs _=>cB (cE n Γ) op vs
  | .Compare a [op] [b] _=>match uE op,cE n Γ a,cE n Γ b with
   | some o,ba a',ba b'=>ba (.cmp o a' b')
   | _,_,_=>gV
  | .IfExp t a b _=>match cE n Γ t,cE n Γ a,cE n Γ b with
   | some t',ba a',ba b'=>ba (.ite t' a' b')
   | _,_,_=>gV
  | .Call (.Name f _) args [] _=>if mL Γ f then match Γ.fns.lookup f with
    | some k=>(cA (cE n Γ) args).map (.own f k)
    | none=>if f==("isinstance" : JG)then(if Γ.blt.contains f then BQ Γ (cE n Γ) args else gV)else match BO f,args with
     | some b,a::as=>if Γ.blt.contains f then(cA (cE n Γ) (a::as)).map (.bi b)else gV
     | _,_=>gV
   else gV
  | .Call (.Attribute o m apos) (a::as) [] cpos=>match BP m,cE n Γ o,cA (cE n Γ) (a::as)with
   | some m',ba o',ba es=>if gL o&&(apos.endLine==cpos.line)&&decide ((a::as).length < 29)then ba (.me m' o' es)else gV
   | _,_,_=>gV
  | .Subscript a (.Slice lo hi gV _) _=>match cE n Γ a,cP (cE n Γ) lo,cP (cE n Γ) hi with
   | some a',ba lo',ba hi'=>ba (.sl a' lo' hi')
   | _,_,_=>gV
  | .Subscript a b _=>match cE n Γ a,cE n Γ b with
   | some a',ba b'=>ba (.ix a' b')
   | _,_=>gV
  | .Tuple es _ _=>(cA (cE n Γ) es).map .tup
  | .List es _=>(cA (cE n Γ) es).map .lst
  | .Dict keys values _=>yN (cE n Γ) keys values
  | .ListComp elt [⟨tg,iter,ifs,asy⟩] scope _=>if (asy==0)&&(yM Γ scope&&decide (ifs.length<=1))then
    match cI Γ (cE n Γ) tg iter,cT (ie Γ scope) tg,cA (cE n (ie Γ scope)) ifs,cE n (ie Γ scope) elt with
    | some it,ba t,ba cs,ba el=>ba (.comp el t it cs (gM Γ scope.names))
    | _,_,_,_=>gV
   else gV
  | _=>gV
structure CtxOk (Φ:JG->FF)(X:Cx)(Γ:Gam):Prop where
 names:X.env.scope.names=Γ.sc
 kind:X.env.scope.kind=.function
 N:X.N=Γ.N
 nd:Γ.N.Nodup
 calm:X.calm=true
 xe:X.xe=λ_ _=>KN
 un:X.A.units+ip < cLine
 dfn:Γ.dfn=true->∀x,X.fn x=true
 blt:∀x∈Γ.blt,X.mg x=gV
 fns:∀f n,Γ.fns.lookup f=ba n->∃k fa fd ps,FnOk X.prog X.w X.K X.mg X.base wF k fa fd ps (yw X.w X.K n (Φ f))/\Room k X.A/\X.mg f=ba (.ref fa)/\KZ X.K (.ref fa)=true/\Binds X.K fd ps []
theorem bg {α:Type}{x:α}{P:Prop}(h:(gV:Jn α)=ba x):P:=nomatch h
noncomputable def iy:JQ->JW
 | .Starred _ _=>false
 | _=>true
theorem aC {e:JQ}{es:Jf JQ}{env:PC}(h:iy e=true):starEach (e::es) env=(false,eval e env)::starEach es env:=by
 cases e <;> first|rfl|cases h
theorem bJ {env:PC}{pos:LK}:∀ {es:Jf JQ},es.all iy=true->(backTo pos (starEach es env)).any (·.1)=false
 | [],_=>rfl
 | e::es,h=>by
  rw[Kv,Jo]at h;rw[aC h.1];show(false||(backTo pos (starEach es env)).any (·.1))=false
  rw[bJ h.2];rfl
theorem re {env:PC}{pos:LK}:∀ {es:Jf JQ},es.all iy=true->(backTo pos (starEach es env)).all (λx=>!x.1)=true
 | [],_=>rfl
 | e::es,h=>by
  rw[Kv,Jo]at h;rw[aC h.1];show(true&&(backTo pos (starEach es env)).all (λx=>!x.1))=true
  rw[re h.2];rfl
theorem jy {n:Jp}{Γ:Gam}{e:JQ}{e':E}(h:cE n Γ e=ba e'):iy e=true:=by
 cases n with
 | zero=>cases h
 | succ n=>cases e <;> first|rfl|(exact bg h)
theorem iZ {f:JQ->Jn E}{e:JQ}{es:Jf JQ}{r:Es}(h:cA f (e::es)=ba r):∃e' es',f e=ba e'/\cA f es=ba es'/\r=.cons e' es':=by
 simp only[cA,QF]at h;split at h
 ·rename_i e' es' h1 h2;cases h;exact⟨e',es',h1,h2,rfl⟩
 ·cases h
theorem dh {n:Jp}{Γ:Gam}:∀ {es:Jf JQ} {r:Es},cA (cE n Γ) es=ba r->es.all iy=true
 | [],_,_=>rfl
 | e::es,r,h=>by
  obtain⟨e',es',h1,h2,_⟩:=iZ h;rw[Kv,jy h1,dh h2];rfl
theorem dO {N:Jf JG}{x:JG}{i:Jp}(h:N.findIdx? (· == x)=ba i):N[i]?=ba x:=by
 obtain⟨hl,h1,_⟩:=List.findIdx?_eq_some_iff_getElem.mp h;rw[Jw hl];exact congrArg ba (eq_of_beq h1)
section
variable{Φ:JG->FF}{X:Cx}{Γ:Gam}
theorem kZ {e:JQ}:GT X e (λ_ _=>gV):=λpins s σ H Q I ⟨A,ρ,S,k,S',er,so,e1,hq⟩=>by cases e1
theorem yO {x:JG}(h:Eh (X.env.scope.names.lookup x)=true):G3 X.env.scope x:=by
 unfold Eh at h;split at h
 ·exact .inl ‹_›
 ·exact .inr (.inl ‹_›)
 ·exact .inr (.inr ‹_›)
 ·cases h
theorem yP (K:CtxOk Φ X Γ){x:JG}{pos:LK}{i:Jp}(h:slot Γ x=ba i):GE X (.Name x pos) (fV i):=by
 unfold slot at h;split at h
 ·rename_i hc;rw[Jo,Jo]at hc;obtain⟨⟨h1,h2⟩,h3⟩:=hc;refine HP (wL (by rw[K.N]; exact dO h) (yO (by rw[K.names]; exact h1)) (by simpa using h2) (by simpa using h3))
 ·cases h
theorem lK (K:CtxOk Φ X Γ){x:JG}(h:mL Γ x=true):Gl X x/\(x==("__debug__" : JG))=false:=by
 unfold mL at h;rw[Jo]at h;refine⟨?_,by simpa using h.2⟩
 show X.env.scope.names.lookup x=_;rw[K.names];exact eq_of_beq h.1
theorem yQ {o:Ru}{c:COp}(h:uE o=ba c):c.py=o:=by
 cases o <;> (simp only[uE,J5]at h; subst h; rfl)
theorem yR {o:PH}{c:BOp}(h:uD o=ba c):c.py=o:=by
 cases o <;> simp only[uD,J5]at h <;> first|(subst h; rfl)|cases h
theorem vY {x:JG}{b:Bi}(h:BO x=ba b):b.name=x:=by
 have:=OC h;exact eq_of_beq this
theorem vZ {x:JG}{b:Me}(h:BP x=ba b):b.name=x:=by
 have:=OC h;exact eq_of_beq this
theorem dU {n:Jp}(ih:∀ {e:JQ} {e':E},cE n Γ e=ba e'->GE X e (aI Φ e')):∀ {es:Jf JQ} {r:Es},cA (cE n Γ) es=ba r->GA X es (dE Φ r)
 | [],r,h=>by cases h; exact DY
 | e::es,r,h=>by
  obtain⟨e',es',h1,h2,rfl⟩:=iZ h;exact Bj (ih h1) (dU ih h2) (aC (jy h1))
theorem F9 (K:CtxOk Φ X Γ){n:Jp}{f:JG}{p pos:LK}{args:Jf JQ}{k:Jp}{r:Es}(hg:mL Γ f=true)(hf:Γ.fns.lookup f=ba k)(ha:cA (cE n Γ) args=ba r)(h:GA X args (dE Φ r)):GE X (.Call (.Name f p) args [] pos) (qV k (Φ f) (dE Φ r)):=by
 obtain⟨d,fa,fd,ps,F,hr,hm,hk,hb⟩:=K.fns f k hf;obtain⟨g1,g2⟩:=lK K hg;cases args with
 | nil=>cases ha; exact Bm F hr g1 hm hk hb g2
 | cons a as=>
  have ns:=dh ha;rw[Kv,Jo]at ns;exact D0 F hr g1 hm hk hb h g2 (aC ns.1) (bJ ns.2)
theorem HU (K:CtxOk Φ X Γ){n:Jp}{f:JG}{p pos:LK}{a:JQ}{as:Jf JQ}{b:Bi}{r:Es}(hg:mL Γ f=true)(hb:BO f=ba b)(hc:Γ.blt.contains f=true)(ha:cA (cE n Γ) (a::as)=ba r)(h:GA X (a::as) (dE Φ r)):GE X (.Call (.Name f p) (a::as) [] pos) (kh b.fn (dE Φ r)):=by
 obtain⟨g1,g2⟩:=lK K hg;have hm:X.mg f=gV:=K.blt f (by simpa using hc)
 have ns:=dh ha;rw[Kv,Jo]at ns;have e:=vY hb;subst e;have hu:X.A.units+12 < cLine:=by have:=K.un; have:ip=20:=rfl; omega
 have calm:∀ {f:Jh} {g:Jf W->aa->Jn (W×aa)},(X.A.handled=gV->LCall X f g)->LCall X f g:=λh pins s σ H A S xs vs us w S' I=>h (I.ok.hd K.calm) pins s σ H A S xs vs us w S' I
 cases b with
 | len=>exact uw sT g1 hm PySem.boot_len h (by decide) g2 (aC ns.1) (bJ ns.2)
 | list=>exact qT (calm λhh=>rc (qv hh) (qK hh)) g1 hm rfl h (by decide) g2 (aC ns.1) (bJ ns.2)
 | tuple=>exact qT (calm pf) g1 hm rfl h (by decide) g2 (aC ns.1) (bJ ns.2)
 | int=>exact qT vy g1 hm rfl h (by decide) g2 (aC ns.1) (bJ ns.2)
 | set=>exact qT (calm λhh=>sP hh hu) g1 hm rfl h (by decide) g2 (aC ns.1) (bJ ns.2)
 | sorted=>exact uw (calm λhh=>rc (qR hh hu) (pb hh hu)) g1 hm rfl h (by decide) g2 (aC ns.1) (bJ ns.2)
 | range=>exact qT qu g1 hm rfl h (by decide) g2 (aC ns.1) (bJ ns.2)
 | all=>exact uw (calm vR) g1 hm rfl h (by decide) g2 (aC ns.1) (bJ ns.2)
 | min=>exact uw (calm λhh=>vP hh hu) g1 hm rfl h (by decide) g2 (aC ns.1) (bJ ns.2)
theorem yS {x:JG}{c:KQ}(h:yL x=ba c):bootBuiltins x=ba (.type c)/\x≠"__name__":=by
 unfold yL at h;split at h
 ·rename_i e; cases h; rw[eq_of_beq e]; exact⟨rfl,by decide⟩
 ·split at h
  ·rename_i e; cases h; rw[eq_of_beq e]; exact⟨rfl,by decide⟩
  ·split at h
   ·rename_i e; cases h; rw[eq_of_beq e]; exact⟨rfl,by decide⟩
   ·split at h
    ·rename_i e; cases h; rw[eq_of_beq e]; exact⟨rfl,by decide⟩
    ·split at h
     ·rename_i e; cases h; rw[eq_of_beq e]; exact⟨rfl,by decide⟩
     ·split at h
      ·rename_i e; cases h; rw[eq_of_beq e]; exact⟨rfl,by decide⟩
      ·cases h
theorem Ga (K:CtxOk Φ X Γ){n:Jp}{f:JG}{p pos:LK}{args:Jf JQ}{r:E}(hg:mL Γ f=true)(hb:(f==("isinstance" : JG))=true)(hc:Γ.blt.contains f=true)(ih:∀ {e:JQ} {e':E},cE n Γ e=ba e'->GE X e (aI Φ e'))(h:BQ Γ (cE n Γ) args=ba r) :
  GE X (.Call (.Name f p) args [] pos) (aI Φ r)/\∃a c,r=.isi c a:=by
 obtain⟨g1,g2⟩:=lK K hg;have hm:X.mg f=gV:=K.blt f (by simpa using hc)
 have e:=eq_of_beq hb;subst e;unfold BQ at h;split at h
 ·rename_i a c q;split at h
  ·rename_i hcc;rw[Jo]at hcc;obtain⟨g3,g4⟩:=lK K (x:=c) hcc.1;have hm2:X.mg c=gV:=K.blt c (by simpa using hcc.2)
   split at h
   ·rename_i cs a' h1 h2;cases h;obtain⟨b1,b2⟩:=yS h1;exact⟨Ef g1 hm g3 hm2 b1 b2 g4 (ih h2) (aC (jy h2)),a',cs,rfl⟩
   ·cases h
  ·cases h
 ·cases h
theorem fB {o:JQ}{name:JG}{env:PC}(h:gL o=true):attributeBase o name env (eval o env)=eval o env:=by
 cases o <;> first|rfl|cases h
theorem uG {n:Jp}{pos:LK}(ih:∀ {e:JQ} {e':E},cE n Γ e=ba e'->GE X e (aI Φ e')):∀(keys:Jf (Jn JQ)) (values:Jf JQ) {r:Es},keys.all (·.isSome)=true->keys.length=values.length->cA (cE n Γ) (uF keys values)=ba r->F5 X pos keys values (dE Φ r)
 | [],[],r,_,_,h=>by cases h; exact BE
 | [],_::_,r,_,hl,_=>by cases hl
 | _::_,[],r,_,hl,_=>by cases hl
 | none::_,_::_,r,ha,_,_=>by cases ha
 | some k::ks,v::vs,r,ha,hl,h=>by
  simp only[uF]at h;obtain⟨e1,es1,h1,h2,rfl⟩:=iZ h;obtain⟨e2,es2,h3,h4,rfl⟩:=iZ h2;rw[Kv,Jo]at ha;exact yG (ih h1) (ih h3) (uG ih ks vs ha.2 (by simpa using hl) h4)
theorem HV (K:CtxOk Φ X Γ){n:Jp}{m:JG}{apos cpos:LK}{o a:JQ}{as:Jf JQ}{b:Me}{o':E}{r:Es}(hm:BP m=ba b)(hr:gL o=true)(hl:(apos.endLine==cpos.line)=true)(hn:(a::as).length < 29)(ho:GE X o (aI Φ o'))(ha:cA (cE n Γ) (a::as)=ba r)(h:GA X (a::as) (dE Φ r)) :
  GE X (.Call (.Attribute o m apos) (a::as) [] cpos) (E4 b.ty b.fn (aI Φ o') (dE Φ r)):=by
 have ns:=dh ha;have ns':=ns;rw[Kv,Jo]at ns;have kB:((backTo cpos (starEach (a::as) X.env)).all (λx=>!x.1)&&(backToKw cpos (keywordEach [] X.env)).all (λx=>x.1.isSome)&&decide ((a::as).length+([]:Jf QH).length+(if ([]:Jf QH).isEmpty then 0 else 1) < 30))=true:=by
  rw[re ns',MM,Jo];exact⟨rfl,Lr (by simp only[Lk,List.isEmpty_nil,K6]; omega)⟩
 have e:=vZ hm;subst e;cases b with
 | append=>exact qU MV PySem.F.slot_list_append PySem.F.type_list_append oW ho h (fB hr) kB hl (aC ns.1) (bJ ns.2)
 | extend=>exact qU MV PySem.F.slot_list_extend PySem.F.type_list_extend oX ho h (fB hr) kB hl (aC ns.1) (bJ ns.2)
 | join=>exact qU PySem.F.plainAttrs_str PySem.F.slot_str_join PySem.F.type_str_join sA ho h (fB hr) kB hl (aC ns.1) (bJ ns.2)
 | pop=>exact qU MV PySem.F.slot_list_pop PySem.F.type_list_pop vz ho h (fB hr) kB hl (aC ns.1) (bJ ns.2)
 | get=>exact qU PySem.F.plainAttrs_dict OI PySem.F.type_dict_get (sG (by have:=K.un; have:ip=20:=rfl; omega)) ho h (fB hr) kB hl (aC ns.1) (bJ ns.2)
theorem rf {n:Jp}{Γ:Gam}{e:JQ}{e':E}{op:Ru}(h:cE n Γ e=ba e'):behindInMarks op e=false:=by
 cases n with
 | zero=>cases h
 | succ n=>cases e <;> first|rfl|(exact bg h)
theorem sW {n:Jp}{Γ:Gam}{e:JQ}{e':E}(h:cE n Γ e=ba e'):oN e:=by
 cases n with
 | zero=>cases h
 | succ n=>cases e <;> first|(intro o i; rfl)|(exact bg h)
theorem po {n:Jp}{Γ:Gam}{f:JQ->Jn E}{e:JQ}{i:Ie}{env:PC}{tg:JQ}(hf:∀el k p,f (.Set el k p)=gV)(h:cI Γ f tg e=ba i):∀x,foldedSetIterable e env x=pure x:=by
 intro x;cases e <;> first|rfl|(simp[cI,hf]at h)
theorem pq {n:Jp}{op:R9}{pos:LK}(ih:∀ {e:JQ} {e':E},cE n Γ e=ba e'->GE X e (aI Φ e')):∀ {vs:Jf JQ} {r:E},cB (cE n Γ) op vs=ba r->GE X (.BoolOp op vs pos) (aI Φ r)
 | [],r,h=>by cases h
 | [a],r,h=>DU (ih h)
 | a::b::cb,r,h=>by
  simp only[cB]at h;split at h
  ·rename_i a' b' h1 h2;cases h;cases op with
   | And=>exact DV (ih h1) (pq ih h2)
   | Or=>exact FZ (ih h1) (pq ih h2)
  ·cases h
theorem pr {n:Jp}{op:R9}{pos:LK}(ih:∀ {e:JQ} {e':E},cE n Γ e=ba e'->GT X e (dA Φ e')):∀ {vs:Jf JQ} {r:E},cB (cE n Γ) op vs=ba r->GW X (.BoolOp op vs pos) (dA Φ r)
 | [],r,h=>by cases h
 | [a],r,h=>by
  cases op with
  | And=>exact Bf (ih h)
  | Or=>exact DR (ih h)
 | a::b::cb,r,h=>by
  simp only[cB]at h;split at h
  ·rename_i a' b' h1 h2;cases h;cases op with
   | And=>exact DS (ih h1) (pr ih h2)
   | Or=>exact FY (ih h1) (pr ih h2)
  ·cases h
theorem yT {n:Jp}(ih:∀ {e:JQ} {e':E},cE n Γ e=ba e'->GE X e (aI Φ e')){o:Jn JQ}{p:Ep}(h:cP (cE n Γ) o=ba p):GO X o (uC Φ p):=by
 cases o with
 | none=>cases h; exact Bk
 | some e=>
  simp only[cP,Jl]at h;obtain⟨e',h1,rfl⟩:=h;exact Bl (ih h1)
theorem sX (K:CtxOk Φ X Γ){n:Jp}(ih:∀ {e:JQ} {e':E},cE n Γ e=ba e'->GE X e (aI Φ e')){tg e:JQ}{i:Ie}(h:cI Γ (cE n Γ) tg e=ba i):GI X tg e (mK Φ i):=by
 have gen:(cE n Γ e).map Ie.seq=ba i->GI X tg e (mK Φ i):=λh=>by
  rw[Jl]at h;obtain⟨e',h1,rfl⟩:=h;exact BH (ih h1)
 unfold cI at h;split at h
 ·rename_i x p a pos;split at h
  ·rename_i hc;rw[Jo,Jo]at hc;obtain⟨⟨h1,h2⟩,h3⟩:=hc;have hx:=eq_of_beq h1;subst hx;rw[Jl]at h;obtain⟨r,hr,rfl⟩:=h;have ns:=dh hr;rw[Kv,Jo]at ns;exact BA (lK K h2).1 (K.blt _ (by simpa using h3)) (dU ih hr) (aC ns.1)
  ·split at h
   ·rename_i hc;rw[Jo,Jo,Jo]at hc;obtain⟨⟨⟨h1,h2⟩,h3⟩,h4⟩:=hc;have hx:=eq_of_beq h1;subst hx;rw[Jl]at h;obtain⟨r,hr,rfl⟩:=h;have ns:=dh hr;rw[Kv,Jo]at ns;cases tg with
    | Tuple els k0 tp=>exact BL (lK K h2).1 (K.blt _ (by simpa using h3)) (dU ih hr) (aC ns.1)
    | _=>cases h4
   ·exact gen h
 ·rename_i x p a b pos;split at h
  ·rename_i hc;rw[Jo,Jo]at hc;obtain⟨⟨h1,h2⟩,h3⟩:=hc;have hx:=eq_of_beq h1;subst hx;rw[Jl]at h;obtain⟨r,hr,rfl⟩:=h;have ns:=dh hr;rw[Kv,Kv,Jo,Jo]at ns;exact BB (lK K h2).1 (K.blt _ (by simpa using h3)) (dU ih hr) (by rw[aC ns.1,aC ns.2.1]; rfl) (aC ns.2.1)
  ·exact gen h
 ·exact gen h
theorem pz (K:CtxOk Φ X Γ){x:JG}{i:Jp}(h:dF Γ x=ba i):X.N[i]?=ba x/\Aj X.env.scope x/\(X.fn x=true\/X.env.scope.names.lookup x=ba .local):=by
 unfold dF at h;split at h
 ·rename_i hc;refine⟨by rw[K.N]; exact dO h,?_⟩
  unfold L2.Aj;rw[K.names];rw[La,Jo]at hc;rcases hc with hc|⟨hd,hc⟩
  ·have:=eq_of_beq hc;exact⟨.inl this,.inr this⟩
  ·exact⟨.inr (eq_of_beq hc),.inl (K.dfn hd x)⟩
 ·cases h
theorem rg (K:CtxOk Φ X Γ):∀ {ts:Jf JQ} {is:Jf Jp},E6 Γ ts=ba is->(∀x∈ts,∃y p,x=O5 y p)/\Oe (λ(t:JQ) (i:Jp)=>∃x p,t=O5 x p/\X.N[i]?=ba x/\Aj X.env.scope x/\(X.fn x=true\/X.env.scope.names.lookup x=ba .local)) ts is
 | [],is,h=>by cases h; exact⟨λx hx=>by simp at hx,.nil⟩
 | t::ts,is,h=>by
  cases t with
  | Name x p=>
   simp only[E6]at h;split at h
   ·rename_i i is' h1 h2;cases h;obtain⟨a,b⟩:=rg K h2;exact⟨λy hy=>(JP.mp hy).elim (λe=>⟨x,p,e⟩) (a y),.cons ⟨x,p,rfl,pz K h1⟩ b⟩
   ·cases h
  | _=>cases h
theorem iz {env:PC}:∀ {ts:Jf JQ},(∀x∈ts,∃y p,x=O5 y p)->(assignEach ts env).length=ts.length/\(assignEach ts env).findIdx? (·.1)=gV
 | [],_=>⟨rfl,rfl⟩
 | t::ts,h=>by
  obtain⟨y,p,rfl⟩:=h t KO;obtain⟨a,b⟩:=iz (env:=env) λx hx=>h x (KL _ hx)
  refine⟨by show(assignEach ts env).length+1=ts.length+1; rw[a],?_⟩
  show List.findIdx? (·.1) ((false,assign (.Name y p) env)::assignEach ts env)=gV
  rw[List.findIdx?_cons,b];rfl
theorem uH (K:CtxOk Φ X Γ){tg:JQ}{t:Tg}(h:cT Γ tg=ba t):GG X tg (gW t):=by
 have hN:X.N.Nodup:=by rw[K.N]; exact K.nd
 cases tg with
 | Name x p=>
  simp only[cT,Jl]at h;obtain⟨i,h1,rfl⟩:=h;obtain⟨a,b,c⟩:=pz K h1;exact uz hN a b c
 | Tuple ts k p=>
  simp only[cT,Jl]at h;obtain⟨is,h1,rfl⟩:=h;obtain⟨a,b⟩:=rg K h1;exact Ea K.calm a b hN (iz a).1 (iz a).2
 | _=>cases h
end
noncomputable def fm (env:PC):Jf (JG×Le)->Jf (JG×Jq)->Jf (JG×Jq)
 | [],cs=>cs
 | (n,k)::r,cs=>fm env r (if k==.free then(n,(env.cells.lookup n).getD 0)::cs else cs)
theorem jz {env:PC}:∀(names:Jf (JG×Le)) (cs:Jf (JG×Jq)),(∀y∈names,y.2=.free->(env.cells.lookup y.1).isSome=true)->
  (forIn names cs λx r=>match x with|(name,kind)=>if (kind==MN)=true then do let a <- cellOf env name; pure (Lb ((name,a)::r))else pure (Lb r):RI (Jf (JG×Jq)))=pure (fm env names cs)
 | [],cs,_=>by rw[Q7]; rfl
 | (n,k)::r,cs,h=>by
  rw[Oy];have hr:=λy hy=>h y (KL _ hy)
  by_cases hk:(k==MN)=true
  ·obtain⟨c,hc⟩:=Km.mp (h (n,k) KO (eq_of_beq hk));have e1:cellOf env n=pure c:=by unfold cellOf; rw[hc]
   simp only[hk,K6,e1,pure_bind];rw[jz r _ hr];simp only[fm,hk,K6,hc,Qm]
  ·have hk':(k==MN)=false:=by simpa using hk
   simp only[hk',JS,KH,pure_bind];rw[jz r _ hr];simp only[fm,hk',JS,KH]
theorem kA {scope:Mm}{env:PC}(h:∀y∈scope.names,y.2=.free->(env.cells.lookup y.1).isSome=true):closureFor scope env=pure (fm env scope.names []):=by
 have:=jz scope.names [] h;unfold closureFor;simp only[this,pure_bind]
theorem lL {env:PC}:∀(names:Jf (JG×Le)) (cs:Jf (JG×Jq)),(∀y∈names,y.2=.free->(env.cells.lookup y.1).isSome=true)->(∀x c,cs.lookup x=ba c->env.cells.lookup x=ba c)->
  ∀x c,(fm env names cs).lookup x=ba c->env.cells.lookup x=ba c
 | [],cs,_,h,x,c,e=>h x c e
 | (n,k)::r,cs,hn,h,x,c,e=>by
  refine lL r _ (λy hy=>hn y (KL _ hy)) (λx c e=>?_) x c e
  split at e
  ·rename_i hk;rw[Lg]at e;split at e
   ·rename_i hx;cases e;have:=eq_of_beq hx;subst this;obtain⟨c,hc⟩:=Km.mp (hn (x,k) KO (eq_of_beq hk));rw[hc]; rfl
   ·exact h x c e
  ·exact h x c e
theorem ki {env:PC}{x:JG}:∀(names:Jf (JG×Le)) (cs:Jf (JG×Jq)),(∃c,cs.lookup x=ba c)->∃c,(fm env names cs).lookup x=ba c
 | [],cs,h=>h
 | (n,k)::r,cs,h=>by
  refine ki r _ ?_;split
  ·rw[Lg];split
   ·exact⟨_,rfl⟩
   ·exact h
  ·exact h
theorem lM {env:PC}{x:JG}:∀(names:Jf (JG×Le)) (cs:Jf (JG×Jq)),(x,MN)∈names->∃c,(fm env names cs).lookup x=ba c
 | [],cs,h=>by simp at h
 | (n,k)::r,cs,h=>by
  rcases JP.mp h with e|h
  ·cases e;refine ki r _ ?_;simp[Lg]
  ·exact lM r _ h
theorem lN {x:JG}{k:Le}:∀ {l:Jf (JG×Le)},l.lookup x=ba k->(x,k)∈l
 | [],h=>by simp at h
 | (n,j)::r,h=>by
  rw[Lg]at h;split at h
  ·rename_i hx;cases h;have:=eq_of_beq hx;subst this;exact KO
  ·exact KL _ (lN h)
theorem fq {X:Cx}{Φ:JG->FF}{Γ:Gam}(K:CtxOk Φ X Γ)(scope:Mm):(relabel scope X.env).names=gq scope.names Γ.sc:=by
 unfold relabel gq Oo;rw[K.kind,K.names];refine MF λ⟨n,k⟩ _=>?_
 have e:(Py==Py)=true:=rfl;simp only[e,MK]
theorem eF {outer:Jf (JG×Le)}{x:JG}:∀ {names:Jf (JG×Le)},(gq names outer).lookup x=(names.lookup x).map λk=>if (k==.free&&outer.lookup x==ba .cell)then .cell else k
 | []=>rfl
 | (n,k)::r=>by
  have ih:=eF (outer:=outer) (x:=x) (names:=r);show List.lookup x ((if (k==MN&&outer.lookup n==ba .cell)=true then(n,SH)else(n,k))::gq r outer)=_
  cases hx:x==n with
  | true=>
   have:=eq_of_beq hx;subst this;simp only[Lg,Ko,Kb];split <;> simp[Lg]
  | false=>
   simp only[Lg,hx];split <;> (simp only[Lg,hx]; exact ih)
section
variable{Φ:JG->FF}{X:Cx}{Γ:Gam}
structure ScOk (Γ:Gam)(scope:Mm):Prop where
 kind:scope.kind=.function
 names:∀y∈scope.names,y.2=.local->scope.names.lookup y.1=ba .local
 nocell:∀y∈scope.names,y.2≠.cell
 free:∀y∈scope.names,y.2=.free->BN (Γ.sc.lookup y.1)=true/\scope.names.lookup y.1=ba .free/\(Γ.N.findIdx? (· == y.1)).isSome=true
 nd:(ic scope.names).Nodup
theorem uI {scope:Mm}(h:yM Γ scope=true):ScOk Γ scope:=by
 unfold yM at h;rw[Jo,Jo,Jo,Jo]at h;obtain⟨⟨⟨⟨h1,h2⟩,h3⟩,h4⟩,h5⟩:=h;refine⟨eq_of_beq h1,λy hy e=>?_,λy hy e=>?_,λy hy e=>?_,Kn h5⟩
 ·have:=JO.mp h2 y hy;rw[e]at this
  simpa using this
 ·have:=JO.mp h3 y hy;rw[e]at this;simp at this
 ·have:=JO.mp h4 y hy;rw[e]at this;simp only[Ko,L3,N3,Jo]at this;exact⟨this.1.1,eq_of_beq this.1.2,this.2⟩
theorem uJ {o:Jn Le}(h:BN o=true):o=ba .cell\/o=ba .free:=by
 unfold BN at h;split at h
 ·exact .inl rfl
 ·exact .inr rfl
 ·cases h
theorem om (K:CtxOk Φ X Γ)(ok:X.Ok){scope:Mm}(sc:ScOk Γ scope):CompOk X scope (fm X.env scope.names []) (ic scope.names) (gM Γ scope.names):=by
 have cells:∀y∈scope.names,y.2=.free->(X.env.cells.lookup y.1).isSome=true:=λy hy e=>by
  have hk:=uJ (sc.free y hy e).1;obtain⟨c,hc⟩:=ok.has y.1 (by unfold Oo; rw[K.names]; exact hk)
  rw[hc]; rfl
 have relab:∀x,((relabel scope X.env).names.lookup x=ba .cell\/(relabel scope X.env).names.lookup x=ba .free)->(x,MN)∈scope.names:=λx h=>by
  rw[fq K,eF]at h;cases q:scope.names.lookup x with
  | none=>rw[q]at h; rcases h with h|h <;> cases h
  | some k=>
   rw[q]at h;have hm:=lN q;cases k with
   | free=>exact hm
   | cell=>exact absurd rfl (sc.nocell _ hm)
   | _=>rcases h with h|h <;> simp at h
 refine⟨kA cells,sc.kind,sc.names,sc.nocell,lL _ _ cells (λx c e=>by cases e),λx h=>lM _ _ (relab x h),by simp[gM],λi j x hi hx=>?_⟩
 unfold gM at hi;rw[Jr,hx]at hi;simp only[Kb,J5]at hi;split at hi
 ·cases hi
 ·rename_i hl;have hx2:x∈ic scope.names:=JI hx;unfold ic at hx2;obtain⟨⟨x',k⟩,hf,e⟩:=JT.mp hx2;obtain⟨hm,hk⟩:=Nh.mp hf;have e':x'=x:=e;subst e';have hkf:k=.free:=by
   simp only[La]at hk;rcases hk with hk|hk
   ·have:k=.local:=eq_of_beq hk;subst this;have:=sc.names (x',.local) hm rfl;rw[this]at hl;simp at hl
   ·exact eq_of_beq hk
  subst hkf;obtain⟨f1,f2,f3⟩:=sc.free _ hm rfl;refine⟨by rw[K.N]; exact dO hi,by unfold Oo; rw[K.names]; exact uJ f1,?_⟩
  rw[fq K,eF,f2];simp only[Kb,J5,Ko,MM];split
  ·exact .inl rfl
  ·exact .inr rfl
theorem fD (K:CtxOk Φ X Γ){scope:Mm}(sc:ScOk Γ scope)(C:Jq)(s0:Jk)(H0:Hp)(ex:Jf Jq):CtxOk Φ (mF X scope (fm X.env scope.names []) C (ic scope.names) s0 H0 ex) (ie Γ scope) where
 names:=fq K scope
 kind:=sc.kind
 N:=rfl
 nd:=sc.nd
 calm:=K.calm
 xe:=rfl
 un:=K.un
 dfn:=λh=>by cases h
 blt:=K.blt
 fns:=K.fns
theorem rh {cs:Es}{n:Jp}{ifs:Jf JQ}{Γ:Gam}(hl:ifs.length<=1)(hc:cA (cE n Γ) ifs=ba cs){Y:Cx}(ih:∀ {e:JQ} {e':E},cE n Γ e=ba e'->GT Y e (dA Φ e'))(hx:Y.xe=λ_ _=>KN) :
  ∀pins s σ H Q,Inv Y pins σ H s->tT Y (BM Φ cs) σ H Q->
  wpAny (model Y.prog Y.w) Y.A (forIn ifs true λc r=>if r=true then do let ok <- isTrue c Y.env (eval c Y.env); pure (Lb ok)else pure (Lb r)) (TP Y pins σ Q) (λ_ _=>KN) s:=by
 intro pins s σ H Q I h
 match ifs,hl,hc with
 | [],_,hc=>
  cases hc;obtain⟨A,ρ,S,k,S',er,so,e,hq⟩:=h;cases e;exact wpAny_tests_nil ⟨H,I,hq _ _ ⟨rfl,A,.refl,so⟩⟩
 | [c],_,hc=>
  obtain⟨e',es',h1,h2,rfl⟩:=iZ hc;cases h2;have:=ih h1 pins s σ H Q I h;rw[hx]at this;exact wpAny_tests_one this
theorem cv:∀(n:Jp) {Γ:Gam} {X:Cx} {e:JQ} {e':E},CtxOk Φ X Γ->cE n Γ e=ba e'->GE X e (aI Φ e')/\GT X e (dA Φ e'):=by
 intro n
 induction n with
 | zero=>intro Γ X e e' K h; cases h
 | succ n ih=>
  intro Γ X e e' K h;have ihE:∀ {e:JQ} {e':E},cE n Γ e=ba e'->GE X e (aI Φ e'):=λq=>(ih K q).1
  have ihT:∀ {e:JQ} {e':E},cE n Γ e=ba e'->GT X e (dA Φ e'):=λq=>(ih K q).2
  have hu10:X.A.units+10 < cLine:=by have:=K.un; have:ip=20:=rfl; omega
  cases e with
  | Constant c k p=>
   cases c <;> cases h
   all_goals first
    | exact⟨qS wQ (λ_ _=>.non),da (qS wQ (λ_ _=>.non)) λ_=>rfl⟩
    | exact⟨qS Cr (λ_ _=>.bl),da (qS Cr (λ_ _=>.bl)) λ_=>rfl⟩
    | exact⟨qS wM (λ_ _=>.int),da (qS wM (λ_ _=>.int)) λ_=>rfl⟩
    | exact⟨qS wR (λ_ _=>.str),da (qS wR (λ_ _=>.str)) λ_=>rfl⟩
  | Name x p=>
   replace h:(match slot Γ x with|some i=>ba (E.v i)|none=>gV)=ba e':=h
   split at h
   ·rename_i i h1;cases h;exact⟨yP K h1,da (yP K h1) λ_=>rfl⟩
   ·cases h
  | BinOp a op b p=>
   replace h:(match uD op,cE n Γ a,cE n Γ b with|some o,ba a',ba b'=>ba (E.op o a' b')|_,_,_=>gV)=ba e':=h
   split at h
   ·rename_i o a' b' h1 h2 h3;cases h;have e:=yR h1;subst e;exact⟨Cw (tQ o) (ihE h2) (ihE h3),da (Cw (tQ o) (ihE h2) (ihE h3)) λ_=>rfl⟩
   ·cases h
  | UnaryOp op a p=>
   cases op with
   | Not=>
    replace h:(cE n Γ a).map E.not=ba e':=h;rw[Jl]at h;obtain⟨a',h1,rfl⟩:=h;exact⟨DW (ihE h1),DT (ihT h1)⟩
   | USub=>
    replace h:(cE n Γ a).map E.neg=ba e':=h;rw[Jl]at h;obtain⟨a',h1,rfl⟩:=h;exact⟨yn (ihE h1),da (yn (ihE h1)) λ_=>rfl⟩
   | _=>exact bg h
  | BoolOp op vs p=>
   replace h:cB (cE n Γ) op vs=ba e':=h;exact⟨pq ihE h,(pr ihT h).pt⟩
  | Compare a ops cs p=>
   match ops,cs,h with
   | [op],[b],h=>
    replace h:(match uE op,cE n Γ a,cE n Γ b with|some o,ba a',ba b'=>ba (E.cmp o a' b')|_,_,_=>gV)=ba e':=h
    split at h
    ·rename_i o a' b' h1 h2 h3;cases h;have e:=yQ h1;subst e;exact⟨DP K.un (ihE h2) (ihE h3) (rf h3),DQ K.un (ihE h2) (ihE h3) (rf h3)⟩
    ·cases h
   | [],_,h=>exact bg h
   | [_],[],h=>exact bg h
   | [_],_::_::_,h=>exact bg h
   | _::_::_,_,h=>exact bg h
  | IfExp t a b p=>
   replace h:(match cE n Γ t,cE n Γ a,cE n Γ b with|some t',ba a',ba b'=>ba (E.ite t' a' b')|_,_,_=>gV)=ba e':=h
   split at h
   ·rename_i t' a' b' h1 h2 h3;cases h;exact⟨DX (ihT h1) (ihE h2) (ihE h3),kZ⟩
   ·cases h
  | Call f args kws p=>
   cases kws with
   | cons _ _=>cases f <;> first|(exact bg h)|(cases args <;> (exact bg h))
   | nil=>
    cases f with
    | Name x q=>
     replace h:(if mL Γ x then match Γ.fns.lookup x with|some k=>(cA (cE n Γ) args).map (E.own x k)|none=>if x==("isinstance" : JG)then(if Γ.blt.contains x then BQ Γ (cE n Γ) args else gV)else match (generalizing:=false) BO x,args with|some b,a::as=>if Γ.blt.contains x then(cA (cE n Γ) (a::as)).map (E.bi b)else gV|_,_=>gV else gV)=ba e':=h
     split at h
     ·rename_i hg;split at h
      ·rename_i k hk;rw[Jl]at h;obtain⟨r,hr,rfl⟩:=h;have g:=F9 (pos:=p) (p:=q) K hg hk hr (dU ihE hr);exact⟨g,da g λ_=>rfl⟩
      ·split at h
       ·rename_i his;split at h
        ·rename_i hc;obtain⟨g,a',c',rfl⟩:=Ga (pos:=p) (p:=q) K hg his hc ihE h;exact⟨g,da g λ_=>rfl⟩
        ·cases h
       ·split at h
        ·rename_i bb a as hb;split at h
         ·rename_i hc;rw[Jl]at h;obtain⟨r,hr,rfl⟩:=h;have g:=HU (pos:=p) (p:=q) K hg hb hc hr (dU ihE hr);exact⟨g,da g λ_=>rfl⟩
         ·cases h
        ·cases h
     ·cases h
    | Attribute o m q=>
     cases args with
     | nil=>exact bg h
     | cons a as=>
      replace h:(match BP m,cE n Γ o,cA (cE n Γ) (a::as)with|some m',ba o',ba es=>if gL o&&(q.endLine==p.line)&&decide ((a::as).length < 29)then ba (E.me m' o' es)else gV|_,_,_=>gV)=ba e':=h
      split at h
      ·rename_i m' o' es h1 h2 h3;split at h
       ·rename_i hc;rw[Jo,Jo,JK]at hc;cases h;have g:=HV K (cpos:=p) (apos:=q) h1 hc.1.1 hc.1.2 hc.2 (ihE h2) h3 (dU ihE h3);exact⟨g,da g λ_=>rfl⟩
       ·cases h
      ·cases h
    | _=>exact bg h
  | Subscript a b p=>
   have plain:(match cE n Γ a,cE n Γ b with|some a',ba b'=>ba (E.ix a' b')|_,_=>gV)=ba e'->GE X (.Subscript a b p) (aI Φ e')/\GT X (.Subscript a b p) (dA Φ e'):=λh=>by
    split at h
    ·rename_i a' b' h1 h2;cases h;have g:=F1 (pos:=p) hu10 (ihE h1) (ihE h2) (sW h2);exact⟨g,da g λ_=>rfl⟩
    ·cases h
   cases b with
   | Slice lo hi st q=>
    cases st with
    | none=>
     replace h:(match cE n Γ a,cP (cE n Γ) lo,cP (cE n Γ) hi with|some a',ba lo',ba hi'=>ba (E.sl a' lo' hi')|_,_,_=>gV)=ba e':=h
     split at h
     ·rename_i a' lo' hi' h1 h2 h3;cases h;have g:=F2 (pos:=p) (p2:=q) (ihE h1) (yT ihE h2) (yT ihE h3);exact⟨g,da g λ_=>rfl⟩
     ·cases h
    | some z=>exact plain h
   | _=>exact plain h
  | Tuple es k p=>
   replace h:(cA (cE n Γ) es).map E.tup=ba e':=h;rw[Jl]at h;obtain⟨r,h1,rfl⟩:=h;exact⟨yu (dU ihE h1),da (yu (dU ihE h1)) λ_=>rfl⟩
  | List es p=>
   replace h:(cA (cE n Γ) es).map E.lst=ba e':=h;rw[Jl]at h;obtain⟨r,h1,rfl⟩:=h;exact⟨yv (dU ihE h1),da (yv (dU ihE h1)) λ_=>rfl⟩
  | Dict keys values p=>
   replace h:yN (cE n Γ) keys values=ba e':=h;unfold yN at h;split at h
   ·rename_i hc;cases h;rw[Jo]at hc;have k0:keys=[]:=Qn.mp hc.1;have v0:values=[]:=Qn.mp hc.2;subst k0 v0;exact⟨BF,kZ⟩
   ·rename_i hc0;split at h
    ·rename_i hc;rw[Jo,Jo,JK,JK]at hc;rw[Jl]at h;obtain⟨r,hr,rfl⟩:=h;have h0:keys≠[]:=λz=>by
      subst z;have v0:values=[]:=LB.mp hc.1.2.symm;subst v0;exact hc0 rfl
     exact⟨BG (pos:=p) hu10 (uG ihE keys values hc.1.1 hc.1.2 hr) hc.1.1 hc.1.2 h0 hc.2,kZ⟩
    ·cases h
  | ListComp elt gens scope p=>
   match gens,h with
   | [⟨tg,iter,ifs,asy⟩],h=>
    replace h:(if (asy==0)&&(yM Γ scope&&decide (ifs.length<=1))then match cI Γ (cE n Γ) tg iter,cT (ie Γ scope) tg,cA (cE n (ie Γ scope)) ifs,cE n (ie Γ scope) elt with|some it,ba t,ba cs,ba el=>ba (E.comp el t it cs (gM Γ scope.names))|_,_,_,_=>gV else gV)=ba e':=h
    split at h
    ·rename_i hc;rw[Jo,Jo,JK]at hc;have e0:asy=0:=eq_of_beq hc.1;subst e0;replace hc:=hc.2;split at h
     ·rename_i it t cs el h1 h2 h3 h4;cases h;have sc:=uI hc.1;refine⟨BI K.calm (sX K ihE h1) (λok=>⟨_,om K ok sc,?_⟩) (po (n:=n) (λel k p=>by cases n <;> rfl) h1),kZ⟩
      refine⟨λC s0 H0 ex=>uH (fD K sc C s0 H0 ex) h2,λC s0 H0 ex pins s σ H Q I q=>?_,λC s0 H0 ex=>(ih (fD K sc C s0 H0 ex) h4).1⟩
      exact rh hc.2 h3 (λz=>(ih (fD K sc C s0 H0 ex) z).2) rfl pins s σ H Q I q
     ·cases h
    ·cases h
   | [],h=>exact bg h
   | ⟨_,_,_,_⟩::_::_,h=>exact bg h
  | _=>exact bg h
end
noncomputable abbrev cw:Jp:=30
noncomputable def CC:JQ->JW
 | .Constant (.str _) _ _=>true
 | _=>false
noncomputable def jA:JQ->JW
 | .ListComp _ _ _ _=>true
 | _=>false
noncomputable def uK:JQ->JW
 | .Slice _ _ _ _=>true
 | _=>false
noncomputable def v4 (f:L0->Jn Sm)(ss:Jf L0):Jn Ss:=ss.foldr (λs acc=>match f s,acc with|some s',ba ss'=>ba (.cons s' ss')|_,_=>gV) (ba .nil)
noncomputable def Ei (Γ:Gam):Jf JQ->JQ->Jn Sm
 | [.Name x px,.Name y py],.Tuple [a,b] _ _=>match Γ.N.findIdx? (· == x),Γ.N.findIdx? (· == y),cA (cE cw Γ) [a,b]with
  | some i,ba j,ba es=>if !(i==j)&&(Γ.sc.lookup x==ba .local)&&(Γ.sc.lookup y==ba .local)&&(py.line==px.line) && !([a,b].all (foldedForSure 8)) && !([a,b].all (constantsAlone 8))then ba (.par i j es)else gV
  | _,_,_=>gV
 | _,_=>gV
noncomputable def cS:Jp->Gam->L0->Jn Sm
 | 0,_,_=>gV
 | n+1,Γ,st=>match st with
  | .Assign [.Name x _] e _=>match dF Γ x,cE cw Γ e with
   | some i,ba e'=>ba (.set i e')
   | _,_=>gV
  | .Assign [.Tuple ts _ _] e _=>if isTup e then Ei Γ ts e else if jA e then gV else match E6 Γ ts,cE cw Γ e with
   | some is,ba e'=>ba (.asg is e')
   | _,_=>gV
  | .Assign [.Subscript o k _] e _=>if uK k then gV else match cE cw Γ o,cE cw Γ k,cE cw Γ e with
   | some o',ba k',ba e'=>ba (.put o' k' e')
   | _,_,_=>gV
  | .Expr e _=>if CC e then ba .pass else if jA e then gV else(cE cw Γ e).map .ex
  | .Return (ba e) _=>(cE cw Γ e).map .ret
  | .Return gV _=>ba .retN
  | .Pass _=>ba .pass
  | .Raise _ _ _=>ba .bad
  | .Break _=>ba .brk
  | .Continue _=>ba .cont
  | .If t a b _=>match cE cw Γ t,v4 (cS n Γ) a,v4 (cS n Γ) b with
   | some t',ba a',ba b'=>ba (.ite t' a' b')
   | _,_,_=>gV
  | .While t b [] _=>match cE cw Γ t,v4 (cS n Γ) b with
   | some t',ba b'=>ba (.whl t' b')
   | _,_=>gV
  | .For tg it b [] _=>match cT Γ tg,cI Γ (cE cw Γ) tg it,v4 (cS n Γ) b with
   | some t,ba i,ba b'=>ba (.loop t i b')
   | _,_,_=>gV
  | _=>gV
section
variable{Φ:JG->FF}{X:Cx}{Γ:Gam}{fuel:Jp}
theorem yU {f:L0->Jn Sm}{s:L0}{ss:Jf L0}{r:Ss}(h:v4 f (s::ss)=ba r):∃s' ss',f s=ba s'/\v4 f ss=ba ss'/\r=.cons s' ss':=by
 simp only[v4,QF]at h;split at h
 ·rename_i e' es' h1 h2;cases h;exact⟨e',es',h1,h2,rfl⟩
 ·cases h
theorem gN {n:Jp}(ih:∀ {st:L0} {s':Sm},cS n Γ st=ba s'->GS X st (gn Φ fuel s')):∀ {ss:Jf L0} {r:Ss},v4 (cS n Γ) ss=ba r->GSs X ss (gp Φ fuel r)
 | [],r,h=>by cases h; exact Bn
 | s::ss,r,h=>by
  obtain⟨s',ss',h1,h2,rfl⟩:=yU h;exact yy (ih h1) (gN ih h2)
theorem lO {e:JQ}{t:Jn JQ}{l:Jp}{env:PC}(h:jA e=false)(n:Jp){Γ:Gam}{e':E}(hc:cE n Γ e=ba e'):swapsWith e t l env=pure false:=by
 cases n with
 | zero=>cases hc
 | succ n=>cases e <;> first|(exfalso; exact bg hc)|rfl|cases h
theorem sY (K:CtxOk Φ X Γ){n:Jp}{elt:JQ}{gens:Jf Comprehension}{scope:Mm}{p:LK}{e':E}(h:cE (n+1) Γ (.ListComp elt gens scope p)=ba e') :
  ∃tg iter ifs fi g c f cap,gens=[⟨tg,iter,ifs,0⟩]/\aI Φ e'=lJ fi g c f cap/\GI X tg iter fi/\(X.Ok->∃cl,CompOk X scope cl (ic scope.names) cap/\BlockOk X scope cl (ic scope.names) tg elt ifs g c f)/\∀x,foldedSetIterable iter X.env x=pure x:=by
 match gens,h with
 | [⟨tg,iter,ifs,asy⟩],h=>
  replace h:(if (asy==0)&&(yM Γ scope&&decide (ifs.length<=1))then match cI Γ (cE n Γ) tg iter,cT (ie Γ scope) tg,cA (cE n (ie Γ scope)) ifs,cE n (ie Γ scope) elt with|some it,ba t,ba cs,ba el=>ba (E.comp el t it cs (gM Γ scope.names))|_,_,_,_=>gV else gV)=ba e':=h
  split at h
  ·rename_i hc;rw[Jo,Jo,JK]at hc;have e0:asy=0:=eq_of_beq hc.1;subst e0;replace hc:=hc.2;split at h
   ·rename_i it t cs el h1 h2 h3 h4;cases h;have sc:=uI hc.1;refine⟨tg,iter,ifs,_,_,_,_,_,rfl,rfl,sX K (λz=>(cv n K z).1) h1,λok=>⟨_,om K ok sc,?_⟩,po (n:=n) (λel k p=>by cases n <;> rfl) h1⟩
    refine⟨λC s0 H0 ex=>uH (fD K sc C s0 H0 ex) h2,λC s0 H0 ex pins s σ H Q I q=>?_,λC s0 H0 ex=>(cv n (fD K sc C s0 H0 ex) h4).1⟩
    exact rh hc.2 h3 (λz=>(cv n (fD K sc C s0 H0 ex) z).2) rfl pins s σ H Q I q
   ·cases h
  ·cases h
 | [],h=>exact bg h
 | ⟨_,_,_,_⟩::_::_,h=>exact bg h
theorem Gb (K:CtxOk Φ X Γ){x:JG}{px pos:LK}{e:JQ}{i:Jp}{e':E}(hi:dF Γ x=ba i)(he:cE cw Γ e=ba e'):GS X (.Assign [.Name x px] e pos) (lI (aI Φ e') (Cy i)):=by
 obtain⟨a,b,c⟩:=pz K hi;have hN:X.N.Nodup:=by rw[K.N]; exact K.nd
 have plain:swapsWith e (ba (.Name x px)) pos.line X.env=pure false->GS X (.Assign [.Name x px] e pos) (lI (aI Φ e') (Cy i)):=λhs=>sR (cv _ K he).1 (uz hN a b c) hs (by cases e <;> rfl) rfl
 cases hc:jA e with
 | false=>exact plain (lO hc _ he)
 | true=>
  cases e with
  | ListComp elt gens scope p=>
   cases hsw:(X.env.blockKind==.function&&X.env.kindOf x==ba .local&&px.line==p.line && !(scope.names.any λ(n,k)=>n==x&&(k==.local||k==.cell)))with
   | false=>
    refine plain ?_;show(pure (X.env.blockKind==.function&&X.env.kindOf x==ba .local&&px.line==p.line && !(scope.names.any λ(n,k)=>n==x&&(k==.local||k==.cell))):RI JW)=pure false
    rw[hsw]
   | true=>
    have hsw':swapsWith (.ListComp elt gens scope p) (ba (.Name x px)) pos.line X.env=pure true:=by
     show(pure (X.env.blockKind==.function&&X.env.kindOf x==ba .local&&px.line==p.line && !(scope.names.any λ(n,k)=>n==x&&(k==.local||k==.cell))):RI JW)=pure true
     rw[hsw]
    rw[Jo,Jo,Jo]at hsw;have hl:X.env.scope.names.lookup x=ba .local:=eq_of_beq hsw.1.1.2;obtain⟨tg,iter,ifs,fi,g,c',f,cap,rfl,e2,gi,hck,hs⟩:=sY K he;rw[e2];exact sU K.calm gi hck hs hsw' hN a hl
  | _=>cases hc
theorem rj (K:CtxOk Φ X Γ){x y:JG}{px py pt pt2:LK}{kt k2:Jp}{a b:JQ}(hxy:x≠y)(hx:Γ.sc.lookup x=ba .local)(hy:Γ.sc.lookup y=ba .local)(hl:(py.line==px.line)=true)(h1:[a,b].all (foldedForSure 8)=false)(h2:[a,b].all (constantsAlone 8)=false)(hs:iy a=true)(hs2:iy b=true) :
  swappedStores [.Tuple [.Name x px,.Name y py] kt pt] (.Tuple [a,b] k2 pt2) X.env=pure (ba [x,y]):=by
 have kx:(X.env.kindOf x==ba .local)=true:=by unfold Oo; rw[K.names,hx]; rfl
 have ky:(X.env.kindOf y==ba .local)=true:=by unfold Oo; rw[K.names,hy]; rfl
 have bk:(X.env.blockKind != .function)=false:=by
  unfold Env.blockKind;rw[K.kind];rfl
 have hp:(px.line==px.line)=true:=by simp
 have ed:([x,y].eraseDups.length != [x,y].length)=false:=by
  have:(y==x)=false:=by simpa using Ne.symm hxy
  simp[Pa,this]
 have kx':X.env.kindOf x=ba .local:=eq_of_beq kx;have ky':X.env.kindOf y=ba .local:=eq_of_beq ky;have hl':py.line=px.line:=eq_of_beq hl;have bk':X.env.blockKind=.function:=by simpa using bk
 have yx:(y==x)=false:=by simpa using Ne.symm hxy
 have h1':(foldedForSure 8 a&&foldedForSure 8 b)=false:=by simpa using h1
 have h2':(constantsAlone 8 a&&constantsAlone 8 b)=false:=by simpa using h2
 unfold swappedStores;simp only[LI,List.any_nil,Pe,MD,List.filterMap_nil,kx',ky',bk',List.head?_cons,Kb,Qm,Ky,Lk,Kv,List.all_nil,MK,h1',h2'];refine Eq.trans (JX ?_) (Eq.trans (JX ?_) ?_)
 ·decide
 ·rw[La];rintro(hh|hh)
  ·clear h1 h2 h1' h2';cases a <;> first|(cases hh; done)|(cases hs; done)
  ·clear h1 h2 h1' h2';cases b <;> first|(cases hh; done)|(cases hs2; done)
 ·simp[Expr.pos,hl',yx,Pa]
theorem BR (fuel:Jp)(K:CtxOk Φ X Γ):∀(n:Jp) {st:L0} {s':Sm},cS n Γ st=ba s'->GS X st (gn Φ fuel s'):=by
 have hN:X.N.Nodup:=by rw[K.N]; exact K.nd
 have own:O4 (model X.prog X.w) X.A X.env X.xe:=by rw[K.xe]; exact Su
 intro n
 induction n with
 | zero=>intro st s' h; cases h
 | succ n ih=>
  intro st s' h;cases st with
  | Expr e p=>
   replace h:(if CC e then ba Sm.pass else if jA e then gV else(cE cw Γ e).map Sm.ex)=ba s':=h
   split at h
   ·rename_i hd;cases h;cases e with
    | Constant c k q=>
     cases c with
     | str x=>exact D2
     | _=>cases hd
    | _=>cases hd
   ·split at h
    ·cases h
    ·rename_i hd hc;rw[Jl]at h;obtain⟨e',h1,rfl⟩:=h;exact F3 (cv _ K h1).1 (lO (by simpa using hc) _ h1)
  | Return o p=>
   cases o with
   | none=>cases h; exact Bt
   | some e=>
    replace h:(cE cw Γ e).map Sm.ret=ba s':=h;rw[Jl]at h;obtain⟨e',h1,rfl⟩:=h;exact D6 (cv _ K h1).1
  | Pass p=>cases h; exact Bq
  | Raise exc cause pos=>cases h; exact λpins s D σ H I ⟨A,ρ,S,o,S',er,so,e,hq⟩=>nomatch e
  | Break p=>cases h; exact yA
  | Continue p=>cases h; exact Br
  | If t a b p=>
   replace h:(match cE cw Γ t,v4 (cS n Γ) a,v4 (cS n Γ) b with|some t',ba a',ba b'=>ba (Sm.ite t' a' b')|_,_,_=>gV)=ba s':=h
   split at h
   ·rename_i t' a' b' h1 h2 h3;cases h;exact F4 (cv _ K h1).2 (gN ih h2) (gN ih h3)
   ·cases h
  | While t b o p=>
   cases o with
   | cons _ _=>exact bg h
   | nil=>
    replace h:(match cE cw Γ t,v4 (cS n Γ) b with|some t',ba b'=>ba (Sm.whl t' b')|_,_=>gV)=ba s':=h
    split at h
    ·rename_i t' b' h1 h2;cases h;exact yB fuel own (cv _ K h1).2 (gN ih h2)
    ·cases h
  | For tg it b o p=>
   cases o with
   | cons _ _=>exact bg h
   | nil=>
    replace h:(match cT Γ tg,cI Γ (cE cw Γ) tg it,v4 (cS n Γ) b with|some t,ba i,ba b'=>ba (Sm.loop t i b')|_,_,_=>gV)=ba s':=h
    split at h
    ·rename_i t i b' h1 h2 h3;cases h;exact Ee own K.calm (sX K (λz=>(cv _ K z).1) h2) (uH K h1) (gN ih h3) (po (n:=cw) (λel k p=>rfl) h2)
    ·cases h
  | Assign ts e p=>
   match ts,h with
   | [],h=>exact bg h
   | a::_::_,h=>cases a <;> exact bg h
   | [t],h=>
    cases t with
    | Name x px=>
     replace h:(match dF Γ x,cE cw Γ e with|some i,ba e'=>ba (Sm.set i e')|_,_=>gV)=ba s':=h
     split at h
     ·rename_i i e' h1 h2;cases h;exact Gb K h1 h2
     ·cases h
    | Subscript o k q=>
     replace h:(if uK k then gV else match cE cw Γ o,cE cw Γ k,cE cw Γ e with|some o',ba k',ba e'=>ba (Sm.put o' k' e')|_,_,_=>gV)=ba s':=h
     split at h
     ·cases h
     ·rename_i hc;split at h
      ·rename_i o' k' e' h1 h2 h3;cases h;refine sR (cv _ K h3).1 (Eb (by have:=K.un; have:ip=20:=rfl; omega) (cv _ K h1).1 (cv _ K h2).1 ?_) (by cases e <;> rfl) (by cases e <;> rfl) rfl
       intro v;cases k <;> first|rfl|exact absurd rfl hc
      ·cases h
    | Tuple ts' k q=>
     have par:∀ {x y:JG} {px py:LK} {a b:PySem.Expr} {k2:Jp} {q2:LK},(match Γ.N.findIdx? (· == x),Γ.N.findIdx? (· == y),cA (cE cw Γ) [a,b]with
       | some i,ba j,ba es=>if !(i==j)&&(Γ.sc.lookup x==ba .local)&&(Γ.sc.lookup y==ba .local)&&(py.line==px.line) && !([a,b].all (foldedForSure 8)) && !([a,b].all (constantsAlone 8))then ba (Sm.par i j es)else gV
       | _,_,_=>gV)=ba s'->GS X (.Assign [.Tuple [.Name x px,.Name y py] k q] (.Tuple [a,b] k2 q2) p) (gn Φ fuel s'):=λ{x y px py a b k2 q2} h=>by
      split at h
      ·rename_i i j es h1 h2 h3;split at h
       ·rename_i hc;cases h;rw[Jo,Jo,Jo,Jo,Jo]at hc;obtain⟨⟨⟨⟨⟨c1,c2⟩,c3⟩,c4⟩,c5⟩,c6⟩:=hc;have hij:i≠j:=by simpa using c1
        have ns:=dh h3;rw[Kv,Kv,Jo,Jo]at ns;have hi:X.N[i]?=ba x:=by rw[K.N]; exact dO h1
        have hj:X.N[j]?=ba y:=by rw[K.N]; exact dO h2
        refine Ec K.calm hN hi hj hij (by rw[K.names]; exact eq_of_beq c2) (by rw[K.names]; exact eq_of_beq c3) (dU (λz=>(cv _ K z).1) h3) (rj K ?_ (eq_of_beq c2) (eq_of_beq c3) c4 (by rw[<- NW]; exact c5) (by rw[<- NW]; exact c6) ns.1 ns.2.1) rfl
        rintro rfl;rw[h1]at h2;cases h2;exact hij rfl
       ·cases h
      ·cases h
     replace h:(if isTup e then Ei Γ ts' e else if jA e then gV else match E6 Γ ts',cE cw Γ e with|some is,ba e'=>ba (Sm.asg is e')|_,_=>gV)=ba s':=h
     split at h
     ·unfold Ei at h;split at h
      ·exact par h
      ·cases h
     ·split at h
      ·cases h
      ·rename_i hc1 hc2;split at h
       ·rename_i is e' h1 h2;cases h;refine sR (cv _ K h2).1 (uH (tg:=.Tuple ts' k q) (t:=.tp is) K (by simp[cT,h1])) (lO (t:=ba (.Tuple ts' k q)) (l:=p.line) (env:=X.env) (by simpa using hc2) _ h2) ?_ rfl
        cases e <;> first|rfl|exact absurd rfl hc1
       ·cases h
    | _=>exact bg h
  | _=>exact bg h
end
set_option genInjectivity false in
structure Df where
 ps:Jf JG
 N:Jf JG
 body:Ss
noncomputable def fO (N:Jf JG)(ws:Jf W):Fm:=ws.map ba++J8 (N.length - ws.length) gV
noncomputable def ap (defs:Jf (JG×Df))(fuel:Jp):Jp->JG->FF
 | 0,_,_,_=>gV
 | d+1,f,ws,S=>match defs.lookup f with
  | some df=>if ws.length=df.ps.length then match gp (ap defs fuel d) fuel df.body (fO df.N ws) S with
    | some (.rt w,S')=>ba (w,S')
    | some (.nx _,S')=>ba (.non,S')
    | _=>gV
   else gV
  | none=>gV
set_option genInjectivity false in
structure Md where
 fns:Jf (JG×Jp)
 blt:Jf JG
noncomputable def CD (M:Md)(st:L0)(N:Jf JG):Gam:={ sc:=(ag st).names,N:=N,fns:=M.fns,blt:=M.blt,dfn:=true }
noncomputable def bZ (M:Md)(st:L0)(df:Df):Prop:=v4 (cS 20 (CD M st df.N)) (dq st)=ba df.body
theorem on {K:Jv}{A:Jf Jq}{H:Hp}{ws:Jf W}{vs:Jf V}{N:Jf JG}(r:RelL K A H ws vs):EnvRel K A H (fO N ws) (gf N vs):=by
 refine⟨by simp[fO,L2.gf,r.length],λi w h=>?_⟩
 unfold fO at h;unfold L2.gf
 by_cases hi:i < ws.length
 ·rw[Kt (by simpa using hi),Jr]at h
  rw[Kt (by rw[Ji,<- r.length]; exact hi),Jr]
  cases q:ws[i]? with
  | none=>rw[q]at h; cases h
  | some w'=>
   rw[q]at h;simp only[Kb,J5]at h;subst h;obtain⟨v,h1,h2⟩:=r.get q;exact⟨v,by rw[h1]; rfl,h2⟩
 ·rw[LM (by simpa using hi)]at h
  have:=JI h;simp at this
section
variable{P:JY}{w:J6}{K:Jv}{mg:JG->Jn Jh}{base:Kg}
noncomputable def CF (P:JY)(w:J6)(K:Jv)(mg:JG->Jn Jh)(base:Kg)(M:Md)(defs:Jf (JG×Df))(fuel d:Jp):Prop:=
 ∀f n,M.fns.lookup f=ba n->∃fa fd ps,FnOk P w K mg base wF d fa fd ps (yw w K n (ap defs fuel d f))/\mg f=ba (.ref fa)/\KZ K (.ref fa)=true/\Binds K fd ps []
structure MdOk (w:J6)(K:Jv)(mg:JG->Jn Jh)(M:Md):Prop where
 blt:∀y∈M.blt,mg y=gV
theorem CG {M:Md}{defs:Jf (JG×Df)}{fuel d:Jp}{x qual:JG}{st:L0}{f:Jq}{fd:LL}{df:Df}(F:Fun K x qual st f fd)(S:FnScope df.N df.ps (ag st))(hd:defs.lookup x=ba df)(hc:bZ M st df)
  (hb:MdOk w K mg M) (prev:CF P w K mg base M defs fuel d):FnOk P w K mg base wF (d+1) f fd df.ps (yw w K df.ps.length (ap defs fuel (d+1) x)):=by
 refine F.ok S (λvs H Q E h=>?_) (λcdv A outer s H vs Q E hr h=>?_)
 ·obtain⟨A,S,ws,w',S',_,rl,hl,_⟩:=h;rw[<- rl.length]; exact hl
 ·obtain⟨A',St,ws,w',S',so,rl,hl,e,hq⟩:=h;have K':CtxOk (ap defs fuel d) (sj wF P w K mg base df.N qual (ag st) f cdv A outer s H E).nox (CD M st df.N):=by
   refine⟨rfl,S.kind,rfl,S.nd,rfl,rfl,?_,λ_ _=>rfl,hb.blt,λg n hg=>?_⟩
   ·have:=hr.un;show(A.deeper _).units+20 < cLine;omega
   ·obtain⟨fa,fd',ps',h1,h2,h3,h4⟩:=prev g n hg;exact⟨d,fa,fd',ps',h1,hr,h2,h3,h4⟩
  refine⟨tS _ (gp (ap defs fuel d) fuel df.body),gN (λz=>BR fuel K' 20 z) hc,?_⟩
  simp only[ap,hd]at e;rw[JN hl]at e;split at e
  ·rename_i w1 S1 h1;cases e;refine⟨A',fO df.N ws,St,_,_,on rl,so,h1,⟨λσ' H' ⟨_,_,z,_⟩=>(by cases z),λv H' ⟨w2,A2,z0,z1,z2,z3⟩=>?_,λσ' H' ⟨_,_,z,_⟩=>(by cases z),λσ' H' ⟨_,_,z,_⟩=>(by cases z)⟩⟩
   cases z0;exact hq v H' ⟨A2,z1,z2,z3⟩
  ·rename_i ρ1 S1 h1;cases e;refine⟨A',fO df.N ws,St,_,_,on rl,so,h1,⟨λσ' H' ⟨w2,A2,z0,z1,z2,z3⟩=>?_,λσ' H' ⟨_,_,z,_⟩=>(by cases z),λσ' H' ⟨_,_,z,_⟩=>(by cases z),λσ' H' ⟨_,_,z,_⟩=>(by cases z)⟩⟩
   exact hq _ H' ⟨A2,z1,z2,.non⟩
  ·cases e
theorem v6 {H:Hp}{a:Jq}{ns:Jf Jy}(hO:xr H)(hS:SqL K H a (ns.map V.int)):StoreOk w K [a] H [.fro (ns.map W.int)]/\RelL K [a] H [.ref 0] [.ref a]:=by
 have rl:∀ns:Jf Jy,RelL K [a] H (ns.map W.int) (ns.map V.int):=by
  intro ns
  induction ns with
  | nil=>exact .nil
  | cons n ns ih=>exact .cons .int ih
 have fr:FroL K H a (ns.map V.int):=by
  rcases hS with(h|⟨o,h⟩)|h
  ·rcases hO a with z|⟨o,xs,z⟩ <;> (rw[z]at h; cases h)
  ·exact .inl ⟨o,h⟩
  ·exact .inr h
 refine⟨⟨rfl,λi j b o u e1 m1 e2 m2 _ _=>?_,λi o b e1 e2=>?_⟩,.cons (.ref rfl) .nil⟩
 ·cases i with
  | zero=>simp at e1; subst e1; cases m1
  | succ i=>simp at e1
 ·cases i with
  | zero=>
   simp at e1 e2;subst e1 e2;exact⟨_,fr,rl ns⟩
  | succ i=>simp at e1
theorem Ej {g:FF}{H:Hp}{a:Jq}{ns:Jf Jy}(h:∃S',g [.ref 0] [.fro (ns.map W.int)]=ba (.bl true,S'))(hO:xr H)(hS:SqL K H a (ns.map V.int)):yw w K 1 g [.ref a] H (λv _=>v=.bl true) λ_ _ _=>KN:=by
 obtain⟨S',e⟩:=h;obtain⟨so,rl⟩:=v6 hO hS;exact⟨[a],_,_,_,S',so,rl,rfl,e,λv H' ⟨A',z1,z2,z3⟩=>by cases z3; rfl⟩
end
noncomputable def Wp {α:Type}(o:Jn α)(Q:α->Prop):Prop:=∃a,o=ba a/\Q a
theorem ab {α:Type}{a:α}{Q:α->Prop}:Wp (ba a) Q↔Q a:=⟨λ⟨b,e,h⟩=>(by cases e; exact h),λh=>⟨a,rfl,h⟩⟩
theorem ac {α:Type}{Q:α->Prop}:Wp (gV:Jn α) Q↔KN:=⟨λ⟨b,e,h⟩=>(by cases e),λh=>h.elim⟩
theorem Wp.mono {α:Type}{o:Jn α}{Q Q':α->Prop}(h:Wp o Q)(k:∀a,Q a->Q' a):Wp o Q':=let ⟨a,e,q⟩:=h; ⟨a,e,k a q⟩
section
variable{Φ:JG->FF}{fuel:Jp}{ρ:Fm}{S:aa}
noncomputable abbrev QW:=W×aa->Prop
theorem IZ {w:W}{Q:QW}:Wp (aI Φ (.c w) ρ S) Q↔Q (w,S):=by simp[aI,fC,ab,ac]
theorem IP {i:Jp}{Q:QW}:Wp (aI Φ (.v i) ρ S) Q↔∃w,ρ[i]?=ba (ba w)/\Q (w,S):=by
 simp only[aI,fV];rcases h:ρ[i]? with _|_|w <;> simp[ab,ac]
theorem yV {g:W->W->aa->Jn (W×aa)}{a b:FE}{Q:QW}:Wp (Bb g a b ρ S) Q↔Wp (a ρ S) λp=>Wp (b ρ p.2) λq=>Wp (g p.1 q.1 q.2) Q:=by
 unfold Bb;rcases h:a ρ S with _|⟨x,S1⟩
 ·simp[ab,ac]
 ·rcases h2:b ρ S1 with _|⟨y,S2⟩ <;> simp[ab,ac,h2]
theorem HX {o:BOp}{a b:E}{Q:QW}:Wp (aI Φ (.op o a b) ρ S) Q↔Wp (aI Φ a ρ S) λp=>Wp (aI Φ b ρ p.2) λq=>Wp (gj o p.1 q.1 q.2) Q:=by rw[aI]; exact yV
theorem CH {o:COp}{a b:E}{Q:QW}:Wp (aI Φ (.cmp o a b) ρ S) Q↔Wp (aI Φ a ρ S) λp=>Wp (aI Φ b ρ p.2) λq=>Wp (cU o p.1 q.1 q.2) Q:=by rw[aI]; exact yV
theorem HY {a b:E}{Q:QW}:Wp (aI Φ (.ix a b) ρ S) Q↔Wp (aI Φ a ρ S) λp=>Wp (aI Φ b ρ p.2) λq=>Wp (r9 p.1 q.1 q.2) Q:=by rw[aI]; exact yV
theorem Gc {a b:E}{Q:QW}:Wp (aI Φ (.and a b) ρ S) Q↔Wp (aI Φ a ρ S) λp=>∃k,p.1=.bl k/\(k=true->Wp (aI Φ b ρ p.2) Q)/\(k=false->Q (.bl false,p.2)):=by
 simp only[aI,ut];rcases h:aI Φ a ρ S with _|⟨x,S1⟩
 ·simp[ab,ac]
 ·cases x <;> simp[ab,ac]
  rename_i b; cases b <;> simp[ab,ac]
theorem HZ {a b:E}{Q:QW}:Wp (aI Φ (.or a b) ρ S) Q↔Wp (aI Φ a ρ S) λp=>∃k,p.1=.bl k/\(k=true->Q (.bl true,p.2))/\(k=false->Wp (aI Φ b ρ p.2) Q):=by
 simp only[aI,Bg];rcases h:aI Φ a ρ S with _|⟨x,S1⟩
 ·simp[ab,ac]
 ·cases x <;> simp[ab,ac]
  rename_i b; cases b <;> simp[ab,ac]
theorem Gd {a:E}{Q:QW}:Wp (aI Φ (.not a) ρ S) Q↔Wp (aI Φ a ρ S) λp=>∃k,p.1=.bl k/\Q (.bl (!k),p.2):=by
 simp only[aI,uu];rcases h:aI Φ a ρ S with _|⟨x,S1⟩
 ·simp[ab,ac]
 ·cases x <;> simp[ab,ac]
  rename_i k; cases k <;> simp
theorem Ge {t a b:E}{Q:QW}:Wp (aI Φ (.ite t a b) ρ S) Q↔Wp (dA Φ t ρ S) λp=>(p.1=true->Wp (aI Φ a ρ p.2) Q)/\(p.1=false->Wp (aI Φ b ρ p.2) Q):=by
 simp only[aI,Bh];rcases h:dA Φ t ρ S with _|⟨x,S1⟩
 ·simp[ab,ac]
 ·cases x <;> simp[ab,ac]
theorem CI {f:JG}{n:Jp}{es:Es}{Q:QW}:Wp (aI Φ (.own f n es) ρ S) Q↔Wp (dE Φ es ρ S) λp=>p.1.length=n/\Wp (Φ f p.1 p.2) Q:=by
 simp only[aI,qV];rcases h:dE Φ es ρ S with _|⟨x,S1⟩
 ·simp[ab,ac]
 ·by_cases hl:x.length=n <;> simp[ab,ac,hl]
theorem Gf {b:Bi}{es:Es}{Q:QW}:Wp (aI Φ (.bi b es) ρ S) Q↔Wp (dE Φ es ρ S) λp=>Wp (b.fn p.1 p.2) Q:=by
 simp only[aI,kh];rcases h:dE Φ es ρ S with _|⟨x,S1⟩ <;> simp[ab,ac]
theorem Ic {m:Me}{o:E}{es:Es}{Q:QW}:Wp (aI Φ (.me m o es) ρ S) Q↔Wp (aI Φ o ρ S) λp=>tyOk m.ty p.2 p.1=true/\Wp (dE Φ es ρ p.2) λq=>Wp (m.fn p.1 q.1 q.2) Q:=by
 simp only[aI,E4];rcases h:aI Φ o ρ S with _|⟨x,S1⟩
 ·simp[ab,ac]
 ·by_cases ht:tyOk m.ty S1 x=true
  ·rcases h2:dE Φ es ρ S1 with _|⟨y,S2⟩ <;> simp[ab,ac,ht,h2]
  ·simp[ab,ac,ht]
theorem Ig {a:E}{lo hi:Ep}{Q:QW}:Wp (aI Φ (.sl a lo hi) ρ S) Q↔Wp (aI Φ a ρ S) λp=>Wp (uC Φ lo ρ p.2) λq=>Wp (uC Φ hi ρ q.2) λr=>Wp (p9 p.1 q.1 r.1 r.2) Q:=by
 simp only[aI,F0];rcases h:aI Φ a ρ S with _|⟨x,S1⟩
 ·simp[ab,ac]
 ·rcases h2:uC Φ lo ρ S1 with _|⟨y,S2⟩
  ·simp[ab,ac,h2]
  ·rcases h3:uC Φ hi ρ S2 with _|⟨z,S3⟩ <;> simp[ab,ac,h2,h3]
theorem Ih {Q:Jn Jy×aa->Prop}:Wp (uC Φ .no ρ S) Q↔Q (gV,S):=by simp[uC,DZ,ab,ac]
theorem Gg {a:E}{Q:Jn Jy×aa->Prop}:Wp (uC Φ (.yes a) ρ S) Q↔Wp (aI Φ a ρ S) λp=>∃i,p.1=.int i/\Q (ba i,p.2):=by
 simp only[uC,uy];rcases h:aI Φ a ρ S with _|⟨x,S1⟩
 ·simp[ab,ac]
 ·cases x <;> simp[ab,ac]
theorem Gh {es:Es}{Q:QW}:Wp (aI Φ (.tup es) ρ S) Q↔Wp (dE Φ es ρ S) λp=>p.1.length<=sizeLine/\Q (.tup p.1,p.2):=by
 simp only[aI,yr,sw];rcases h:dE Φ es ρ S with _|⟨x,S1⟩
 ·simp[ab,ac]
 ·by_cases hl:x.length<=sizeLine <;> simp[ab,ac,hl]
theorem Gi {es:Es}{Q:QW}:Wp (aI Φ (.lst es) ρ S) Q↔Wp (dE Φ es ρ S) λp=>p.1.length<=sizeLine/\Q (.ref p.2.length,p.2++[.lst p.1]):=by
 simp only[aI,yt,mI];rcases h:dE Φ es ρ S with _|⟨x,S1⟩
 ·simp[ab,ac]
 ·by_cases hl:x.length<=sizeLine <;> simp[ab,ac,hl]
theorem CJ {c:KQ}{a:E}{Q:QW}:Wp (aI Φ (.isi c a) ρ S) Q↔Wp (aI Φ a ρ S) λp=>∃k,yD p.2 p.1 c=ba k/\Q (.bl k,p.2):=by
 simp only[aI,yF];rcases h:aI Φ a ρ S with _|⟨x,S1⟩
 ·simp[ab,ac]
 ·cases h2:yD S1 x c <;> simp[ab,ac,h2]
  rename_i k; cases k <;> simp
theorem Gj {a:E}{Q:QW}:Wp (aI Φ (.neg a) ρ S) Q↔Wp (aI Φ a ρ S) λp=>∃i,p.1=.int i/\Q (.int (-i),p.2):=by
 simp only[aI,ym];rcases h:aI Φ a ρ S with _|⟨x,S1⟩
 ·simp[ab,ac]
 ·cases x <;> simp[ab,ac]
theorem Ek {es:Es}{Q:QW}:Wp (aI Φ (.disp es) ρ S) Q↔Wp (dE Φ es ρ (S++[.dic []])) λp=>p.2[S.length]?=ba (.dic [])/\∃kvs,dS [] p.1=ba kvs/\Q (.ref S.length,p.2.set S.length (.dic kvs)):=by
 have e:aI Φ (.disp es) ρ S=qY (dE Φ es) ρ S:=by rw[aI]
 rw[e];unfold qY;cases dE Φ es ρ (S++[.dic []])with
 | none=>simp[ac]
 | some p=>
  obtain⟨x,S1⟩:=p;simp only[ab];cases h2:S1[S.length]? with
  | none=>simp[ac]
  | some o=>
   cases o with
   | lst _=>simp[ac]
   | fro _=>simp[ac]
   | frd _=>simp[ac]
   | stt _=>simp[ac]
   | rng _ _=>simp[ac]
   | dic kvs=>
    cases kvs with
    | nil=>cases h3:dS [] x <;> simp[ab,ac]
    | cons a b=>simp[ac]
theorem Gk {Q:Jf W×aa->Prop}:Wp (dE Φ .nil ρ S) Q↔Q ([],S):=by simp[dE,kz,ab,ac]
theorem El {e:E}{es:Es}{Q:Jf W×aa->Prop}:Wp (dE Φ (.cons e es) ρ S) Q↔Wp (aI Φ e ρ S) λp=>Wp (dE Φ es ρ p.2) λq=>Q (p.1::q.1,q.2):=by
 simp only[dE,eX];rcases h:aI Φ e ρ S with _|⟨x,S1⟩
 ·simp[ab,ac]
 ·rcases h2:dE Φ es ρ S1 with _|⟨y,S2⟩ <;> simp[ab,ac,h2]
noncomputable abbrev QB:=JW×aa->Prop
theorem Gm {f:FE}{Q:QB}:Wp (yo f ρ S) Q↔Wp (f ρ S) λp=>∃k,p.1=.bl k/\Q (k,p.2):=by
 unfold yo;rcases h:f ρ S with _|⟨x,S1⟩
 ·simp[ab,ac]
 ·cases x <;> simp[ab,ac]
  rename_i k; cases k <;> simp
theorem uL {f:FE}{Q:QB}:Wp (gS f ρ S) Q↔Wp (f ρ S) λp=>∃k,gQ p.2 p.1=ba k/\Q (k,p.2):=by
 unfold gS;rcases h:f ρ S with _|⟨x,S1⟩
 ·simp[ab,ac]
 ·cases h2:gQ S1 x <;> simp[ab,ac,h2]
  rename_i k; cases k <;> simp
theorem Gn {o:COp}{a b:E}{Q:QB}:Wp (dA Φ (.cmp o a b) ρ S) Q↔Wp (aI Φ (.cmp o a b) ρ S) λp=>∃k,p.1=.bl k/\Q (k,p.2):=by rw[dA,aI]; exact Gm
theorem Go {a b:E}{Q:QB}:Wp (dA Φ (.and a b) ρ S) Q↔Wp (dA Φ a ρ S) λp=>(p.1=true->Wp (dA Φ b ρ p.2) Q)/\(p.1=false->Q (false,p.2)):=by
 simp only[dA,yp];rcases h:dA Φ a ρ S with _|⟨x,S1⟩
 ·simp[ab,ac]
 ·cases x <;> simp[ab,ac]
theorem Ii {a b:E}{Q:QB}:Wp (dA Φ (.or a b) ρ S) Q↔Wp (dA Φ a ρ S) λp=>(p.1=true->Q (true,p.2))/\(p.1=false->Wp (dA Φ b ρ p.2) Q):=by
 simp only[dA,FX];rcases h:dA Φ a ρ S with _|⟨x,S1⟩
 ·simp[ab,ac]
 ·cases x <;> simp[ab,ac]
theorem Gp {a:E}{Q:QB}:Wp (dA Φ (.not a) ρ S) Q↔Wp (dA Φ a ρ S) λp=>Q (!p.1,p.2):=by
 simp only[dA,Bd];rcases h:dA Φ a ρ S with _|⟨x,S1⟩ <;> simp[ab,ac]
theorem Ja {i:Jp}{Q:QB}:Wp (dA Φ (.v i) ρ S) Q↔Wp (aI Φ (.v i) ρ S) λp=>∃k,gQ p.2 p.1=ba k/\Q (k,p.2):=by rw[dA,aI]; exact uL
theorem Gq {f:JG}{n:Jp}{es:Es}{Q:QB}:Wp (dA Φ (.own f n es) ρ S) Q↔Wp (aI Φ (.own f n es) ρ S) λp=>∃k,gQ p.2 p.1=ba k/\Q (k,p.2):=by rw[dA,aI]; exact uL
theorem Ij {b:Bi}{es:Es}{Q:QB}:Wp (dA Φ (.bi b es) ρ S) Q↔Wp (aI Φ (.bi b es) ρ S) λp=>∃k,gQ p.2 p.1=ba k/\Q (k,p.2):=by rw[dA,aI]; exact uL
theorem Gr {c:KQ}{a:E}{Q:QB}:Wp (dA Φ (.isi c a) ρ S) Q↔Wp (aI Φ (.isi c a) ρ S) λp=>∃k,gQ p.2 p.1=ba k/\Q (k,p.2):=by rw[dA,aI]; exact uL
noncomputable abbrev QO:=Out×aa->Prop
theorem Gs {Q:QO}:Wp (gp Φ fuel .nil ρ S) Q↔Q (.nx ρ,S):=by simp[gp,ab,ac]
theorem Em {s:Sm}{ss:Ss}{Q:QO}:Wp (gp Φ fuel (.cons s ss) ρ S) Q↔Wp (gn Φ fuel s ρ S) λp=>(∀ρ',p.1=.nx ρ'->Wp (gp Φ fuel ss ρ' p.2) Q)/\((∀ρ',p.1≠.nx ρ')->Q p):=by
 simp only[gp,Bo];rcases h:gn Φ fuel s ρ S with _|⟨o,S1⟩
 ·simp[ab,ac]
 ·cases o <;> simp[ab,ac]
theorem yW {f:FE}{g:FG}{Q:QO}:Wp (lI f g ρ S) Q↔Wp (f ρ S) λp=>Wp (g p.1 ρ p.2) λq=>Q (.nx q.1,q.2):=by
 unfold lI;rcases h:f ρ S with _|⟨x,S1⟩
 ·simp[ab,ac]
 ·rcases h2:g x ρ S1 with _|⟨y,S2⟩ <;> simp[ab,ac,h2]
theorem En {i:Jp}{e:E}{Q:QO}:Wp (gn Φ fuel (.set i e) ρ S) Q↔Wp (aI Φ e ρ S) λp=>Q (.nx (ρ.set i (ba p.1)),p.2):=by
 rw[gn,yW]; simp[Cy,ab,ac]
theorem Eo {is:Jf Jp}{e:E}{Q:QO}:Wp (gn Φ fuel (.asg is e) ρ S) Q↔Wp (aI Φ e ρ S) λp=>∃ws ρ',p.1=.tup ws/\eD is ws ρ=ba ρ'/\Q (.nx ρ',p.2):=by
 rw[gn,yW];constructor
 ·refine λh=>h.mono λp hp=>?_
  obtain⟨w,S1⟩:=p;obtain⟨q,h1,h2⟩:=hp;cases w with
  | tup ws=>
   simp only[E5,Jl]at h1;obtain⟨ρ',h3,rfl⟩:=h1;exact⟨ws,ρ',rfl,h3,h2⟩
  | _=>cases h1
 ·refine λh=>h.mono λp hp=>?_
  obtain⟨w,S1⟩:=p;obtain⟨ws,ρ',h0,h1,h2⟩:=hp;subst h0;exact⟨(ρ',S1),by simp[E5,h1],h2⟩
theorem Er {i j:Jp}{es:Es}{Q:QO}:Wp (gn Φ fuel (.par i j es) ρ S) Q↔Wp (dE Φ es ρ S) λp=>∃x y,p.1=[x,y]/\Q (.nx ((ρ.set i (ba x)).set j (ba y)),p.2):=by
 simp only[gn,Bw];rcases h:dE Φ es ρ S with _|⟨x,S1⟩
 ·simp[ac]
 ·match x with
  | []=>simp[ab,ac]
  | [_]=>simp[ab,ac]
  | [a,b]=>
   simp only[ab];exact⟨λh=>⟨a,b,rfl,h⟩,λ⟨x,y,e,h⟩=>by cases e; exact h⟩
  | _::_::_::_=>simp[ab,ac]
theorem Et {o k e:E}{Q:QO}:Wp (gn Φ fuel (.put o k e) ρ S) Q↔Wp (aI Φ e ρ S) λp=>Wp (aI Φ o ρ p.2) λq=>Wp (aI Φ k ρ q.2) λr=>∃S',iV q.1 r.1 p.1 r.2=ba S'/\Q (.nx ρ,S'):=by
 rw[gn,yW];rcases h:aI Φ e ρ S with _|⟨x,S1⟩
 ·simp[ab,ac]
 ·simp only[ab];unfold Bv;rcases h2:aI Φ o ρ S1 with _|⟨y,S2⟩
  ·simp[ab,ac]
  ·rcases h3:aI Φ k ρ S2 with _|⟨z,S3⟩
   ·simp[ab,ac,h3]
   ·cases h4:iV y z x S3 <;> simp[ab,ac,h3,h4]
theorem Gu {e:E}{Q:QO}:Wp (gn Φ fuel (.ex e) ρ S) Q↔Wp (aI Φ e ρ S) λp=>Q (.nx ρ,p.2):=by
 simp only[gn,Bp];rcases h:aI Φ e ρ S with _|⟨x,S1⟩ <;> simp[ab,ac]
theorem Eu {e:E}{Q:QO}:Wp (gn Φ fuel (.ret e) ρ S) Q↔Wp (aI Φ e ρ S) λp=>Q (.rt p.1,p.2):=by
 simp only[gn,Bs];rcases h:aI Φ e ρ S with _|⟨x,S1⟩ <;> simp[ab,ac]
theorem Ev {t:E}{a b:Ss}{Q:QO}:Wp (gn Φ fuel (.ite t a b) ρ S) Q↔Wp (dA Φ t ρ S) λp=>(p.1=true->Wp (gp Φ fuel a ρ p.2) Q)/\(p.1=false->Wp (gp Φ fuel b ρ p.2) Q):=by
 simp only[gn,Bu];rcases h:dA Φ t ρ S with _|⟨x,S1⟩
 ·simp[ab,ac]
 ·cases x <;> simp[ab,ac]
end
section
variable{Φ:JG->FF}{fuel:Jp}{ρ:Fm}{S:aa}
noncomputable def yX (I:Fm->aa->Prop)(Q:QO)(o:Out×aa):Prop:=match o.1 with
 | .nx ρ'=>I ρ' o.2
 | .ct ρ'=>I ρ' o.2
 | .bk ρ'=>Q (.nx ρ',o.2)
 | .rt w=>Q (.rt w,o.2)
theorem jB {mi:MI}{g:FG}{b:FS}{xs:Jf W}{Q:QO}(I:Jp->Fm->aa->Prop)(hat:∀i ρ S,I i ρ S->mi.at S i=ba xs[i]?)
  (hstep:∀i w ρ S,xs[i]?=ba w->I i ρ S->Wp (g w ρ S) λq=>Wp (b q.1 q.2) (yX (I (i+1)) Q)) (hend:∀ρ S,I xs.length ρ S->Q (.nx ρ,S)):∀(n i:Jp) (ρ:Fm) (S:aa),i+n=xs.length->I i ρ S->Wp (gm mi g b n i ρ S) Q
 | 0,i,ρ,S,hl,hI=>by
  have e:mi.at S i=ba gV:=by rw[hat i ρ S hI,Ml (by omega)]
  simp only[gm,e];have hi:i=xs.length:=by omega
  exact ab.mpr (hend ρ S (hi ▸ hI))
 | n+1,i,ρ,S,hl,hI=>by
  have hi:i < xs.length:=by omega
  have e:mi.at S i=ba (ba xs[i]):=by rw[hat i ρ S hI,Jw hi]
  obtain⟨⟨ρ1,S1⟩,h1,⟨o,S2⟩,h2,h3⟩:=hstep i xs[i] ρ S (Jw hi) hI;simp only[gm,e,h1,h2];cases o with
  | nx ρ2=>exact jB I hat hstep hend n (i+1) ρ2 S2 (by omega) h3
  | ct ρ2=>exact jB I hat hstep hend n (i+1) ρ2 S2 (by omega) h3
  | bk ρ2=>exact ab.mpr h3
  | rt w=>exact ab.mpr h3
theorem Gv {fi:FI}{g:FG}{b:FS}{Q:QO}:Wp (yC fi g b ρ S) Q↔Wp (fi ρ S) λp=>∃n,p.1.len p.2=ba n/\Wp (gm p.1 g b n 0 ρ p.2) Q:=by
 unfold yC;rcases h:fi ρ S with _|⟨mi,S1⟩
 ·simp[ac]
 ·cases h2:mi.len S1 <;> simp[ab,ac,h2]
theorem fP {mi:MI}{g:FG}{c:FT}{f:FE}{xs:Jf W}{Q:Jf W×aa->Prop}(I:Jp->Jf W->Fm->aa->Prop)(hat:∀i ys ρ S,I i ys ρ S->mi.at S i=ba xs[i]?)
  (hstep:∀i w ys ρ S,xs[i]?=ba w->I i ys ρ S->Wp (g w ρ S) λq=>Wp (c q.1 q.2) λk=>(k.1=true->Wp (f q.1 k.2) λy=>I (i+1) (ys++[y.1]) q.1 y.2)/\(k.1=false->I (i+1) ys q.1 k.2))
  (hend:∀ys ρ S,I xs.length ys ρ S->Q (ys,S)):∀(n i:Jp) (ys:Jf W) (ρ:Fm) (S:aa),i+n=xs.length->I i ys ρ S->Wp (ce mi g c f n i ρ S) λp=>Q (ys++p.1,p.2)
 | 0,i,ys,ρ,S,hl,hI=>by
  have e:mi.at S i=ba gV:=by rw[hat i ys ρ S hI,Ml (by omega)]
  simp only[ce,e];refine ab.mpr ?_;have:i=xs.length:=by omega
  simpa using hend ys ρ S (this ▸ hI)
 | n+1,i,ys,ρ,S,hl,hI=>by
  have hi:i < xs.length:=by omega
  have e:mi.at S i=ba (ba xs[i]):=by rw[hat i ys ρ S hI,Jw hi]
  obtain⟨⟨ρ1,S1⟩,h1,⟨k,S2⟩,h2,h3,h4⟩:=hstep i xs[i] ys ρ S (Jw hi) hI;simp only[ce,e,h1,h2];cases k with
  | true=>
   obtain⟨⟨y,S3⟩,h5,h6⟩:=h3 rfl;simp only[h5];obtain⟨⟨zs,S4⟩,h7,h8⟩:=fP I hat hstep hend n (i+1) (ys++[y]) ρ1 S3 (by omega) h6
   simp only[h7];exact ab.mpr (by simpa using h8)
  | false=>exact fP I hat hstep hend n (i+1) ys ρ1 S2 (by omega) (h4 rfl)
theorem Ew {elt:E}{tg:Tg}{it:Ie}{cs:Es}{cap:Jf (Jn Jp)}{Q:QW}:Wp (aI Φ (.comp elt tg it cs cap) ρ S) Q↔Wp (mK Φ it ρ S) λp=>∃n,p.1.len p.2=ba n/\Wp (ce p.1 (gW tg) (BM Φ cs) (aI Φ elt) n 0 (gT cap ρ) p.2) λq=>q.1.length<=sizeLine/\Q (.ref q.2.length,q.2++[.lst q.1]):=by
 simp only[aI,lJ,mI];rcases h:mK Φ it ρ S with _|⟨mi,S1⟩
 ·simp[ac]
 ·rcases h2:mi.len S1 with _|n
  ·simp[ab,ac,h2]
  ·rcases h3:ce mi (gW tg) (BM Φ cs) (aI Φ elt) n 0 (gT cap ρ) S1 with _|⟨ys,S2⟩
   ·simp[ab,ac,h2,h3]
   ·by_cases hl:ys.length<=sizeLine <;> simp[ab,ac,h2,h3,hl]
theorem Gw {Q:QB}:Wp (BM Φ .nil ρ S) Q↔Q (true,S):=by simp[BM,CA,ab]
theorem Gx {e:E}{Q:QB}:Wp (BM Φ (.cons e .nil) ρ S) Q↔Wp (dA Φ e ρ S) Q:=by rw[BM]
theorem lP {c:FT}{b:FS}{Q:QO}(I:Jp->Fm->aa->Prop)(hstep:∀m ρ S,I m ρ S->Wp (c ρ S) λk=>(k.1=true->∃m',m=m'+1/\Wp (b ρ k.2) (yX (I m') Q))/\(k.1=false->Q (.nx ρ,k.2))) :
  ∀(n m:Jp) (ρ:Fm) (S:aa),m < n->I m ρ S->Wp (pg c b n ρ S) Q
 | 0,m,ρ,S,h,_=>by omega
 | n+1,m,ρ,S,h,hI=>by
  obtain⟨⟨k,S1⟩,h1,h2,h3⟩:=hstep m ρ S hI;simp only[pg,h1];cases k with
  | false=>exact ab.mpr (h3 rfl)
  | true=>
   obtain⟨m',rfl,⟨o,S2⟩,h5,h6⟩:=h2 rfl;simp only[h5];cases o with
   | nx ρ2=>exact lP I hstep n m' ρ2 S2 (by omega) h6
   | ct ρ2=>exact lP I hstep n m' ρ2 S2 (by omega) h6
   | bk ρ2=>exact ab.mpr h6
   | rt w=>exact ab.mpr h6
theorem v8 {defs:Jf (JG×Df)}{d:Jp}{f:JG}{ws:Jf W}{df:Df}{Q:QW}(h:defs.lookup f=ba df)(hl:ws.length=df.ps.length)
  (hb:Wp (gp (ap defs fuel d) fuel df.body (fO df.N ws) S) λp=>match p.1 with|.rt w=>Q (w,p.2)|.nx _=>Q (.non,p.2)|_=>KN):Wp (ap defs fuel (d+1) f ws S) Q:=by
 obtain⟨⟨o,S1⟩,h1,h2⟩:=hb;simp only[ap,h,JN hl,h1];cases o with
 | rt w=>exact ab.mpr h2
 | nx ρ=>exact ab.mpr h2
 | bk _=>exact h2.elim
 | ct _=>exact h2.elim
end
section
variable{S:aa}{Q:QW}
theorem cN {a b:Jy}:gj .add (.int a) (.int b) S=ba (.int (a+b),S):=rfl
theorem CK {a b:Jy}:gj .sub (.int a) (.int b) S=ba (.int (a - b),S):=rfl
theorem pA {c:Jy->Jy->JW}{f:Jy->Jy->Jy}{i j:Jy}(h:c i j=true):Ae c f (.int i) (.int j) S=ba (.int (f i j),S):=by
 unfold Ae;dsimp only;rw[JN h]
theorem rm {a b:Jy}(h : -(2 ^ 64) < b)(h2:b < 2 ^ 64):gj .mul (.int a) (.int b) S=ba (.int (a*b),S):=pA (c:=vp) (f:=(· * ·)) (by
 unfold vp;simp only[La,Jo,JK];exact .inr ⟨h,h2⟩)
theorem i3 {a b:Jy}(h:0 < b):gj .mod (.int a) (.int b) S=ba (.int (a % b),S):=pA (c:=λ_ j=>decide (0 < j)) (f:=(· % ·)) (Lr h)
theorem iA {a b:Jy}(h:0 < b)(h2:b < 1073741824):gj .fdiv (.int a) (.int b) S=ba (.int (a / b),S):=pA (c:=λ_ j=>AJ j) (f:=(· / ·)) (by
 unfold AJ;simp only[Jo,JK];exact⟨h,h2⟩)
theorem Ex:gj .pow (.int 10) (.int 18) S=ba (.int 1000000000000000000,S):=rfl
theorem Ey {x y:JG}(h:x.length+y.length<=sizeLine):gj .add (.str x) (.str y) S=ba (.str (x++y),S):=by simp only[gj,vt]; rw[JN h]
theorem fQ {xs ys:Jf W}(h:(xs++ys).length<=sizeLine):gj .add (.tup xs) (.tup ys) S=ba (.tup (xs++ys),S):=by simp only[gj,vt,sw]; rw[JN h]
theorem yY {i j:Jp}{xs ys:Jf W}(h1:S[i]?=ba (.lst xs))(h2:S[j]?=ba (.lst ys))(h:(xs++ys).length<=sizeLine):gj .add (.ref i) (.ref j) S=ba (.ref S.length,S++[.lst (xs++ys)]):=by
 simp only[gj,vt,p8,h1,h2,mI]; rw[JN h]
theorem gX {a b:Jy}:cU .eq (.int a) (.int b) S=ba (.bl (a==b),S):=rfl
theorem Ik {a b:Jy}:cU .ne (.int a) (.int b) S=ba (.bl (!(a==b)),S):=rfl
theorem BS {a b:Jy}:cU .lt (.int a) (.int b) S=ba (.bl (decide (a < b)),S):=rfl
theorem Gy {a b:Jy}:cU .gt (.int a) (.int b) S=ba (.bl (decide (a > b)),S):=rfl
theorem Il {a b:Jy}:cU .ge (.int a) (.int b) S=ba (.bl (decide (a>=b)),S):=rfl
theorem CL {a b:JG}:cU .eq (.str a) (.str b) S=ba (.bl (a==b),S):=rfl
theorem Gz {a b:JG}:cU .ne (.str a) (.str b) S=ba (.bl (!(a==b)),S):=rfl
theorem bc {r:Jp}{xs:Jf W}(h:S[r]?=ba (.lst xs)):iL S r=ba xs:=by simp[iL,h]
theorem BU {r:Jp}{xs:Jf W}(h:S[r]?=ba (.fro xs)):iL S r=ba xs:=by simp[iL,h]
theorem d7 {r:Jp}{xs:Jf W}(h:S[r]?=ba (.lst xs)):p8 S r=ba xs:=by simp[p8,h]
theorem la {r:Jp}{xs:Jf W}(h:S[r]?=ba (.lst xs)):j8 S r=gV:=by simp[j8,h]
theorem cH {r:Jp}{kvs:Jf (T×W)}(h:S[r]?=ba (.dic kvs)):j8 S r=ba kvs:=by simp[j8,h]
theorem pB {r:Jp}{kvs:Jf (T×W)}(h:S[r]?=ba (.dic kvs)):iL S r=gV:=by simp[iL,h]
theorem BV {r:Jp}{kvs:Jf (T×W)}(h:S[r]?=ba (.frd kvs)):j8 S r=ba kvs:=by simp[j8,h]
theorem atI_nat {α:Type}{xs:Jf α}{j:Jp}{w:α}(h:xs[j]?=ba w):r8 xs (j:Jy)=ba w:=by
 have hl:=(Ju.mp h).1;unfold r8 wD;rw[JN (JD j),JN (by exact_mod_cast hl)]
 simpa using h
theorem pE {α:Type}{xs:Jf α}{i:Jy}{w:α}(h0:0<=i)(h:xs[i.toNat]?=ba w):r8 xs i=ba w:=by
 have:=atI_nat h
 rwa [O7 h0]at this
theorem yZ {r:Jp}{xs:Jf W}{i:Jy}{w:W}(h:S[r]?=ba (.lst xs))(h0:0<=i)(hw:xs[i.toNat]?=ba w):r9 (.ref r) (.int i) S=ba (w,S):=by
 show wH (.ref r) (.int i) S=_;simp[wH,bc h,pE h0 hw]
theorem GB {xs:Jf W}{i:Jy}{w:W}(h0:0<=i)(hw:xs[i.toNat]?=ba w):r9 (.tup xs) (.int i) S=ba (w,S):=by
 show wH (.tup xs) (.int i) S=_;simp[wH,pE h0 hw]
theorem CM {x:JG}{i:Jy}{c:Jp}(hz:x.length<=sizeLine)(h0:0<=i)(hw:x.cps.toList[i.toNat]?=ba c):r9 (.str x) (.int i) S=ba (.str ⟨[c].toArray⟩,S):=by
 show wH (.str x) (.int i) S=_;simp[wH,hz,pE h0 hw]
theorem CN {r:Jp}{xs:Jf W}{i:Jy}{w:W}(h:S[r]?=ba (.lst xs))(h0:0<=i)(hi:i.toNat < xs.length):iV (.ref r) (.int i) w S=ba (S.set r (.lst (xs.set i.toNat w))):=by
 show vw (.ref r) (.int i) w S=_;have:wD xs.length i=ba i.toNat:=by
  unfold wD;rw[JN h0,JN (by omega)]
 simp[vw,d7 h,this]
theorem CO {r:Jp}{xs:Jf W}(h:S[r]?=ba (.lst xs)):sJ [.ref r] S=ba (.int xs.length,S):=by
 simp[sJ,la h,sy,bc h]
theorem y4 {r:Jp}{xs:Jf W}{y:W}(h:S[r]?=ba (.lst xs))(hl:xs.length < sizeLine):iO (.ref r) [y] S=ba (.non,S.set r (.lst (xs++[y]))):=by
 simp[iO,d7 h,hl]
theorem GC {r:Jp}{xs:Jf W}(h:S[r]?=ba (.lst xs)):lH [.ref r] S=ba (.tup xs,S):=by
 simp[lH,A6,h,lr,bc h]
theorem eG {r:Jp}{xs:Jf W}(h:S[r]?=ba (.lst xs)):tyOk "list" S (.ref r)=true:=by simp[tyOk,bc h]
theorem cf {r:Jp}{o o':O}(h:S[r]?=ba o):(S.set r o')[r]?=ba o':=by
 rw[K7,JN rfl,JN (Ju.mp h).1]
theorem cg {r j:Jp}{o':O}(h:r≠j):(S.set r o')[j]?=S[j]?:=by rw[K7,JX h]
theorem aj {o:O}:(S++[o])[S.length]?=ba o:=by simp
theorem aq {j:Jp}{o u:O}(h:S[j]?=ba o):(S++[u])[j]?=ba o:=by rw[Kt (Ju.mp h).1]; exact h
theorem dv {j:Jp}{o:O}(h:S[j]?=ba o):j < S.length:=(Ju.mp h).1
structure Kp (r:Jp)(S S':aa):Prop where
 get:∀j o,j≠r->S[j]?=ba o->S'[j]?=ba o
 len:S.length<=S'.length
theorem Kp.refl {r:Jp}{S:aa}:Kp r S S:=⟨λ_ _ _ h=>h,Js _⟩
theorem Kp.trans {r:Jp}{S S' S'':aa}(a:Kp r S S')(b:Kp r S' S''):Kp r S S'':=⟨λj o n h=>b.get j o n (a.get j o n h),JF a.len b.len⟩
theorem Kp.set {r:Jp}{S:aa}{o:O}:Kp r S (S.set r o):=⟨λj u n h=>by rw[cg (Ne.symm n)]; exact h,by simp⟩
theorem Kp.push {r:Jp}{S:aa}{o:O}:Kp r S (S++[o]):=⟨λj u n h=>aq h,by simp⟩
theorem Kp.late {r t:Jp}{S0 S:aa}{o:O}(a:Kp r S0 S)(h:S0.length<=t):Kp r S0 (S.set t o):=
 ⟨λj u n e=>by
  have:=dv e;rw[cg (by omega)]; exact a.get j u n e,by simpa using a.len⟩
end
noncomputable def wO {α:Type}(o:Jn α)(Q:α->Prop):Prop:=match o with
 | some a=>Q a
 | none=>KN
theorem cX {α:Type}{o:Jn α}{Q:α->Prop}(h:wO o Q):Wp o Q:=by
 cases o with
 | none=>exact h.elim
 | some a=>exact⟨a,rfl,h⟩
theorem GD {α:Type}{o:Jn α}{Q:α->Prop}(h:Wp o Q):wO o Q:=by
 obtain⟨a,rfl,q⟩:=h;exact q
theorem ae {α:Type}{o:Jn α}{a:α}{Q:α->Prop}(e:o=ba a)(h:Q a):wO o Q:=by subst e; exact h
noncomputable def wB:W->(JW->Prop)->Prop
 | .bl k,Q=>Q k
 | _,_=>KN
noncomputable def wN:W->(Jy->Prop)->Prop
 | .int k,Q=>Q k
 | _,_=>KN
noncomputable def wU:W->(Jf W->Prop)->Prop
 | .tup k,Q=>Q k
 | _,_=>KN
theorem uM {w:W}{Q:JW->Prop}(h:wB w Q):∃k,w=.bl k/\Q k:=by cases w <;> first|exact h.elim|exact⟨_,rfl,h⟩
theorem CP {w:W}{Q:Jy->Prop}(h:wN w Q):∃k,w=.int k/\Q k:=by cases w <;> first|exact h.elim|exact⟨_,rfl,h⟩
theorem GF {w:W}{Q:Jf W->Prop}(h:wU w Q):∃k,w=.tup k/\Q k:=by cases w <;> first|exact h.elim|exact⟨_,rfl,h⟩
noncomputable def w2:Jf W->(W->W->Prop)->Prop
 | [x,y],Q=>Q x y
 | _,_=>KN
theorem GH {xs:Jf W}{Q:W->W->Prop}(h:w2 xs Q):∃x y,xs=[x,y]/\Q x y:=by
 match xs,h with
 | [x,y],h=>exact⟨x,y,rfl,h⟩
noncomputable def wG:Jn W->(W->Prop)->Prop
 | some w,Q=>Q w
 | none,_=>KN
noncomputable def wV:Fm->Jp->(W->Prop)->Prop
 | [],_,_=>KN
 | o::_,0,Q=>wG o Q
 | _::ρ,n+1,Q=>wV ρ n Q
theorem y6 {Q:W->Prop}:∀ {ρ:Fm} {i:Jp},wV ρ i Q->∃w,ρ[i]?=ba (ba w)/\Q w
 | [],i,h=>h.elim
 | some w::ρ,0,h=>⟨w,rfl,h⟩
 | none::ρ,0,h=>h.elim
 | x::ρ,n+1,h=>by
  obtain⟨w,e2,q⟩:=y6 (ρ:=ρ) (i:=n) h;exact⟨w,e2,q⟩
noncomputable def bF (Φ:JG->FF)(f:JG)(n:Jp)(ws:Jf W)(S:aa):Jn (W×aa):=if ws.length=n then Φ f ws S else gV
section
variable (Φ:JG->FF) (fuel:Jp)
mutual
noncomputable def wE:E->Fm->aa->QW->Prop
 | .c w,_,S,Q=>Q (w,S)
 | .v i,ρ,S,Q=>wV ρ i λw=>Q (w,S)
 | .op o a b,ρ,S,Q=>wE a ρ S λp=>wE b ρ p.2 λq=>wO (gj o p.1 q.1 q.2) Q
 | .cmp o a b,ρ,S,Q=>wE a ρ S λp=>wE b ρ p.2 λq=>wO (cU o p.1 q.1 q.2) Q
 | .and a b,ρ,S,Q=>wE a ρ S λp=>wB p.1 λk=>(k=true->wE b ρ p.2 Q)/\(k=false->Q (.bl false,p.2))
 | .or a b,ρ,S,Q=>wE a ρ S λp=>wB p.1 λk=>(k=true->Q (.bl true,p.2))/\(k=false->wE b ρ p.2 Q)
 | .not a,ρ,S,Q=>wE a ρ S λp=>wB p.1 λk=>Q (.bl (!k),p.2)
 | .own f n es,ρ,S,Q=>wA es ρ S λp=>wO (bF Φ f n p.1 p.2) Q
 | .bi b es,ρ,S,Q=>wA es ρ S λp=>wO (b.fn p.1 p.2) Q
 | .me m o es,ρ,S,Q=>wE o ρ S λp=>tyOk m.ty p.2 p.1=true/\wA es ρ p.2 λq=>wO (m.fn p.1 q.1 q.2) Q
 | .ix a b,ρ,S,Q=>wE a ρ S λp=>wE b ρ p.2 λq=>wO (r9 p.1 q.1 q.2) Q
 | .sl a lo hi,ρ,S,Q=>wE a ρ S λp=>wP lo ρ p.2 λq=>wP hi ρ q.2 λr=>wO (p9 p.1 q.1 r.1 r.2) Q
 | .tup es,ρ,S,Q=>wA es ρ S λp=>Q (.tup p.1,p.2)
 | .lst es,ρ,S,Q=>wA es ρ S λp=>Q (.ref p.2.length,p.2++[.lst p.1])
 | .isi c a,ρ,S,Q=>wE a ρ S λp=>wO (yD p.2 p.1 c) λk=>Q (.bl k,p.2)
 | .neg a,ρ,S,Q=>wE a ρ S λp=>wN p.1 λi=>Q (.int (-i),p.2)
 | .dnew,_,S,Q=>Q (.ref S.length,S++[.dic []])
 | .disp es,ρ,S,Q=>wA es ρ (S++[.dic []]) λp=>p.2[S.length]?=ba (.dic [])/\wO (dS [] p.1) λkvs=>Q (.ref S.length,p.2.set S.length (.dic kvs))
 | .ite t a b,ρ,S,Q=>wT t ρ S λp=>(p.1=true->wE a ρ p.2 Q)/\(p.1=false->wE b ρ p.2 Q)
 | .comp elt tg it cs cap,ρ,S,Q=>Wp (aI Φ (.comp elt tg it cs cap) ρ S) Q
noncomputable def wT:E->Fm->aa->QB->Prop
 | .cmp o a b,ρ,S,Q=>wE a ρ S λp=>wE b ρ p.2 λq=>wO (cU o p.1 q.1 q.2) λr=>wB r.1 λk=>Q (k,r.2)
 | .and a b,ρ,S,Q=>wT a ρ S λp=>(p.1=true->wT b ρ p.2 Q)/\(p.1=false->Q (false,p.2))
 | .or a b,ρ,S,Q=>wT a ρ S λp=>(p.1=true->Q (true,p.2))/\(p.1=false->wT b ρ p.2 Q)
 | .not a,ρ,S,Q=>wT a ρ S λp=>Q (!p.1,p.2)
 | .isi c a,ρ,S,Q=>wE a ρ S λp=>wO (yD p.2 p.1 c) λk=>Q (k,p.2)
 | .c w,ρ,S,Q=>Wp (dA Φ (.c w) ρ S) Q
 | .v i,ρ,S,Q=>wV ρ i λw=>wO (gQ S w) λk=>Q (k,S)
 | .op o a b,ρ,S,Q=>Wp (dA Φ (.op o a b) ρ S) Q
 | .own f n es,ρ,S,Q=>wA es ρ S λp=>wO (bF Φ f n p.1 p.2) λq=>wO (gQ q.2 q.1) λk=>Q (k,q.2)
 | .bi b es,ρ,S,Q=>wA es ρ S λp=>wO (b.fn p.1 p.2) λq=>wO (gQ q.2 q.1) λk=>Q (k,q.2)
 | .me m o es,ρ,S,Q=>Wp (dA Φ (.me m o es) ρ S) Q
 | .ix a b,ρ,S,Q=>Wp (dA Φ (.ix a b) ρ S) Q
 | .sl a lo hi,ρ,S,Q=>Wp (dA Φ (.sl a lo hi) ρ S) Q
 | .tup es,ρ,S,Q=>Wp (dA Φ (.tup es) ρ S) Q
 | .lst es,ρ,S,Q=>Wp (dA Φ (.lst es) ρ S) Q
 | .neg a,ρ,S,Q=>Wp (dA Φ (.neg a) ρ S) Q
 | .dnew,ρ,S,Q=>Wp (dA Φ .dnew ρ S) Q
 | .disp es,ρ,S,Q=>Wp (dA Φ (.disp es) ρ S) Q
 | .ite t a b,ρ,S,Q=>Wp (dA Φ (.ite t a b) ρ S) Q
 | .comp elt tg it cs cap,ρ,S,Q=>Wp (dA Φ (.comp elt tg it cs cap) ρ S) Q
noncomputable def wA:Es->Fm->aa->(Jf W×aa->Prop)->Prop
 | .nil,_,S,Q=>Q ([],S)
 | .cons e es,ρ,S,Q=>wE e ρ S λp=>wA es ρ p.2 λq=>Q (p.1::q.1,q.2)
noncomputable def wP:Ep->Fm->aa->(Jn Jy×aa->Prop)->Prop
 | .no,_,S,Q=>Q (gV,S)
 | .yes a,ρ,S,Q=>wE a ρ S λp=>wN p.1 λi=>Q (ba i,p.2)
end
noncomputable def sa (K:Fm->aa->Prop)(Q:QO)(p:Out×aa):Prop:=match p.1 with
 | .nx ρ=>K ρ p.2
 | o=>Q (o,p.2)
mutual
noncomputable def wS:Sm->Fm->aa->(Fm->aa->Prop)->QO->Prop
 | .set i e,ρ,S,K,_=>wE Φ e ρ S λp=>K (ρ.set i (ba p.1)) p.2
 | .asg is e,ρ,S,K,_=>wE Φ e ρ S λp=>wU p.1 λws=>wO (eD is ws ρ) λρ'=>K ρ' p.2
 | .par i j es,ρ,S,K,_=>wA Φ es ρ S λp=>w2 p.1 λx y=>K ((ρ.set i (ba x)).set j (ba y)) p.2
 | .put o k e,ρ,S,K,_=>wE Φ e ρ S λp=>wE Φ o ρ p.2 λq=>wE Φ k ρ q.2 λr=>wO (iV q.1 r.1 p.1 r.2) λS'=>K ρ S'
 | .ex e,ρ,S,K,_=>wE Φ e ρ S λp=>K ρ p.2
 | .ret e,ρ,S,_,Q=>wE Φ e ρ S λp=>Q (.rt p.1,p.2)
 | .retN,_,S,_,Q=>Q (.rt .non,S)
 | .pass,ρ,S,K,_=>K ρ S
 | .brk,ρ,S,_,Q=>Q (.bk ρ,S)
 | .cont,ρ,S,_,Q=>Q (.ct ρ,S)
 | .bad,_,_,_,_=>KN
 | .ite t a b,ρ,S,K,Q=>wT Φ t ρ S λp=>∀Q':QO,(∀ρ' S',K ρ' S'->Q' (.nx ρ',S'))->(∀o S',(∀ρ',o≠.nx ρ')->Q (o,S')->Q' (o,S'))->(p.1=true->Ag a ρ p.2 Q')/\(p.1=false->Ag b ρ p.2 Q')
 | .whl t b,ρ,S,K,Q=>Wp (gn Φ fuel (.whl t b) ρ S) (sa K Q)
 | .loop tg it b,ρ,S,K,Q=>Wp (gn Φ fuel (.loop tg it b) ρ S) (sa K Q)
noncomputable def Ag:Ss->Fm->aa->QO->Prop
 | .nil,ρ,S,Q=>Q (.nx ρ,S)
 | .cons s ss,ρ,S,Q=>wS s ρ S (λρ' S'=>Ag ss ρ' S' Q) Q
end
end
noncomputable def Hb:Es->Jp
 | .nil=>0
 | .cons _ es=>Hb es+1
mutual
noncomputable def ft:E->JW
 | .c _|.v _|.comp _ _ _ _ _|.dnew=>true
 | .op _ a b|.cmp _ a b|.and a b|.or a b|.ix a b=>ft a&&ft b
 | .ite a b c=>ft a&&ft b&&ft c
 | .neg a|.not a|.isi _ a=>ft a
 | .own _ n es=>Hb es==n&&sZ es
 | .bi _ es|.disp es=>sZ es
 | .me _ o es=>ft o&&sZ es
 | .sl a lo hi=>ft a&&Im lo&&Im hi
 | .tup es|.lst es=>decide (Hb es<=1000)&&sZ es
noncomputable def sZ:Es->JW
 | .nil=>true
 | .cons e es=>ft e&&sZ es
noncomputable def Im:Ep->JW
 | .no=>true
 | .yes e=>ft e
end
mutual
noncomputable def IQ:Sm->JW
 | .set _ e|.asg _ e|.ex e|.ret e=>ft e
 | .put o k e=>ft o&&ft k&&ft e
 | .par _ _ es=>sZ es
 | .ite t a b=>ft t&&gY a&&gY b
 | _=>true
noncomputable def gY:Ss->JW
 | .nil=>true
 | .cons s ss=>IQ s&&gY ss
end
section
variable{Φ:JG->FF}{fuel:Jp}
theorem i4:∀ {es:Es} {ρ:Fm} {S S':aa} {ws:Jf W},dE Φ es ρ S=ba (ws,S')->ws.length=Hb es
 | .nil,ρ,S,S',ws,h=>by rw[dE]at h; cases h; rfl
 | .cons e es,ρ,S,S',ws,h=>by
  rw[dE]at h;unfold eX at h;split at h
  ·split at h
   ·rename_i h2; cases h; rw[Ky,i4 h2]; rfl
   ·cases h
  ·cases h
theorem y8 {n:Jp}(h:decide (n<=1000)=true):n<=sizeLine:=JF (Kn h) (by rw[Ki]; decide)
theorem dB {a b:JW}(h:(a&&b)=true):a=true:=by cases a <;> first|rfl|cases h
theorem eH {a b:JW}(h:(a&&b)=true):b=true:=by cases a <;> first|exact h|cases h
mutual
theorem bQ:∀(e:E) {ρ:Fm} {S:aa} {Q:QW},ft e=true->wE Φ e ρ S Q->Wp (aI Φ e ρ S) Q
 | .c w,ρ,S,Q,k,h=>IZ.mpr h
 | .v i,ρ,S,Q,k,h=>IP.mpr (y6 h)
 | .op o a b,ρ,S,Q,k,h=>HX.mpr ((bQ a (dB k) h).mono λp hp=>(bQ b (eH k) hp).mono λq hq=>cX hq)
 | .cmp o a b,ρ,S,Q,k,h=>CH.mpr ((bQ a (dB k) h).mono λp hp=>(bQ b (eH k) hp).mono λq hq=>cX hq)
 | .and a b,ρ,S,Q,k,h=>Gc.mpr ((bQ a (dB k) h).mono λp hp=>let ⟨c,e,h1,h2⟩:=uM hp; ⟨c,e,λz=>bQ b (eH k) (h1 z),h2⟩)
 | .or a b,ρ,S,Q,k,h=>HZ.mpr ((bQ a (dB k) h).mono λp hp=>let ⟨c,e,h1,h2⟩:=uM hp; ⟨c,e,h1,λz=>bQ b (eH k) (h2 z)⟩)
 | .not a,ρ,S,Q,k,h=>Gd.mpr ((bQ a k h).mono λp hp=>uM hp)
 | .own f n es,ρ,S,Q,k,h=>CI.mpr (by
   obtain⟨⟨ws,S1⟩,e,hq⟩:=ig es (eH k) h;have hl:ws.length=n:=(i4 e).trans (eq_of_beq (dB k));simp only[bF,JN hl]at hq;exact⟨_,e,hl,cX hq⟩)
 | .bi b es,ρ,S,Q,k,h=>Gf.mpr ((ig es k h).mono λp hp=>cX hp)
 | .me m o es,ρ,S,Q,k,h=>Ic.mpr ((bQ o (dB k) h).mono λp hp=>⟨hp.1,(ig es (eH k) hp.2).mono λq hq=>cX hq⟩)
 | .ix a b,ρ,S,Q,k,h=>HY.mpr ((bQ a (dB k) h).mono λp hp=>(bQ b (eH k) hp).mono λq hq=>cX hq)
 | .sl a lo hi,ρ,S,Q,k,h=>Ig.mpr ((bQ a (dB (dB k)) h).mono λp hp=>(CQ lo (eH (dB k)) hp).mono λq hq=>(CQ hi (eH k) hq).mono λr hr=>cX hr)
 | .tup es,ρ,S,Q,k,h=>Gh.mpr (by
   obtain⟨⟨ws,S1⟩,e,hq⟩:=ig es (eH k) h;exact⟨_,e,by rw[i4 e]; exact y8 (dB k),hq⟩)
 | .lst es,ρ,S,Q,k,h=>Gi.mpr (by
   obtain⟨⟨ws,S1⟩,e,hq⟩:=ig es (eH k) h;exact⟨_,e,by rw[i4 e]; exact y8 (dB k),hq⟩)
 | .isi c a,ρ,S,Q,k,h=>CJ.mpr ((bQ a k h).mono λp hp=>cX hp)
 | .neg a,ρ,S,Q,k,h=>Gj.mpr ((bQ a k h).mono λp hp=>CP hp)
 | .dnew,ρ,S,Q,k,h=>⟨_,rfl,h⟩
 | .disp es,ρ,S,Q,k,h=>Ek.mpr ((ig es k h).mono λp hp=>⟨hp.1,let ⟨kvs,e,q⟩:=cX hp.2; ⟨kvs,e,q⟩⟩)
 | .ite t a b,ρ,S,Q,k,h=>Ge.mpr ((i5 t (dB (dB k)) h).mono λp hp=>⟨λz=>bQ a (eH (dB k)) (hp.1 z),λz=>bQ b (eH k) (hp.2 z)⟩)
 | .comp elt tg it cs cap,ρ,S,Q,k,h=>h
theorem ig:∀(es:Es) {ρ:Fm} {S:aa} {Q:Jf W×aa->Prop},sZ es=true->wA Φ es ρ S Q->Wp (dE Φ es ρ S) Q
 | .nil,ρ,S,Q,k,h=>Gk.mpr h
 | .cons e es,ρ,S,Q,k,h=>El.mpr ((bQ e (dB k) h).mono λp hp=>ig es (eH k) hp)
theorem CQ:∀(e:Ep) {ρ:Fm} {S:aa} {Q:Jn Jy×aa->Prop},Im e=true->wP Φ e ρ S Q->Wp (uC Φ e ρ S) Q
 | .no,ρ,S,Q,k,h=>Ih.mpr h
 | .yes a,ρ,S,Q,k,h=>Gg.mpr ((bQ a k h).mono λp hp=>CP hp)
theorem i5:∀(e:E) {ρ:Fm} {S:aa} {Q:QB},ft e=true->wT Φ e ρ S Q->Wp (dA Φ e ρ S) Q
 | .cmp o a b,ρ,S,Q,k,h=>Gn.mpr (CH.mpr ((bQ a (dB k) h).mono λp hp=>(bQ b (eH k) hp).mono λq hq=>(cX hq).mono λr hr=>uM hr))
 | .and a b,ρ,S,Q,k,h=>Go.mpr ((i5 a (dB k) h).mono λp hp=>⟨λz=>i5 b (eH k) (hp.1 z),hp.2⟩)
 | .or a b,ρ,S,Q,k,h=>Ii.mpr ((i5 a (dB k) h).mono λp hp=>⟨hp.1,λz=>i5 b (eH k) (hp.2 z)⟩)
 | .not a,ρ,S,Q,k,h=>Gp.mpr (i5 a k h)
 | .isi c a,ρ,S,Q,k,h=>Gr.mpr (CJ.mpr ((bQ a k h).mono λp hp=>let ⟨b,e,q⟩:=cX hp; ⟨b,e,b,rfl,q⟩))
 | .v i,ρ,S,Q,k,h=>Ja.mpr (IP.mpr (let ⟨w,e,q⟩:=y6 h; ⟨w,e,cX q⟩))
 | .own f n es,ρ,S,Q,k,h=>Gq.mpr (CI.mpr (by
   obtain⟨⟨ws,S1⟩,e,hq⟩:=ig es (eH k) h;have hl:ws.length=n:=(i4 e).trans (eq_of_beq (dB k));simp only[bF,JN hl]at hq;exact⟨_,e,hl,(cX hq).mono λq hq=>cX hq⟩))
 | .c w,ρ,S,Q,k,h=>h
 | .op o a b,ρ,S,Q,k,h=>h
 | .bi b es,ρ,S,Q,k,h=>Ij.mpr (Gf.mpr ((ig es k h).mono λp hp=>(cX hp).mono λq hq=>cX hq))
 | .me m o es,ρ,S,Q,k,h=>h
 | .ix a b,ρ,S,Q,k,h=>h
 | .sl a lo hi,ρ,S,Q,k,h=>h
 | .tup es,ρ,S,Q,k,h=>h
 | .lst es,ρ,S,Q,k,h=>h
 | .neg a,ρ,S,Q,k,h=>h
 | .dnew,ρ,S,Q,k,h=>h
 | .disp es,ρ,S,Q,k,h=>h
 | .ite t a b,ρ,S,Q,k,h=>h
 | .comp elt tg it cs cap,ρ,S,Q,k,h=>h
end
mutual
theorem GJ:∀(s:Sm) {ρ:Fm} {S:aa} {K:Fm->aa->Prop} {Q:QO},IQ s=true->wS Φ fuel s ρ S K Q->Wp (gn Φ fuel s ρ S) (sa K Q)
 | .set i e,ρ,S,K,Q,k,h=>En.mpr (bQ e k h)
 | .asg is e,ρ,S,K,Q,k,h=>Eo.mpr ((bQ e k h).mono λp hp=>let ⟨ws,e1,h1⟩:=GF hp; let ⟨ρ',e2,h2⟩:=cX h1; ⟨ws,ρ',e1,e2,h2⟩)
 | .par i j es,ρ,S,K,Q,k,h=>Er.mpr ((ig es k h).mono λp hp=>GH hp)
 | .put o i e,ρ,S,K,Q,k,h=>Et.mpr ((bQ e (eH k) h).mono λp hp=>(bQ o (dB (dB k)) hp).mono λq hq=>(bQ i (eH (dB k)) hq).mono λr hr=>cX hr)
 | .ex e,ρ,S,K,Q,k,h=>Gu.mpr (bQ e k h)
 | .ret e,ρ,S,K,Q,k,h=>Eu.mpr (bQ e k h)
 | .retN,ρ,S,K,Q,k,h=>⟨_,rfl,h⟩
 | .pass,ρ,S,K,Q,k,h=>⟨_,rfl,h⟩
 | .brk,ρ,S,K,Q,k,h=>⟨_,rfl,h⟩
 | .cont,ρ,S,K,Q,k,h=>⟨_,rfl,h⟩
 | .bad,ρ,S,K,Q,k,h=>h.elim
 | .ite t a b,ρ,S,K,Q,k,h=>Ev.mpr ((i5 t (dB (dB k)) h).mono λp hp=>by
   obtain⟨h1,h2⟩:=hp (sa K Q) (λρ' S' z=>z) (λo S' hn z=>by cases o <;> first|exact z|exact absurd rfl (hn _))
   exact⟨λz=>jC a (eH (dB k)) (h1 z),λz=>jC b (eH k) (h2 z)⟩)
 | .whl t b,ρ,S,K,Q,k,h=>h
 | .loop tg it b,ρ,S,K,Q,k,h=>h
theorem jC:∀(ss:Ss) {ρ:Fm} {S:aa} {Q:QO},gY ss=true->Ag Φ fuel ss ρ S Q->Wp (gp Φ fuel ss ρ S) Q
 | .nil,ρ,S,Q,k,h=>Gs.mpr h
 | .cons s ss,ρ,S,Q,k,h=>Em.mpr ((GJ s (dB k) h).mono λp hp=>by
   obtain⟨o,S1⟩:=p;cases o with
   | nx ρ'=>exact⟨λρ2 e=>by cases e; exact jC ss (eH k) hp,λz=>absurd rfl (z ρ')⟩
   | _=>exact⟨λρ2 e=>(by cases e),λ_=>hp⟩)
end
structure wZ (Φ:JG->FF)(fuel:Jp)(ss:Ss)(ρ:Fm)(S:aa)(Q:QO):Prop where
 out:Ag Φ fuel ss ρ S Q
theorem GK {ss:Ss}{ρ:Fm}{S:aa}{Q:QO}:Ag Φ fuel ss ρ S Q=wZ Φ fuel ss ρ S Q:=propext ⟨λh=>⟨h⟩,λh=>h.out⟩
theorem Ez {defs:Jf (JG×Df)}{d:Jp}{f:JG}{n:Jp}{ws:Jf W}{df:Df}{S:aa}{Q:QW}(h:defs.lookup f=ba df)(hn:ws.length=n)(hl:ws.length=df.ps.length)(ok:gY df.body=true)
  (hb:∀Q':QO,(∀w S',Q (w,S')->Q' (.rt w,S'))->wZ (ap defs fuel d) fuel df.body (fO df.N ws) S Q'):wO (bF (ap defs fuel (d+1)) f n ws S) Q:=by
 unfold bF;rw[JN hn];exact GD (v8 h hl ((jC _ ok (hb (λp=>match p.1 with|.rt w=>Q (w,p.2)|_=>KN) λw S' q=>q).out).mono λp hp=>by
  obtain⟨o,S1⟩:=p;cases o <;> first|exact hp|exact hp.elim))
end
section
variable{Φ:JG->FF}{fuel:Jp}{ρ:Fm}{S:aa}{K:Fm->aa->Prop}{Q:QO}
noncomputable def wI (Φ:JG->FF)(fuel:Jp)(b:Ss)(ρ:Fm)(S:aa)(I:Fm->aa->Prop)(Q:QO):Prop:=∀Q':QO,(∀ρ' S',I ρ' S'->Q' (.nx ρ',S'))->(∀w S',Q (.rt w,S')->Q' (.rt w,S'))->wZ Φ fuel b ρ S Q'
theorem iB {tg:Tg}{it:Ie}{b:Ss}{mi:MI}{S1:aa}{xs:Jf W}(I:Jp->Fm->aa->Prop)(ok:gY b=true)(hi:mK Φ it ρ S=ba (mi,S1))(hat:∀i ρ S,I i ρ S->mi.at S i=ba xs[i]?)(hl:mi.len S1=ba xs.length)(h0:I 0 ρ S1)
  (hstep:∀(i:Jp) (w:W) (ρ:Fm) (S:aa),xs[i]?=ba w->I i ρ S->wO (gW tg w ρ S) λq=>wI Φ fuel b q.1 q.2 (I (i+1)) Q) (hend:∀ρ S,I xs.length ρ S->K ρ S):Wp (gn Φ fuel (.loop tg it b) ρ S) (sa K Q):=by
 rw[gn,Gv];refine⟨_,hi,xs.length,hl,?_⟩;refine jB (Q:=sa K Q) I hat (λi w ρ S h1 h2=>?_) (λρ S h=>hend ρ S h) _ 0 ρ S1 (by omega) h0
 exact(cX (hstep i w ρ S h1 h2)).mono λq hq=>jC b ok (wZ.out (hq _ (λ_ _ h=>h) λ_ _ h=>h))
theorem db {e:E}{Q:QW}(ok:ft e=true)(h:wE Φ e ρ S Q):∃w S',aI Φ e ρ S=ba (w,S')/\Q (w,S'):=let ⟨⟨w,S'⟩,a,b⟩:=bQ e ok h; ⟨w,S',a,b⟩
theorem cJ {i0:Jp}{e:E}{b:Ss}(j:Jy)(I:Jp->Fm->aa->Prop)(oe:ft e=true)(ok:gY b=true)(hj : -(2 ^ 62)<=j/\j < 2 ^ 62)(he:wE Φ e ρ S λp=>p.1=.int j/\I 0 ρ p.2)
  (hstep:∀(i:Jp) (ρ:Fm) (S:aa),(i:Jy) < j->I i ρ S->wI Φ fuel b (ρ.set i0 (ba (.int i))) S (I (i+1)) Q) (hend:∀ρ S,I j.toNat ρ S->K ρ S):Wp (gn Φ fuel (.loop (.nm i0) (.rng (.cons e .nil)) b) ρ S) (sa K Q):=by
 obtain⟨w,S1,e1,rfl,h0⟩:=db oe he;have hl:(dR 0 j.toNat).length=j.toNat:=by simp[dR]
 refine iB (mi:=.its (dR 0 j.toNat)) (S1:=S1) (xs:=dR 0 j.toNat) I ok ?_ (λ_ _ _ _=>rfl) rfl h0 (λi w ρ S hw hI=>?_) λρ S hI=>hend ρ S (hl ▸ hI)
 ·simp only[mK,dE,eX,kz,vT,e1];rw[JN hj]
 ·rw[eE]at hw;split at hw
  ·rename_i hk;cases hw;rw[Op];exact hstep i ρ S (by omega) hI
  ·cases hw
theorem for_tup {tg:Tg}{e:E}{b:Ss}(xs:Jf W)(I:Jp->Fm->aa->Prop)(oe:ft e=true)(ok:gY b=true)(he:wE Φ e ρ S λp=>p.1=.tup xs/\I 0 ρ p.2)
  (hstep:∀(i:Jp) (w:W) (ρ:Fm) (S:aa),xs[i]?=ba w->I i ρ S->wO (gW tg w ρ S) λq=>wI Φ fuel b q.1 q.2 (I (i+1)) Q) (hend:∀ρ S,I xs.length ρ S->K ρ S):Wp (gn Φ fuel (.loop tg (.seq e) b) ρ S) (sa K Q):=by
 obtain⟨w,S1,e1,rfl,h0⟩:=db oe he;exact iB (mi:=.its xs) (S1:=S1) I ok (by simp only[mK,fZ,e1]) (λ_ _ _ _=>rfl) rfl h0 hstep hend
theorem uN {tg:Tg}{e:E}{b:Ss}(t:Jp)(xs:Jf W)(I:Jp->Fm->aa->Prop)(oe:ft e=true)(ok:gY b=true)(he:wE Φ e ρ S λp=>p.1=.ref t/\I 0 ρ p.2)(hat:∀i ρ S,I i ρ S->S[t]?=ba (.lst xs))
  (hstep:∀(i:Jp) (w:W) (ρ:Fm) (S:aa),xs[i]?=ba w->I i ρ S->wO (gW tg w ρ S) λq=>wI Φ fuel b q.1 q.2 (I (i+1)) Q) (hend:∀ρ S,I xs.length ρ S->K ρ S):Wp (gn Φ fuel (.loop tg (.seq e) b) ρ S) (sa K Q):=by
 obtain⟨w,S1,e1,rfl,h0⟩:=db oe he;exact iB (mi:=.live t) (S1:=S1) I ok (by simp only[mK,fZ,e1,bc (hat _ _ _ h0)]) (λi ρ S h=>by simp only[MI.at,bc (hat _ _ _ h)]) (by simp only[MI.len,bc (hat _ _ _ h0),Kb]) h0 hstep hend
theorem CS {t:E}{b:Ss}(I:Jp->Fm->aa->Prop)(m:Jp)(ot:ft t=true)(ok:gY b=true)(hm:m < fuel)(h0:I m ρ S)
  (hstep:∀m ρ S,I m ρ S->wT Φ t ρ S λk=>(k.1=true->∃m',m=m'+1/\wI Φ fuel b ρ k.2 (I m') Q)/\(k.1=false->K ρ k.2)):Wp (gn Φ fuel (.whl t b) ρ S) (sa K Q):=by
 rw[gn];refine lP (Q:=sa K Q) I (λm ρ S hI=>(i5 t ot (hstep m ρ S hI)).mono λk hk=>⟨λz=>?_,λz=>hk.2 z⟩) fuel m ρ S hm h0
 obtain⟨m',e,h⟩:=hk.1 z;exact⟨m',e,jC b ok (wZ.out (h _ (λ_ _ h=>h) λ_ _ h=>h))⟩
noncomputable def wC (Φ:JG->FF):Es->Fm->aa->QB->Prop
 | .nil,_,S,Q=>Q (true,S)
 | .cons e .nil,ρ,S,Q=>wT Φ e ρ S Q
 | .cons _ (.cons _ _),_,_,_=>KN
theorem GL {cs:Es}{Q:QB}(ok:sZ cs=true)(h:wC Φ cs ρ S Q):Wp (BM Φ cs ρ S) Q:=by
 match cs,h,ok with
 | .nil,h,_=>exact Gw.mpr h
 | .cons e .nil,h,ok=>exact Gx.mpr (i5 e (dB ok) h)
noncomputable def mG (Φ:JG->FF)(elt:E)(cs:Es)(ρ:Fm)(S:aa)(G:W->Fm->aa->Prop)(N:Fm->aa->Prop):Prop:=wC Φ cs ρ S λk=>(k.1=true->wE Φ elt ρ k.2 λy=>G y.1 ρ y.2)/\(k.1=false->N ρ k.2)
theorem jD {elt:E}{tg:Tg}{it:Ie}{cs:Es}{cap:Jf (Jn Jp)}{mi:MI}{S1:aa}{xs:Jf W}{Q:QW}(I:Jp->Jf W->Fm->aa->Prop)(oe:ft elt=true)(oc:sZ cs=true)(hi:mK Φ it ρ S=ba (mi,S1))(hat:∀i ys ρ S,I i ys ρ S->mi.at S i=ba xs[i]?)(hl:mi.len S1=ba xs.length)(h0:I 0 [] (gT cap ρ) S1)
  (hstep:∀(i:Jp) (w:W) (ys:Jf W) (ρ:Fm) (S:aa),xs[i]?=ba w->I i ys ρ S->wO (gW tg w ρ S) λq=>mG Φ elt cs q.1 q.2 (λy=>I (i+1) (ys++[y])) (I (i+1) ys))
  (hend:∀ys ρ S,I xs.length ys ρ S->ys.length<=sizeLine/\Q (.ref S.length,S++[.lst ys])):Wp (aI Φ (.comp elt tg it cs cap) ρ S) Q:=by
 rw[Ew];refine⟨_,hi,xs.length,hl,?_⟩;refine(fP (xs:=xs) (Q:=λq=>q.1.length<=sizeLine/\Q (.ref q.2.length,q.2++[.lst q.1])) I hat (λi w ys ρ S h1 h2=>?_) hend xs.length 0 [] _ S1 (by omega) h0).mono λq hq=>by simpa using hq
 exact(cX (hstep i w ys ρ S h1 h2)).mono λq hq=>(GL oc hq).mono λk hk=>⟨λz=>bQ elt oe (hk.1 z),hk.2⟩
theorem d8 {elt e:E}{i0:Jp}{cs:Es}{cap:Jf (Jn Jp)}{Q:QW}(j:Jy)(I:Jp->Jf W->Fm->aa->Prop)(oi:ft e=true)(oe:ft elt=true)(oc:sZ cs=true)(hj : -(2 ^ 62)<=j/\j < 2 ^ 62)(he:wE Φ e ρ S λp=>p.1=.int j/\I 0 [] (gT cap ρ) p.2)
  (hstep:∀(i:Jp) (ys:Jf W) (ρ:Fm) (S:aa),(i:Jy) < j->I i ys ρ S->mG Φ elt cs (ρ.set i0 (ba (.int i))) S (λy=>I (i+1) (ys++[y])) (I (i+1) ys))
  (hend:∀ys ρ S,I j.toNat ys ρ S->ys.length<=sizeLine/\Q (.ref S.length,S++[.lst ys])):Wp (aI Φ (.comp elt (.nm i0) (.rng (.cons e .nil)) cs cap) ρ S) Q:=by
 obtain⟨w,S1,e1,rfl,h0⟩:=db oi he;have hl:(dR 0 j.toNat).length=j.toNat:=by simp[dR]
 refine jD (mi:=.its (dR 0 j.toNat)) (S1:=S1) (xs:=dR 0 j.toNat) I oe oc ?_ (λ_ _ _ _ _=>rfl) rfl h0 (λi w ys ρ S hw hI=>?_) λys ρ S hI=>hend ys ρ S (hl ▸ hI)
 ·simp only[mK,dE,eX,kz,vT,e1];rw[JN hj]
 ·rw[eE]at hw;split at hw
  ·rename_i hk;cases hw;rw[Op];exact hstep i ys ρ S (by omega) hI
  ·cases hw
theorem uO {elt e:E}{tg:Tg}{cs:Es}{cap:Jf (Jn Jp)}{Q:QW}(xs:Jf W)(I:Jp->Jf W->Fm->aa->Prop)(oi:ft e=true)(oe:ft elt=true)(oc:sZ cs=true)(he:wE Φ e ρ S λp=>p.1=.tup xs/\I 0 [] (gT cap ρ) p.2)
  (hstep:∀(i:Jp) (w:W) (ys:Jf W) (ρ:Fm) (S:aa),xs[i]?=ba w->I i ys ρ S->wO (gW tg w ρ S) λq=>mG Φ elt cs q.1 q.2 (λy=>I (i+1) (ys++[y])) (I (i+1) ys))
  (hend:∀ys ρ S,I xs.length ys ρ S->ys.length<=sizeLine/\Q (.ref S.length,S++[.lst ys])):Wp (aI Φ (.comp elt tg (.seq e) cs cap) ρ S) Q:=by
 obtain⟨w,S1,e1,rfl,h0⟩:=db oi he;exact jD (mi:=.its xs) (S1:=S1) I oe oc (by simp only[mK,fZ,e1]) (λ_ _ _ _ _=>rfl) rfl h0 hstep hend
theorem uP {elt e:E}{tg:Tg}{cs:Es}{cap:Jf (Jn Jp)}{Q:QW}(t:Jp)(xs:Jf W)(I:Jp->Jf W->Fm->aa->Prop)(oi:ft e=true)(oe:ft elt=true)(oc:sZ cs=true)(he:wE Φ e ρ S λp=>p.1=.ref t/\I 0 [] (gT cap ρ) p.2)(hat:∀i ys ρ S,I i ys ρ S->S[t]?=ba (.lst xs))
  (hstep:∀(i:Jp) (w:W) (ys:Jf W) (ρ:Fm) (S:aa),xs[i]?=ba w->I i ys ρ S->wO (gW tg w ρ S) λq=>mG Φ elt cs q.1 q.2 (λy=>I (i+1) (ys++[y])) (I (i+1) ys))
  (hend:∀ys ρ S,I xs.length ys ρ S->ys.length<=sizeLine/\Q (.ref S.length,S++[.lst ys])):Wp (aI Φ (.comp elt tg (.seq e) cs cap) ρ S) Q:=by
 obtain⟨w,S1,e1,rfl,h0⟩:=db oi he;exact jD (mi:=.live t) (S1:=S1) I oe oc (by simp only[mK,fZ,e1,bc (hat _ _ _ _ h0)]) (λi ys ρ S h=>by simp only[MI.at,bc (hat _ _ _ _ h)]) (by simp only[MI.len,bc (hat _ _ _ _ h0),Kb]) h0 hstep hend
theorem BW {elt a:E}{tg:Tg}{cs:Es}{cap:Jf (Jn Jp)}{Q:QW}(xs:Jf W)(I:Jp->Jf W->Fm->aa->Prop)(oa:ft a=true)(oe:ft elt=true)(oc:sZ cs=true)(he:wE Φ a ρ S λp=>HS p.1=ba xs/\I 0 [] (gT cap ρ) p.2)
  (hstep:∀(i:Jp) (x:W) (ys:Jf W) (ρ:Fm) (S:aa),xs[i]?=ba x->I i ys ρ S->wO (gW tg (.tup [.int i,x]) ρ S) λq=>mG Φ elt cs q.1 q.2 (λy=>I (i+1) (ys++[y])) (I (i+1) ys))
  (hend:∀ys ρ S,I xs.length ys ρ S->ys.length<=sizeLine/\Q (.ref S.length,S++[.lst ys])):Wp (aI Φ (.comp elt tg (.enu (.cons a .nil)) cs cap) ρ S) Q:=by
 obtain⟨x,S1,e1,h1,h0⟩:=db oa he;have hl:(pi xs).length=xs.length:=by simp[pi]
 refine jD (mi:=.its (pi xs)) (S1:=S1) (xs:=pi xs) I oe oc (by simp only[mK,dE,eX,kz,BK,e1,h1]) (λ_ _ _ _ _=>rfl) rfl h0 (λi w ys ρ S hw hI=>?_) λys ρ S hI=>hend ys ρ S (hl ▸ hI)
 obtain⟨y,hy,rfl⟩:=q9 hw;exact hstep i y ys ρ S hy hI
theorem st {s:Sm}{ss:Ss}(h:wS Φ fuel s ρ S (λρ' S'=>wZ Φ fuel ss ρ' S' Q) Q):wZ Φ fuel (.cons s ss) ρ S Q:=⟨by
 rw[Ag];simp only[GK];exact h⟩
theorem cr (h:Q (.nx ρ,S)):wZ Φ fuel .nil ρ S Q:=⟨by rw[Ag]; exact h⟩
theorem aw {t:JW}{a b:Ss}{Q Q0:QO}{K:Fm->aa->Prop}(ha:t=true->∀Q':QO,(∀ρ' S',K ρ' S'->Q' (.nx ρ',S'))->(∀w S',Q (.rt w,S')->Q' (.rt w,S'))->wZ Φ fuel a ρ S Q')(hb:t=false->∀Q':QO,(∀ρ' S',K ρ' S'->Q' (.nx ρ',S'))->(∀w S',Q (.rt w,S')->Q' (.rt w,S'))->wZ Φ fuel b ρ S Q') :
  ∀Q':QO,(∀ρ' S',K ρ' S'->Q' (.nx ρ',S'))->(∀o S',(∀ρ',o≠.nx ρ')->Q (o,S')->Q' (o,S'))->(t=true->Ag Φ fuel a ρ S Q')/\(t=false->Ag Φ fuel b ρ S Q'):=
 λQ' h1 h2=>⟨λe=>(ha e Q' h1 λw S'=>h2 (.rt w) S' (λ_ z=>nomatch z)).out,λe=>(hb e Q' h1 λw S'=>h2 (.rt w) S' (λ_ z=>nomatch z)).out⟩
end
noncomputable def eJ:Ss:=
 (.cons (.ret (.lst (.cons (.bi .list (.cons (.v 0) .nil)) (.cons (.c (.int 0)) (.cons (.c (.int 0)) (.cons (.c (.int 1)) (.cons (.c (.int 0)) .nil)))))))
 .nil)
noncomputable def dc:Ss:=
 (.cons (.ite (.and (.cmp .eq (.ix (.v 0) (.c (.int 2))) (.c (.int 0))) (.cmp .lt (.ix (.v 0) (.c (.int 1))) (.bi .len (.cons (.ix (.v 0) (.c (.int 0))) .nil)))) (.cons (.set 2 (.ix (.ix (.v 0) (.c (.int 0))) (.ix (.v 0) (.c (.int 1)))))
 (.cons (.put (.v 0) (.c (.int 1)) (.op .add (.ix (.v 0) (.c (.int 1))) (.c (.int 1))))
 (.cons (.ite (.cmp .ge (.v 2) (.op .pow (.c (.int 10)) (.c (.int 18)))) (.cons (.put (.v 0) (.c (.int 2)) (.v 2))
 .nil) (.cons (.put (.v 0) (.c (.int 3)) (.op .mod (.op .add (.op .add (.op .mul (.ix (.v 0) (.c (.int 3))) (.c (.int 40013))) (.op .mod (.v 2) (.c (.int 1000003)))) (.c (.int 1))) (.c (.int 2147483647))))
 .nil))
 .nil))) .nil)
 (.cons (.ite (.cmp .gt (.ix (.v 0) (.c (.int 2))) (.c (.int 0))) (.cons (.set 3 (.op .mod (.ix (.v 0) (.c (.int 2))) (.v 1)))
 (.cons (.put (.v 0) (.c (.int 2)) (.op .fdiv (.ix (.v 0) (.c (.int 2))) (.v 1)))
 (.cons (.ret (.v 3))
 .nil))) .nil)
 (.cons (.put (.v 0) (.c (.int 4)) (.op .add (.ix (.v 0) (.c (.int 4))) (.c (.int 1))))
 (.cons (.put (.v 0) (.c (.int 3)) (.op .mod (.op .add (.op .add (.op .mul (.ix (.v 0) (.c (.int 3))) (.c (.int 48271))) (.c (.int 12820163))) (.ix (.v 0) (.c (.int 4)))) (.c (.int 2147483647))))
 (.cons (.ret (.op .mod (.op .fdiv (.op .mod (.op .mul (.op .add (.op .mod (.ix (.v 0) (.c (.int 3))) (.c (.int 65521))) (.c (.int 1))) (.op .add (.op .fdiv (.ix (.v 0) (.c (.int 3))) (.c (.int 65521))) (.c (.int 7919)))) (.c (.int 1000003))) (.c (.int 7))) (.v 1)))
 .nil)))))
noncomputable def dH:Ss:=
 (.cons (.ret (.me .join (.c (.str "")) (.cons (.comp (.ix (.c (.str "abcdefghijklmnopqrstuvwxyz")) (.own "_law_pick" 2 (.cons (.v 2) (.cons (.c (.int 26)) .nil)))) (.nm 1) (.rng (.cons (.v 1) .nil)) .nil [gV,gV,ba 0]) .nil)))
 .nil)
noncomputable def fR:Ss:=
 (.cons (.ite (.cmp .ne (.v 1) (.c (.str ""))) (.cons (.ret (.op .add (.v 1) (.own "_law_letters" 2 (.cons (.v 0) (.cons (.op .add (.c (.int 1)) (.own "_law_pick" 2 (.cons (.v 0) (.cons (.c (.int 2)) .nil)))) .nil)))))
 .nil) .nil)
 (.cons (.ite (.cmp .eq (.own "_law_pick" 2 (.cons (.v 0) (.cons (.c (.int 6)) .nil))) (.c (.int 0))) (.cons (.set 2 (.lst (.cons (.c (.str "markss")) (.cons (.c (.str "mark")) (.cons (.c (.str "way")) (.cons (.c (.str "wayss")) (.cons (.c (.str "bars")) (.cons (.c (.str "ba")) (.cons (.c (.str "somex")) .nil)))))))))
 (.cons (.set 2 (.op .add (.v 2) (.lst (.cons (.c (.str "eachx")) (.cons (.c (.str "note")) (.cons (.c (.str "no")) (.cons (.c (.str "ands")) (.cons (.c (.str "ors")) (.cons (.c (.str "o")) (.cons (.c (.str "iss")) .nil))))))))))
 (.cons (.ret (.ix (.v 2) (.own "_law_pick" 2 (.cons (.v 0) (.cons (.c (.int 14)) .nil)))))
 .nil))) .nil)
 (.cons (.ret (.own "_law_letters" 2 (.cons (.v 0) (.cons (.op .add (.c (.int 1)) (.own "_law_pick" 2 (.cons (.v 0) (.cons (.c (.int 8)) .nil)))) .nil))))
 .nil)))
noncomputable def di:Ss:=
 (.cons (.set 2 (.c (.str "")))
 (.cons (.ite (.cmp .eq (.own "_law_pick" 2 (.cons (.v 0) (.cons (.c (.int 3)) .nil))) (.c (.int 0))) (.cons (.set 2 (.own "_law_letters" 2 (.cons (.v 0) (.cons (.op .add (.c (.int 1)) (.own "_law_pick" 2 (.cons (.v 0) (.cons (.c (.int 6)) .nil)))) .nil))))
 .nil) .nil)
 (.cons (.set 3 (.lst (.cons (.c (.str "marks")) (.cons (.c (.str "ways")) (.cons (.c (.str "bar")) (.cons (.c (.str "some")) (.cons (.c (.str "each")) (.cons (.c (.str "not")) (.cons (.c (.str "and")) (.cons (.c (.str "or")) (.cons (.c (.str "is")) .nil)))))))))))
 (.cons (.loop (.nm 4) (.rng (.cons (.v 1) .nil)) (.cons (.set 5 (.own "_law_name" 2 (.cons (.v 0) (.cons (.v 2) .nil))))
 (.cons (.set 6 (.c (.int 0)))
 (.cons (.whl (.cmp .isin (.v 5) (.v 3)) (.cons (.set 5 (.op .mul (.ix (.c (.str "abcdefghijklmnopqrstuvwxyz")) (.op .mod (.v 6) (.c (.int 26)))) (.op .add (.c (.int 1)) (.op .fdiv (.v 6) (.c (.int 26))))))
 (.cons (.set 6 (.op .add (.v 6) (.c (.int 1))))
 .nil)))
 (.cons (.ex (.me .append (.v 3) (.cons (.v 5) .nil)))
 .nil)))))
 (.cons (.ret (.bi .tuple (.cons (.sl (.v 3) (.yes (.c (.int 9))) .no) .nil)))
 .nil)))))
noncomputable def dI:Ss:=
 (.cons (.ite (.cmp .lt (.v 3) (.v 2)) (.cons (.ret (.ix (.ix (.ix (.v 1) (.v 2)) (.c (.int 1))) (.v 3)))
 .nil) .nil)
 (.cons (.ret (.ix (.ix (.ix (.v 0) (.c (.int 1))) (.ix (.ix (.ix (.v 1) (.v 3)) (.c (.int 1))) (.v 2))) (.c (.int 1))))
 .nil))
noncomputable def fS:Ss:=
 (.cons (.set 3 (.lst .nil))
 (.cons (.loop (.nm 4) (.rng (.cons (.bi .len (.cons (.v 2) .nil)) .nil)) (.cons (.set 5 (.ix (.v 2) (.v 4)))
 (.cons (.ex (.me .append (.v 3) (.cons (.tup (.cons (.ix (.ix (.v 1) (.v 5)) (.c (.int 0))) (.cons (.bi .tuple (.cons (.comp (.own "_law_between" 4 (.cons (.v 3) (.cons (.v 4) (.cons (.v 2) (.cons (.v 1) .nil))))) (.nm 1) (.seq (.sl (.v 2) .no (.yes (.v 4)))) .nil [gV,gV,ba 5,ba 0,ba 1]) .nil)) .nil))) .nil)))
 .nil)))
 (.cons (.ret (.bi .tuple (.cons (.v 3) .nil)))
 .nil)))
noncomputable def gr:Ss:=
 (.cons (.ret (.lst (.cons (.tup (.cons (.c (.int 0)) (.cons (.c (.int 1)) (.cons (.c (.int 2)) .nil)))) (.cons (.tup (.cons (.c (.int 0)) (.cons (.c (.int 2)) (.cons (.c (.int 1)) .nil)))) (.cons (.tup (.cons (.c (.int 1)) (.cons (.c (.int 0)) (.cons (.c (.int 2)) .nil)))) (.cons (.tup (.cons (.c (.int 1)) (.cons (.c (.int 2)) (.cons (.c (.int 0)) .nil)))) (.cons (.tup (.cons (.c (.int 2)) (.cons (.c (.int 0)) (.cons (.c (.int 1)) .nil)))) (.cons (.tup (.cons (.c (.int 2)) (.cons (.c (.int 1)) (.cons (.c (.int 0)) .nil)))) .nil))))))))
 .nil)
noncomputable def ee:Ss:=
 (.cons (.ret (.bi .min (.cons (.comp (.own "_law_part" 3 (.cons (.v 2) (.cons (.v 3) (.cons (.v 1) .nil)))) (.nm 1) (.seq (.own "_law_turns" 0 .nil)) .nil [gV,gV,ba 0,ba 1]) .nil)))
 .nil)
noncomputable def eY:Ss:=
 (.cons (.set 2 (.ix (.lst (.cons (.lst (.cons (.tup (.cons (.c (.int 0)) .nil)) .nil)) (.cons (.lst (.cons (.tup (.cons (.c (.int 0)) (.cons (.c (.int 1)) .nil))) (.cons (.tup (.cons (.c (.int 1)) (.cons (.c (.int 0)) .nil))) .nil))) (.cons (.lst (.cons (.tup (.cons (.c (.int 0)) (.cons (.c (.int 1)) (.cons (.c (.int 2)) .nil)))) (.cons (.tup (.cons (.c (.int 1)) (.cons (.c (.int 0)) (.cons (.c (.int 2)) .nil)))) (.cons (.tup (.cons (.c (.int 0)) (.cons (.c (.int 2)) (.cons (.c (.int 1)) .nil)))) .nil)))) .nil)))) (.op .sub (.v 1) (.c (.int 1)))))
 (.cons (.ret (.ix (.v 2) (.own "_law_pick" 2 (.cons (.v 0) (.cons (.bi .len (.cons (.v 2) .nil)) .nil)))))
 .nil))
noncomputable def dJ:Ss:=
 (.cons (.set 4 (.own "_law_names" 2 (.cons (.v 0) (.cons (.op .add (.v 1) (.bi .len (.cons (.v 2) .nil))) .nil))))
 (.cons (.set 5 (.bi .tuple (.cons (.comp (.tup (.cons (.ix (.v 4) (.op .add (.v 3) (.v 1))) (.cons (.ix (.v 2) (.v 1)) .nil))) (.nm 1) (.rng (.cons (.bi .len (.cons (.v 2) .nil)) .nil)) .nil [gV,gV,ba 2,ba 1,ba 4]) .nil)))
 (.cons (.ret (.tup (.cons (.sl (.v 4) .no (.yes (.v 1))) (.cons (.v 5) (.cons (.bi .tuple (.cons (.bi .sorted (.cons (.v 3) .nil)) .nil)) .nil)))))
 .nil)))
noncomputable def cK:Ss:=
 (.cons (.set 3 (.lst .nil))
 (.cons (.loop (.nm 4) (.rng (.cons (.c (.int 3)) .nil)) (.cons (.ex (.me .append (.v 3) (.cons (.tup (.cons (.own "_law_pick" 2 (.cons (.v 0) (.cons (.v 1) .nil))) (.cons (.bi .tuple (.cons (.comp (.own "_law_pick" 2 (.cons (.v 2) (.cons (.v 3) .nil))) (.nm 1) (.rng (.cons (.v 4) .nil)) .nil [gV,gV,ba 0,ba 2]) .nil)) .nil))) .nil)))
 .nil))
 (.cons (.ret (.bi .tuple (.cons (.v 3) .nil)))
 .nil)))
noncomputable def eZ:Ss:=
 (.cons (.set 1 (.lst (.cons (.tup (.cons (.c (.int 1)) (.cons (.c (.int 1)) .nil))) (.cons (.tup (.cons (.c (.int 2)) (.cons (.c (.int 1)) .nil))) (.cons (.tup (.cons (.c (.int 3)) (.cons (.c (.int 1)) .nil))) (.cons (.tup (.cons (.c (.int 1)) (.cons (.c (.int 2)) .nil))) (.cons (.tup (.cons (.c (.int 1)) (.cons (.c (.int 2)) .nil))) (.cons (.tup (.cons (.c (.int 2)) (.cons (.c (.int 2)) .nil))) (.cons (.tup (.cons (.c (.int 2)) (.cons (.c (.int 2)) .nil))) (.cons (.tup (.cons (.c (.int 3)) (.cons (.c (.int 2)) .nil))) (.cons (.tup (.cons (.c (.int 1)) (.cons (.c (.int 3)) .nil))) (.cons (.tup (.cons (.c (.int 1)) (.cons (.c (.int 3)) .nil))) (.cons (.tup (.cons (.c (.int 2)) (.cons (.c (.int 3)) .nil))) .nil)))))))))))))
 (.cons (.ret (.ix (.v 1) (.own "_law_pick" 2 (.cons (.v 0) (.cons (.c (.int 11)) .nil)))))
 .nil))
noncomputable def dw:Ss:=
 (.cons (.asg [1,2] (.own "_law_sizes" 1 (.cons (.v 0) .nil)))
 (.cons (.set 3 (.own "_law_rule_of" 4 (.cons (.v 0) (.cons (.v 1) (.cons (.own "_law_backs" 2 (.cons (.v 0) (.cons (.v 2) .nil))) (.cons (.tup .nil) .nil))))))
 (.cons (.set 4 .dnew)
 (.cons (.loop (.nm 5) (.rng (.cons (.own "_law_pick" 2 (.cons (.v 0) (.cons (.c (.int 9)) .nil))) .nil)) (.cons (.put (.v 4) (.own "_law_figure" 2 (.cons (.v 3) (.cons (.own "_law_free_three" 3 (.cons (.v 0) (.cons (.v 1) (.cons (.v 2) .nil)))) .nil))) (.c (.bl true)))
 .nil))
 (.cons (.ret (.tup (.cons (.ix (.v 3) (.c (.int 0))) (.cons (.ix (.v 3) (.c (.int 1))) (.cons (.bi .tuple (.cons (.bi .sorted (.cons (.v 4) .nil)) .nil)) .nil)))))
 .nil)))))
noncomputable def cx:Ss:=
 (.cons (.set 1 (.lst (.cons (.tup (.cons (.tup (.cons (.c (.int 1)) (.cons (.c (.int 0)) .nil))) (.cons (.disp (.cons (.tup (.cons (.c (.int 0)) (.cons (.c (.int 0)) .nil))) (.cons (.lst (.cons (.c (.int 0)) .nil)) .nil))) (.cons (.c (.int 3)) .nil)))) (.cons (.tup (.cons (.tup (.cons (.c (.int 0)) (.cons (.c (.int 2)) (.cons (.c (.int 1)) .nil)))) (.cons (.disp (.cons (.tup (.cons (.c (.int 1)) (.cons (.c (.int 1)) .nil))) (.cons (.lst (.cons (.c (.int 1)) .nil)) .nil))) (.cons (.c (.int 2)) .nil)))) (.cons (.tup (.cons (.tup (.cons (.c (.int 0)) (.cons (.c (.int 1)) .nil))) (.cons (.disp (.cons (.tup (.cons (.c (.int 1)) (.cons (.c (.int 1)) .nil))) (.cons (.lst (.cons (.c (.int 1)) .nil)) .nil))) (.cons (.c (.int 3)) .nil)))) .nil)))))
 (.cons (.ex (.me .append (.v 1) (.cons (.tup (.cons (.tup (.cons (.c (.int 0)) (.cons (.c (.int 1)) .nil))) (.cons (.disp (.cons (.tup (.cons (.c (.int 1)) (.cons (.c (.int 1)) .nil))) (.cons (.lst (.cons (.c (.int 1)) .nil)) (.cons (.tup (.cons (.c (.int 0)) (.cons (.c (.int 0)) .nil))) (.cons (.lst (.cons (.c (.int 1)) .nil)) .nil))))) (.cons (.c (.int 3)) .nil)))) .nil)))
 (.cons (.ex (.me .append (.v 1) (.cons (.tup (.cons (.tup (.cons (.c (.int 0)) (.cons (.c (.int 1)) .nil))) (.cons (.disp (.cons (.tup (.cons (.c (.int 1)) (.cons (.c (.int 1)) .nil))) (.cons (.lst .nil) .nil))) (.cons (.c (.int 1)) .nil)))) .nil)))
 (.cons (.ex (.me .append (.v 1) (.cons (.tup (.cons (.tup (.cons (.c (.int 0)) (.cons (.c (.int 2)) (.cons (.c (.int 1)) .nil)))) (.cons (.disp (.cons (.tup (.cons (.c (.int 0)) (.cons (.c (.int 0)) .nil))) (.cons (.lst (.cons (.c (.int 0)) .nil)) (.cons (.tup (.cons (.c (.int 0)) (.cons (.c (.int 1)) .nil))) (.cons (.lst (.cons (.c (.int 1)) .nil)) (.cons (.tup (.cons (.c (.int 1)) (.cons (.c (.int 0)) .nil))) (.cons (.lst (.cons (.c (.int 1)) .nil)) (.cons (.tup (.cons (.c (.int 1)) (.cons (.c (.int 1)) .nil))) (.cons (.lst (.cons (.c (.int 1)) .nil)) .nil))))))))) (.cons (.c (.int 2)) .nil)))) .nil)))
 (.cons (.ex (.me .append (.v 1) (.cons (.tup (.cons (.tup (.cons (.c (.int 1)) (.cons (.c (.int 0)) .nil))) (.cons .dnew (.cons (.c (.int 3)) .nil)))) .nil)))
 (.cons (.ex (.me .append (.v 1) (.cons (.tup (.cons (.tup (.cons (.c (.int 0)) (.cons (.c (.int 1)) (.cons (.c (.int 2)) .nil)))) (.cons (.disp (.cons (.tup (.cons (.c (.int 2)) (.cons (.c (.int 2)) .nil))) (.cons (.lst (.cons (.c (.int 2)) .nil)) (.cons (.tup (.cons (.c (.int 1)) (.cons (.c (.int 2)) .nil))) (.cons (.lst (.cons (.c (.int 1)) .nil)) (.cons (.tup (.cons (.c (.int 2)) (.cons (.c (.int 1)) .nil))) (.cons (.lst (.cons (.c (.int 1)) .nil)) (.cons (.tup (.cons (.c (.int 1)) (.cons (.c (.int 1)) .nil))) (.cons (.lst (.cons (.c (.int 1)) (.cons (.c (.int 2)) .nil))) .nil))))))))) (.cons (.c (.int 2)) .nil)))) .nil)))
 (.cons (.ex (.me .append (.v 1) (.cons (.tup (.cons (.tup (.cons (.c (.int 0)) (.cons (.c (.int 1)) (.cons (.c (.int 2)) .nil)))) (.cons (.disp (.cons (.tup (.cons (.c (.int 0)) (.cons (.c (.int 0)) .nil))) (.cons (.lst (.cons (.c (.int 0)) (.cons (.c (.int 1)) .nil))) .nil))) (.cons (.c (.int 2)) .nil)))) .nil)))
 (.cons (.ret (.ix (.v 1) (.own "_law_pick" 2 (.cons (.v 0) (.cons (.c (.int 9)) .nil)))))
 .nil))))))))
noncomputable def ef:Ss:=
 (.cons (.set 5 (.disp (.cons (.tup (.cons (.c (.int 1)) (.cons (.c (.int 0)) .nil))) (.cons (.v 2) (.cons (.tup (.cons (.c (.int 2)) (.cons (.c (.int 0)) .nil))) (.cons (.v 3) (.cons (.tup (.cons (.c (.int 2)) (.cons (.c (.int 1)) .nil))) (.cons (.v 4) .nil))))))))
 (.cons (.loop (.nm 6) (.seq (.bi .list (.cons (.v 5) .nil))) (.cons (.put (.v 5) (.tup (.cons (.ix (.v 6) (.c (.int 1))) (.cons (.ix (.v 6) (.c (.int 0))) .nil))) (.ix (.v 0) (.ix (.v 5) (.v 6))))
 .nil))
 (.cons (.loop (.tp [7,8,9]) (.seq (.own "_law_turns" 0 .nil)) (.cons (.ite (.cmp .notin (.ix (.v 5) (.tup (.cons (.v 7) (.cons (.v 9) .nil)))) (.me .get (.v 1) (.cons (.tup (.cons (.ix (.v 5) (.tup (.cons (.v 7) (.cons (.v 8) .nil)))) (.cons (.ix (.v 5) (.tup (.cons (.v 8) (.cons (.v 9) .nil)))) .nil))) (.cons (.lst (.cons (.ix (.v 5) (.tup (.cons (.v 7) (.cons (.v 9) .nil)))) .nil)) .nil)))) (.cons (.ret (.c (.bl true)))
 .nil) .nil)
 .nil))
 (.cons (.ret (.c (.bl false)))
 .nil))))
noncomputable def bR:Ss:=
 (.cons (.set 3 (.bi .len (.cons (.v 1) .nil)))
 (.cons (.set 4 (.lst (.cons (.lst (.cons (.tup (.cons (.c (.int 0)) .nil)) .nil)) (.cons (.lst (.cons (.tup (.cons (.c (.int 0)) (.cons (.c (.int 1)) .nil))) (.cons (.tup (.cons (.c (.int 1)) (.cons (.c (.int 0)) .nil))) .nil))) .nil))))
 (.cons (.ex (.me .append (.v 4) (.cons (.lst (.cons (.tup (.cons (.c (.int 0)) (.cons (.c (.int 1)) (.cons (.c (.int 2)) .nil)))) (.cons (.tup (.cons (.c (.int 0)) (.cons (.c (.int 2)) (.cons (.c (.int 1)) .nil)))) (.cons (.tup (.cons (.c (.int 2)) (.cons (.c (.int 0)) (.cons (.c (.int 1)) .nil)))) (.cons (.tup (.cons (.c (.int 2)) (.cons (.c (.int 1)) (.cons (.c (.int 0)) .nil)))) .nil))))) .nil)))
 (.cons (.set 5 (.ix (.v 4) (.op .sub (.v 3) (.c (.int 1)))))
 (.cons (.ite (.cmp .eq (.v 1) (.tup (.cons (.c (.int 0)) (.cons (.c (.int 1)) (.cons (.c (.int 2)) .nil))))) (.cons (.set 5 (.own "_law_turns" 0 .nil))
 .nil) .nil)
 (.cons (.set 6 (.ix (.v 5) (.own "_law_pick" 2 (.cons (.v 0) (.cons (.bi .len (.cons (.v 5) .nil)) .nil)))))
 (.cons (.set 7 (.op .mul (.lst (.cons (.c (.int 0)) .nil)) (.v 3)))
 (.cons (.loop (.nm 8) (.rng (.cons (.v 3) .nil)) (.cons (.put (.v 7) (.ix (.v 6) (.v 8)) (.ix (.v 6) (.ix (.v 1) (.v 8))))
 .nil))
 (.cons (.set 9 .dnew)
 (.cons (.loop (.tp [10,11]) (.seq (.v 2)) (.cons (.put (.v 9) (.tup (.cons (.ix (.v 6) (.v 10)) (.cons (.ix (.v 6) (.v 11)) .nil))) (.comp (.ix (.v 2) (.v 1)) (.nm 1) (.seq (.ix (.v 2) (.tup (.cons (.v 10) (.cons (.v 11) .nil))))) .nil [gV,gV,ba 6]))
 .nil))
 (.cons (.ret (.tup (.cons (.bi .tuple (.cons (.v 7) .nil)) (.cons (.v 9) .nil))))
 .nil)))))))))))
noncomputable def cy:Ss:=
 (.cons (.set 1 (.own "_law_pick" 2 (.cons (.v 0) (.cons (.c (.int 7)) .nil))))
 (.cons (.ite (.cmp .eq (.v 1) (.c (.int 0))) (.cons (.ret (.own "_law_free_rule" 1 (.cons (.v 0) .nil)))
 .nil) .nil)
 (.cons (.ite (.cmp .eq (.v 1) (.c (.int 1))) (.cons (.ret (.own "_law_one_way_rule" 1 (.cons (.v 0) .nil)))
 .nil) .nil)
 (.cons (.asg [2,3,4] (.own "_law_laying_kind" 1 (.cons (.v 0) .nil)))
 (.cons (.set 5 (.op .add (.c (.int 1)) (.own "_law_pick" 2 (.cons (.v 0) (.cons (.v 4) .nil)))))
 (.cons (.asg [2,3] (.own "_law_numbered" 3 (.cons (.v 0) (.cons (.v 2) (.cons (.v 3) .nil)))))
 (.cons (.set 6 (.own "_law_rule_of" 4 (.cons (.v 0) (.cons (.v 5) (.cons (.v 2) (.cons (.tup .nil) .nil))))))
 (.cons (.set 7 .dnew)
 (.cons (.set 8 (.bi .len (.cons (.v 2) .nil)))
 (.cons (.loop (.nm 9) (.rng (.cons (.op .mul (.op .mul (.v 8) (.v 8)) (.v 8)) .nil)) (.cons (.par 10 11 (.cons (.op .mod (.v 9) (.v 8)) (.cons (.op .mod (.op .fdiv (.v 9) (.v 8)) (.v 8)) .nil)))
 (.cons (.set 12 (.op .fdiv (.op .fdiv (.v 9) (.v 8)) (.v 8)))
 (.cons (.ite (.own "_law_breaks" 5 (.cons (.v 2) (.cons (.v 3) (.cons (.v 10) (.cons (.v 11) (.cons (.v 12) .nil)))))) (.cons (.loop (.nm 13) (.seq (.own "_law_rising" 1 (.cons (.v 5) .nil))) (.cons (.set 14 (.tup (.cons (.tup (.cons (.ix (.v 13) (.c (.int 0))) (.cons (.tup .nil) .nil))) (.cons (.tup (.cons (.ix (.v 13) (.c (.int 1))) (.cons (.tup (.cons (.v 10) .nil)) .nil))) .nil))))
 (.cons (.put (.v 7) (.own "_law_figure" 2 (.cons (.v 6) (.cons (.op .add (.v 14) (.tup (.cons (.tup (.cons (.ix (.v 13) (.c (.int 2))) (.cons (.tup (.cons (.v 11) (.cons (.v 12) .nil))) .nil))) .nil))) .nil))) (.c (.bl true)))
 .nil)))
 .nil) .nil)
 .nil))))
 (.cons (.ret (.tup (.cons (.ix (.v 6) (.c (.int 0))) (.cons (.ix (.v 6) (.c (.int 1))) (.cons (.bi .tuple (.cons (.bi .sorted (.cons (.v 7) .nil)) .nil)) .nil)))))
 .nil)))))))))))
noncomputable def eg:Ss:=
 (.cons (.set 1 (.lst .nil))
 (.cons (.loop (.nm 2) (.rng (.cons (.v 0) .nil)) (.cons (.loop (.nm 3) (.rng2 (.cons (.v 2) (.cons (.v 0) .nil))) (.cons (.set 1 (.op .add (.v 1) (.comp (.tup (.cons (.v 2) (.cons (.v 3) (.cons (.v 1) .nil)))) (.nm 1) (.rng2 (.cons (.v 3) (.cons (.v 0) .nil))) .nil [gV,gV,ba 2,ba 3])))
 .nil))
 .nil))
 (.cons (.ret (.v 1))
 .nil)))
noncomputable def c8:Ss:=
 (.cons (.asg [1,2] (.own "_law_sizes" 1 (.cons (.v 0) .nil)))
 (.cons (.set 3 (.own "_law_rule_of" 4 (.cons (.v 0) (.cons (.v 1) (.cons (.own "_law_backs" 2 (.cons (.v 0) (.cons (.v 2) .nil))) (.cons (.tup .nil) .nil))))))
 (.cons (.set 5 (.comp (.v 1) (.nm 1) (.rng (.cons (.v 2) .nil)) (.cons (.cmp .eq (.ix (.ix (.ix (.v 2) (.c (.int 1))) (.v 1)) (.c (.int 1))) (.v 1)) .nil) [gV,gV,ba 3]))
 (.cons (.ite (.or (.cmp .eq (.v 5) (.lst .nil)) (.cmp .eq (.v 2) (.c (.int 1)))) (.cons (.ret (.v 3))
 .nil) .nil)
 (.cons (.set 6 (.ix (.v 5) (.own "_law_pick" 2 (.cons (.v 0) (.cons (.bi .len (.cons (.v 5) .nil)) .nil)))))
 (.cons (.set 7 .dnew)
 (.cons (.loop (.nm 4) (.rng (.cons (.own "_law_pick" 2 (.cons (.v 0) (.cons (.c (.int 9)) .nil))) .nil)) (.cons (.set 8 (.own "_law_free_three" 3 (.cons (.v 0) (.cons (.v 1) (.cons (.v 2) .nil)))))
 (.cons (.ite (.and (.cmp .ne (.ix (.ix (.ix (.v 8) (.c (.int 1))) (.c (.int 1))) (.c (.int 0))) (.v 6)) (.cmp .notin (.v 6) (.ix (.ix (.v 8) (.c (.int 2))) (.c (.int 1))))) (.cons (.put (.v 7) (.own "_law_figure" 2 (.cons (.v 3) (.cons (.v 8) .nil))) (.c (.bl true)))
 .nil) .nil)
 .nil)))
 (.cons (.ret (.tup (.cons (.ix (.v 3) (.c (.int 0))) (.cons (.ix (.v 3) (.c (.int 1))) (.cons (.bi .tuple (.cons (.bi .sorted (.cons (.v 7) .nil)) .nil)) .nil)))))
 .nil))))))))
noncomputable def cm:Ss:=
 (.cons (.set 1 (.op .add (.c (.int 1)) (.own "_law_pick" 2 (.cons (.v 0) (.cons (.c (.int 3)) .nil)))))
 (.cons (.set 2 (.comp (.tup (.cons (.tup (.cons (.v 1) (.cons (.tup .nil) .nil))) (.cons (.tup (.cons (.v 1) (.cons (.tup (.cons (.c (.int 0)) .nil)) .nil))) (.cons (.tup (.cons (.v 1) (.cons (.tup (.cons (.c (.int 0)) (.cons (.c (.int 0)) .nil))) .nil))) .nil)))) (.nm 1) (.rng (.cons (.v 1) .nil)) (.cons (.cmp .eq (.own "_law_pick" 2 (.cons (.v 2) (.cons (.c (.int 2)) .nil))) (.c (.int 0))) .nil) [gV,gV,ba 0]))
 (.cons (.ret (.own "_law_rule_of" 4 (.cons (.v 0) (.cons (.v 1) (.cons (.tup (.cons (.c (.int 0)) .nil)) (.cons (.v 2) .nil))))))
 .nil)))
noncomputable def bW:Ss:=
 (.cons (.set 3 (.lst .nil))
 (.cons (.loop (.nm 4) (.rng (.cons (.v 2) .nil)) (.cons (.set 5 (.own "_law_pick" 2 (.cons (.v 0) (.cons (.bi .len (.cons (.ix (.v 1) (.c (.int 0))) .nil)) .nil))))
 (.cons (.ex (.me .append (.v 3) (.cons (.tup (.cons (.v 5) (.cons (.bi .tuple (.cons (.comp (.own "_law_pick" 2 (.cons (.v 2) (.cons (.bi .len (.cons (.ix (.v 3) (.c (.int 1))) .nil)) .nil))) (.nm 1) (.rng (.cons (.v 4) .nil)) .nil [gV,gV,ba 0,ba 1]) .nil)) .nil))) .nil)))
 .nil)))
 (.cons (.ret (.bi .tuple (.cons (.v 3) .nil)))
 .nil)))
noncomputable def bL:Ss:=
 (.cons (.ite (.cmp .is (.v 1) (.c .non)) (.cons (.ret (.cmp .is (.v 0) (.c .non)))
 .nil) .nil)
 (.cons (.ite (.or (.isi "bool" (.v 1)) (.isi "bool" (.v 0))) (.cons (.ret (.and (.isi "bool" (.v 1)) (.and (.isi "bool" (.v 0)) (.cmp .eq (.v 0) (.v 1)))))
 .nil) .nil)
 (.cons (.ite (.isi "int" (.v 1)) (.cons (.ret (.and (.isi "int" (.v 0)) (.cmp .eq (.v 0) (.v 1))))
 .nil) .nil)
 (.cons (.ite (.isi "str" (.v 1)) (.cons (.ret (.and (.isi "str" (.v 0)) (.cmp .eq (.v 0) (.v 1))))
 .nil) .nil)
 (.cons (.ite (.or (.cmp .ne (.isi "tuple" (.v 1)) (.isi "tuple" (.v 0))) (.cmp .ne (.isi "list" (.v 1)) (.isi "list" (.v 0)))) (.cons (.ret (.c (.bl false)))
 .nil) .nil)
 (.cons (.ret (.and (.cmp .eq (.bi .len (.cons (.v 0) .nil)) (.bi .len (.cons (.v 1) .nil))) (.bi .all (.cons (.comp (.own "_law_alike" 2 (.cons (.ix (.v 3) (.v 1)) (.cons (.ix (.v 2) (.v 1)) .nil))) (.nm 1) (.rng (.cons (.bi .len (.cons (.v 1) .nil)) .nil)) .nil [gV,gV,ba 1,ba 0]) .nil))))
 .nil))))))
noncomputable def Is (defs:Jf (JG×Df))(f:JG)(np nn:Jp)(b:Ss):Prop:=∃df:Df,defs.lookup f=ba df/\df.ps.length=np/\df.N.length=nn/\df.body=b
theorem az {defs:Jf (JG×Df)}{fuel d:Jp}{f:JG}{np nn:Jp}{b:Ss}{ws:Jf W}{S:aa}{Q:QW}(h:Is defs f np nn b)(hl:ws.length=np)(ok:gY b=true)
  (hb:∀Q':QO,(∀w S',Q (w,S')->Q' (.rt w,S'))->wZ (ap defs fuel d) fuel b (ws.map ba++J8 (nn - np) gV) S Q'):wO (bF (ap defs fuel (d+1)) f np ws S) Q:=by
 obtain⟨df,h1,h2,h3,h4⟩:=h;subst h4;refine Ez h1 hl (hl.trans h2.symm) ok λQ' hR=>?_
 have:=hb Q' hR;unfold fO;rw[h3,hl];exact this
structure Gen (defs:Jf (JG×Df)):Prop where
 pick:Is defs ("_law_pick" : JG) 2 4 dc
 letters:Is defs ("_law_letters" : JG) 2 2 dH
 name:Is defs ("_law_name" : JG) 2 3 fR
 names:Is defs ("_law_names" : JG) 2 7 di
 between:Is defs ("_law_between" : JG) 4 4 dI
 part:Is defs ("_law_part" : JG) 3 6 fS
 turns:Is defs ("_law_turns" : JG) 0 0 gr
 figure:Is defs ("_law_figure" : JG) 2 2 ee
 backs:Is defs ("_law_backs" : JG) 2 3 eY
 rule_of:Is defs ("_law_rule_of" : JG) 4 6 dJ
 free_three:Is defs ("_law_free_three" : JG) 3 5 cK
 sizes:Is defs ("_law_sizes" : JG) 1 2 eZ
 any_rule:Is defs ("_law_any_rule" : JG) 1 6 dw
 laying_kind:Is defs ("_law_laying_kind" : JG) 1 2 cx
 breaks:Is defs ("_law_breaks" : JG) 5 10 ef
 numbered:Is defs ("_law_numbered" : JG) 3 12 bR
 laying_rule:Is defs ("_law_laying_rule" : JG) 1 15 cy
 rising:Is defs ("_law_rising" : JG) 1 4 eg
 free_rule:Is defs ("_law_free_rule" : JG) 1 9 c8
 one_way_rule:Is defs ("_law_one_way_rule" : JG) 1 3 cm
structure FlA (S:aa)(r q:Jp)(ns:Jf Jy)(i c x n:Jy):Prop where
 at_r:S[r]?=ba (.lst [.ref q,.int i,.int c,.int x,.int n])
 at_q:S[q]?=ba (.lst (ns.map W.int))
 lt:q < r
 i0:0<=i
 c0:0<=c
 x0:0<=x
 x1:x < 2147483647
theorem FlA.ne {S:aa}{r q:Jp}{ns:Jf Jy}{i c x n:Jy}(h:FlA S r q ns i c x n):q≠r:=JM h.lt
noncomputable def Fl (S:aa)(r:Jp):Prop:=∃(q:Jp) (ns:Jf Jy) (i c x n:Jy),FlA S r q ns i c x n
theorem FlA.put {S:aa}{r q:Jp}{ns:Jf Jy}{i c x n i' c' x' n':Jy}(h:FlA S r q ns i c x n)(h1:0<=i')(h2:0<=c')(h3:0<=x')(h4:x' < 2147483647):FlA (S.set r (.lst [.ref q,.int i',.int c',.int x',.int n'])) r q ns i' c' x' n':=
 ⟨cf h.at_r,by rw[cg (Ne.symm h.ne)]; exact h.at_q,h.lt,h1,h2,h3,h4⟩
theorem Fl.keep {S S':aa}{r:Jp}(h:Fl S r)(h1:S'[r]?=S[r]?)(k:Kp r S S'):Fl S' r:=
 let ⟨q,ns,i,c,x,n,f⟩:=h; ⟨q,ns,i,c,x,n,by rw[h1]; exact f.at_r,k.get _ _ f.ne f.at_q,f.lt,f.i0,f.c0,f.x0,f.x1⟩
theorem Fl.lt {S:aa}{r:Jp}(h:Fl S r):r < S.length:=let ⟨_,_,_,_,_,_,f⟩:=h; dv f.at_r
structure Ka (S S':aa):Prop where
 get:∀(j:Jp) (o:O),S[j]?=ba o->S'[j]?=ba o
 len:S.length<=S'.length
theorem Ka.refl {S:aa}:Ka S S:=⟨λ_ _ h=>h,Js _⟩
theorem Ka.trans {S S' S'':aa}(a:Ka S S')(b:Ka S' S''):Ka S S'':=⟨λj o h=>b.get j o (a.get j o h),JF a.len b.len⟩
theorem Ka.push {S:aa}{o:O}:Ka S (S++[o]):=⟨λj u h=>aq h,by simp⟩
theorem Ka.late {t:Jp}{S0 S:aa}{o:O}(a:Ka S0 S)(h:S0.length<=t):Ka S0 (S.set t o):=
 ⟨λj u e=>by have:=dv e; rw[cg (by omega)]; exact a.get j u e,by simpa using a.len⟩
theorem Ka.kp {S S':aa}(a:Ka S S')(r:Jp):Kp r S S':=⟨λj o _ h=>a.get j o h,a.len⟩
theorem Fl.ka {S S':aa}{r:Jp}(h:Fl S r)(k:Ka S S'):Fl S' r:=h.keep (by obtain⟨q,ns,i,c,x,n,f⟩:=h; rw[k.get _ _ f.at_r,f.at_r]) (k.kp r)
theorem Fl.own {S:aa}{r t:Jp}{o:O}(h:Fl S r)(ht:r < t):Fl (S.set t o) r:=by
 obtain⟨q,ns,i,c,x,n,f⟩:=h;have:=f.lt;exact⟨q,ns,i,c,x,n,by rw[cg (J2 ‹_›)]; exact f.at_r,by rw[cg (by omega)]; exact f.at_q,f.lt,f.i0,f.c0,f.x0,f.x1⟩
theorem eR {S:aa}{r:Jp}{xs:Jf W}{i:Jp}{w:W}{Q:QW}(h:S[r]?=ba (.lst xs))(hw:xs[i]?=ba w)(q:Q (w,S)):wO (r9 (.ref r) (.int (i:Jy)) S) Q:=ae (yZ h (JD i) (by rw[JH]; exact hw)) q
theorem oo {S:aa}{r:Jp}{xs:Jf W}{i:Jp}{w:W}{Q:aa->Prop}(h:S[r]?=ba (.lst xs))(hi:SK (i+1) xs.length=true)(q:Q (S.set r (.lst (xs.set i w)))):wO (iV (.ref r) (.int (i:Jy)) w S) Q:=ae (CN h (JD i) (by rw[JH]; exact JJ hi)) (by rw[JH]; exact q)
section
variable{defs:Jf (JG×Df)}{fuel d:Jp}{S:aa}{r:Jp}{Q:QW}
theorem be (hd:Is defs ("_law_pick" : JG) 2 4 dc){m:Jy}(hf:Fl S r)(h0:0 < m)(h1:m < 1073741824)(k:∀v S',0<=v->v < m->Fl S' r->Kp r S S'->Q (.int v,S')) :
  wO (bF (ap defs fuel (d+1)) "_law_pick" 2 [.ref r,.int m] S) Q:=by
 obtain⟨q,ns,i,c,x,n,f⟩:=hf;refine az hd rfl rfl λQ' hR=>?_
 replace k:∀v S',0<=v->v < m->Fl S' r->Kp r S S'->Q' (.rt (.int v),S'):=λv S' a b c e=>hR _ _ (k v S' a b c e)
 clear hR;show wZ _ _ dc [ba (.ref r),ba (.int m),gV,gV] S Q';have cb:∀(S1:aa) (w2:Jn W) (i1 c1 x1 n1:Jy),FlA S1 r q ns i1 c1 x1 n1->Kp r S S1->wZ (ap defs fuel d) fuel (match dc with|.cons _ ss=>ss|.nil=>.nil) [ba (.ref r),ba (.int m),w2,gV] S1 Q':=by
  intro S1 w2 i1 c1 x1 n1 f1 k1;dsimp only[dc];refine st ?_;dsimp only[wS,wT,wE,wV,wG];refine eR (i:=2) f1.at_r rfl ?_;dsimp only[Gy,wO,wB];refine aw (Q0:=Q') (λhg Q2 hn hr=>?_) (λhg Q2 hn hr=>?_)
  ·clear hn;refine st ?_;dsimp only[wS,wE,wV,wG];refine eR (i:=2) f1.at_r rfl (ae (i3 h0) ?_);refine st ?_;dsimp only[wS,wE,wV,wG,Jx];refine eR (i:=2) f1.at_r rfl (ae (iA h0 h1) (oo (i:=2) f1.at_r rfl ?_));refine st ?_;dsimp only[wS,wE,wV,wG,Jx];exact hr _ _ (k _ _ (LU _ (by omega)) (LN _ h0) ⟨q,ns,i1,c1 / m,x1,n1,f1.put f1.i0 (Nk f1.c0 (by omega)) f1.x0 f1.x1⟩ (k1.trans .set))
  ·refine cr (hn _ _ ?_);clear hn hr;have f2:FlA (S1.set r (.lst [.ref q,.int i1,.int c1,.int x1,.int (n1+1)])) r q ns i1 c1 x1 (n1+1):=f1.put f1.i0 f1.c0 f1.x0 f1.x1;refine st ?_;dsimp only[wS,wE,wV,wG];refine eR (i:=4) f1.at_r rfl ?_;dsimp only[cN,wO];refine oo (i:=4) f1.at_r rfl ?_;refine st ?_;dsimp only[wS,wE,wV,wG,Jx];refine eR (i:=3) f2.at_r rfl (ae (rm (by decide) (by decide)) ?_)
   dsimp only[cN,wO];refine eR (i:=4) f2.at_r rfl ?_;dsimp only[cN,wO];refine(oo (i:=3) f2.at_r rfl ?_);have f3:FlA ((S1.set r (.lst [.ref q,.int i1,.int c1,.int x1,.int (n1+1)])).set r (.lst [.ref q,.int i1,.int c1,.int ((x1*48271+12820163+(n1+1)) % 2147483647),.int (n1+1)])) r q ns i1 c1 ((x1*48271+12820163+(n1+1)) % 2147483647) (n1+1):=f2.put f1.i0 f1.c0 (LU _ (by decide)) (LN _ (by decide))
   dsimp only[Jx];generalize(x1*48271+12820163+(n1+1)) % 2147483647=y at f3 ⊢;have b1:y / 65521+7919 < 2 ^ 64:=by
    have:=f3.x1;have:=Int.ediv_le_self 65521 f3.x0;omega
   have b2 : -(2 ^ 64) < y / 65521+7919:=by
    have:=Nk f3.x0 (show(0:Jy)<=65521 by decide)
    omega
   refine st ?_;dsimp only[wS,wE,wV,wG,Jx];refine eR (i:=3) f3.at_r rfl (ae (i3 (by decide)) ?_)
   dsimp only[cN,wO];refine eR (i:=3) f3.at_r rfl ?_;dsimp only[cN,wO];refine ae (rm b2 b1) ?_;refine ae (i3 h0) ?_;exact k _ _ (LU _ (by omega)) (LN _ h0) ⟨q,ns,_,_,_,_,f3⟩ (k1.trans (Kp.set.trans .set))
 dsimp only[dc]at cb ⊢;refine st ?_;dsimp only[wS,wT,wE,wV,wG,wA];refine eR (i:=2) f.at_r rfl ?_;dsimp only[gX,wO,wB];have skip:∀Q2:QO,(∀ρ' S',wZ (ap defs fuel d) fuel _ ρ' S' Q'->Q2 (.nx ρ',S'))->Q2 (.nx [ba (.ref r),ba (.int m),gV,gV],S):=λQ2 hn=>hn _ _ (cb S gV i c x n f .refl)
 refine⟨λ_=>?_,λ_ Q2 hn hr=>⟨λz=>(by cases z),λ_=>(cr (skip Q2 hn)).out⟩⟩
 refine eR (i:=1) f.at_r rfl (eR (i:=0) f.at_r rfl (ae (CO f.at_q) ?_));dsimp only[BS,wO,wB];refine aw (Q0:=Q') (λhl Q2 hn _=>?_) (λhg Q2 hn hr=>cr (skip Q2 hn))
 clear skip;have hl':i.toNat < ns.length:=by
  have:=Kn hl;rw[Ji]at this;have:=f.i0;omega
 have hcell:(ns.map W.int)[i.toNat]?=ba (.int ns[i.toNat]):=by simp[hl']
 generalize ns[i.toNat]=cell at hcell;have f1:FlA (S.set r (.lst [.ref q,.int (i+1),.int c,.int x,.int n])) r q ns (i+1) c x n:=f.put (by have:=f.i0; omega) f.c0 f.x0 f.x1
 refine st ?_;dsimp only[wS,wE,wV,wG];refine eR (i:=0) f.at_r rfl (eR (i:=1) f.at_r rfl (ae (yZ f.at_q f.i0 hcell) ?_));refine st ?_;dsimp only[wS,wE,wV,wG,Jx];refine eR (i:=1) f.at_r rfl ?_;dsimp only[cN,wO];refine oo (i:=1) f.at_r rfl ?_;refine st ?_;dsimp only[wS,wT,wE,wV,wG,Ex,Il,wO,wB];refine aw (Q0:=Q') (λhg Q3 hn3 _=>?_) (λhg Q3 hn3 _=>?_)
 ·refine st ?_;dsimp only[wS,wE,wV,wG];refine oo (i:=2) f1.at_r rfl (cr (hn3 _ _ (cr (hn _ _ ?_))));exact cb _ _ (i+1) cell x n (f1.put f1.i0 (by have:=Kn hg; omega) f.x0 f.x1) (Kp.set.trans .set)
 ·refine st ?_;dsimp only[wS,wE,wV,wG];refine eR (i:=3) f1.at_r rfl (ae (rm (by decide) (by decide)) (ae (i3 (by decide)) ?_))
  dsimp only[cN,wO];refine oo (i:=3) f1.at_r rfl (cr (hn3 _ _ (cr (hn _ _ ?_))));exact cb _ _ (i+1) c _ n (f1.put f1.i0 f.c0 (LU _ (by decide)) (LN _ (by decide))) (Kp.set.trans .set)
end
noncomputable def dr:Jp->Ss->Ss
 | 0,ss=>ss
 | n+1,.cons _ ss=>dr n ss
 | _,.nil=>.nil
theorem aT {α:Type}{a:α}{Q:α->Prop}:wO (ba a) Q=Q a:=rfl
theorem aZ {Φ:JG->FF}{fuel:Jp}{ρ:Fm}{S:aa}{Q:QO}{s:Sm}{ss:Ss}(h:∀K:Fm->aa->Prop,(∀ρ' S',wZ Φ fuel ss ρ' S' Q->K ρ' S')->wS Φ fuel s ρ S K Q):wZ Φ fuel (.cons s ss) ρ S Q:=st (h _ λ_ _ h=>h)
theorem GM {Φ:JG->FF}{fuel:Jp}{ρ:Fm}{S:aa}{i:Jp}{e:E}{K:Fm->aa->Prop}{Q:QO}(h:wE Φ e ρ S λp=>K (ρ.set i (ba p.1)) p.2):wS Φ fuel (.set i e) ρ S K Q:=h
theorem gv {n:Jp}(h:SK n 1000=true):n<=sizeLine:=JF (JJ h) (by rw[Ki]; decide)
theorem kB {n:Jp}(h:n<=1000):n<=sizeLine:=JF h (by rw[Ki]; decide)
theorem gw {S:aa}{r:Jp}{xs:Jf W}{i:Jy}{w:W}{Q:QW}(h:S[r]?=ba (.lst xs))(h0:0<=i)(hw:xs[i.toNat]?=ba w)(q:Q (w,S)):wO (r9 (.ref r) (.int i) S) Q:=ae (yZ h h0 hw) q
theorem am {S:aa}{xs:Jf W}{i:Jy}{w:W}{Q:QW}(h0:0<=i)(hw:xs[i.toNat]?=ba w)(q:Q (w,S)):wO (r9 (.tup xs) (.int i) S) Q:=ae (GB h0 hw) q
theorem lQ {S:aa}{r:Jp}{xs:Jf W}{y:W}{Q:QW}(h:S[r]?=ba (.lst xs))(hl:xs.length < 1000)(q:Q (.non,S.set r (.lst (xs++[y])))):wO (Me.append.fn (.ref r) [y] S) Q:=ae (y4 h (JR hl (gv rfl))) q
theorem i6 {S:aa}{r:Jp}{xs:Jf W}{Q:QW}(h:S[r]?=ba (.lst xs))(q:Q (.int xs.length,S)):wO (Bi.len.fn [.ref r] S) Q:=ae (CO h) q
theorem bK {S:aa}{xs:Jf W}{Q:QW}(q:Q (.int xs.length,S)):wO (Bi.len.fn [.tup xs] S) Q:=q
theorem ff {S:aa}{r:Jp}{xs:Jf W}{Q:QW}(h:S[r]?=ba (.lst xs))(q:Q (.tup xs,S)):wO (Bi.tuple.fn [.ref r] S) Q:=ae (GC h) q
section
variable{Φ:JG->FF}{fuel:Jp}{ρ:Fm}{S S1:aa}{K:Fm->aa->Prop}
theorem dD {t:E}{a:Ss}{Q:QO}(ht:∀Q:QB,Q (false,S1)->wT Φ t ρ S Q)(h:K ρ S1):wS Φ fuel (.ite t a .nil) ρ S K Q:=by
 dsimp only[wS];exact ht _ λQ' h1 h2=>⟨λz=>(by cases z),λ_=>(cr (h1 _ _ h)).out⟩
theorem oq {t:E}{a b:Ss}{Q:QO}(ht:∀Q:QB,Q (true,S1)->wT Φ t ρ S Q)(h:∀Q':QO,(∀ρ' S',K ρ' S'->Q' (.nx ρ',S'))->(∀w S',Q (.rt w,S')->Q' (.rt w,S'))->wZ Φ fuel a ρ S1 Q'):wS Φ fuel (.ite t a b) ρ S K Q:=by
 dsimp only[wS];exact ht _ λQ' h1 h2=>⟨λ_=>(h Q' h1 λw S' q=>h2 (.rt w) S' (λ_ z=>nomatch z) q).out,λz=>(by cases z)⟩
end
theorem y9:∀k:Fin 26,("abcdefghijklmnopqrstuvwxyz" : JG).cps.toList[k.val]?=ba (97+k.val):=by decide
theorem uQ:("abcdefghijklmnopqrstuvwxyz" : JG).length<=sizeLine:=by decide
theorem lR:∀cs:Jf Jp,jt (cs.map λc=>W.str ⟨[c].toArray⟩)=ba (cs.map λc=>(⟨[c].toArray⟩ : JG))
 | []=>rfl
 | c::cs=>by simp[jt,lR cs]
theorem ou:∀cs:Jf Jp,((cs.map λc=>(⟨[c].toArray⟩ : JG)).map (·.length)).sum=cs.length
 | []=>rfl
 | c::cs=>by
  have:=ou cs;simp only[KF,List.sum_cons,Ky];rw[this];show 1+cs.length=_;omega
theorem fT (a b:JG):(a++b).cps.toList=a.cps.toList++b.cps.toList:=Np
theorem lS:∀cs:Jf Jp,(SD "" (cs.map λc=>(⟨[c].toArray⟩ : JG))).cps.toList=cs
 | []=>rfl
 | [c]=>rfl
 | c::d::cs=>by
  have ih:=lS (d::cs);show(((⟨[c].toArray⟩ : JG)++("" : JG)++SD "" ((d::cs).map λc=>(⟨[c].toArray⟩ : JG))).cps).toList=_
  rw[fT,fT,ih];rfl
theorem rn (cs:Jf Jp):(RP "" (cs.map λc=>(⟨[c].toArray⟩ : JG))).cps.toList=cs:=by
 show(Sh "" _).cps.toList=_;rw[StrLaws.glued_eq_join];exact lS cs
noncomputable def uR (y:JG):Prop:=∀c∈y.cps.toList,97<=c/\c<=122
noncomputable def Name (y:JG):Prop:=1<=y.cps.toList.length/\y.cps.toList.length<=8/\uR y
theorem uS (y:JG):y.length=y.cps.toList.length:=by simp[R5]
noncomputable def zb:Jf JG:=["markss","mark","way","wayss","bars","ba","somex","eachx","note","no","ands","ors","o","iss"]
theorem wa:∀y∈zb,Name y:=by
 have h:zb.all (λy=>decide (1<=y.cps.toList.length/\y.cps.toList.length<=8)&&y.cps.toList.all λc=>decide (97<=c/\c<=122))=true:=by decide
 intro y hy;have:=JO.mp h y hy;rw[Jo]at this;obtain⟨a,b⟩:=this;exact⟨(Kn a).1,(Kn a).2,λc hc=>Kn (JO.mp b c hc)⟩
theorem lT {α:Type}{f:α->W}{xs:Jf α}{i:Jp}(h:i < xs.length):∃x∈xs,(xs.map f)[i]?=ba (f x):=⟨xs[i],Kq _,by rw[Jr,Jw h]; rfl⟩
section
variable{defs:Jf (JG×Df)}{fuel d:Jp}{S:aa}{r:Jp}{Q:QW}
theorem jE (G:Gen defs){m:Jy}(hf:Fl S r)(h0:0<=m)(h1:m<=1000)(k:∀y S',y.cps.toList.length=m.toNat->uR y->Fl S' r->Kp r S S'->Q (.str y,S')) :
  wO (bF (ap defs fuel (d+2)) "_law_letters" 2 [.ref r,.int m] S) Q:=by
 refine az G.letters rfl rfl λQ' hR=>?_
 show wZ _ _ dH [ba (.ref r),ba (.int m)] S Q';dsimp only[dH];refine st ?_;dsimp only[wS,wE,wA];refine⟨rfl,d8 m (λi ys ρ S'=>(∃a,ρ=[gV,a,ba (.ref r)])/\Fl S' r/\Kp r S S'/\∃cs:Jf Jp,ys=cs.map (λc=>W.str ⟨[c].toArray⟩)/\cs.length=i/\∀c∈cs,97<=c/\c<=122) rfl rfl rfl ⟨by omega,by omega⟩ ⟨rfl,⟨gV,rfl⟩,hf,.refl,[],rfl,rfl,λ_ h=>nomatch h⟩ ?_ ?_⟩
 ·rintro i ys ρ S1 hi ⟨⟨a,rfl⟩,f1,k1,cs,rfl,hl,hc⟩;dsimp only[mG,wC,wE,wA,wV,wG,Jx];refine⟨λ_=>be (d:=d) G.pick f1 (by decide) (by decide) λv S2 h2 h3 f2 k2=>?_,λz=>by cases z⟩
  have ha:=y9 ⟨v.toNat,by omega⟩
  refine ae (CM uQ h2 ha) ⟨⟨_,rfl⟩,f2,k1.trans k2,cs++[97+v.toNat],by simp,by simp[hl],λc hx=>?_⟩
  rcases J9.mp hx with h|h
  ·exact hc c h
  ·rw[JC.mp h]; omega
 ·rintro ys ρ S1 ⟨_,f1,k1,cs,rfl,hl,hc⟩;refine⟨by rw[Ji,hl,Ki]; omega,?_⟩
  have hz:((cs.map λc=>(⟨[c].toArray⟩ : JG)).map (·.length)).sum+(cs.map λc=>(⟨[c].toArray⟩ : JG)).length*("" : JG).length<=16777216:=by
   rw[ou,show("" : JG).length=0 from rfl,Oq]
   omega
  refine ae (a:=(.str (RP "" (cs.map λc=>(⟨[c].toArray⟩ : JG))),S1++[.lst (cs.map λc=>W.str ⟨[c].toArray⟩)])) ?_ (hR _ _ (k _ _ (by rw[rn,hl]) (λc h=>hc c (by rw[rn]at h; exact h)) (f1.ka .push) (k1.trans .push)))
  simp only[Me.fn,tX,eT,bc aj,lR];rw[JN hz]
theorem EA (G:Gen defs){y:JG}(hf:Fl S r)(h0:y.cps.toList.length<=6)(h1:uR y)(k:∀z S',Name z->Fl S' r->Kp r S S'->Q (.str z,S')) :
  wO (bF (ap defs fuel (d+3)) "_law_name" 2 [.ref r,.str y] S) Q:=by
 refine az G.name rfl rfl λQ' hR=>?_
 replace k:∀z S',Name z->Fl S' r->Kp r S S'->Q' (.rt (.str z),S'):=λz S' a b c=>hR _ _ (k z S' a b c)
 clear hR;show wZ _ _ fR [ba (.ref r),ba (.str y),gV] S Q';dsimp only[fR];refine aZ λK hK=>?_
 dsimp only[wS,wT,wE,wV,wG,Gz,wO,wB];refine aw (Q0:=Q') (λ_ Q2 _ hr=>?_) (λ_ Q2 hn _=>?_)
 ·refine st ?_;dsimp only[wS,wE,wA,wV,wG];refine be (d:=d+1) G.pick hf (by decide) (by decide) λv S1 v0 v1 f1 k1=>?_
  dsimp only[cN,wO];refine jE (d:=d) G f1 (by omega) (by omega) λz S2 hz hs f2 k2=>?_
  have hl:(y++z).cps.toList.length=y.cps.toList.length+z.cps.toList.length:=by rw[fT,Jt]
  refine ae (Ey (by rw[uS,uS,Ki]; omega)) (hr _ _ (k _ _ ⟨by omega,by omega,λc hc=>?_⟩ f2 (k1.trans k2)))
  rw[fT]at hc;exact(J9.mp hc).elim (h1 c) (hs c)
 ·refine cr (hn _ _ (hK _ _ ?_));clear hn hK;refine aZ λK hK=>?_
  dsimp only[wS,wT,wE,wA,wV,wG];refine be (d:=d+1) G.pick hf (by decide) (by decide) λv S1 v0 v1 f1 k1=>?_
  dsimp only[gX,wO,wB];refine aw (Q0:=Q') (λ_ Q2 _ hr=>?_) (λ_ Q2 hn _=>?_)
  ·refine st ?_;dsimp only[wS,wE,wA,wV,wG,Jx];refine st ?_;dsimp only[wS,wE,wA,wV,wG,Jx];refine ae (yY (i:=S1.length) (j:=(S1++[_]).length) (aq aj) aj (gv rfl)) ?_;dsimp only;refine st ?_;dsimp only[wS,wE,wA,wV,wG,Jx];refine be (d:=d+1) G.pick (((f1.ka .push).ka .push).ka .push) (by decide) (by decide) λv S2 v0 v1 f2 k2=>?_
   have e:=k2.get _ _ (by have:=f1.lt; simp only[Jt]; omega) aj
   obtain⟨z,hz,ez⟩:=lT (f:=W.str) (xs:=zb) (i:=v.toNat) (by show v.toNat < 14; omega)
   exact gw e v0 ez (hr _ _ (k _ _ (wa z hz) f2 (k1.trans (Kp.push.trans (Kp.push.trans (Kp.push.trans k2))))))
  ·refine cr (hn _ _ (hK _ _ ?_));clear hn hK;refine st ?_;dsimp only[wS,wE,wA,wV,wG];refine be (d:=d+1) G.pick f1 (by decide) (by decide) λv S2 v0 v1 f2 k2=>?_
   dsimp only[cN,wO];exact jE (d:=d) G f2 (by omega) (by omega) λz S3 hz hs f3 k3=>k _ _ ⟨by omega,by omega,hs⟩ f3 (k1.trans (k2.trans k3))
end
theorem lU {α:Type}[Mo α]:∀(l m:Jf α),l.Nodup->(∀x∈l,x∈m)->l.length<=m.length
 | [],_,_,_=>KY _
 | x::l,m,hn,hs=>by
  rw[LD]at hn;have hx:x∈m:=hs x (.head _);have h1:=lU l (m.erase x) hn.2 λy hy=>(List.mem_erase_of_ne (λ(e:y=x)=>hn.1 (by rw[<- e]; exact hy))).mpr (hs y (.tail _ hy))
  rw[List.length_erase_of_mem hx]at h1;have:=List.length_pos_of_mem hx;rw[Ky]; omega
noncomputable def mM (k:Jp):JG:=⟨[97+k].toArray⟩
theorem zd {a b:Jp}(h:mM a=mM b):a=b:=by
 unfold mM at h;injection h with h
 injection h with h
 injection h with h
 omega
theorem rq (s:Jp):((Kh s).map mM).Nodup:=by
 unfold Sc;rw[NY];exact List.nodup_range.imp λh e=>h (zd e)
theorem wb {k:Jp}(h:k < 26):Name (mM k):=⟨Js 1,(by decide:1<=8),λc hc=>by
 cases JC.mp (show c∈[97+k]from hc)
 omega⟩
noncomputable def iC:Jf JG:=["marks","ways","bar","some","each","not","and","or","is"]
theorem ze (zs:Jf JG):(zs.map W.str).all cp=true:=by
 rw[JO];intro x hx;obtain⟨z,_,rfl⟩:=JT.mp hx;rfl
theorem BX (zs:Jf JG)(y:JG):((zs.map W.str).any λz=>xC z (.str y))=decide (y∈zs):=by
 induction zs with
 | nil=>rfl
 | cons z zs ih=>
  rw[KF,LI,ih];show((z==y)||_)=_
  by_cases h:z=y
  ·subst h; simp
  ·have:(z==y)=false:=by simpa using h
   rw[this,N3];have h2:(y∈z::zs)=(y∈zs):=by simp[Ne.symm h]
   simp only[h2]
theorem wc {S:aa}{t:Jp}{zs:Jf JG}{y:JG}(h:S[t]?=ba (.lst (zs.map W.str))):cU .isin (.str y) (.ref t) S=ba (.bl (decide (y∈zs)),S):=by
 simp only[cU,la h,iM,DI,AV,eT,bc h];rw[JN (by rw[ze]; rfl),BX]
 rfl
theorem EB {S:aa}{k:Jp}:gj .mul (.str ⟨[k].toArray⟩) (.int 1) S=ba (.str ⟨[k].toArray⟩,S):=by
 simp only[gj,xx];rw[JN ⟨by decide,by decide,by show 1*1<=sizeLine; rw[Ki]; decide⟩]
 rfl
theorem i7 {xs:Jf W}{k:Jp}:jq xs gV (ba (k:Jy))=xs.take k:=by
 unfold jq;rw[HT.li,HT.tK,OU,RF]
 by_cases h:k<=xs.length
 ·rw[QG h]
 ·rw[Qo (by omega),M5 (Js _),M5 (by omega)]
theorem rz {xs:Jf W}{k:Jp}:jq xs (ba (k:Jy)) gV=xs.drop k:=by
 unfold jq;rw[HT.li,HT.tK]
 by_cases h:k<=xs.length
 ·rw[QG h,M5 (by rw[L7]; exact Js _)]
 ·rw[Qo (by omega),M2 (Js _),M2 (by omega)]; exact List.take_nil
section
variable{defs:Jf (JG×Df)}{fuel d:Jp}{S:aa}{r:Jp}{Q:QW}
theorem BY {Φ:JG->FF}{m z w:W}{t:Jp}{y:JG}{zs:Jf JG}{K:Fm->aa->Prop}{Q:QO}(hfu:20 < fuel)(hy:Name y)(e:S[t]?=ba (.lst (zs.map W.str)))(hl:zs.length<=15)
  (k:∀y s,Name y->y∉zs->K [ba (.ref r),ba m,ba z,ba (.ref t),ba w,ba (.str y),ba s] S) :
  wS Φ fuel (.whl (.cmp .isin (.v 5) (.v 3)) (.cons (.set 5 (.op .mul (.ix (.c (.str "abcdefghijklmnopqrstuvwxyz")) (.op .mod (.v 6) (.c (.int 26)))) (.op .add (.c (.int 1)) (.op .fdiv (.v 6) (.c (.int 26)))))) (.cons (.set 6 (.op .add (.v 6) (.c (.int 1)))) .nil)))
   [ba (.ref r),ba m,ba z,ba (.ref t),ba w,ba (.str y),ba (.int 0)] S K Q:=by
 dsimp only[wS];refine CS (λmm ρ S'=>∃(s:Jp) (y:JG),ρ=[ba (.ref r),ba m,ba z,ba (.ref t),ba w,ba (.str y),ba (.int s)]/\S'=S/\mm+s=18/\s<=16/\Name y/\(0 < s->y=mM (s - 1))/\∀k,k+1 < s->mM k∈zs) 18 rfl rfl (by omega) ⟨0,y,rfl,rfl,rfl,by exact JJ rfl,hy,λh=>absurd h (by omega),λk h=>absurd h (by omega)⟩ ?_
 rintro mm ρ S' ⟨s,y',rfl,rfl,hm,hs,hy',hc1,hc2⟩;dsimp only[wT,wE,wV,wG];refine ae (wc e) ⟨λhin=>?_,λhout=>k _ _ hy' (LO hout)⟩
 have all:∀k,k < s->mM k∈zs:=λk hk=>by
  by_cases h:k+1 < s
  ·exact hc2 k h
  ·have e:k=s - 1:=by omega
   rw[e,<- hc1 (P3 ‹_›)]; exact Kn hin
 have hs15:s<=15:=by
  have h7:=lU ((Kh s).map mM) zs (rq s) λx hx=>by
   obtain⟨k,hk,rfl⟩:=JT.mp hx;exact all k (KJ.mp hk)
  rw[Ji,Kj]at h7;exact JF ‹_› ‹_›
 refine⟨mm - 1,by omega,λQ2 hn _=>?_⟩
 have em:((s:Jy) % 26)=s:=Int.emod_eq_of_lt (by omega) (by omega)
 have ed:((s:Jy) / 26)=0:=Int.ediv_eq_zero_of_lt (by omega) (by omega)
 refine st ?_;dsimp only[wS,wE,wV,wG,Jx];refine ae (i3 (by decide)) ?_
 rw[em];refine ae (CM (i:=(s:Jy)) uQ (JD s) (y9 ⟨s,by exact LP ‹_› (JJ rfl)⟩)) ?_
 have e2:gj .fdiv (.int s) (.int 26) S'=ba (.int 0,S'):=by rw[iA (by omega) (by omega),ed]
 dsimp only;rw[e2];dsimp only[cN,aT];rw[show(1:Jy)+0=1 from rfl]
 refine ae EB ?_;refine st ?_;dsimp only[wS,wE,wV,wG,Jx,cN,aT];exact cr (hn _ _ ⟨s+1,mM s,rfl,rfl,by omega,by omega,wb (by exact LP ‹_› (JJ rfl)),λ_=>rfl,λk hk=>all k (by omega)⟩)
theorem BZ (hfu:20 < fuel)(G:Gen defs){m:Jp}(hf:Fl S r)(h1:m<=6)(k:∀(ys:Jf JG) S',ys.length=m->(∀y∈ys,Name y)->(iC++ys).Nodup->Fl S' r->Kp r S S'->Q (.tup (ys.map W.str),S')) :
  wO (bF (ap defs fuel (d+4)) "_law_names" 2 [.ref r,.int m] S) Q:=by
 refine az G.names rfl rfl λQ' hR=>?_
 replace k:∀(ys:Jf JG) S',ys.length=m->(∀y∈ys,Name y)->(iC++ys).Nodup->Fl S' r->Kp r S S'->Q' (.rt (.tup (ys.map W.str)),S'):=λz S' a b c e f=>hR _ _ (k z S' a b c e f)
 clear hR;show wZ _ _ di [ba (.ref r),ba (.int m),gV,gV,gV,gV,gV] S Q';have cb:∀(z:JG) (S2:aa),z.cps.toList.length<=6->uR z->Fl S2 r->Kp r S S2->wZ (ap defs fuel (d+3)) fuel (dr 2 di) [ba (.ref r),ba (.int m),ba (.str z),gV,gV,gV,gV] S2 Q':=by
  intro z S2 hz1 hz2 f2 k2;dsimp only[dr,di];have hrt:=f2.lt;have hSt:=k2.len;refine st ?_;dsimp only[wS,wE,wA,wV,wG,Jx];refine aZ λK hK=>?_
  refine cJ (m:Jy) (λi ρ S'=>∃a4 a5 a6 ys,ρ=[ba (.ref r),ba (.int m),ba (.str z),ba (.ref S2.length),a4,a5,a6]/\S'[S2.length]?=ba (.lst ((iC++ys).map W.str))/\ys.length=i/\(∀y∈ys,Name y)/\(iC++ys).Nodup/\Fl S' r/\Kp r S S') rfl rfl (by omega) ?_ ?_ ?_
  ·dsimp only[wE,wV,wG];exact⟨rfl,gV,gV,gV,[],rfl,aj,rfl,λ_ h=>(nomatch h),by decide,f2.ka .push,k2.trans .push⟩
  ·rintro i ρ S3 hi ⟨a4,a5,a6,ys,rfl,e3,hy1,hy2,hy3,f3,k3⟩ Q2 hn _;clear hK;refine st ?_;dsimp only[wS,wE,wA,wV,wG,Jx];refine EA (d:=d) G f3 hz1 hz2 λy S4 hy f4 k4=>?_
   have e4:=k4.get _ _ (J2 ‹_›) e3;refine st ?_;dsimp only[wS,wE,wA,wV,wG,Jx];refine st (BY hfu hy e4 (by rw[Jt,hy1]; show 9+i<=15; omega) λy' s hy' hnot=>?_)
   refine st ?_;dsimp only[wS,wE,wA,wV,wG,Jx];refine⟨eG e4,lQ e4 (by rw[Ji,Jt,hy1]; show 9+i < 1000; omega) ?_⟩
   refine cr (hn _ _ ⟨_,_,_,ys++[y'],rfl,?_,by rw[Jt,hy1]; rfl,λx hx=>?_,?_,f4.own hrt,(k3.trans k4).late hSt⟩)
   ·rw[cf e4,<- Lj,Kd (l₁:=iC++ys)]; rfl
   ·rcases J9.mp hx with h|h
    ·exact hy2 x h
    ·rw[JC.mp h]; exact hy'
   ·rw[<- Lj,P7];refine⟨hy3,by simp,λa ha b hb e=>?_⟩
    rw[JC.mp hb]at e;exact hnot (e ▸ ha)
  ·rintro ρ S3 ⟨a4,a5,a6,ys,rfl,e3,hy1,hy2,hy3,f3,k3⟩;refine hK _ _ (st ?_);dsimp only[wS,wE,wA,wV,wG,wP,wN];have hs:p9 (.ref S2.length) (ba 9) gV S3=ba (.ref S3.length,S3++[.lst (ys.map W.str)]):=by
    have:jq ((iC++ys).map W.str) (ba ((9:Jp):Jy)) gV=ys.map W.str:=by
     rw[rz,Kd];exact List.drop_left' rfl
    simp only[p9,bc e3];rw[show(ba 9:Jn Jy)=ba ((9:Jp):Jy)from rfl,this]
   refine ae hs (ff aj (k _ _ ?_ hy2 hy3 (f3.ka .push) (k3.trans .push)));rw[hy1]; exact JH m
 dsimp only[di];refine st ?_;dsimp only[wS,wE,Jx];refine aZ λK hK=>?_
 dsimp only[wS,wT,wE,wA,wV,wG];refine be (d:=d+2) G.pick hf (by decide) (by decide) λv S1 v0 v1 f1 k1=>?_
 dsimp only[gX,wO,wB];refine aw (Q0:=Q') (λ_ Q2 hn _=>?_) (λ_ Q2 hn _=>?_)
 ·refine st ?_;dsimp only[wS,wE,wA,wV,wG,Jx];refine be (d:=d+2) G.pick f1 (by decide) (by decide) λv S2 v0 v1 f2 k2=>?_
  dsimp only[cN,wO];exact jE (d:=d+1) G f2 (by omega) (by omega) λz S3 hz hs f3 k3=>cr (hn _ _ (hK _ _ (cb z S3 (by omega) hs f3 (k1.trans (k2.trans k3)))))
 ·exact cr (hn _ _ (hK _ _ (cb "" S1 (by decide) (λc hc=>nomatch hc) f1 k1)))
end
noncomputable abbrev Pt:=Jy×Jf Jy
noncomputable abbrev Wd:=Jf Pt
noncomputable def gc (p:Pt):W:=.tup [.int p.1,.tup (p.2.map W.int)]
noncomputable def aM (u:Wd):W:=.tup (u.map gc)
noncomputable def pG (p:Pt):T:=.tup [.int p.1,.tup (p.2.map T.int)]
noncomputable def cL (u:Wd):T:=.tup (u.map pG)
theorem uT:∀xs:Jf Jy,T.ws (xs.map T.int)=xs.map W.int
 | []=>rfl
 | x::xs=>by simp[T.ws,T.w,uT xs]
theorem GN (p:Pt):(pG p).w=gc p:=by simp[pG,gc,T.w,T.ws,uT]
theorem zf:∀u:Wd,T.ws (u.map pG)=u.map gc
 | []=>rfl
 | p::u=>by simp[T.ws,GN,zf u]
theorem zh (u:Wd):(cL u).w=aM u:=by simp[cL,aM,T.w,zf]
theorem GP (u:Wd):W.t (aM u)=ba (cL u):=by rw[<- zh]; exact T.w_t _
theorem tf:∀us:Jf Wd,T.ws (us.map cL)=us.map aM
 | []=>rfl
 | u::us=>by simp[T.ws,zh,tf us]
theorem zj (us:Jf Wd):W.ts (us.map aM)=ba (us.map cL):=by rw[<- tf]; exact T.ws_ts _
theorem lV:∀xs:Jf Jy,T.depths (xs.map T.int)=0
 | []=>rfl
 | x::xs=>by simp[T.depths,T.depth,lV xs]
theorem zl (p:Pt):(pG p).depth=2:=by simp[pG,T.depth,T.depths,lV]
theorem ow:∀u:Wd,T.depths (u.map pG)<=2
 | []=>by simp[T.depths]
 | p::u=>by
  have:=ow u;simp only[KF,T.depths,zl]; omega
theorem lW (u:Wd):(cL u).depth<=3:=by
 have:=ow u;simp only[cL,T.depth]; omega
theorem gO:∀us:Jf Wd,T.depths (us.map cL)<=3
 | []=>by simp[T.depths]
 | u::us=>by
  have:=gO us;have:=lW u;simp only[KF,T.depths]; omega
theorem pH (u:Wd):gR (aM u)=ba (cL u):=by
 unfold gR;rw[GP];show(if (cL u).isTup=true/\(cL u).depth<=aH then _ else _)=_
 rw[JN ⟨rfl,by have:=lW u; unfold aH; exact JF ‹_› (JJ rfl)⟩]
mutual
noncomputable def pI:T->T->JW
 | .int _,.int _=>true
 | .str _,.str _=>true
 | .tup xs,.tup ys=>fE xs ys
 | _,_=>false
noncomputable def fE:Jf T->Jf T->JW
 | [],_=>true
 | _,[]=>true
 | x::xs,y::ys=>pI x y&&fE xs ys
end
mutual
theorem zm:∀x y:T,pI x y=true->(mE x y).isSome=true
 | .int _,.int _,_=>rfl
 | .str _,.str _,_=>rfl
 | .tup xs,.tup ys,h=>by
  simp only[pI]at h;simp only[mE];exact uU xs ys h
 | .int _,.str _,h|.int _,.tup _,h|.str _,.int _,h|.str _,.tup _,h|.tup _,.int _,h|.tup _,.str _,h=>by simp[pI]at h
theorem uU:∀xs ys:Jf T,fE xs ys=true->(ga xs ys).isSome=true
 | [],[],_=>rfl
 | [],_::_,_=>rfl
 | _::_,[],_=>rfl
 | x::xs,y::ys,h=>by
  simp only[fE,Jo]at h;simp only[ga];split
  ·exact uU xs ys h.2
  ·exact zm x y h.1
end
theorem rA:∀xs ys:Jf Jy,fE (xs.map T.int) (ys.map T.int)=true
 | [],_=>by simp[fE]
 | _::_,[]=>by simp[fE]
 | x::xs,y::ys=>by simp[fE,pI,rA xs ys]
theorem EC (p q:Pt):pI (pG p) (pG q)=true:=by simp[pG,pI,fE,rA]
theorem uV:∀u v:Wd,fE (u.map pG) (v.map pG)=true
 | [],_=>by simp[fE]
 | _::_,[]=>by simp[fE]
 | p::u,q::v=>by simp[fE,EC,uV u v]
theorem ED (u v:Wd):pI (cL u) (cL v)=true:=by simp[cL,pI,uV]
theorem jF (us:Jf Wd):ib (us.map cL)=true:=by
 unfold ib;rw[JO];intro x hx;obtain⟨u,_,rfl⟩:=JT.mp hx;rw[JO];intro y hy;obtain⟨v,_,rfl⟩:=JT.mp hy;exact zm _ _ (ED u v)
theorem zn (us:Jf Wd)(h:∀u∈us,u≠[]):(sI (us.map cL)).isSome=true:=by
 unfold sI;split
 ·rfl
 ·split
  ·rfl
  ·split
   ·rfl
   ·split
    ·rfl
    ·split
     ·rfl
     ·rename_i h5;exfalso;apply h5;rw[JO];intro x hx;obtain⟨u,hu,rfl⟩:=JT.mp hx;cases u with
      | nil=>exact absurd rfl (h [] hu)
      | cons p u=>rfl
noncomputable def eM (bs:Jf Jy)(u:Wd)(i j:Jp):Jy:=if j < i then((u.getD i (0,[])).2).getD j 0 else bs.getD (((u.getD j (0,[])).2).getD i 0).toNat 0
noncomputable def bq (bs:Jf Jy)(u:Wd)(ps:Jf Jp):Wd:=(Kh ps.length).map λk=>((u.getD (ps.getD k 0) (0,[])).1,(ps.take k).map λj=>eM bs u (ps.getD k 0) j)
noncomputable def ay:Jf (Jf Jp):=[[0,1,2],[0,2,1],[1,0,2],[1,2,0],[2,0,1],[2,1,0]]
noncomputable def jG (bs:Jf Jy)(u:Wd):Wd:=(ay.map (bq bs u)).getD (o9 ((ay.map (bq bs u)).map cL)) []
noncomputable def bG (n:JG)(b:Jy):W:=.tup [.str n,.int b]
structure GoodW (a n:Jp)(u:Wd):Prop where
 mark:∀(k:Jp) (p:Pt),u[k]?=ba p->0<=p.1/\p.1 < a
 len:∀(k:Jp) (p:Pt),u[k]?=ba p->p.2.length=k
 way:∀(k:Jp) (p:Pt),u[k]?=ba p->∀w∈p.2,0<=w/\w < n
noncomputable def GoodB (bs:Jf Jy):Prop:=bs=[0]\/bs=[0,1]\/bs=[1,0]\/bs=[0,1,2]\/bs=[1,0,2]\/bs=[0,2,1]
theorem GoodB.rng {bs:Jf Jy}(h:GoodB bs):∀k:Jp,k < bs.length->∃b:Jy,bs[k]?=ba b/\0<=b/\b < bs.length:=by
 rcases h with rfl|rfl|rfl|rfl|rfl|rfl <;> intro k hk
 ·match k,hk with
  | 0,_=>exact⟨0,rfl,by decide,by decide⟩
 ·match k,hk with
  | 0,_=>exact⟨0,rfl,by decide,by decide⟩
  | 1,_=>exact⟨1,rfl,by decide,by decide⟩
 ·match k,hk with
  | 0,_=>exact⟨1,rfl,by decide,by decide⟩
  | 1,_=>exact⟨0,rfl,by decide,by decide⟩
 ·match k,hk with
  | 0,_=>exact⟨0,rfl,by decide,by decide⟩
  | 1,_=>exact⟨1,rfl,by decide,by decide⟩
  | 2,_=>exact⟨2,rfl,by decide,by decide⟩
 ·match k,hk with
  | 0,_=>exact⟨1,rfl,by decide,by decide⟩
  | 1,_=>exact⟨0,rfl,by decide,by decide⟩
  | 2,_=>exact⟨2,rfl,by decide,by decide⟩
 ·match k,hk with
  | 0,_=>exact⟨0,rfl,by decide,by decide⟩
  | 1,_=>exact⟨2,rfl,by decide,by decide⟩
  | 2,_=>exact⟨1,rfl,by decide,by decide⟩
theorem getD_some {α:Type}{xs:Jf α}{i:Jp}{x d:α}(h:xs[i]?=ba x):xs.getD i d=x:=by simp[h]
theorem aD {α:Type}{xs:Jf α}{i:Jp}{d:α}(h:i < xs.length):xs[i]?=ba (xs.getD i d):=by simp[h]
theorem pJ {ns:Jf JG}{bs:Jf Jy}{k:Jp}{n:JG}{b:Jy}(h1:ns[k]?=ba n)(h2:bs[k]?=ba b):(JL bG ns bs)[k]?=ba (bG n b):=by
 rw[List.getElem?_zipWith,h1,h2]
noncomputable def aE (ps:Jf Jp):Jf W:=ps.map λ(p:Jp)=>W.int (p:Jy)
theorem uW {ps:Jf Jp}{k p:Jp}(h:ps[k]?=ba p):(aE ps)[k]?=ba (.int p):=by simp[aE,h]
theorem fF (bs:Jf Jy)(u:Wd)(ps:Jf Jp):(bq bs u ps).length=ps.length:=by unfold bq; rw[Ji,Kj]
theorem dY {u:Wd}{i:Jp}(hi:i < u.length):(u.map gc)[((i:Jp):Jy).toNat]?=ba (gc (u.getD i (0,[]))):=by
 rw[JH,Jr,aD hi]; rfl
section
variable{defs:Jf (JG×Df)}{fuel d:Jp}{S:aa}{r:Jp}{Q:QW}
theorem zo {Φ:JG->FF}{m0 b0:W}{ns:Jf JG}{bs:Jf Jy}{a:Jp}{u:Wd}{i j:Jp}{Q:QO}(hb:GoodB bs)(hl:ns.length=bs.length)(hu:GoodW a bs.length u)(hi:i < u.length)(hj:j < u.length)(hij:i≠j)(k:Q (.rt (.int (eM bs u i j)),S)) :
  wZ Φ fuel dI [ba (.tup [m0,.tup (JL bG ns bs),b0]),ba (aM u),ba (.int i),ba (.int j)] S Q:=by
 have hpi:=aD (d:=(0,[])) hi;have hpj:=aD (d:=(0,[])) hj;unfold eM at k;dsimp only[dI];refine aZ λK hK=>?_
 dsimp only[wS,wT,wE,wV,wG,BS,wO,wB,aM];refine aw (Q0:=Q) (λh Q2 _ hr=>?_) (λh Q2 hn _=>?_)
 ·have hji:j < i:=by have:=Kn h; exact Li.mp ‹_›
  rw[JN hji]at k;have hw:j < (u.getD i (0,[])).2.length:=by rw[hu.len i _ hpi]; exact hji
  refine st ?_;dsimp only[wS,wE,wV,wG];refine am (JD i) (dY hi) (am (by decide) rfl (am (JD j) ?_ (hr _ _ k)))
  rw[JH,Jr,aD (d:=0) hw]; rfl
 ·have hji:¬ j < i:=by have:=LO h; omega
  rw[JX hji]at k;refine cr (hn _ _ (hK _ _ ?_));clear hn hK;have hw:i < (u.getD j (0,[])).2.length:=by rw[hu.len j _ hpj]; omega
  have hg:=aD (d:=0) hw;obtain⟨g1,g2⟩:=hu.way j _ hpj _ (JI hg);obtain⟨b,hb1,hb2,hb3⟩:=hb.rng ((u.getD j (0,[])).2.getD i 0).toNat (by omega)
  have hn:((u.getD j (0,[])).2.getD i 0).toNat < ns.length:=by omega
  rw[getD_some hb1]at k;refine st ?_;dsimp only[wS,wE,wV,wG];refine am (by decide) rfl (am (JD j) (dY hj) (am (by decide) rfl (am (JD i) ?_ (am g1 (pJ (Jw hn) hb1) (am (by decide) rfl k)))))
  rw[JH,Jr,hg]; rfl
theorem we (G:Gen defs){m0 b0:W}{ns:Jf JG}{bs:Jf Jy}{a:Jp}{u:Wd}{i j:Jp}(hb:GoodB bs)(hl:ns.length=bs.length)(hu:GoodW a bs.length u)(hi:i < u.length)(hj:j < u.length)(hij:i≠j)(k:Q (.int (eM bs u i j),S)) :
  wO (bF (ap defs fuel (d+1)) "_law_between" 4 [.tup [m0,.tup (JL bG ns bs),b0],aM u,.int i,.int j] S) Q:=
 az G.between rfl rfl λQ' hR=>zo hb hl hu hi hj hij (hR _ _ k)
theorem tj (G:Gen defs){m0 b0:W}{ns:Jf JG}{bs:Jf Jy}{a:Jp}{u:Wd}{ps:Jf Jp}(hb:GoodB bs)(hl:ns.length=bs.length)(hu:GoodW a bs.length u)(hps:∀p∈ps,p < u.length)(hnd:ps.Nodup)(hsz:ps.length < 1000)(k:∀S',Ka S S'->Q (aM (bq bs u ps),S')) :
  wO (bF (ap defs fuel (d+2)) "_law_part" 3 [.tup [m0,.tup (JL bG ns bs),b0],aM u,.tup (aE ps)] S) Q:=by
 refine az G.part rfl rfl λQ' hR=>?_
 replace k:∀S',Ka S S'->Q' (.rt (aM (bq bs u ps)),S'):=λS' a=>hR _ _ (k S' a)
 clear hR;show wZ _ _ fS [ba (.tup [m0,.tup (JL bG ns bs),b0]),ba (aM u),ba (.tup (aE ps)),gV,gV,gV] S Q';generalize hR0:W.tup [m0,.tup (JL bG ns bs),b0]=R;dsimp only[fS];refine st ?_;dsimp only[wS,wE,wA,Jx];refine aZ λK hK=>?_
 have nl:(aE ps).length=ps.length:=Ji ..;refine cJ (ps.length:Jy) (λk ρ S'=>∃a4 a5,ρ=[ba R,ba (aM u),ba (.tup (aE ps)),ba (.ref S.length),a4,a5]/\S'[S.length]?=ba (.lst (((bq bs u ps).take k).map gc))/\Ka S S') rfl rfl (by omega) ?_ ?_ ?_
 ·dsimp only[wE,wA,wV,wG];refine bK ?_;rw[nl];exact⟨rfl,gV,gV,rfl,aj,.push⟩
 ·rintro i ρ S1 hi ⟨a4,a5,rfl,e1,k1⟩ Q2 hn _;clear hK;have hi':i < ps.length:=by exact Li.mp ‹_›
  have hp:ps[i]?=ba ps[i]:=Jw hi';have hpu:ps[i] < u.length:=hps _ (Kq hi');refine st ?_;dsimp only[wS,wE,wV,wG,Jx];refine am (JD i) (by rw[JH]; exact uW hp) ?_
  refine st ?_;dsimp only[wS,wE,wA,wV,wG,Jx];refine⟨eG e1,am (JD _) (dY hpu) (am (by decide) rfl ?_)⟩
  refine uO (aE (ps.take i)) (λj ys ρ2 S2=>(∃a1,ρ2=[gV,a1,ba (.int ps[i]),ba R,ba (aM u)])/\ys=((ps.take i).take j).map (λq=>W.int (eM bs u ps[i] q))/\Ka S1 S2) rfl rfl rfl ?_ ?_ ?_
  ·dsimp only[wE,wP,wV,wG,wN];refine ae (a:=(.tup (aE (ps.take i)),S1)) ?_ ⟨rfl,⟨gV,rfl⟩,rfl,.refl⟩;simp only[p9,i7];unfold aE;rw[Pg]
  ·rintro j w ys ρ2 S2 hw ⟨⟨a1,rfl⟩,rfl,k2⟩;have hjl:j < (ps.take i).length:=by
    have:=(Ju.mp hw).1;unfold aE at this
    rwa [Ji]at this
   have hq:(ps.take i)[j]?=ba (ps.take i)[j]:=Jw hjl;cases(uW hq).symm.trans hw;have hj:j < i:=by rw[Kk]at hjl; omega
   have eq:(ps.take i)[j]=ps[j]'(Oj ‹_› ‹_›):=NZ;generalize(ps.take i)[j]=q at hq eq ⊢;refine ae (show gW (.nm 1) (.int (q:Jy)) [gV,a1,ba (.int ps[i]),ba R,ba (aM u)] S2=ba ([gV,ba (.int (q:Jy)),ba (.int ps[i]),ba R,ba (aM u)],S2)from rfl) ?_
   dsimp only[mG,wC,wE,wA,wV,wG];subst hR0;refine⟨λ_=>we (d:=d) G hb hl hu hpu (by rw[eq]; exact hps _ (Kq _)) ?_ ⟨⟨_,rfl⟩,?_,k2⟩,λz=>by cases z⟩
   ·rw[eq];intro h;have:=(M8 hnd).mp h;omega
   ·rw[Kf,hq];simp
  ·rintro ys ρ2 S2 ⟨_,rfl,k2⟩;rw[show(aE (ps.take i)).length=(ps.take i).length from Ji ..,Kr]
   refine⟨kB (by rw[Ji,Kk]; omega),ff aj ?_⟩
   have e2:=aq (u:=O.lst ((ps.take i).map λq=>W.int (eM bs u ps[i] q))) (k2.get _ _ e1)
   refine lQ e2 (by rw[Ji,Kk]; omega) (cr (hn _ _ ⟨_,_,rfl,?_,((k1.trans k2).trans .push).late (Js _)⟩))
   rw[cf e2];have ep:(bq bs u ps)[i]?=ba ((u.getD ps[i] (0,[])).1,(ps.take i).map λq=>eM bs u ps[i] q):=by
    unfold bq;rw[Jr,LF hi',Kb,getD_some hp]
   rw[Kf,ep];simp[gc,P5]
 ·rintro ρ S1 ⟨a4,a5,rfl,e1,k1⟩;rw[JH,<- fF bs u ps,Kr]at e1;refine hK _ _ (st ?_);dsimp only[wS,wE,wA,wV,wG];exact ff e1 (k _ k1)
theorem lb (G:Gen defs)(k:Q (.ref S.length,S++[.lst (ay.map λt=>W.tup (aE t))])):wO (bF (ap defs fuel (d+1)) "_law_turns" 0 [] S) Q:=by
 refine az G.turns rfl rfl λQ' hR=>?_
 dsimp only[gr];refine st ?_;dsimp only[wS,wE,wA];exact hR _ _ k
theorem fU (bt:Jp->Jp->JW):∀n:Jp,argBest bt n<=n
 | 0=>Js _
 | n+1=>by have:=fU bt n; simp only[argBest]; split <;> omega
theorem i8 (G:Gen defs){m0 b0:W}{ns:Jf JG}{bs:Jf Jy}{a:Jp}{u:Wd}(hb:GoodB bs)(hl:ns.length=bs.length)(hu:GoodW a bs.length u)(h3:u.length=3)(k:∀S',Ka S S'->Q (aM (jG bs u),S')) :
  wO (bF (ap defs fuel (d+3)) "_law_figure" 2 [.tup [m0,.tup (JL bG ns bs),b0],aM u] S) Q:=by
 refine az G.figure rfl rfl λQ' hR=>?_
 replace k:∀S',Ka S S'->Q' (.rt (aM (jG bs u)),S'):=λS' a=>hR _ _ (k S' a)
 clear hR;show wZ _ _ ee [ba (.tup [m0,.tup (JL bG ns bs),b0]),ba (aM u)] S Q';generalize hR0:W.tup [m0,.tup (JL bG ns bs),b0]=R;dsimp only[ee];refine st ?_;dsimp only[wS,wE,wA];refine uP S.length (ay.map λt=>W.tup (aE t)) (λi ys ρ2 S2=>(∃a1,ρ2=[gV,a1,ba R,ba (aM u)])/\ys=((ay.take i).map λt=>aM (bq bs u t))/\Ka (S++[.lst (ay.map λt=>W.tup (aE t))]) S2) rfl rfl rfl ?_ ?_ ?_ ?_
 ·dsimp only[wE,wA];exact lb (d:=d+1) G ⟨rfl,⟨gV,rfl⟩,rfl,.refl⟩
 ·rintro i ys ρ2 S2 ⟨_,_,k2⟩;exact k2.get _ _ aj
 ·rintro i w ys ρ2 S2 hw ⟨⟨a1,rfl⟩,rfl,k2⟩;rw[Jr,Jl]at hw;obtain⟨t,ht,rfl⟩:=hw;have ht3:(∀p∈t,p < 3)/\t.Nodup/\t.length < 1000:=by
   have:∀t∈ay,(∀p∈t,p < 3)/\t.Nodup/\t.length < 1000:=by decide
   exact this t (JI ht)
  refine ae (show gW (.nm 1) (.tup (aE t)) [gV,a1,ba R,ba (aM u)] S2=ba ([gV,ba (.tup (aE t)),ba R,ba (aM u)],S2)from rfl) ?_
  dsimp only[mG,wC,wE,wA,wV,wG];subst hR0;refine⟨λ_=>tj (d:=d) G hb hl hu (λp hp=>by rw[h3]; exact ht3.1 p hp) ht3.2.1 ht3.2.2 λS3 k3=>⟨⟨_,rfl⟩,?_,k2.trans k3⟩,λz=>by cases z⟩
  rw[Kf,ht];simp
 ·rintro ys ρ2 S2 ⟨_,rfl,k2⟩;have e:((ay.take (ay.map λt=>W.tup (aE t)).length).map λt=>aM (bq bs u t))=(ay.map (bq bs u)).map aM:=by
   rw[Ji,Kr,LZ]; rfl
  rw[e];refine⟨gv rfl,ae (a:=(aM (jG bs u),S2++[.lst ((ay.map (bq bs u)).map aM)])) ?_ (k _ ((Ka.push.trans k2).trans .push))⟩;simp only[Bi.fn,A7,bc aj,zj];rw[JN ⟨by have:=gO (ay.map (bq bs u)); unfold c7; exact JF ‹_› (JJ rfl),jF _⟩]
  unfold jG;have hlt:o9 ((ay.map (bq bs u)).map cL) < (ay.map (bq bs u)).length:=LP (fU _ _) (by decide:5 < 6)
  rw[Jr,aD (d:=[]) hlt];rfl
end
noncomputable def af (xs:Jf Jy):Jf W:=xs.map W.int
noncomputable def cO (us:Jf Wd):Jf Wd:=dN (qH (us.map cL)) [] us
theorem rB {α β:Type}{lt:Jp->Jp->JW}{d:α}{d':β}{f:α->β}{us:Jf α}:dN lt d' (us.map f)=(dN lt d us).map f:=by
 unfold dN;rw[Ji];split
 ·rfl
 ·rw[LZ];refine MF λi hi=>?_
  have hl:i < us.length:=kY (by omega) i hi
  simp[hl]
theorem tm {S:aa}{x:W}{us:Jf Wd}(h:eB S x=ba (us.map aM))(h64:us.length < 64)(hne:∀u∈us,u≠[]):fN [x] S=ba (.ref S.length,S++[.lst ((cO us).map aM)]):=by
 have ok:ir (us.map cL)=true:=by
  unfold ir;simp only[Jo,La,JK,Ji];exact⟨⟨h64,by have:=gO us; unfold c7; exact JF ‹_› (JJ rfl)⟩,.inr ⟨zn us hne,jF us⟩⟩
 simp only[fN,h,zj];rw[JN ok,rB (d:=[])];rfl
noncomputable def dZ (ms ns:Jf JG)(bs:Jf Jy)(us:Jf Wd):W:=.tup [.tup (ms.map W.str),.tup (JL bG ns bs),.tup (us.map aM)]
structure GoodN (ms ns:Jf JG):Prop where
 name:∀y∈ms++ns,Name y
 nd:(iC++(ms++ns)).Nodup
theorem GoodW.nil {a n:Jp}:GoodW a n []:=⟨λk p h=>(by simp at h),λk p h=>(by simp at h),λk p h=>(by simp at h)⟩
theorem GoodW.snoc {a n:Jp}{u:Wd}{m:Jy}{ws:Jf Jy}(h:GoodW a n u)(h1:0<=m/\m < a)(h2:ws.length=u.length)(h3:∀w∈ws,0<=w/\w < (n:Jy)):GoodW a n (u++[(m,ws)]):=by
 have key:∀(k:Jp) (p:Pt),(u++[(m,ws)])[k]?=ba p->u[k]?=ba p\/(k=u.length/\p=(m,ws)):=λk p e=>by
  rcases Nat.lt_or_ge k u.length with hk|hk
  ·rw[Kt hk]at e; exact .inl e
  ·rw[LM hk]at e;have:k - u.length=0:=by
    have:=(Ju.mp e).1;simp at this; assumption
   rw[this]at e;cases e;exact .inr ⟨by omega,rfl⟩
 refine⟨λk p e=>?_,λk p e=>?_,λk p e=>?_⟩ <;> rcases key k p e with e|⟨rfl,rfl⟩
 ·exact h.mark k p e
 ·exact h1
 ·exact h.len k p e
 ·exact h2
 ·exact h.way k p e
 ·exact h3
theorem GoodB.at {bs:Jf Jy}(h:GoodB bs){x:Jy}(h0:0<=x)(h1:x < bs.length):bs[x.toNat]?=ba (bs.getD x.toNat 0)/\0<=bs.getD x.toNat 0/\bs.getD x.toNat 0 < bs.length:=by
 obtain⟨b,h2,h3⟩:=h.rng x.toNat (by omega)
 rw[getD_some h2];exact⟨h2,h3⟩
theorem B0 {S:aa}{x:W}{xs:Jf W}(h:eB S x=ba xs):du [x] S=gV:=by
 cases x with
 | ref i=>
  have e2:E3 S i=gV:=by
   unfold E3;cases e:S[i]? with
   | none=>rfl
   | some o=>
    cases o with
    | stt ss=>simp[eB,iL,j8,e]at h
    | _=>rfl
  simp only[du,e2]
 | _=>rfl
theorem zp {S:aa}{x:W}{us:Jf Wd}{Q:QW}(h:eB S x=ba (us.map aM))(h64:us.length < 64)(hne:∀u∈us,u≠[])(q:Q (.ref S.length,S++[.lst ((cO us).map aM)])):wO (Bi.sorted.fn [x] S) Q:=by
 refine ae ?_ q;show(match du [x] S with
  | some r=>ba r
  | none=>fN [x] S)=_
 rw[B0 h];exact tm h h64 hne
noncomputable def zq:Jf (Jp×Jp):=[(1,1),(2,1),(3,1),(1,2),(1,2),(2,2),(2,2),(3,2),(1,3),(1,3),(2,3)]
theorem zr:∀p∈zq,1<=p.1/\p.1<=3/\1<=p.2/\p.2<=3/\p.1*p.2<=6:=by decide
noncomputable def lX:Jp->Jf (Jf Jy)
 | 1=>[[0]]
 | 2=>[[0,1],[1,0]]
 | _=>[[0,1,2],[1,0,2],[0,2,1]]
theorem zt:∀n:Jp,1<=n->n<=3->(∀b∈lX n,GoodB b/\b.length=n)/\0 < (lX n).length/\(lX n).length<=3
 | 1,_,_=>⟨λb h=>by cases JC.mp h; exact⟨.inl rfl,rfl⟩,by decide,by decide⟩
 | 2,_,_=>⟨λb h=>by
   rcases JP.mp h with rfl|h
   ·exact⟨.inr (.inl rfl),rfl⟩
   ·cases JC.mp h; exact⟨.inr (.inr (.inl rfl)),rfl⟩,by decide,by decide⟩
 | 3,_,_=>⟨λb h=>by
   rcases JP.mp h with rfl|h
   ·exact⟨.inr (.inr (.inr (.inl rfl))),rfl⟩
   ·rcases JP.mp h with rfl|h
    ·exact⟨.inr (.inr (.inr (.inr (.inl rfl)))),rfl⟩
    ·cases JC.mp h; exact⟨.inr (.inr (.inr (.inr (.inr rfl)))),rfl⟩,by decide,by decide⟩
 | 0,h,_=>absurd h (by decide)
 | n+4,_,h=>absurd h (by omega)
section
variable{defs:Jf (JG×Df)}{fuel d:Jp}{S:aa}{r:Jp}{Q:QW}
theorem pK (G:Gen defs)(hf:Fl S r)(k:∀(a n:Jp) S',1<=a->a<=3->1<=n->n<=3->a*n<=6->Fl S' r->Kp r S S'->Q (.tup [.int a,.int n],S')) :
  wO (bF (ap defs fuel (d+2)) "_law_sizes" 1 [.ref r] S) Q:=by
 refine az G.sizes rfl rfl λQ' hR=>?_
 show wZ _ _ eZ [ba (.ref r),gV] S Q';dsimp only[eZ];refine st ?_;dsimp only[wS,wE,wA,Jx];refine st ?_;dsimp only[wS,wE,wA,wV,wG];refine be (d:=d) G.pick (hf.ka .push) (by decide) (by decide) λv S1 v0 v1 f1 k1=>?_
 have e:=k1.get _ _ (J2 hf.lt) aj;obtain⟨p,hp,ep⟩:=lT (f:=λp:Jp×Jp=>W.tup [.int p.1,.int p.2]) (xs:=zq) (i:=v.toNat) (by show v.toNat < 11; omega)
 obtain⟨a1,a3,n1,n3,an⟩:=zr p hp;exact gw e v0 ep (hR _ _ (k _ _ _ a1 a3 n1 n3 an f1 (Kp.push.trans k1)))
theorem pL (G:Gen defs){n:Jp}(hf:Fl S r)(h1:1<=n)(h3:n<=3)(k:∀(bs:Jf Jy) S',GoodB bs->bs.length=n->Fl S' r->Kp r S S'->Q (.tup (af bs),S')) :
  wO (bF (ap defs fuel (d+2)) "_law_backs" 2 [.ref r,.int n] S) Q:=by
 refine az G.backs rfl rfl λQ' hR=>?_
 replace k:∀(bs:Jf Jy) S',GoodB bs->bs.length=n->Fl S' r->Kp r S S'->Q' (.rt (.tup (af bs)),S'):=λz S' a b c e=>hR _ _ (k z S' a b c e)
 clear hR;show wZ _ _ eY [ba (.ref r),ba (.int n),gV] S Q';dsimp only[eY];refine aZ λK hK=>?_
 dsimp only[wS,wE,wA,wV,wG,Jx];dsimp only[CK,aT];obtain⟨hg,g0,g3⟩:=zt n h1 h3;have fin:∀(t:Jp) (S1:aa),S.length<=t->S1[t]?=ba (.lst ((lX n).map λb=>.tup (af b)))->Ka S S1->K [ba (.ref r),ba (.int n),ba (.ref t)] S1:=by
  intro t S1 ht et ka;refine hK _ _ (st ?_);dsimp only[wS,wE,wA,wV,wG];refine i6 et ?_;rw[Ji];refine be (d:=d) G.pick (hf.ka ka) (by omega) (by omega) λv S2 v0 v1 f2 k2=>?_
  have e2:=k2.get _ _ (by have:=hf.lt; omega) et
  obtain⟨b,hb,eb⟩:=lT (f:=λb:Jf Jy=>W.tup (af b)) (xs:=lX n) (i:=v.toNat) (by omega)
  exact gw e2 v0 eb (k b S2 (hg b hb).1 (hg b hb).2 f2 ((ka.kp r).trans k2))
 clear hK g0 g3 hg;rcases(show n=1\/n=2\/n=3 by omega)with rfl|rfl|rfl
 ·exact eR (i:=0) aj rfl (fin _ _ (Js _) (aq (aq (aq aj))) (Ka.push.trans (Ka.push.trans (Ka.push.trans .push))))
 ·exact eR (i:=1) aj rfl (fin _ _ (by simp) (aq (aq aj)) (Ka.push.trans (Ka.push.trans (Ka.push.trans .push))))
 ·exact eR (i:=2) aj rfl (fin _ _ (by simp only[Jt]; omega) (aq aj) (Ka.push.trans (Ka.push.trans (Ka.push.trans .push))))
theorem ox (hfu:20 < fuel)(G:Gen defs){a:Jp}{bs:Jf Jy}{x:W}{us:Jf Wd}(hf:Fl S r)(ha:a<=3)(hb:bs.length<=3)(hx:∀S',Kp r S S'->eB S' x=ba (us.map aM))(h64:us.length < 64)(hne:∀u∈us,u≠[])
  (k:∀(ms ns:Jf JG) S',ms.length=a->ns.length=bs.length->GoodN ms ns->Fl S' r->Kp r S S'->Q (dZ ms ns bs (cO us),S')) :
  wO (bF (ap defs fuel (d+5)) "_law_rule_of" 4 [.ref r,.int a,.tup (af bs),x] S) Q:=by
 refine az G.rule_of rfl rfl λQ' hR=>?_
 replace k:∀(ms ns:Jf JG) S',ms.length=a->ns.length=bs.length->GoodN ms ns->Fl S' r->Kp r S S'->Q' (.rt (dZ ms ns bs (cO us)),S'):=λz y S' a b c e f=>hR _ _ (k z y S' a b c e f)
 clear hR;show wZ _ _ dJ [ba (.ref r),ba (.int a),ba (.tup (af bs)),ba x,gV,gV] S Q';have hbl:(af bs).length=bs.length:=Ji ..;dsimp only[dJ];refine aZ λK hK=>?_
 dsimp only[wS,wE,wA,wV,wG,Jx];refine bK ?_;rw[hbl];dsimp only[cN,aT];refine BZ (d:=d) (m:=a+bs.length) hfu G hf (by omega) λys S1 q2 q3 q4 f1 k1=>hK _ _ ?_
 clear hK K;have hzl:(JL bG (ys.drop a) bs).length=bs.length:=by
  rw[MG,L7]; omega
 refine aZ λK hK=>?_
 dsimp only[wS,wE,wA,Jx];refine d8 (bs.length:Jy) (λk zs ρ2 S2=>(∃a1,ρ2=[gV,a1,ba (.tup (af bs)),ba (.int a),ba (.tup (ys.map W.str))])/\zs=((JL bG (ys.drop a) bs).take k)/\S2=S1) rfl rfl rfl (by omega) ?_ ?_ ?_
 ·dsimp only[wE,wA,wV,wG];refine bK ?_;rw[hbl];exact⟨rfl,⟨gV,rfl⟩,rfl,rfl⟩
 ·rintro i zs ρ2 S2 hi ⟨⟨a1,rfl⟩,rfl,rfl⟩;clear hK;have hi':i < bs.length:=by exact Li.mp ‹_›
  have h1:a+i < ys.length:=by omega
  dsimp only[mG,wC,wE,wA,wV,wG,Jx,cN,aT];refine⟨λ_=>am (by omega) (w:=.str ys[a+i]) ?_ (am (by omega) (w:=.int bs[i]) ?_ ⟨⟨_,rfl⟩,?_,rfl⟩),λz=>by cases z⟩
  ·rw[show((a:Jy)+(i:Jy)).toNat=a+i by omega,Jr,Jw h1]; rfl
  ·unfold af;rw[JH,Jr,Jw hi']; rfl
  ·have ez:(JL bG (ys.drop a) bs)[i]?=ba (bG ys[a+i] bs[i]):=pJ (by rw[List.getElem?_drop]; exact Jw h1) (Jw hi')
   rw[Kf,ez];rfl
 ·rintro zs ρ2 S2 ⟨_,rfl,rfl⟩;rw[JH,<- hzl,Kr];refine⟨kB (by omega),ff aj (hK _ _ ?_)⟩
  clear hK K;refine st ?_;dsimp only[wS,wE,wA,wP,wV,wG,wN];have hs:p9 (.tup (ys.map W.str)) gV (ba (a:Jy)) (S2++[O.lst (JL bG (ys.drop a) bs)])=ba (.tup ((ys.take a).map W.str),S2++[O.lst (JL bG (ys.drop a) bs)]):=by
   simp only[p9,i7];rw[Pg]
  refine ae hs (zp (hx _ (k1.trans .push)) h64 hne (ff aj ?_));refine k (ys.take a) (ys.drop a) _ ?_ ?_ ⟨?_,?_⟩ ((f1.ka .push).ka .push) (k1.trans (Kp.push.trans .push))
  ·rw[Kk]; omega
  ·rw[L7]; omega
  ·rw[ON]; exact q3
  ·rw[ON]; exact q4
theorem fW (hfu:20 < fuel)(G:Gen defs){a:Jp}{bs:Jf Jy}(hf:Fl S r)(ha:a<=3)(hb:bs.length<=3)
  (k:∀(ms ns:Jf JG) S',ms.length=a->ns.length=bs.length->GoodN ms ns->Fl S' r->Kp r S S'->Q (dZ ms ns bs [],S')) :
  wO (bF (ap defs fuel (d+5)) "_law_rule_of" 4 [.ref r,.int a,.tup (af bs),.tup []] S) Q:=
 ox hfu G hf ha hb (us:=[]) (λ_ _=>rfl) (by decide) (λ_ h=>nomatch h) k
theorem draws {Φ:JG->FF}{ρ:Fm}{elt e:E}{cap:Jf (Jn Jp)}{n i:Jp}{R:Fm}(oe:ft elt=true)(oi:ft e=true)(h1:i<=1000)(hc:gT cap ρ=gV::gV::R)(hf:Fl S r)(he:∀Q:QW,Q (.int i,S)->wE Φ e ρ S Q)
  (hp:∀(a:Jn W) (S1:aa) (Q:QW),Fl S1 r->(∀v S',0<=v->v < (n:Jy)->Fl S' r->Kp r S1 S'->Q (.int v,S'))->wE Φ elt (gV::a::R) S1 Q)
  (k:∀(vs:Jf Jy) S',vs.length=i->(∀w∈vs,0<=w/\w < (n:Jy))->Fl S' r->Kp r S S'->Q (.ref S'.length,S'++[.lst (af vs)])) :
  Wp (aI Φ (.comp elt (.nm 1) (.rng (.cons e .nil)) .nil cap) ρ S) Q:=by
 refine d8 (i:Jy) (λj ys ρ2 S3=>(∃a1,ρ2=gV::a1::R)/\(∃vs:Jf Jy,ys=af vs/\vs.length=j/\∀w∈vs,0<=w/\w < (n:Jy))/\Fl S3 r/\Kp r S S3) oi oe rfl (by omega) (he _ ⟨rfl,⟨gV,hc⟩,⟨[],rfl,rfl,λ_ h=>nomatch h⟩,hf,.refl⟩) ?_ ?_
 ·rintro j ys ρ2 S3 hj ⟨⟨a1,rfl⟩,⟨vs,rfl,hvl,hv⟩,f3,k3⟩;refine⟨λ_=>hp _ _ _ f3 λv S4 v0 v1 f4 k4=>⟨⟨_,rfl⟩,⟨vs++[v],(Kd (l₁:=vs) (l₂:=[v])).symm,by rw[Jt,hvl]; rfl,λw hw=>?_⟩,f4,k3.trans k4⟩,λz=>by cases z⟩
  rcases J9.mp hw with h|h
  ·exact hv w h
  ·rw[JC.mp h]; exact⟨v0,v1⟩
 ·rintro ys ρ2 S3 ⟨_,⟨vs,rfl,hvl,hv⟩,f3,k3⟩;rw[JH]at hvl;exact⟨kB (by rw[show(af vs).length=vs.length from Ji ..]; omega),k vs S3 hvl hv f3 k3⟩
theorem i9 (G:Gen defs){a n:Jp}(hf:Fl S r)(ha:0 < a)(ha3:a<=3)(hn:0 < n)(hn3:n<=3)(k:∀(u:Wd) S',u.length=3->GoodW a n u->Fl S' r->Kp r S S'->Q (aM u,S')) :
  wO (bF (ap defs fuel (d+2)) "_law_free_three" 3 [.ref r,.int a,.int n] S) Q:=by
 refine az G.free_three rfl rfl λQ' hR=>?_
 replace k:∀(u:Wd) S',u.length=3->GoodW a n u->Fl S' r->Kp r S S'->Q' (.rt (aM u),S'):=λz S' a b c e=>hR _ _ (k z S' a b c e)
 clear hR;show wZ _ _ cK [ba (.ref r),ba (.int a),ba (.int n),gV,gV] S Q';dsimp only[cK];have hrt:=hf.lt;refine st ?_;dsimp only[wS,wE,wA,Jx];refine aZ λK hK=>?_
 refine cJ 3 (λk ρ S'=>∃a4 u,ρ=[ba (.ref r),ba (.int a),ba (.int n),ba (.ref S.length),a4]/\S'[S.length]?=ba (.lst (u.map gc))/\u.length=k/\GoodW a n u/\Fl S' r/\Kp r S S') rfl rfl (by decide) ⟨rfl,gV,[],rfl,aj,rfl,.nil,hf.ka .push,.push⟩ ?_ ?_
 ·rintro i ρ S1 hi ⟨a4,u,rfl,e1,hul,hu,f1,k1⟩ Q2 hn' _;clear hK;refine st ?_;dsimp only[wS,wE,wA,wV,wG,Jx];refine⟨eG e1,be (d:=d) G.pick f1 (by omega) (by omega) λv S2 v0 v1 f2 k2=>?_⟩
  have e2:=k2.get _ _ (J2 ‹_›) e1;refine draws (n:=n) (i:=i) (R:=[ba (.ref r),ba (.int n)]) rfl rfl (by omega) rfl f2 (λQ q=>q) (λa S1 Q f q=>be (d:=d) G.pick f (by omega) (by omega) q) λvs S3 hvl hv f3 k3=>?_
  have e3:=aq (u:=O.lst (af vs)) (k3.get _ _ (J2 ‹_›) e2);refine ff aj (lQ e3 (by rw[Ji]; omega) (cr (hn' _ _ ⟨_,u++[(v,vs)],rfl,?_,by rw[Jt,hul]; rfl,hu.snoc ⟨v0,v1⟩ (hvl.trans hul.symm) hv,(f3.ka .push).own hrt,(k1.trans (k2.trans (k3.trans .push))).late (Js _)⟩)))
  rw[cf e3,Kd]; rfl
 ·rintro ρ S1 ⟨a4,u,rfl,e1,hul,hu,f1,k1⟩;refine hK _ _ (st ?_);dsimp only[wS,wE,wA,wV,wG];exact ff e1 (k u _ hul hu f1 k1)
theorem kj (G:Gen defs)(hg:Is defs ("_law_any_world" : JG) 3 6 bW){a:Jp}{bs:Jf Jy}{ms ns:Jf JG}{b0:W}{many:Jp}(hf:Fl S r)(ha:0 < a)(ha3:a<=3)(hb:GoodB bs)(hml:ms.length=a)(hnl:ns.length=bs.length)(hm:many<=999)(k:∀(u:Wd) S',u.length=many->GoodW a bs.length u->Fl S' r->Kp r S S'->Q (aM u,S')) :
  wO (bF (ap defs fuel (d+2)) "_law_any_world" 3 [.ref r,.tup [.tup (ms.map W.str),.tup (JL bG ns bs),b0],.int many] S) Q:=by
 refine az hg rfl rfl λQ' hR=>?_
 replace k:∀(u:Wd) S',u.length=many->GoodW a bs.length u->Fl S' r->Kp r S S'->Q' (.rt (aM u),S'):=λz S' a b c e=>hR _ _ (k z S' a b c e)
 clear hR;have hb1:1<=bs.length/\bs.length<=3:=by rcases hb with rfl|rfl|rfl|rfl|rfl|rfl <;> decide
 have hzl:(JL bG ns bs).length=bs.length:=by rw[MG]; omega
 have hmm:(ms.map W.str).length=a:=by rw[Ji,hml]
 generalize ms.map W.str=M at hmm;generalize JL bG ns bs=N at hzl;show wZ _ _ bW [ba (.ref r),ba (.tup [.tup M,.tup N,b0]),ba (.int many),gV,gV,gV] S Q';dsimp only[bW];have hrt:=hf.lt;refine st ?_;dsimp only[wS,wE,wA,Jx];refine aZ λK hK=>?_
 refine cJ (many:Jy) (λk ρ S'=>∃a4 a5 u,ρ=[ba (.ref r),ba (.tup [.tup M,.tup N,b0]),ba (.int many),ba (.ref S.length),a4,a5]/\S'[S.length]?=ba (.lst (u.map gc))/\u.length=k/\GoodW a bs.length u/\Fl S' r/\Kp r S S') rfl rfl (by omega) ⟨rfl,gV,gV,[],rfl,aj,rfl,.nil,hf.ka .push,.push⟩ ?_ ?_
 ·rintro i ρ S1 hi ⟨a4,a5,u,rfl,e1,hul,hu,f1,k1⟩ Q2 hn' _;clear hK;refine st ?_;dsimp only[wS,wE,wA,wV,wG,Jx];refine am (by decide) rfl (bK ?_)
  rw[hmm];refine be (d:=d) G.pick f1 (by omega) (by omega) λv S2 v0 v1 f2 k2=>?_
  have e2:=k2.get _ _ (J2 ‹_›) e1;refine st ?_;dsimp only[wS,wE,wA,wV,wG,Jx];refine⟨eG e2,draws (n:=bs.length) (i:=i) (R:=[ba (.ref r),ba (.tup [.tup M,.tup N,b0])]) rfl rfl (by omega) rfl f2 (λQ q=>q) (λa S1 Q f q=>?_) λvs S3 hvl hv f3 k3=>?_⟩
  ·dsimp only[wE,wA,wV,wG];refine am (by decide) rfl (bK ?_)
   rw[hzl];exact be (d:=d) G.pick f (by omega) (by omega) q
  have e3:=aq (u:=O.lst (af vs)) (k3.get _ _ (J2 ‹_›) e2);refine ff aj (lQ e3 (by rw[Ji]; omega) (cr (hn' _ _ ⟨_,_,u++[(v,vs)],rfl,?_,by rw[Jt,hul]; rfl,hu.snoc ⟨v0,v1⟩ (hvl.trans hul.symm) hv,(f3.ka .push).own hrt,(k1.trans (k2.trans (k3.trans .push))).late (Js _)⟩)))
  rw[cf e3,Kd]; rfl
 ·rintro ρ S1 ⟨a4,a5,u,rfl,e1,hul,hu,f1,k1⟩;refine hK _ _ (st ?_);dsimp only[wS,wE,wA,wV,wG];exact ff e1 (k u _ (by omega) hu f1 k1)
end
noncomputable def lY (n:Jp):Jf Jy:=(Kh n).map λ(k:Jp)=>(k:Jy)
noncomputable def rC (a n:Jp):Jf Wd:=(lY a).flatMap λm0=>(lY a).flatMap λm1=>(lY a).flatMap λm2=>(lY n).flatMap λw1=>(lY n).flatMap λw2=>(lY n).map λw3=>[(m0,[]),(m1,[w1]),(m2,[w2,w3])]
noncomputable def bu (a:Jp)(bs:Jf Jy):Jf Wd:=((rC a bs.length).map (jG bs)).eraseDups
theorem dy {n:Jp}{x:Jy}(h0:0<=x)(h1:x < n):x∈lY n:=JT.mpr ⟨x.toNat,KJ.mpr (by omega),by omega⟩
theorem wf {a n:Jp}{u:Wd}(h:GoodW a n u)(h3:u.length=3):u∈rC a n:=by
 match u,h3 with
 | [(m0,w0),(m1,w1),(m2,w2)],_=>
  have l0:=h.len 0 _ rfl;have l1:=h.len 1 _ rfl;have l2:=h.len 2 _ rfl;simp only at l0 l1 l2
  match w0,l0 with
  | [],_=>
   match w1,l1 with
   | [x],_=>
    match w2,l2 with
    | [y,z],_=>
     have a0:=h.mark 0 _ rfl;have a1:=h.mark 1 _ rfl;have a2:=h.mark 2 _ rfl;have b1:=h.way 1 _ rfl x (by simp)
     have b2:=h.way 2 _ rfl y (by simp)
     have b3:=h.way 2 _ rfl z (by simp)
     unfold rC;simp only[Od,JT];exact⟨m0,dy a0.1 a0.2,m1,dy a1.1 a1.2,m2,dy a2.1 a2.2,x,dy b1.1 b1.2,y,dy b2.1 b2.2,z,dy b3.1 b3.2,rfl⟩
theorem uX {a:Jp}{bs:Jf Jy}{u:Wd}(h:GoodW a bs.length u)(h3:u.length=3):jG bs u∈bu a bs:=by
 unfold bu;rw[NL];exact JT.mpr ⟨u,wf h h3,rfl⟩
structure SizeOk (a:Jp)(bs:Jf Jy):Prop where
 pos:0 < a
 good:GoodB bs
 most:a*bs.length<=6
 a3:a<=3
theorem SizeOk.n3 {a:Jp}{bs:Jf Jy}(h:SizeOk a bs):0 < bs.length/\bs.length<=3:=by
 rcases h.good with rfl|rfl|rfl|rfl|rfl|rfl <;> decide
theorem Io:(bu 1 [0]).length < 64/\(bu 2 [0]).length < 64/\(bu 3 [0]).length < 64:=by decide +kernel
theorem Hc:(bu 1 [0,1]).length < 64/\(bu 2 [0,1]).length < 64/\(bu 1 [1,0]).length < 64/\(bu 2 [1,0]).length < 64:=by decide +kernel
theorem Ip:(bu 1 [0,1,2]).length < 64/\(bu 1 [1,0,2]).length < 64/\(bu 1 [0,2,1]).length < 64:=by decide +kernel
theorem Iq:(bu 3 [0,1]).length < 64:=by decide +kernel
theorem Ir:(bu 3 [1,0]).length < 64:=by decide +kernel
theorem Iu:(bu 2 [0,1,2]).length < 64:=by decide +kernel
theorem Iv:(bu 2 [1,0,2]).length < 64:=by decide +kernel
theorem Iw:(bu 2 [0,2,1]).length < 64:=by decide +kernel
theorem lc {a:Jp}{bs:Jf Jy}(h:SizeOk a bs):(bu a bs).length < 64:=by
 obtain⟨h0,hb,hm,h3⟩:=h;have ha:a=1\/a=2\/a=3:=by omega
 rcases hb with rfl|rfl|rfl|rfl|rfl|rfl <;> rcases ha with rfl|rfl|rfl
 ·exact Io.1
 ·exact Io.2.1
 ·exact Io.2.2
 ·exact Hc.1
 ·exact Hc.2.1
 ·exact Iq
 ·exact Hc.2.2.1
 ·exact Hc.2.2.2
 ·exact Ir
 ·exact Ip.1
 ·exact Iu
 ·simp at hm
 ·exact Ip.2.1
 ·exact Iv
 ·simp at hm
 ·exact Ip.2.2
 ·exact Iw
 ·simp at hm
theorem zu (bs:Jf Jy)(u:Wd):∃t∈ay,jG bs u=bq bs u t:=by
 have h7:(ay.map (bq bs u)).length=6:=by rw[Ji]; rfl
 have h8:((ay.map (bq bs u)).map cL).length=6:=by rw[Ji,h7]
 have hlt:o9 ((ay.map (bq bs u)).map cL) < (ay.map (bq bs u)).length:=by
  unfold o9;have h6:=fU (qH ((ay.map (bq bs u)).map cL)) (((ay.map (bq bs u)).map cL).length - 1);rw[h7]; exact LP ‹_› (JJ rfl)
 unfold jG;rw[getD_some (Jw hlt)];obtain⟨t,ht,e⟩:=JT.mp (Kq hlt);exact⟨t,ht,e.symm⟩
theorem B1 (bs:Jf Jy)(u:Wd):jG bs u≠[]:=by
 obtain⟨t,ht,e⟩:=zu bs u;rw[e];have:∀t∈ay,t≠[]:=by decide
 have h:=this t ht;intro z;have hl:(bq bs u t).length=t.length:=by simp[bq]
 rw[z]at hl;exact h (LB.mp hl.symm)
theorem rD:∀ {xs ys:Jf Jy},xs.map T.int=ys.map T.int->xs=ys
 | [],[],_=>rfl
 | [],_::_,h=>by cases h
 | _::_,[],h=>by cases h
 | x::xs,y::ys,h=>by
  rw[KF,KF]at h;injection h with h1 h2
  injection h1 with h1
  rw[h1,rD h2]
theorem B2 {p q:Pt}(h:pG p=pG q):p=q:=by
 unfold pG at h;injection h with h
 injection h with h1 h2
 injection h1 with h1
 injection h2 with h2 _
 injection h2 with h2
 exact Sz h1 (rD h2)
theorem pM {u v:Wd}(h:cL u=cL v):u=v:=by
 unfold cL at h;injection h with h
 have inj:∀ {u v:Wd},u.map pG=v.map pG->u=v:=by
  intro u
  induction u with
  | nil=>intro v h; cases v with
   | nil=>rfl
   | cons _ _=>cases h
  | cons p u ih=>intro v h; cases v with
   | nil=>cases h
   | cons q v=>
    rw[KF,KF]at h;injection h with h1 h2
    rw[B2 h1,ih h2]
 exact inj h
theorem jH {kvs:Jf (T×W)}{k:T}{v:W}:(eQ kvs k v).map (·.1)=if k∈kvs.map (·.1)then kvs.map (·.1)else kvs.map (·.1)++[k]:=by
 have hany:(kvs.any λp=>decide (p.1=k))=decide (k∈kvs.map (·.1)):=by
  induction kvs with
  | nil=>rfl
  | cons p kvs ih=>
   rw[LI,ih,KF]
   by_cases e:p.1=k
   ·subst e; simp
   ·rw[JZ e,N3];have:(k∈p.1::kvs.map (·.1))=(k∈kvs.map (·.1)):=by simp[Ne.symm e]
    simp only[this]
 unfold eQ;rw[hany]
 by_cases h:k∈kvs.map (·.1)
 ·rw[JN h,JN (Lr h),LZ];refine MF λp _=>?_
  show(if p.1=k then(p.1,v)else p).1=p.1
  split <;> rfl
 ·rw[JX h,JX (by simpa using h),Kd]
  rfl
structure FigD (L:Jf Wd)(kvs:Jf (T×W))(fs:Jf Wd):Prop where
 keys:kvs.map (·.1)=fs.map cL
 nd:fs.Nodup
 mem:∀f∈fs,f∈L
theorem FigD.nil {L:Jf Wd}:FigD L [] []:=⟨rfl,NK,λ_ h=>nomatch h⟩
theorem FigD.len {L:Jf Wd}{kvs:Jf (T×W)}{fs:Jf Wd}(h:FigD L kvs fs):kvs.length=fs.length/\fs.length<=L.length:=by
 have:=congrArg RK h.keys;rw[Ji,Ji]at this;exact⟨this,lU fs L h.nd h.mem⟩
theorem FigD.put {L:Jf Wd}{kvs:Jf (T×W)}{fs:Jf Wd}{f:Wd}{v:W}(h:FigD L kvs fs)(hf:f∈L):∃fs',FigD L (eQ kvs (cL f) v) fs':=by
 by_cases hm:f∈fs
 ·refine⟨fs,?_,h.nd,h.mem⟩;rw[jH,JN (by rw[h.keys]; exact JT.mpr ⟨f,hm,rfl⟩),h.keys]
 ·refine⟨fs++[f],?_,?_,λg hg=>?_⟩
  ·rw[jH,JX,h.keys,Kd]
   ·rfl
   ·rw[h.keys];intro z;obtain⟨g,hg,e⟩:=JT.mp z;exact hm (pM e ▸ hg)
  ·rw[P7];refine⟨h.nd,by simp,λa ha b hb e=>?_⟩
   rw[JC.mp hb]at e;exact hm (e ▸ ha)
  ·rcases J9.mp hg with h'|h'
   ·exact h.mem g h'
   ·rw[JC.mp h']; exact hf
theorem FigD.items {S:aa}{t:Jp}{L:Jf Wd}{kvs:Jf (T×W)}{fs:Jf Wd}(h:FigD L kvs fs)(e:S[t]?=ba (.dic kvs)):eB S (.ref t)=ba (fs.map aM):=by
 simp only[eB,pB e,cH e,Kb];congr 1;have:(kvs.map (·.1)).map T.w=(fs.map cL).map T.w:=by rw[h.keys]
 rw[LZ,LZ]at this
 calc kvs.map (λp=>p.1.w)=kvs.map (T.w∘λx=>x.1):=rfl
  _=fs.map (T.w∘cL):=this
  _=fs.map aM:=by
   refine MF λf _=>?_
   exact zh f
theorem rE {a:Jp}{bs:Jf Jy}{f:Wd}(h:f∈bu a bs):f≠[]:=by
 unfold bu at h;rw[NL]at h;obtain⟨u,_,rfl⟩:=JT.mp h;exact B1 bs u
theorem zv {S:aa}{t:Jp}{kvs:Jf (T×W)}{u:Wd}{v:W}(h:S[t]?=ba (.dic kvs))(hl:kvs.length < sizeLine):iV (.ref t) (aM u) v S=ba (S.set t (.dic (eQ kvs (cL u) v))):=by
 have hk:=pH u;unfold aM at hk ⊢;simp only[iV,o5,h,hk];rw[JN hl]
structure RuleAt (a:Jp)(bs:Jf Jy)(ms ns:Jf JG)(gs:Jf Wd):Prop where
 size:SizeOk a bs
 ml:ms.length=a
 nl:ns.length=bs.length
 nm:GoodN ms ns
 nd:gs.Nodup
 mem:∀g∈gs,g∈bu a bs
noncomputable def eN (w:W):Prop:=∃a bs ms ns gs,w=dZ ms ns bs (cO gs)/\RuleAt a bs ms ns gs
section
variable{Φ:JG->FF}{fuel:Jp}{ρ:Fm}{S:aa}{K:Fm->aa->Prop}{Q:QO}
theorem ja {i0:Jp}{e:E}{b:Ss}(oe:ft e=true)(ok:gY b=true)(he:wE Φ e ρ S λp=>∃(j:Jy) (I:Jp->Fm->aa->Prop),p.1=.int j/\(-(2 ^ 62)<=j/\j < 2 ^ 62)/\I 0 ρ p.2/\
  (∀(i:Jp) (ρ:Fm) (S:aa),(i:Jy) < j->I i ρ S->wI Φ fuel b (ρ.set i0 (ba (.int i))) S (I (i+1)) Q)/\∀ρ S,I j.toNat ρ S->K ρ S):Wp (gn Φ fuel (.loop (.nm i0) (.rng (.cons e .nil)) b) ρ S) (sa K Q):=by
 obtain⟨w,S1,e1,j,I,rfl,hj,h0,hs,hend⟩:=db oe he;have hl:(dR 0 j.toNat).length=j.toNat:=by simp[dR]
 refine iB (mi:=.its (dR 0 j.toNat)) (S1:=S1) (xs:=dR 0 j.toNat) I ok ?_ (λ_ _ _ _=>rfl) rfl h0 (λi w ρ S hw hI=>?_) λρ S hI=>hend ρ S (hl ▸ hI)
 ·simp only[mK,dE,eX,kz,vT,e1];rw[JN hj]
 ·rw[eE]at hw;split at hw
  ·rename_i hk;cases hw;rw[Op];exact hs i ρ S (by omega) hI
  ·cases hw
theorem jb {tg:Tg}{e:E}{b:Ss}(oe:ft e=true)(ok:gY b=true)(he:wE Φ e ρ S λp=>∃(t:Jp) (xs:Jf W) (I:Jp->Fm->aa->Prop),p.1=.ref t/\I 0 ρ p.2/\(∀i ρ S,I i ρ S->S[t]?=ba (.lst xs))/\
  (∀(i:Jp) (w:W) (ρ:Fm) (S:aa),xs[i]?=ba w->I i ρ S->wO (gW tg w ρ S) λq=>wI Φ fuel b q.1 q.2 (I (i+1)) Q)/\∀ρ S,I xs.length ρ S->K ρ S):Wp (gn Φ fuel (.loop tg (.seq e) b) ρ S) (sa K Q):=by
 obtain⟨w,S1,e1,t,xs,I,rfl,h0,hat,hs,hend⟩:=db oe he;exact iB (mi:=.live t) (S1:=S1) I ok (by simp only[mK,fZ,e1,bc (hat _ _ _ h0)]) (λi ρ S h=>by simp only[MI.at,bc (hat _ _ _ h)]) (by simp only[MI.len,bc (hat _ _ _ h0),Kb]) h0 hs hend
end
section
variable{defs:Jf (JG×Df)}{fuel d:Jp}{S:aa}{r:Jp}{Q:QW}
theorem zw {q:Jp}{a:Jp}{bs:Jf Jy}{ms ns:Jf JG}{fs0:Jf Wd}{kvs:Jf (T×W)}{fs:Jf Wd}(h3:S[q]?=ba (.dic kvs))(h4:FigD (bu a bs) kvs fs)(hs:SizeOk a bs)(hml:ms.length=a)(hnl:ns.length=bs.length)(hnm:GoodN ms ns)(k:∀w S',eN w->Ka S S'->Q (w,S')) :
  wO (r9 (dZ ms ns bs fs0) (.int 0) S) λp=>wO (r9 (dZ ms ns bs fs0) (.int 1) p.2) λq'=>wO (Bi.sorted.fn [.ref q] q'.2) λs=>wO (Bi.tuple.fn [s.1] s.2) λz=>Q (.tup [p.1,q'.1,z.1],z.2):=by
 refine am (by decide) rfl (am (by decide) rfl ?_)
 have hl:=h4.len;exact zp (h4.items h3) (by have:=lc hs; omega) (λf hf=>rE (h4.mem f hf)) (ff aj (k _ _ ⟨a,bs,ms,ns,fs,rfl,hs,hml,hnl,hnm,h4.nd,h4.mem⟩ .push))
theorem zx {q:Jp}{a:Jp}{bs:Jf Jy}{u:Wd}{kvs:Jf (T×W)}{fs:Jf Wd}{Q:aa->Prop}(h3:S[q]?=ba (.dic kvs))(h4:FigD (bu a bs) kvs fs)(hs:SizeOk a bs)(hu:GoodW a bs.length u)(hu3:u.length=3)
  (k:∀o,(∃kvs fs,(S.set q o)[q]?=ba (.dic kvs)/\FigD (bu a bs) kvs fs)->Q (S.set q o)):wO (iV (.ref q) (aM (jG bs u)) (.bl true) S) Q:=by
 have hl:=h4.len;have:=lc hs;obtain⟨fs',h5⟩:=h4.put (v:=.bl true) (uX hu hu3);exact ae (zv h3 (by rw[Ki]; omega)) (k _ ⟨_,fs',cf h3,h5⟩)
theorem tq (hfu:20 < fuel)(G:Gen defs)(hf:Fl S r)(k:∀w S',eN w->Fl S' r->Kp r S S'->Q (w,S')):wO (bF (ap defs fuel (d+6)) "_law_any_rule" 1 [.ref r] S) Q:=by
 refine az G.any_rule rfl rfl λQ' hR=>?_
 replace k:∀w S',eN w->Fl S' r->Kp r S S'->Q' (.rt w,S'):=λz S' a b c=>hR _ _ (k z S' a b c)
 clear hR;show wZ _ _ dw [ba (.ref r),gV,gV,gV,gV,gV] S Q';dsimp only[dw];refine aZ λK hK=>?_
 dsimp only[wS,wE,wA,wV,wG];refine pK (d:=d+3) G hf λa n S1 a1 a3 n1 n3 an f1 k1=>?_
 dsimp only[wU];refine ae (show eD [1,2] [.int a,.int n] [ba (.ref r),gV,gV,gV,gV,gV]=ba [ba (.ref r),ba (.int a),ba (.int n),gV,gV,gV]from rfl) (hK _ _ ?_)
 clear hK K;refine aZ λK hK=>?_
 dsimp only[wS,wE,wA,wV,wG,Jx];refine pL (d:=d+3) G f1 n1 n3 λbs S2 hb hbl f2 k2=>?_
 have hsz:SizeOk a bs:=⟨by omega,hb,by rw[hbl]; exact an,a3⟩
 refine fW (d:=d) hfu G f2 a3 (by omega) λms ns S3 hml hnl hnm f3 k3=>hK _ _ ?_
 clear hK K;have hrt:=f3.lt;replace k3:Kp r S S3:=k1.trans (k2.trans k3);clear k1 k2 f1 f2;refine st ?_;dsimp only[wS,wE,Jx];refine aZ λK hK=>?_
 refine ja rfl rfl ?_;dsimp only[wE,wA,wV,wG];refine be (d:=d+4) G.pick (f3.ka .push) (by decide) (by decide) λv S4 v0 v9 f4 k4=>?_
 refine⟨v,λk ρ S'=>(∃a5,ρ=[ba (.ref r),ba (.int a),ba (.int n),ba (dZ ms ns bs []),ba (.ref S3.length),a5])/\(∃kvs fs,S'[S3.length]?=ba (.dic kvs)/\FigD (bu a bs) kvs fs)/\Fl S' r/\Kp r S S',rfl,by omega,⟨⟨gV,rfl⟩,⟨[],[],k4.get _ _ (J2 ‹_›) aj,.nil⟩,f4,(k3.trans .push).trans k4⟩,?_,?_⟩
 ·rintro i ρ S5 hi ⟨⟨a5,rfl⟩,⟨kvs,fs,e5,hd⟩,f5,k5⟩ Q2 hn _;clear hK;refine st ?_;dsimp only[wS,wE,wA,wV,wG,Jx];refine i9 (d:=d+3) G f5 (by omega) a3 (by omega) n3 λu S6 hu3 hu f6 k6=>?_
  have hu:GoodW a bs.length u:=hbl.symm ▸ hu;refine i8 (d:=d+2) G hb hnl hu hu3 λS7 k7=>?_
  have e7:=k7.get _ _ (k6.get _ _ (J2 ‹_›) e5);exact zx e7 hd hsz hu hu3 λo ho=>cr (hn _ _ ⟨⟨_,rfl⟩,ho,(f6.ka k7).own hrt,((k5.trans k6).trans (k7.kp r)).late k3.len⟩)
 ·rintro ρ S5 ⟨⟨a5,rfl⟩,⟨kvs,fs,e5,hd⟩,f5,k5⟩;refine hK _ _ (st ?_);dsimp only[wS,wE,wA,wV,wG];exact zw (Q:=λp=>Q' (.rt p.1,p.2)) e5 hd hsz hml hnl hnm λw S6 hw k6=>k w S6 hw (f5.ka k6) (k5.trans (k6.kp r))
end
noncomputable def pN (t:Jy×Jy×Jy):W:=.tup [.int t.1,.int t.2.1,.int t.2.2]
noncomputable def rF (a:Jp)(t:Jy×Jy×Jy):Prop:=(0<=t.1/\t.1 < a)/\(0<=t.2.1/\t.2.1 < a)/\(0<=t.2.2/\t.2.2 < a)
noncomputable def zy (k:Jy):Wd:=[(k,[]),(k,[0]),(k,[0,0])]
theorem Ix:∀k∈lY 1,zy k∈bu 1 [0]:=by decide +kernel
theorem Iy:∀k∈lY 2,zy k∈bu 2 [0]:=by decide +kernel
theorem Iz:∀k∈lY 3,zy k∈bu 3 [0]:=by decide +kernel
theorem B3 {a:Jp}{k:Jy}(h0:1<=a)(h3:a<=3)(hk:0<=k)(hk2:k < a):zy k∈bu a [0]:=by
 have ha:a=1\/a=2\/a=3:=by omega
 rcases ha with rfl|rfl|rfl
 ·exact Ix k (dy hk hk2)
 ·exact Iy k (dy hk hk2)
 ·exact Iz k (dy hk hk2)
theorem B4 {a b:Jy}(h:zy a=zy b):a=b:=by
 unfold zy at h;injection h with h1 h2
 injection h1
theorem pO:GoodB [0]:=.inl rfl
theorem CT {S:aa}{i j:Jp}{xs:Jf W}(h1:S[i]?=ba (.lst xs))(h2:S[j]?=ba (.lst [])):cU .eq (.ref i) (.ref j) S=ba (.bl xs.isEmpty,S):=by
 show(kw S (19+1) (.ref i) (.ref j)).map _=_;simp only[kw,d7 h1,d7 h2];cases xs with
 | nil=>rfl
 | cons x xs=>rfl
theorem B5 {S:aa}{f:Jy}{ws:Jf Jy}:∃b,cU .notin (.int f) (.tup (af ws)) S=ba (.bl b,S):=by
 have hf:(cp (.int f)&&(af ws).all cp)=true:=by
  simp only[cp,MM,JO];intro x hx;obtain⟨z,_,rfl⟩:=JT.mp hx;rfl
 refine⟨!(af ws).any λz=>xC z (.int f),?_⟩
 show iM .notin (.int f) (.tup (af ws)) S=_;simp only[iM,DI,AV,eT,hf,K6,Kb]
section
variable{Φ:JG->FF}{fuel:Jp}{ρ:Fm}{S:aa}{K:Fm->aa->Prop}{Q:QO}
theorem fG {i0:Jp}{a b:E}{bd:Ss}(i j:Jy)(I:Jp->Fm->aa->Prop)(oa:ft a=true)(ob:ft b=true)(ok:gY bd=true)(hj : -(2 ^ 62)<=i/\i < 2 ^ 62/\-(2 ^ 62)<=j/\j < 2 ^ 62)(he:wE Φ a ρ S λp=>p.1=.int i/\wE Φ b ρ p.2 λq=>q.1=.int j/\I 0 ρ q.2)
  (hstep:∀(k:Jp) (ρ:Fm) (S:aa),(k:Jy) < j - i->I k ρ S->wI Φ fuel bd (ρ.set i0 (ba (.int (i+k)))) S (I (k+1)) Q) (hend:∀ρ S,I (j - i).toNat ρ S->K ρ S):Wp (gn Φ fuel (.loop (.nm i0) (.rng2 (.cons a (.cons b .nil))) bd) ρ S) (sa K Q):=by
 obtain⟨w,S1,e1,rfl,h1⟩:=db oa he;obtain⟨w,S2,e2,rfl,h0⟩:=db ob h1;have hl:(dR i (j - i).toNat).length=(j - i).toNat:=by simp[dR]
 refine iB (mi:=.its (dR i (j - i).toNat)) (S1:=S2) (xs:=dR i (j - i).toNat) I ok ?_ (λ_ _ _ _=>rfl) rfl h0 (λk w ρ S hw hI=>?_) λρ S hI=>hend ρ S (hl ▸ hI)
 ·simp only[mK,dE,eX,kz,iRng2,e1,e2];rw[JN hj]
 ·rw[eE]at hw;split at hw
  ·rename_i hk;cases hw;exact hstep k ρ S (by omega) hI
  ·cases hw
theorem zz {elt a b:E}{i0:Jp}{cs:Es}{cap:Jf (Jn Jp)}{Q:QW}(i j:Jy)(I:Jp->Jf W->Fm->aa->Prop)(oa:ft a=true)(ob:ft b=true)(oe:ft elt=true)(oc:sZ cs=true)(hj : -(2 ^ 62)<=i/\i < 2 ^ 62/\-(2 ^ 62)<=j/\j < 2 ^ 62)(he:wE Φ a ρ S λp=>p.1=.int i/\wE Φ b ρ p.2 λq=>q.1=.int j/\I 0 [] (gT cap ρ) q.2)
  (hstep:∀(k:Jp) (ys:Jf W) (ρ:Fm) (S:aa),(k:Jy) < j - i->I k ys ρ S->mG Φ elt cs (ρ.set i0 (ba (.int (i+k)))) S (λy=>I (k+1) (ys++[y])) (I (k+1) ys))
  (hend:∀ys ρ S,I (j - i).toNat ys ρ S->ys.length<=sizeLine/\Q (.ref S.length,S++[.lst ys])):Wp (aI Φ (.comp elt (.nm i0) (.rng2 (.cons a (.cons b .nil))) cs cap) ρ S) Q:=by
 obtain⟨w,S1,e1,rfl,h1⟩:=db oa he;obtain⟨w,S2,e2,rfl,h0⟩:=db ob h1;have hl:(dR i (j - i).toNat).length=(j - i).toNat:=by simp[dR]
 refine jD (mi:=.its (dR i (j - i).toNat)) (S1:=S2) (xs:=dR i (j - i).toNat) I oe oc ?_ (λ_ _ _ _ _=>rfl) rfl h0 (λk w ys ρ S hw hI=>?_) λys ρ S hI=>hend ys ρ S (hl ▸ hI)
 ·simp only[mK,dE,eX,kz,iRng2,e1,e2];rw[JN hj]
 ·rw[eE]at hw;split at hw
  ·rename_i hk;cases hw;exact hstep k ys ρ S (by omega) hI
  ·cases hw
end
section
variable{defs:Jf (JG×Df)}{fuel d:Jp}{S:aa}{r:Jp}{Q:QW}
theorem zA (G:Gen defs){a:Jp}(ha:a<=3)(k:∀(q:Jp) (ts:Jf (Jy×Jy×Jy)) (S':aa),S'[q]?=ba (.lst (ts.map pN))->(∀t∈ts,rF a t)->S.length<=q->Ka S S'->Q (.ref q,S')) :
  wO (bF (ap defs fuel (d+1)) "_law_rising" 1 [.int a] S) Q:=by
 refine az G.rising rfl rfl λQ' hR=>?_
 replace k:∀(q:Jp) (ts:Jf (Jy×Jy×Jy)) (S':aa),S'[q]?=ba (.lst (ts.map pN))->(∀t∈ts,rF a t)->S.length<=q->Ka S S'->Q' (.rt (.ref q),S'):=λq ts S' a b c e=>hR _ _ (k q ts S' a b c e)
 clear hR;show wZ _ _ eg [ba (.int a),gV,gV,gV] S Q';dsimp only[eg];refine st ?_;dsimp only[wS,wE,wA,Jx];refine aZ λK hK=>?_
 refine cJ (a:Jy) (λi ρ S'=>∃(q:Jp) (ts:Jf (Jy×Jy×Jy)) (a2 a3:Jn W),ρ=[ba (.int a),ba (.ref q),a2,a3]/\S'[q]?=ba (.lst (ts.map pN))/\(∀t∈ts,rF a t)/\S.length<=q/\ts.length<=9*i/\Ka S S') rfl rfl (by omega) ⟨rfl,_,[],_,_,rfl,aj,λ_ h=>(nomatch h),Js _,KY _,.push⟩ ?_ ?_
 ·rintro i ρ S1 hi ⟨q,ts,a2,a3,rfl,e1,ht,hq,hl,k1⟩ Q2 hn _;clear hK k;refine aZ λK hK=>?_
  refine fG (i:Jy) (a:Jy) (λj ρ S'=>∃(q:Jp) (ts:Jf (Jy×Jy×Jy)) (a3:Jn W),ρ=[ba (.int a),ba (.ref q),ba (.int i),a3]/\S'[q]?=ba (.lst (ts.map pN))/\(∀t∈ts,rF a t)/\S.length<=q/\ts.length<=9*i+3*j/\Ka S S') rfl rfl rfl (by omega) ⟨rfl,rfl,q,ts,a3,rfl,e1,ht,hq,by omega,k1⟩ ?_ ?_
  ·rintro j ρ S2 hj ⟨q,ts,a3,rfl,e2,ht,hq,hl,k2⟩ Q3 hn3 _;clear hK hn;refine st ?_;dsimp only[wS,wE,wV,wG,Jx];refine zz ((i:Jy)+j) (a:Jy) (λm ys ρ2 S3=>(∃a1,ρ2=[gV,a1,ba (.int i),ba (.int ((i:Jy)+j))])/\(∃us:Jf (Jy×Jy×Jy),ys=us.map pN/\us.length=m/\∀t∈us,rF a t)/\S3=S2) rfl rfl rfl rfl (by omega) ⟨rfl,rfl,⟨gV,rfl⟩,⟨[],rfl,rfl,λ_ h=>nomatch h⟩,rfl⟩ ?_ ?_
   ·rintro m ys ρ2 S3 hm ⟨⟨a1,rfl⟩,⟨us,rfl,hul,hu⟩,rfl⟩;refine⟨λ_=>⟨⟨_,rfl⟩,⟨us++[((i:Jy),(i:Jy)+j,(i:Jy)+j+m)],by rw[Kd]; rfl,by rw[Jt,hul]; rfl,λt h=>?_⟩,rfl⟩,λz=>by cases z⟩
    rcases J9.mp h with h|h
    ·exact hu t h
    ·rw[JC.mp h];exact⟨⟨by omega,by assumption⟩,⟨by dsimp only; omega,by dsimp only; omega⟩,⟨by dsimp only; omega,by dsimp only; omega⟩⟩
   ·rintro ys ρ2 S3 ⟨_,⟨us,rfl,hul,hu⟩,rfl⟩;refine⟨kB (by rw[Ji]; omega),ae (yY (aq e2) aj ?_) (cr (hn3 _ _ ⟨_,ts++us,_,rfl,?_,λt h=>(J9.mp h).elim (ht t) (hu t),?_,?_,k2.trans (Ka.push.trans .push)⟩))⟩
    ·refine kB ?_;rw[Jt,Ji,Ji];omega
    ·rw[Kd]; exact aj
    ·have:=k2.len;simp only[Jt]; omega
    ·rw[Jt]; omega
  ·rintro ρ S2 ⟨q,ts,a3,rfl,e2,ht,hq,hl,k2⟩;exact hK _ _ (cr (hn _ _ ⟨q,ts,_,_,rfl,e2,ht,hq,by omega,k2⟩))
 ·rintro ρ S1 ⟨q,ts,a2,a3,rfl,e1,ht,hq,hl,k1⟩;refine hK _ _ (st ?_);exact k q ts S1 e1 ht hq k1
theorem wg (hfu:20 < fuel)(G:Gen defs)(hf:Fl S r)(k:∀w S',eN w->Fl S' r->Kp r S S'->Q (w,S')):wO (bF (ap defs fuel (d+6)) "_law_one_way_rule" 1 [.ref r] S) Q:=by
 refine az G.one_way_rule rfl rfl λQ' hR=>?_
 replace k:∀w S',eN w->Fl S' r->Kp r S S'->Q' (.rt w,S'):=λz S' a b c=>hR _ _ (k z S' a b c)
 clear hR;show wZ _ _ cm [ba (.ref r),gV,gV] S Q';dsimp only[cm];refine aZ λK hK=>?_
 dsimp only[wS,wE,wA,wV,wG,Jx];refine be (d:=d+4) G.pick hf (by decide) (by decide) λv S1 v0 v3 f1 k1=>?_
 dsimp only[cN,aT];obtain⟨a,ea⟩ : ∃a:Jp,1+v=a:=⟨(1+v).toNat,by omega⟩
 rw[ea];refine hK _ _ ?_;clear hK K;refine aZ λK hK=>?_
 dsimp only[wS,wE,Jx];refine d8 (a:Jy) (λk zs ρ2 S2=>(∃a1,ρ2=[gV,a1,ba (.ref r)])/\(∃ks:Jf Jy,zs=(ks.map zy).map aM/\ks.Pairwise (·≠·)/\ks.length<=k/\∀x∈ks,0<=x/\x < k)/\Fl S2 r/\Kp r S1 S2) rfl rfl rfl (by omega) ⟨rfl,⟨gV,rfl⟩,⟨[],rfl,.nil,Js _,λ_ h=>(nomatch h)⟩,f1,.refl⟩ ?_ ?_
 ·rintro i zs ρ2 S2 hi ⟨⟨a1,rfl⟩,⟨ks,rfl,hkp,hkl,hks⟩,f2,k2⟩;clear hK k;dsimp only[mG,wC,wT,wE,wA,wV,wG,Jx];refine be (d:=d+4) G.pick f2 (by decide) (by decide) λv S3 _ _ f3 k3=>?_
  dsimp only[gX,aT,wB];refine⟨λ_=>⟨⟨_,rfl⟩,⟨ks++[(i:Jy)],by simp[zy,aM,gc],?_,by rw[Jt]; exact M9 hkl,λx hx=>?_⟩,f3,k2.trans k3⟩,λ_=>⟨⟨_,rfl⟩,⟨ks,rfl,hkp,by exact Lz ‹_›,λx hx=>⟨(hks x hx).1,by have:=(hks x hx).2; omega⟩⟩,f3,k2.trans k3⟩⟩
  ·rw[List.pairwise_append];refine⟨hkp,by simp,λx hx y hy e=>?_⟩
   have:=(hks x hx).2;rw[JC.mp hy]at e;omega
  ·rcases J9.mp hx with h|h
   ·exact⟨(hks x h).1,by have:=(hks x h).2; omega⟩
   ·rw[JC.mp h]; omega
 ·rintro zs ρ2 S2 ⟨_,⟨ks,rfl,hkp,hkl,hks⟩,f2,k2⟩;rw[JH]at hkl hks;refine⟨kB (by rw[Ji,Ji]; omega),hK _ _ (st ?_)⟩
  clear hK K;dsimp only[wS,wE,wA,wV,wG,Jx];have hlt:=f2.lt;refine ox (d:=d) (a:=a) (bs:=[0]) (us:=ks.map zy) hfu G (f2.ka .push) (by omega) (by decide) (λS' kk=>?_) (by rw[Ji]; omega) (λu hu=>by obtain⟨x,_,rfl⟩:=JT.mp hu; exact List.cons_ne_nil _ _) λms ns S3 hml hnl hnm f3 k3=>?_
  ·simp only[eB,bc (kk.get _ _ (J2 ‹_›) aj)]
  refine k _ _ ⟨a,[0],ms,ns,ks.map zy,rfl,⟨⟨by omega,pO,by simp; omega,by omega⟩,hml,hnl,hnm,?_,λg hg=>?_⟩⟩ f3 (k1.trans (k2.trans (Kp.push.trans k3)))
  ·unfold Sc;rw[NY];exact hkp.imp λh e=>h (B4 e)
  ·obtain⟨x,hx,rfl⟩:=JT.mp hg;exact B3 (by omega) (by omega) (hks x hx).1 (hks x hx).2
theorem rG (hfu:20 < fuel)(G:Gen defs)(hf:Fl S r)(k:∀w S',eN w->Fl S' r->Kp r S S'->Q (w,S')):wO (bF (ap defs fuel (d+6)) "_law_free_rule" 1 [.ref r] S) Q:=by
 refine az G.free_rule rfl rfl λQ' hR=>?_
 replace k:∀w S',eN w->Fl S' r->Kp r S S'->Q' (.rt w,S'):=λz S' a b c=>hR _ _ (k z S' a b c)
 clear hR;show wZ _ _ c8 [ba (.ref r),gV,gV,gV,gV,gV,gV,gV,gV] S Q';dsimp only[c8];refine aZ λK hK=>?_
 dsimp only[wS,wE,wA,wV,wG];refine pK (d:=d+3) G hf λa n S1 a1 a3 n1 n3 an f1 k1=>?_
 dsimp only[wU];refine ae (show eD [1,2] [.int a,.int n] [ba (.ref r),gV,gV,gV,gV,gV,gV,gV,gV]=ba [ba (.ref r),ba (.int a),ba (.int n),gV,gV,gV,gV,gV,gV]from rfl) (hK _ _ ?_)
 clear hK K;refine aZ λK hK=>?_
 dsimp only[wS,wE,wA,wV,wG,Jx];refine pL (d:=d+3) G f1 n1 n3 λbs S2 hb hbl f2 k2=>?_
 have hsz:SizeOk a bs:=⟨by omega,hb,by rw[hbl]; exact an,a3⟩
 refine fW (d:=d) hfu G f2 a3 (by omega) λms ns S3 hml hnl hnm f3 k3=>hK _ _ ?_
 clear hK K;have hrt:=f3.lt;replace k3:Kp r S S3:=k1.trans (k2.trans k3);clear k1 k2 f1 f2;refine aZ λK hK=>?_
 dsimp only[wS,wE,Jx];refine d8 (n:Jy) (λi zs ρ2 S2=>(∃a1,ρ2=[gV,a1,ba (dZ ms ns bs [])])/\(∃ks:Jf Jy,zs=af ks/\ks.length<=i)/\S2=S3) rfl rfl rfl (by omega) ⟨rfl,⟨gV,rfl⟩,⟨[],rfl,Js _⟩,rfl⟩ ?_ ?_
 ·rintro i zs ρ2 S2 hi ⟨⟨a1,rfl⟩,⟨ks,rfl,hkl⟩,rfl⟩;clear hK k;have hi':i < bs.length:=by omega
  dsimp only[mG,wC,wT,wE,wA,wV,wG,Jx];refine am (by decide) rfl (am (JD i) (by rw[JH]; exact pJ (Jw (by omega)) (Jw hi')) (am (by decide) rfl ?_))
  dsimp only[gX,aT,wB];exact⟨λ_=>⟨⟨_,rfl⟩,⟨ks++[(i:Jy)],by unfold af; rw[Kd]; rfl,by rw[Jt]; exact M9 hkl⟩,rfl⟩,λ_=>⟨⟨_,rfl⟩,⟨ks,rfl,by exact Lz ‹_›⟩,rfl⟩⟩
 ·rintro zs ρ2 S2 ⟨_,⟨ks,rfl,hkl⟩,rfl⟩;rw[JH]at hkl;have il:(af ks).length=ks.length:=Ji ..;refine⟨kB (by omega),hK _ _ ?_⟩
  clear hK K;refine aZ λK hK=>?_
  dsimp only[wS,wT,wE,wA,wV,wG,Jx];refine ae (CT (aq aj) aj) ?_;dsimp only[wB];have f4:=(f3.ka (Ka.push (o:=O.lst (af ks)))).ka (Ka.push (o:=O.lst []));have k4:=k3.trans ((Kp.push (o:=O.lst (af ks))).trans (Kp.push (o:=O.lst [])));have e4:=aq (u:=O.lst []) (aj (S:=S2) (o:=O.lst (af ks)));have hl4:S2.length < (S2++[O.lst (af ks)]++[O.lst []]).length:=by simp
  generalize hS4:S2++[O.lst (af ks)]++[O.lst []]=S4 at f4 k4 e4 hl4;clear hS4;have ret:∀Q2:QO,(∀w S',Q' (.rt w,S')->Q2 (.rt w,S'))->wZ (ap defs fuel (d+5)) fuel (.cons (.ret (.v 3)) .nil) [ba (.ref r),ba (.int a),ba (.int n),ba (dZ ms ns bs []),gV,ba (.ref S2.length),gV,gV,gV] S4 Q2:=λQ2 hr=>st (hr _ _ (k _ _ ⟨a,bs,ms,ns,[],rfl,hsz,hml,hnl,hnm,.nil,λ_ h=>(nomatch h)⟩ f4 k4))
  refine⟨λ_=>aw (Q0:=Q') (λ_ Q2 _ hr=>ret Q2 hr) (λz=>by cases z),λhne=>?_⟩
  dsimp only[gX,aT,wB];refine aw (Q0:=Q') (λ_ Q2 _ hr=>ret Q2 hr) (λ_ Q2 hn _=>cr (hn _ _ (hK _ _ ?_)))
  clear hK ret hn;have hk0:0 < ks.length:=by
   cases ks with
   | nil=>cases hne
   | cons x ks=>exact Nat.succ_pos _
  refine aZ λK hK=>?_
  dsimp only[wS,wE,wA,wV,wG,Jx];refine i6 e4 ?_;rw[il];refine be (d:=d+4) G.pick f4 (by omega) (by omega) λv S5 v0 v1 f5 k5=>?_
  have e5:=k5.get _ _ (J2 ‹_›) e4;obtain⟨x,_,ex⟩:=lT (f:=W.int) (xs:=ks) (i:=v.toNat) (by omega)
  refine gw e5 v0 ex (hK _ _ ?_);clear hK K;replace k5:Kp r S S5:=k4.trans k5;have hrt5:=f5.lt;refine st ?_;dsimp only[wS,wE,Jx];refine aZ λK hK=>?_
  refine ja rfl rfl ?_;dsimp only[wE,wA,wV,wG];refine be (d:=d+4) G.pick (f5.ka .push) (by decide) (by decide) λv S6 v0 v9 f6 k6=>?_
  refine⟨v,λ_ ρ S'=>(∃a4 a8,ρ=[ba (.ref r),ba (.int a),ba (.int n),ba (dZ ms ns bs []),a4,ba (.ref S2.length),ba (.int x),ba (.ref S5.length),a8])/\(∃kvs fs,S'[S5.length]?=ba (.dic kvs)/\FigD (bu a bs) kvs fs)/\Fl S' r/\Kp r S S',rfl,by omega,⟨⟨gV,gV,rfl⟩,⟨[],[],k6.get _ _ (J2 ‹_›) aj,.nil⟩,f6,(k5.trans .push).trans k6⟩,?_,?_⟩
  ·rintro i ρ S7 hi ⟨⟨a4,a8,rfl⟩,⟨kvs,fs,e7,hd⟩,f7,k7⟩ Q2 hn _;clear hK k;refine st ?_;dsimp only[wS,wE,wA,wV,wG,Jx];refine i9 (d:=d+3) G f7 (by omega) a3 (JR ‹_› ‹_›) n3 λu S8 hu3 hu f8 k8=>?_
   have hu:GoodW a bs.length u:=hbl.symm ▸ hu;have e8:=k8.get _ _ (J2 ‹_›) e7;obtain⟨p0,p1,p2,rfl⟩ : ∃p0 p1 p2,u=[p0,p1,p2]:=by
    match u,hu3 with
    | [p0,p1,p2],_=>exact⟨p0,p1,p2,rfl⟩
   have l1:=hu.len 1 p1 rfl;obtain⟨m1,ws1⟩:=p1;obtain⟨w1,rfl⟩ : ∃w1,ws1=[w1]:=by
    match ws1,l1 with
    | [w1],_=>exact⟨w1,rfl⟩
   obtain⟨b,hb2⟩:=B5 (S:=S8) (f:=x) (ws:=p2.2);have kk:=k7.trans k8;refine aZ λK hK=>?_
   dsimp only[wS,wT,wE,wA,wV,wG];refine am (by decide) rfl (am (by decide) rfl (am (by decide) rfl ?_))
   dsimp only[Ik,aT,wB];have skip:K [ba (.ref r),ba (.int a),ba (.int n),ba (dZ ms ns bs []),ba (.int i),ba (.ref S2.length),ba (.int x),ba (.ref S5.length),ba (aM [p0,(m1,[w1]),p2])] S8:=hK _ _ (cr (hn _ _ ⟨⟨_,_,rfl⟩,⟨kvs,fs,e8,hd⟩,f8,kk⟩));refine⟨λ_=>?_,λ_=>aw (Q0:=Q2) (λz=>by cases z) λ_ Q3 hn3 _=>cr (hn3 _ _ skip)⟩
   refine am (by decide) rfl (am (by decide) rfl (ae hb2 ?_))
   dsimp only[wB];refine aw (Q0:=Q2) (λ_ Q3 hn3 _=>?_) λ_ Q3 hn3 _=>cr (hn3 _ _ skip)
   clear skip;refine st ?_;dsimp only[wS,wE,wA,wV,wG];refine i8 (d:=d+2) G hb hnl hu hu3 λS9 k9=>?_
   exact zx (k9.get _ _ e8) hd hsz hu hu3 λo ho=>cr (hn3 _ _ (hK _ _ (cr (hn _ _ ⟨⟨_,_,rfl⟩,ho,(f8.ka k9).own hrt5,(kk.trans (k9.kp r)).late k5.len⟩))))
  ·rintro ρ S7 ⟨⟨a4,a8,rfl⟩,⟨kvs,fs,e7,hd⟩,f7,k7⟩;refine hK _ _ (st ?_);dsimp only[wS,wE,wA,wV,wG];exact zw (Q:=λp=>Q' (.rt p.1,p.2)) e7 hd hsz hml hnl hnm λw S8 hw k8=>k w S8 hw (f7.ka k8) (k7.trans (k8.kp r))
end
noncomputable def ci (u v:Jy):T:=.tup [.int u,.int v]
noncomputable def dP (u v:Jy):W:=.tup [.int u,.int v]
theorem jc {u v:Jy}:gR (dP u v)=ba (ci u v):=rfl
theorem zB {kvs:Jf (T×W)}{k:T}{v:W}{p:T×W}(h:p∈eQ kvs k v):p∈kvs\/p=(k,v):=by
 unfold eQ at h;split at h
 ·obtain⟨q,hq,rfl⟩:=JT.mp h;split
  ·rename_i e; exact .inr (by rw[e])
  ·exact .inl hq
 ·rcases J9.mp h with h|h
  ·exact .inl h
  ·exact .inr (JC.mp h)
theorem lZ {kvs:Jf (T×W)}{k:T}{v:W}(h:cz kvs k=ba v):(k,v)∈kvs:=by
 unfold cz at h;rw[Jl]at h;obtain⟨p,h1,rfl⟩:=h;have:=OC h1;rw[<- Kn this];exact List.mem_of_find?_eq_some h1
theorem uY {kvs:Jf (T×W)}{p:T×W}(h:p∈kvs):∃v,cz kvs p.1=ba v:=by
 unfold cz;cases e:kvs.find? λq=>decide (q.1=p.1)with
 | some q=>exact⟨q.2,rfl⟩
 | none=>exact absurd (List.find?_eq_none.mp e p h) (by simp)
noncomputable def MustE (S:aa)(n b:Jp)(kvs:Jf (T×W)):Prop:=∀p∈kvs,∃(u v:Jy) (l:Jp) (ws:Jf Jy),p=(ci u v,W.ref l)/\(0<=u/\u < n)/\(0<=v/\v < n)/\b<=l/\S[l]?=ba (.lst (af ws))/\ws.length<=3/\∀w∈ws,0<=w/\w < (n:Jy)
theorem MustE.mono {S S':aa}{n b:Jp}{kvs:Jf (T×W)}(h:MustE S n b kvs)(k:∀(l:Jp) (ws:Jf Jy),b<=l->S[l]?=ba (.lst (af ws))->S'[l]?=ba (.lst (af ws))):MustE S' n b kvs:=λp hp=>
 let ⟨u,v,l,ws,h1,h2,h3,h4,h5,h6⟩:=h p hp
 ⟨u,v,l,ws,h1,h2,h3,h4,k l ws h4 h5,h6⟩
theorem MustE.ka {S S':aa}{n b:Jp}{kvs:Jf (T×W)}(h:MustE S n b kvs)(k:Ka S S'):MustE S' n b kvs:=h.mono λl ws _ e=>k.get _ _ e
theorem MustE.kp {S S':aa}{n b r:Jp}{kvs:Jf (T×W)}(h:MustE S n b kvs)(hr:r < b)(k:Kp r S S'):MustE S' n b kvs:=h.mono λl ws hl e=>k.get _ _ (by omega) e
theorem MustE.set {S:aa}{n b t:Jp}{kvs k:Jf (T×W)}{o:O}(h:MustE S n b kvs)(ht:S[t]?=ba (.dic k)):MustE (S.set t o) n b kvs:=h.mono λl ws hl e=>by
 rw[cg (by rintro rfl; rw[ht]at e; cases e)]; exact e
theorem MustE.put {S:aa}{n b:Jp}{kvs:Jf (T×W)}{u v:Jy}{l:Jp}{ws:Jf Jy}(h:MustE S n b kvs)(h2:0<=u/\u < n)(h3:0<=v/\v < n)(h4:b<=l)(h5:S[l]?=ba (.lst (af ws)))(h6:ws.length<=3)(h7:∀w∈ws,0<=w/\w < (n:Jy)):MustE S n b (eQ kvs (ci u v) (.ref l)):=λp hp=>by
 rcases zB hp with hp|rfl
 ·exact h p hp
 ·exact⟨u,v,l,ws,rfl,h2,h3,h4,h5,h6,h7⟩
noncomputable abbrev B6:=Jy×Jy×Jf Jy
noncomputable def rH (ws:Jf Jy):Es:=ws.foldr (λw es=>.cons (.c (.int w)) es) .nil
noncomputable def uZ:Jf B6->Es
 | []=>.nil
 | e::L=>.cons (.tup (.cons (.c (.int e.1)) (.cons (.c (.int e.2.1)) .nil))) (.cons (.lst (rH e.2.2)) (uZ L))
noncomputable def wj:Jf B6->Jp->Jf W
 | [],_=>[]
 | e::L,s=>dP e.1 e.2.1::.ref s::wj L (s+1)
noncomputable def wl (L:Jf B6):aa:=L.map λe=>O.lst (af e.2.2)
noncomputable def u4 (n:Jp)(e:B6):JW:=decide ((0<=e.1/\e.1 < n)/\(0<=e.2.1/\e.2.1 < n)/\e.2.2.length<=3)&&e.2.2.all λw=>decide (0<=w/\w < (n:Jy))
section
variable{Φ:JG->FF}{ρ:Fm}
theorem tu {S:aa}:∀ {ws:Jf Jy} {Q:Jf W×aa->Prop},Q (af ws,S)->wA Φ (rH ws) ρ S Q
 | [],Q,q=>by show wA Φ .nil ρ S Q; exact q
 | w::ws,Q,q=>by show wA Φ (.cons (.c (.int w)) (rH ws)) ρ S Q; dsimp only[wA,wE]; exact tu q
theorem zC:∀ {L:Jf B6} {S:aa} {Q:Jf W×aa->Prop},Q (wj L S.length,S++wl L)->wA Φ (uZ L) ρ S Q
 | [],S,Q,q=>by
  show wA Φ .nil ρ S Q;dsimp only[wA]
  rwa [show S++wl []=S from LC S]at q
 | e::L,S,Q,q=>by
  show wA Φ (.cons (.tup (.cons (.c (.int e.1)) (.cons (.c (.int e.2.1)) .nil))) (.cons (.lst (rH e.2.2)) (uZ L))) ρ S Q;dsimp only[wA,wE];refine tu (zC ?_);rw[Jt,Lj];exact q
end
theorem oy {S:aa}{n b:Jp}:∀(L:Jf B6) (s:Jp) (kvs:Jf (T×W)),MustE S n b kvs->b<=s->(∀e∈L,u4 n e=true)->(∀i e,L[i]?=ba e->S[s+i]?=ba (.lst (af e.2.2)))->∃kvs',dS kvs (wj L s)=ba kvs'/\MustE S n b kvs'/\kvs'.length<=kvs.length+L.length
 | [],s,kvs,hm,hb,hL,hS=>⟨kvs,by simp[wj,dS],hm,by simp⟩
 | e::L,s,kvs,hm,hb,hL,hS=>by
  have h1:=hL e (by simp)
  unfold u4 at h1;rw[Jo,JO]at h1;obtain⟨h2,h3,h4⟩:=Kn h1.1;obtain⟨kvs',k1,k2,k3⟩:=oy L (s+1) (eQ kvs (ci e.1 e.2.1) (.ref s)) (hm.put h2 h3 hb (by have:=hS 0 e rfl; simpa using this) h4 (λw hw=>Kn (h1.2 w hw))) (Lz ‹_›) (λx hx=>hL x (by simp[hx])) (λi x hx=>by have:=hS (i+1) x (by simpa using hx); rw[show s+1+i=s+(i+1) by omega]; exact this)
  refine⟨kvs',?_,k2,?_⟩
  ·simp only[wj,dS,jc]; exact k1
  ·have:=dg kvs (ci e.1 e.2.1) (.ref s);rw[Ky]; omega
noncomputable def KB:Jf (Jf Jy):=[[1,0],[0,2,1],[0,1],[0,1,2]]
noncomputable def KindOk (S:aa)(b:Jp)(w:W):Prop:=∃(bs:Jf Jy) (q:Jp) (kvs:Jf (T×W)) (most:Jy),w=.tup [.tup (af bs),.ref q,.int most]/\bs∈KB/\1<=most/\most<=3/\most*bs.length<=6/\S[q]?=ba (.dic kvs)/\b<=q/\kvs.length<=4/\MustE S bs.length b kvs
theorem KindOk.mono {S S':aa}{b:Jp}{w:W}(h:KindOk S b w)(k1:∀(l:Jp) (ws:Jf Jy),b<=l->S[l]?=ba (.lst (af ws))->S'[l]?=ba (.lst (af ws)))(k2:∀(l:Jp) (kvs:Jf (T×W)),b<=l->S[l]?=ba (.dic kvs)->S'[l]?=ba (.dic kvs)):KindOk S' b w:=
 let ⟨bs,q,kvs,most,h1,h2,h3,h4,h5,h6,h7,h8,h9⟩:=h
 ⟨bs,q,kvs,most,h1,h2,h3,h4,h5,k2 _ _ h7 h6,h7,h8,h9.mono k1⟩
theorem KindOk.ka {S S':aa}{b:Jp}{w:W}(h:KindOk S b w)(k:Ka S S'):KindOk S' b w:=h.mono (λl ws _ e=>k.get _ _ e) (λl ws _ e=>k.get _ _ e)
noncomputable def zD (bs:Jf Jy)(L:Jf B6)(most:Jy):E:=.tup (.cons (.tup (rH bs)) (.cons (.disp (uZ L)) (.cons (.c (.int most)) .nil)))
section
variable{Φ:JG->FF}{ρ:Fm}{S:aa}
theorem pP (bs:Jf Jy)(L:Jf B6)(most:Jy){b:Jp}{Q:QW}(hb:b<=S.length)(h1:bs∈KB)(h2:1<=most/\most<=3/\most*bs.length<=6)(hL:∀e∈L,u4 bs.length e=true)(h4:L.length<=4)(k:∀w S',KindOk S' b w->Ka S S'->Q (w,S')) :
  wE Φ (zD bs L most) ρ S Q:=by
 unfold zD;dsimp only[wE,wA];refine tu (zC ?_);obtain⟨kvs,k1,k2,k3⟩:=oy (S:=S++[O.dic []]++wl L) (n:=bs.length) (b:=b) L (S.length+1) [] (λ_ h=>nomatch h) (Lz ‹_›) hL (λi e he=>by
  rw[LM (by simp),show S.length+1+i - (S++[O.dic []]).length=i by simp]
  simp[wl,he])
 have hat:(S++[O.dic []]++wl L)[S.length]?=ba (.dic []):=by
  rw[Kt (by simp)]; exact aj
 refine⟨hat,ae (show dS [] (wj L (S++[O.dic []]).length)=ba kvs by rw[Jt]; exact k1) (k _ _ ⟨bs,S.length,kvs,most,rfl,h1,h2.1,h2.2.1,h2.2.2,cf hat,hb,?_,k2.set hat⟩ ⟨λj o h=>?_,by simp⟩)⟩
 ·simp only[Lk]at k3; omega
 ·have:j < S.length:=dv h;show((S++[O.dic []]++wl L).set S.length (O.dic kvs))[j]?=ba o;rw[cg (J2 ‹_›),Kt (by simp; omega)]
  exact aq h
structure Menu (S0 S:aa)(r t m:Jp):Prop where
 at_t:∃xs:Jf W,S[t]?=ba (.lst xs)/\xs.length=m/\∀x∈xs,KindOk S S0.length x
 pos:0 < m
 kB:m<=9
 fl:Fl S r
 kp:Kp r S0 S
 lt:S0.length<=t
 rlt:r < S0.length
theorem rJ {S0 S S':aa}{r t m:Jp}{w:W}(h:Menu S0 S r t m)(hw:KindOk S' S0.length w)(k:Ka S S')(hm:m < 9):∃xs,S'[t]?=ba (.lst xs)/\xs.length < sizeLine/\Menu S0 (S'.set t (.lst (xs++[w]))) r t (m+1):=by
 obtain⟨⟨xs,h1,h2,h3⟩,hp,hf,fl,kp,lt,rlt⟩:=h;have e:S'[t]?=ba (.lst xs):=k.get _ _ h1;have stay:∀x,KindOk S' S0.length x->KindOk (S'.set t (.lst (xs++[w]))) S0.length x:=λx hx=>hx.mono (λl ws hl el=>by
  by_cases hlt:t=l
  ·exfalso;subst hlt;rw[e]at el;injection el with el
   injection el with el
   match xs,h2,h3 with
   | [],h2,_=>simp at h2; omega
   | x::xs,_,h3=>
    obtain⟨bs,q,kvs,most,hx,_⟩:=h3 x (by simp)
    subst hx
    match ws with
    | []=>simp[af]at el
    | w::ws=>simp[af]at el
  ·rw[cg hlt]; exact el) (λl kvs hl el=>by
  rw[cg (by rintro rfl; rw[e]at el; cases el)]; exact el)
 refine⟨xs,e,(by rw[Ki]; omega),⟨xs++[w],cf e,by simp; assumption,λx hx=>?_⟩,by omega,by exact PP ‹_›,(fl.ka k).own (JR ‹_› ‹_›),(kp.trans (k.kp r)).late lt,lt,rlt⟩
 rcases J9.mp hx with hx|hx
 ·exact stay x ((h3 x hx).ka k)
 ·rw[JC.mp hx]; exact stay w hw
theorem rK (bs:Jf Jy)(L:Jf B6)(most:Jy){fuel:Jp}{S0:aa}{r t m:Jp}{x0:Jn W}{K:Fm->aa->Prop}{Q:QO}(h:Menu S0 S r t m)(hm:m < 9)(h1:bs∈KB)(h2:1<=most/\most<=3/\most*bs.length<=6)(hL:∀e∈L,u4 bs.length e=true)(h4:L.length<=4)(k:∀S',Menu S0 S' r t (m+1)->K [x0,ba (.ref t)] S') :
  wS Φ fuel (.ex (.me .append (.v 1) (.cons (zD bs L most) .nil))) [x0,ba (.ref t)] S K Q:=by
 dsimp only[wS,wE,wA,wV,wG];obtain⟨xs,e1,e2,e3⟩:=h.at_t;refine⟨eG e1,pP bs L most (JF h.lt (LG (dv e1))) h1 h2 hL h4 λw S' k1 k2=>?_⟩
 obtain⟨xs',f1,f2,f3⟩:=rJ h k1 k2 hm;exact ae (y4 f1 f2) (k _ f3)
theorem mN {defs:Jf (JG×Df)}{fuel d:Jp}{r:Jp}{Q:QW}(G:Gen defs)(hf:Fl S r)(k:∀w S',KindOk S' S.length w->Fl S' r->Kp r S S'->Q (w,S')):wO (bF (ap defs fuel (d+2)) "_law_laying_kind" 1 [.ref r] S) Q:=by
 refine az G.laying_kind rfl rfl λQ' hR=>?_
 replace k:∀w S',KindOk S' S.length w->Fl S' r->Kp r S S'->Q' (.rt w,S'):=λz S' a b c=>hR _ _ (k z S' a b c)
 clear hR;show wZ _ _ cx [ba (.ref r),gV] S Q';have hrt:=hf.lt;unfold cx;refine aZ λK hK=>?_
 refine GM ?_;change wA _ _ _ _ _;change wE _ _ _ _ _;refine pP [1,0] [(0,0,[0])] 3 (b:=S.length) (Js _) (by decide) (by decide) (by decide) (by decide) λw1 S1 k1 a1=>?_
 change wE _ _ _ _ _;refine pP [0,2,1] [(1,1,[1])] 2 (b:=S.length) a1.len (by decide) (by decide) (by decide) (by decide) λw2 S2 k2 a2=>?_
 have a12:=a1.trans a2;change wE _ _ _ _ _;refine pP [0,1] [(1,1,[1])] 3 (b:=S.length) a12.len (by decide) (by decide) (by decide) (by decide) λw3 S3 k3 a3=>?_
 have a13:=a12.trans a3;dsimp only[wA];refine hK _ _ ?_;clear hK K;have m3:Menu S (S3++[O.lst [w1,w2,w3]]) r S3.length 3:=by
  refine⟨⟨[w1,w2,w3],aj,rfl,λx hx=>?_⟩,by decide,by decide,(hf.ka a13).ka .push,(a13.trans .push).kp r,a13.len,hrt⟩
  rcases JP.mp hx with rfl|hx
  ·exact(k1.ka (a2.trans a3)).ka .push
  ·rcases JP.mp hx with rfl|hx
   ·exact(k2.ka a3).ka .push
   ·rw[JC.mp hx];exact k3.ka .push
 dsimp only[Jx];clear k1 k2 k3 a1 a2 a3 a12 a13;generalize S3.length=t at m3;generalize S3++[O.lst [w1,w2,w3]]=S3' at m3;refine aZ λK hK=>rK [0,1] [(1,1,[1]),(0,0,[1])] 3 m3 (by decide) (by decide) (by decide) (by decide) (by decide) λS4 m4=>hK _ _ ?_
 refine aZ λK hK=>rK [0,1] [(1,1,[])] 1 m4 (by decide) (by decide) (by decide) (by decide) (by decide) λS5 m5=>hK _ _ ?_
 refine aZ λK hK=>rK [0,2,1] [(0,0,[0]),(0,1,[1]),(1,0,[1]),(1,1,[1])] 2 m5 (by decide) (by decide) (by decide) (by decide) (by decide) λS6 m6=>hK _ _ ?_
 refine aZ λK hK=>?_
 dsimp only[wS,wE,wA,wV,wG];obtain⟨xs,e1,e2,e3⟩:=m6.at_t;obtain⟨xs',f1,f2,m7⟩:=rJ (S':=S6++[O.dic []]) (w:=.tup [.tup (af [1,0]),.ref S6.length,.int 3]) m6 ⟨[1,0],S6.length,[],3,rfl,by decide,by decide,by decide,by decide,aj,m6.kp.len,by decide,λ_ h=>(nomatch h)⟩ .push (by decide)
 refine⟨eG e1,ae (y4 f1 f2) (hK _ _ ?_)⟩;refine aZ λK hK=>rK [0,1,2] [(2,2,[2]),(1,2,[1]),(2,1,[1]),(1,1,[1,2])] 2 m7 (by decide) (by decide) (by decide) (by decide) (by decide) λS8 m8=>hK _ _ ?_
 refine aZ λK hK=>rK [0,1,2] [(0,0,[0,1])] 2 m8 (by decide) (by decide) (by decide) (by decide) (by decide) λS9 m9=>hK _ _ ?_
 refine st ?_;dsimp only[wS,wE,wA,wV,wG];refine be (d:=d) G.pick m9.fl (by decide) (by decide) λv S10 v0 v9 f10 k10=>?_
 obtain⟨xs,g1,g2,g3⟩:=m9.at_t;have hlt:=m9.lt;have hv:v.toNat < xs.length:=by omega
 exact gw (k10.get _ _ (by omega) g1) v0 (Jw hv) (k _ _ ((g3 _ (Kq hv)).mono (λl ws hl e=>k10.get _ _ (by omega) e) (λl ws hl e=>k10.get _ _ (by omega) e)) f10 (m9.kp.trans k10))
end
noncomputable def rL (bs:Jf Jy):Jf (Jf Jy):=if bs=[0,1,2]then[[0,1,2],[0,2,1],[1,0,2],[1,2,0],[2,0,1],[2,1,0]]else if bs.length=2 then[[0,1],[1,0]]else[[0,1,2],[0,2,1],[2,0,1],[2,1,0]]
noncomputable def ii (bs nm:Jf Jy):Jp->Jf Jy
 | 0=>J8 bs.length 0
 | k+1=>(ii bs nm k).set (nm.getD k 0).toNat (nm.getD (bs.getD k 0).toNat 0)
theorem jI (bs nm:Jf Jy):∀k,(ii bs nm k).length=bs.length
 | 0=>by simp[ii]
 | k+1=>by simp[ii,jI bs nm k]
theorem B7:∀bs∈KB,∀nm∈rL bs,nm.length=bs.length/\(∀x∈nm,0<=x/\x < (bs.length:Jy))/\(∀x∈bs,0<=x/\x < (bs.length:Jy))/\GoodB (ii bs nm bs.length):=by
 unfold GoodB;decide +kernel
theorem zE:∀bs∈KB,(bs.length=2\/bs.length=3)/\0 < (rL bs).length/\(rL bs).length < 10:=by decide
section
variable{Φ:JG->FF}{fuel:Jp}{ρ:Fm}{S:aa}{K:Fm->aa->Prop}{Q:QO}
theorem B8 {tg:Tg}{e:E}{b:Ss}(r:Jp)(kvs:Jf (T×W))(I:Jp->Fm->aa->Prop)(oe:ft e=true)(ok:gY b=true)(he:wE Φ e ρ S λp=>p.1=.ref r/\p.2[r]?=ba (.dic kvs)/\I 0 ρ (p.2.set r (.frd kvs)))
  (hstep:∀(i:Jp) (p:T×W) (ρ:Fm) (S:aa),kvs[i]?=ba p->I i ρ S->wO (gW tg p.1.w ρ S) λq=>wI Φ fuel b q.1 q.2 (I (i+1)) Q) (hend:∀ρ S,I kvs.length ρ S->K ρ S):Wp (gn Φ fuel (.loop tg (.seq e) b) ρ S) (sa K Q):=by
 obtain⟨w,S1,e1,rfl,e2,h0⟩:=db oe he;refine iB (mi:=.its (kvs.map λp=>p.1.w)) (S1:=S1.set r (.frd kvs)) (xs:=kvs.map λp=>p.1.w) I ok (by simp only[mK,fZ,e1,pB e2,cH e2]) (λ_ _ _ _=>rfl) rfl h0 (λi w ρ S hw hI=>?_) λρ S hI=>hend ρ S (by rwa [Ji]at hI)
 rw[Jr,Jl]at hw;obtain⟨p,hp,rfl⟩:=hw;exact hstep i p ρ S hp hI
end
section
variable{defs:Jf (JG×Df)}{fuel d:Jp}{S:aa}{r:Jp}{Q:QW}
theorem GQ {i n:Jp}{x:W}(h:S[i]?=ba (.lst [x]))(hn:n<=1000)(q:Q (.ref S.length,S++[.lst (J8 n x)])):wO (gj .mul (.ref i) (.int (n:Jy)) S) Q:=by
 refine ae ?_ q;have:n<=sizeLine:=kB hn;simp only[gj,xx,d7 h];rw[JN ⟨by omega,by omega,by simpa using this⟩]
 unfold mI;simp[this]
theorem oz {q:Jp}{kvs:Jf (T×W)}{u v:Jy}{w:W}(h:j8 S q=ba kvs)(hg:cz kvs (ci u v)=ba w):r9 (.ref q) (.tup [.int u,.int v]) S=ba (w,S):=by
 have hk:gR (.tup [.int u,.int v])=ba (ci u v):=jc;simp only[r9,h,hk,hg,Kb]
theorem zF {q:Jp}{kvs:Jf (T×W)}{u v:Jy}{w:W}(h:S[q]?=ba (.dic kvs))(hl:kvs.length < sizeLine):iV (.ref q) (.tup [.int u,.int v]) w S=ba (S.set q (.dic (eQ kvs (ci u v) w))):=by
 have hk:gR (.tup [.int u,.int v])=ba (ci u v):=jc;simp only[iV,o5,h,hk];rw[JN hl]
theorem jJ {xs:Jf Jy}{x:Jy}(h0:0<=x)(h1:x.toNat < xs.length):(af xs)[x.toNat]?=ba (.int (xs.getD x.toNat 0)):=by
 unfold af;rw[Jr,aD (d:=0) h1]; rfl
theorem gx {xs:Jf Jy}{i:Jp}(h:i < xs.length):xs.getD i 0∈xs:=JI (aD (d:=0) h)
theorem mO (G:Gen defs){Q:QO}{bs:Jf Jy}{x0 x2:Jn W}(hb:bs∈KB)
  (hk:∀(m s:Jp) (S':aa),Ka S S'->S'[s]?=ba (.lst ((rL bs).map λnm=>W.tup (af nm)))->S.length<=s->wZ (ap defs fuel (d+1)) fuel (dr 5 bR) [x0,ba (.tup (af bs)),x2,ba (.int bs.length),ba (.ref m),ba (.ref s),gV,gV,gV,gV,gV,gV] S' Q) :
  wZ (ap defs fuel (d+1)) fuel bR [x0,ba (.tup (af bs)),x2,gV,gV,gV,gV,gV,gV,gV,gV,gV] S Q:=by
 generalize hd5:dr 5 bR=cb at hk;unfold bR at hd5 ⊢;dsimp only[dr]at hd5;rw[hd5];clear hd5;refine aZ λK hK=>?_
 dsimp only[wS,wE,wA,wV,wG,Jx];refine bK ?_;rw[show(af bs).length=bs.length from Ji ..]
 refine hK _ _ ?_;clear hK K;refine aZ λK hK=>?_
 dsimp only[wS,wE,wA,wV,wG,Jx];have hm:(((S++[O.lst [.tup [.int 0]]])++[O.lst [.tup [.int 0,.int 1],.tup [.int 1,.int 0]]])++[O.lst [.ref S.length,.ref (S++[O.lst [.tup [.int 0]]]).length]])[((S++[O.lst [.tup [.int 0]]])++[O.lst [.tup [.int 0,.int 1],.tup [.int 1,.int 0]]]).length]?=ba (.lst [.ref S.length,.ref (S++[O.lst [.tup [.int 0]]]).length]):=aj;refine hK _ _ ?_;clear hK K;generalize hS1:S++[O.lst [.tup [.int 0]]]=S1 at hm ⊢;generalize hS2:S1++[O.lst [.tup [.int 0,.int 1],.tup [.int 1,.int 0]]]=S2 at hm ⊢;generalize hS3:S2++[O.lst [.ref S.length,.ref S1.length]]=S3 at hm ⊢;have l1:S1.length=S.length+1:=by rw[<- hS1]; simp
 have l2:S2.length=S1.length+1:=by rw[<- hS2]; simp
 have l3:S3.length=S2.length+1:=by rw[<- hS3]; simp
 have kS2:Ka S S2:=by rw[<- hS2,<- hS1]; exact Ka.push.trans .push
 refine aZ λK hK=>?_
 dsimp only[wS,wE,wA,wV,wG,Jx];refine⟨eG hm,lQ (aq hm) (by decide:2 < 1000) (hK _ _ ?_)⟩
 clear hK K;generalize hS5:(S3++[O.lst [.tup [.int 0,.int 1,.int 2],.tup [.int 0,.int 2,.int 1],.tup [.int 2,.int 0,.int 1],.tup [.int 2,.int 1,.int 0]]]).set S2.length (.lst ([.ref S.length,.ref S1.length]++[.ref S3.length]))=S5;have k5:Ka S S5:=by
  rw[<- hS5,<- hS3];exact Ka.late (kS2.trans (Ka.push.trans .push)) (by omega)
 have m5:S5[S2.length]?=ba (.lst [.ref S.length,.ref S1.length,.ref S3.length]):=by
  rw[<- hS5]; exact cf (aq hm)
 have p5:S5[S1.length]?=ba (.lst [.tup [.int 0,.int 1],.tup [.int 1,.int 0]]):=by
  rw[<- hS5,cg (by omega),<- hS3,<- hS2]
  exact aq (aq aj)
 have t5:S5[S3.length]?=ba (.lst [.tup [.int 0,.int 1,.int 2],.tup [.int 0,.int 2,.int 1],.tup [.int 2,.int 0,.int 1],.tup [.int 2,.int 1,.int 0]]):=by
  rw[<- hS5,cg (by omega)]
  exact aj
 have h1:S.length<=S1.length:=by omega
 have h3:S.length<=S3.length:=by omega
 clear hS1 hS2 hS3 hS5 hm l1 l2 l3 kS2;refine aZ λK hK=>?_
 dsimp only[wS,wE,wA,wV,wG,Jx,CK,aT];have hb':bs=[1,0]\/bs=[0,2,1]\/bs=[0,1]\/bs=[0,1,2]:=by simpa [KB]using hb
 rcases hb' with rfl|rfl|rfl|rfl
 ·refine eR (i:=1) m5 rfl (hK _ _ (aZ λK hK=>dD (λQ q=>q) (hK _ _ (hk _ _ _ k5 p5 h1))))
 ·refine eR (i:=2) m5 rfl (hK _ _ (aZ λK hK=>dD (λQ q=>q) (hK _ _ (hk _ _ _ k5 t5 h3))))
 ·refine eR (i:=1) m5 rfl (hK _ _ (aZ λK hK=>dD (λQ q=>q) (hK _ _ (hk _ _ _ k5 p5 h1))))
 ·refine eR (i:=2) m5 rfl (hK _ _ (aZ λK hK=>oq (λQ q=>q) λQ2 hn _=>?_))
  refine st ?_;dsimp only[wS,wE,wA,wV,wG,Jx];exact lb (d:=d) G (cr (hn _ _ (hK _ _ (hk _ _ _ (k5.trans .push) aj k5.len))))
theorem tw (G:Gen defs){S0:aa}{bs:Jf Jy}{q:Jp}{kvs:Jf (T×W)}(hb:bs∈KB)(hf:Fl S r)(hr:r < S0.length)(kp:Kp r S0 S)(hq:S[q]?=ba (.dic kvs))(hq0:S0.length<=q)(h4:kvs.length<=4)(hm:MustE S bs.length S0.length kvs)
  (k:∀(bs':Jf Jy) (q':Jp) (kvs':Jf (T×W)) S',GoodB bs'->bs'.length=bs.length->S'[q']?=ba (.dic kvs')->S0.length<=q'->MustE S' bs.length S0.length kvs'->Fl S' r->Kp r S0 S'->Q (.tup [.tup (af bs'),.ref q'],S')) :
  wO (bF (ap defs fuel (d+2)) "_law_numbered" 3 [.ref r,.tup (af bs),.ref q] S) Q:=by
 refine az G.numbered rfl rfl λQ' hR=>?_
 replace k:∀(bs':Jf Jy) (q':Jp) (kvs':Jf (T×W)) S',GoodB bs'->bs'.length=bs.length->S'[q']?=ba (.dic kvs')->S0.length<=q'->MustE S' bs.length S0.length kvs'->Fl S' r->Kp r S0 S'->Q' (.rt (.tup [.tup (af bs'),.ref q']),S'):=λa b c e f g h i j l m=>hR _ _ (k a b c e f g h i j l m)
 clear hR;refine mO (d:=d) G hb ?_;intro m s S1 k1 e1 hs;dsimp only[dr,bR];have hrt:=hf.lt;obtain⟨hb1,hb2,hb3⟩:=zE bs hb;refine aZ λK hK=>?_
 dsimp only[wS,wE,wA,wV,wG,Jx];refine i6 e1 ?_;rw[Ji];refine be (d:=d) G.pick (hf.ka k1) (by omega) (by omega) λv S2 v0 v1 f2 k2=>?_
 obtain⟨nm,hnmm,enm⟩:=lT (f:=λnm=>W.tup (af nm)) (xs:=rL bs) (i:=v.toNat) (by omega)
 obtain⟨n1,n2,n3,n4⟩:=B7 bs hb nm hnmm;refine gw (k2.get _ _ (by omega) e1) v0 enm (hK _ _ ?_)
 clear hK K;refine aZ λK hK=>?_
 dsimp only[wS,wE,wA,wV,wG,Jx];refine GQ aj (by omega) (hK _ _ ?_)
 clear hK K;generalize hS4:S2++[O.lst [.int 0]]=S4;have k24:Ka S2 S4:=hS4 ▸ .push;have f4:Fl S4 r:=f2.ka k24;have kp4:Kp r S0 S4:=(kp.trans (k1.kp r)).trans (k2.trans (k24.kp r));have q4:S4[q]?=ba (.dic kvs):=k24.get _ _ (k2.get _ _ (by omega) (k1.get _ _ hq))
 have m4:MustE S4 bs.length S0.length kvs:=((hm.ka k1).kp hr k2).ka k24;clear hS4 k24 hm hq f2 k2 k1 e1 enm hf;refine aZ λK hK=>?_
 refine cJ (bs.length:Jy) (λk ρ S'=>(∃x8,ρ=[ba (.ref r),ba (.tup (af bs)),ba (.ref q),ba (.int bs.length),ba (.ref m),ba (.ref s),ba (.tup (af nm)),ba (.ref S4.length),x8,gV,gV,gV])/\S'[S4.length]?=ba (.lst (af (ii bs nm k)))/\Ka S4 S') rfl rfl (by omega) ⟨rfl,⟨_,rfl⟩,?_,.push⟩ ?_ ?_
 ·rw[aj]; simp[ii,af]
 ·rintro i ρ S5 hi ⟨⟨x8,rfl⟩,e5,k5⟩ Q2 hn _;clear hK k;have hi':i < bs.length:=by exact Li.mp ‹_›
  have hi1:i < nm.length:=by omega
  have c:=n3 _ (gx hi');have c2:=n2 _ (gx hi1);refine st ?_;dsimp only[wS,wE,wA,wV,wG,Jx];refine am (JD i) (jJ (JD i) hi') (am c.1 (jJ c.1 (by rw[JH]; omega)) (am (JD i) (jJ (JD i) hi1) ?_))
  rw[JH];refine ae (CN e5 c2.1 (by rw[show(af (ii bs nm i)).length=_ from Ji ..,jI]; omega)) (cr (hn _ _ ⟨⟨_,rfl⟩,?_,k5.late (Js _)⟩))
  rw[cf e5];unfold af;rw[ii,RG]
 ·rintro ρ S5 ⟨⟨x8,rfl⟩,e5,k5⟩;rw[JH]at e5;refine hK _ _ (st ?_);clear hK K;dsimp only[wS,wE,Jx];have f5:Fl S5 r:=f4.ka k5;have q5:S5[q]?=ba (.dic kvs):=k5.get _ _ q4;have m5:MustE S5 bs.length S0.length kvs:=m4.ka k5;have kp5:Kp r S0 S5:=kp4.trans (k5.kp r);have hq5:=dv q5;have ht5:=dv e5;have hqt:q≠S4.length:=by rintro rfl; rw[e5]at q5; cases q5
  have hn9:(bs.length:Jy)<=3:=by omega
  have hr5:=f5.lt;clear k5 m4 q4 f4;refine aZ λK hK=>?_
  refine B8 q kvs (λk ρ S'=>(∃x10 x11,ρ=[ba (.ref r),ba (.tup (af bs)),ba (.ref q),ba (.int bs.length),ba (.ref m),ba (.ref s),ba (.tup (af nm)),ba (.ref S4.length),x8,ba (.ref S5.length),x10,x11])/\S'[q]?=ba (.frd kvs)/\MustE S' bs.length S0.length kvs/\S'[S4.length]?=ba (.lst (af (ii bs nm bs.length)))/\(∃kvs',S'[S5.length]?=ba (.dic kvs')/\kvs'.length<=k/\MustE S' bs.length S0.length kvs')/\Fl S' r/\Kp r S0 S') rfl rfl ⟨rfl,aq q5,⟨gV,gV,rfl⟩,cf (aq q5),(m5.ka .push).set (aq q5),?_,⟨[],?_,Js _,λ_ h=>(nomatch h)⟩,(f5.ka .push).own (by omega),(kp5.trans .push).late hq0⟩ ?_ ?_
  ·rw[cg hqt]; exact aq e5
  ·rw[cg (JM ‹_›)]; exact aj
  ·rintro i p ρ S6 hp ⟨⟨x10,x11,rfl⟩,q6,m6,t6,⟨kvs',o6,l6,mm6⟩,f6,kp6⟩;clear hK k;have hpm:=JI hp;have hil:=(Ju.mp hp).1;obtain⟨u,v',l,ws,rfl,hu,hv',hl,hws,hl3,hw3⟩:=m6 p hpm;obtain⟨g,hg⟩:=uY hpm;obtain⟨u2,v2,l2,ws2,he2,_,_,hl2,hws2,hl32,hw32⟩:=m6 _ (lZ hg);injection he2 with _ he2
   subst he2;have hul:u.toNat < nm.length:=by omega
   have hvl:v'.toNat < nm.length:=by omega
   refine ae (show gW (.tp [10,11]) (ci u v',W.ref l).1.w [ba (.ref r),ba (.tup (af bs)),ba (.ref q),ba (.int bs.length),ba (.ref m),ba (.ref s),ba (.tup (af nm)),ba (.ref S4.length),x8,ba (.ref S5.length),x10,x11] S6=ba ([ba (.ref r),ba (.tup (af bs)),ba (.ref q),ba (.int bs.length),ba (.ref m),ba (.ref s),ba (.tup (af nm)),ba (.ref S4.length),x8,ba (.ref S5.length),ba (.int u),ba (.int v')],S6)from rfl) λQ2 hn _=>?_
   refine st ?_;dsimp only[wS,wE,wA,wV,wG,Jx];refine uP l2 (af ws2) (λi zs ρ2 S7=>(∃a1,ρ2=[gV,a1,ba (.tup (af nm))])/\zs=af ((ws2.take i).map λw=>nm.getD w.toNat 0)/\S7=S6) rfl rfl rfl ?_ ?_ ?_ ?_
   ·dsimp only[wE,wA,wV,wG];exact ae (oz (BV q6) hg) ⟨rfl,⟨_,rfl⟩,rfl,rfl⟩
   ·rintro i zs ρ2 S7 ⟨_,_,rfl⟩;exact hws2
   ·rintro i w zs ρ2 S7 hw ⟨⟨a1,rfl⟩,rfl,rfl⟩;unfold af at hw;rw[Jr,Jl]at hw;obtain⟨x,hx,rfl⟩:=hw;obtain⟨x0,x1⟩:=hw32 x (JI hx);have hxl:x.toNat < nm.length:=by omega
    refine ae (show gW (.nm 1) (.int x) [gV,a1,ba (.tup (af nm))] S7=ba ([gV,ba (.int x),ba (.tup (af nm))],S7)from rfl) ?_
    dsimp only[mG,wC,wE,wA,wV,wG];refine⟨λ_=>am x0 (jJ x0 hxl) ⟨⟨_,rfl⟩,?_,rfl⟩,λz=>by cases z⟩
    rw[Kf,hx];simp[af]
   ·rintro zs ρ2 S7 ⟨_,rfl,rfl⟩;rw[show(af ws2).length=ws2.length from Ji ..,Kr]
    refine⟨kB (by simp[af]; exact JF ‹_› (JJ rfl)),am hu.1 (jJ hu.1 hul) (am hv'.1 (jJ hv'.1 hvl) ?_)⟩
    refine ae (zF (aq o6) (by rw[Ki]; omega)) (cr (hn _ _ ⟨⟨_,_,rfl⟩,?_,(m6.ka .push).set (aq o6),?_,⟨_,cf (aq o6),?_,?_⟩,(f6.ka .push).own ‹_›,(kp6.trans .push).late kp5.len⟩))
    ·rw[cg (J2 ‹_›)]; exact aq q6
    ·rw[cg (J2 ‹_›)]; exact aq t6
    ·exact JF (dg ..) (M9 l6)
    ·refine((mm6.ka .push).put (n2 _ (gx hul)) (n2 _ (gx hvl)) kp6.len aj (by simp; assumption) ?_).set (aq o6)
     intro w hw;obtain⟨x,hx,rfl⟩:=JT.mp hw;obtain⟨x0,x1⟩:=hw32 x hx;exact n2 _ (gx (by omega))
  ·rintro ρ S6 ⟨⟨x10,x11,rfl⟩,q6,m6,t6,⟨kvs',o6,l6,mm6⟩,f6,kp6⟩;refine hK _ _ (st ?_);dsimp only[wS,wE,wA,wV,wG];exact ff t6 (k _ _ kvs' _ n4 (jI _ _ _) o6 kp5.len mm6 f6 kp6)
end
noncomputable def wm (x y z:Jy):Jf (T×W):=[(ci 1 0,.int x),(ci 2 0,.int y),(ci 2 1,.int z)]
noncomputable def B9 (x y z a b c:Jy):Jp->Jf (T×W)
 | 0=>wm x y z
 | 1=>wm x y z++[(ci 0 1,.int a)]
 | 2=>wm x y z++[(ci 0 1,.int a),(ci 0 2,.int b)]
 | _=>wm x y z++[(ci 0 1,.int a),(ci 0 2,.int b),(ci 1 2,.int c)]
theorem EE {n x y z a b c:Jy}(hx:0<=x/\x < n)(hy:0<=y/\y < n)(hz:0<=z/\z < n)(ha:0<=a/\a < n)(hb:0<=b/\b < n)(hc:0<=c/\c < n):∀i j:Jp,i < 3->j < 3->i≠j->∃p:Jy,cz (B9 x y z a b c 3) (ci i j)=ba (.int p)/\0<=p/\p < n:=by
 intro i j hi hj hij
 match i,j,hi,hj,hij with
 | 0,0,_,_,h=>exact absurd rfl h
 | 0,1,_,_,_=>exact⟨a,by rfl,ha⟩
 | 0,2,_,_,_=>exact⟨b,by rfl,hb⟩
 | 1,0,_,_,_=>exact⟨x,by rfl,hx⟩
 | 1,1,_,_,h=>exact absurd rfl h
 | 1,2,_,_,_=>exact⟨c,by rfl,hc⟩
 | 2,0,_,_,_=>exact⟨y,by rfl,hy⟩
 | 2,1,_,_,_=>exact⟨z,by rfl,hz⟩
 | 2,2,_,_,h=>exact absurd rfl h
theorem rM:∀t∈ay,t.length=3/\t.getD 0 0 < 3/\t.getD 1 0 < 3/\t.getD 2 0 < 3/\t.getD 0 0≠t.getD 1 0/\t.getD 1 0≠t.getD 2 0/\t.getD 0 0≠t.getD 2 0:=by decide
theorem zG {t:Jf Jp}(h:t∈ay):∃i j k:Jp,t=[i,j,k]/\i < 3/\j < 3/\k < 3/\i≠j/\j≠k/\i≠k:=by
 obtain⟨h1,h2⟩:=rM t h
 match t,h1,h2 with
 | [i,j,k],_,h2=>exact⟨i,j,k,rfl,h2⟩
section
variable{defs:Jf (JG×Df)}{fuel d:Jp}{S:aa}{r:Jp}{Q:QW}
theorem zH {l:Jp}{f:Jy}{ws:Jf Jy}(h:S[l]?=ba (.lst (af ws))):∃b,cU .notin (.int f) (.ref l) S=ba (.bl b,S):=by
 have hf:(cp (.int f)&&(af ws).all cp)=true:=by
  simp only[cp,MM,JO];intro x hx;obtain⟨z,_,rfl⟩:=JT.mp hx;rfl
 refine⟨!(af ws).any λz=>xC z (.int f),?_⟩
 simp only[cU,la h,iM,DI,AV,eT,bc h,hf,K6,Kb]
theorem EF {q:Jp}{kvs:Jf (T×W)}(h:S[q]?=ba (.dic kvs)):tyOk "dict" S (.ref q)=true:=by simp[tyOk,cH h]
theorem Cb {q:Jp}{kvs:Jf (T×W)}(h:S[q]?=ba (.dic kvs))(k:Q (.ref S.length,S++[.lst (kvs.map λp=>p.1.w)])):wO (Bi.list.fn [.ref q] S) Q:=by
 refine ae ?_ k;have h1:A6 S q=gV:=by simp[A6,h]
 have h2:nO [.ref q] S=gV:=by simp[nO,h1,iN,eT,pB h]
 simp only[Bi.fn,CB,h2,nU,cH h]
theorem zI (G:Gen defs){bs:Jf Jy}{q b0:Jp}{kvs:Jf (T×W)}{x y z:Jy}(hb:GoodB bs)(hx:0<=x/\x < bs.length)(hy:0<=y/\y < bs.length)(hz:0<=z/\z < bs.length)(hq:S[q]?=ba (.dic kvs))(hm:MustE S bs.length b0 kvs)
  (k:∀b S',Ka S S'->Q (.bl b,S')):wO (bF (ap defs fuel (d+2)) "_law_breaks" 5 [.tup (af bs),.ref q,.int x,.int y,.int z] S) Q:=by
 refine az G.breaks rfl rfl λQ' hR=>?_
 replace k:∀b S',Ka S S'->Q' (.rt (.bl b),S'):=λa b c=>hR _ _ (k a b c)
 clear hR;show wZ _ _ ef [ba (.tup (af bs)),ba (.ref q),ba (.int x),ba (.int y),ba (.int z),gV,gV,gV,gV,gV] S Q';obtain⟨a,ha1,ha⟩:=hb.rng x.toNat (by omega)
 obtain⟨b,hb1,hb2⟩:=hb.rng y.toNat (by omega)
 obtain⟨c,hc1,hc⟩:=hb.rng z.toNat (by omega)
 have hqt:=dv hq;unfold ef;refine aZ λK hK=>?_
 dsimp only[wS,wE,wA,wV,wG,Jx];refine⟨aj,ae (show dS [] [.tup [.int 1,.int 0],.int x,.tup [.int 2,.int 0],.int y,.tup [.int 2,.int 1],.int z]=ba (wm x y z)from rfl) (hK _ _ ?_)⟩
 clear hK K;have e1:((S++[O.dic []]).set S.length (.dic (wm x y z)))[S.length]?=ba (.dic (wm x y z)):=cf aj;have k1:Ka S ((S++[O.dic []]).set S.length (.dic (wm x y z))):=Ka.push.late (Js _);have l1:((S++[O.dic []]).set S.length (.dic (wm x y z))).length=S.length+1:=by simp
 generalize(S++[O.dic []]).set S.length (.dic (wm x y z))=S1 at e1 k1 l1 ⊢;refine aZ λK hK=>?_
 refine jb rfl rfl ?_;dsimp only[wE,wA,wV,wG];refine Cb e1 ⟨S1.length,[dP 1 0,dP 2 0,dP 2 1],(λk ρ S'=>(∃x6,ρ=[ba (.tup (af bs)),ba (.ref q),ba (.int x),ba (.int y),ba (.int z),ba (.ref S.length),x6,gV,gV,gV])/\S'[S.length]?=ba (.dic (B9 x y z a b c k))/\S'[S1.length]?=ba (.lst [dP 1 0,dP 2 0,dP 2 1])/\Ka S S'),rfl,⟨⟨_,rfl⟩,aq e1,aj,k1.trans .push⟩,λi ρ S' h=>h.2.2.1,?_,?_⟩
 ·have step:∀(u v f g:Jy) (kv kv':Jf (T×W)) (S':aa) (i:Jp),cz kv (ci u v)=ba (.int f)->0<=f->bs[f.toNat]?=ba g->kv.length < 10->eQ kv (ci v u) (.int g)=kv'->B9 x y z a b c (i+1)=kv'->∀x6:Jn W,S'[S.length]?=ba (.dic kv)->S'[S1.length]?=ba (.lst [dP 1 0,dP 2 0,dP 2 1])->Ka S S'->
    wO (gW (.nm 6) (dP u v) [ba (.tup (af bs)),ba (.ref q),ba (.int x),ba (.int y),ba (.int z),ba (.ref S.length),x6,gV,gV,gV] S') λp=>wI (ap defs fuel (d+1)) fuel (.cons (.put (.v 5) (.tup (.cons (.ix (.v 6) (.c (.int 1))) (.cons (.ix (.v 6) (.c (.int 0))) .nil))) (.ix (.v 0) (.ix (.v 5) (.v 6)))) .nil) p.1 p.2 (λρ S'=>(∃x6,ρ=[ba (.tup (af bs)),ba (.ref q),ba (.int x),ba (.int y),ba (.int z),ba (.ref S.length),x6,gV,gV,gV])/\S'[S.length]?=ba (.dic (B9 x y z a b c (i+1)))/\S'[S1.length]?=ba (.lst [dP 1 0,dP 2 0,dP 2 1])/\Ka S S') Q':=by
   clear hK k;intro u v f g kv kv' S' i h1 h2 h3 h4 h5 h6 x6 e e' k;refine ae (show gW (.nm 6) (dP u v) [ba (.tup (af bs)),ba (.ref q),ba (.int x),ba (.int y),ba (.int z),ba (.ref S.length),x6,gV,gV,gV] S'=ba ([ba (.tup (af bs)),ba (.ref q),ba (.int x),ba (.int y),ba (.int z),ba (.ref S.length),ba (dP u v),gV,gV,gV],S')from rfl) λQ2 hn _=>?_
   refine st ?_;dsimp only[wS,wE,wA,wV,wG];refine ae (oz (cH e) h1) (am h2 (w:=.int g) (by unfold af; rw[Jr,h3]; rfl) (am (by decide) rfl (am (by decide) rfl ?_)))
   refine ae (zF e (by rw[Ki]; omega)) (cr (hn _ _ ⟨⟨_,rfl⟩,?_,?_,k.late (Js _)⟩))
   ·rw[cf e,h5,h6]
   ·rw[cg (by omega)]; exact e'
  rintro i w ρ S2 hw ⟨⟨x6,rfl⟩,e2,l2,k2⟩
  match i,hw,e2 with
  | 0,hw,e2=>cases hw; exact step 1 0 x a _ _ S2 0 (by rfl) hx.1 ha1 (by simp[B9,wm]) (by rfl) (by rfl) x6 e2 l2 k2
  | 1,hw,e2=>cases hw; exact step 2 0 y b _ _ S2 1 (by rfl) hy.1 hb1 (by simp[B9,wm]) (by rfl) (by rfl) x6 e2 l2 k2
  | 2,hw,e2=>cases hw; exact step 2 1 z c _ _ S2 2 (by rfl) hz.1 hc1 (by simp[B9,wm]) (by rfl) (by rfl) x6 e2 l2 k2
  | n+3,hw,_=>simp at hw
 ·rintro ρ S2 ⟨⟨x6,rfl⟩,e2,l2,k2⟩;have hv:=EE hx hy hz ha hb2 hc;have e2:S2[S.length]?=ba (.dic (B9 x y z a b c 3)):=e2;refine hK _ _ ?_;clear hK K;have hlt2:=dv e2;refine aZ λK hK=>?_
  refine jb rfl rfl ?_;dsimp only[wE,wA,wV,wG];refine lb (d:=d) G ⟨S2.length,ay.map (λt=>W.tup (aE t)),(λk ρ S'=>(∃x7 x8 x9,ρ=[ba (.tup (af bs)),ba (.ref q),ba (.int x),ba (.int y),ba (.int z),ba (.ref S.length),x6,x7,x8,x9])/\S'[S.length]?=ba (.dic (B9 x y z a b c 3))/\S'[S2.length]?=ba (.lst (ay.map (λt=>W.tup (aE t))))/\Ka S S'),rfl,⟨⟨_,_,_,rfl⟩,aq e2,aj,k2.trans .push⟩,λi ρ S' h=>h.2.2.1,?_,?_⟩
  ·rintro i w ρ S3 hw ⟨⟨x7,x8,x9,rfl⟩,e3,l3,k3⟩;clear hK;rw[Jr,Jl]at hw;obtain⟨t,ht,rfl⟩:=hw;obtain⟨i1,j1,h1,rfl,hi1,hj1,hh1,n1,n2,n3⟩:=zG (JI ht);obtain⟨p1,g1,r1⟩:=hv i1 j1 hi1 hj1 n1;obtain⟨p2,g2,r2⟩:=hv j1 h1 hj1 hh1 n2;obtain⟨p3,g3,r3⟩:=hv i1 h1 hi1 hh1 n3;have q3:=k3.get _ _ hq;refine ae (show gW (.tp [7,8,9]) (W.tup (aE [i1,j1,h1])) [ba (.tup (af bs)),ba (.ref q),ba (.int x),ba (.int y),ba (.int z),ba (.ref S.length),x6,x7,x8,x9] S3=ba ([ba (.tup (af bs)),ba (.ref q),ba (.int x),ba (.int y),ba (.int z),ba (.ref S.length),x6,ba (.int i1),ba (.int j1),ba (.int h1)],S3)from rfl) λQ2 hn hr=>?_
   refine aZ λK hK=>?_
   dsimp only[wS,wT,wE,wA,wV,wG];refine ae (oz (cH e3) g3) ⟨EF q3,ae (oz (cH e3) g1) (ae (oz (cH e3) g2) (ae (oz (cH e3) g3) ?_))⟩;have hget:Me.get.fn (.ref q) [.tup [.int p1,.int p2],.ref S3.length] (S3++[O.lst [.int p3]])=ba ((cz kvs (ci p1 p2)).getD (.ref S3.length),S3++[O.lst [.int p3]]):=by
    have hk:gR (.tup [.int p1,.int p2])=ba (ci p1 p2):=jc;simp only[Me.fn,t8,cH (aq q3),hk]
   refine ae hget ?_;have hres:∃(l:Jp) (ws:Jf Jy),(cz kvs (ci p1 p2)).getD (.ref S3.length)=.ref l/\(S3++[O.lst [.int p3]])[l]?=ba (.lst (af ws)):=by
    cases hg:cz kvs (ci p1 p2)with
    | none=>exact⟨S3.length,[p3],rfl,aj⟩
    | some g=>
     obtain⟨u,v,l,ws,he,_,_,_,hl,_⟩:=(hm.ka k3) _ (lZ hg);injection he with _ he
     subst he;exact⟨l,ws,rfl,aq hl⟩
   obtain⟨l,ws,hl1,hl2⟩:=hres;dsimp only;rw[hl1];obtain⟨kb,hkb⟩:=zH (f:=p3) hl2;refine ae hkb ?_;dsimp only[wB];refine aw (Q0:=Q2) (λ_ Q3 _ hr3=>st (hr3 _ _ (hr _ _ (k _ _ (k3.trans .push))))) λ_ Q3 hn3 _=>cr (hn3 _ _ (hK _ _ (cr (hn _ _ ⟨⟨_,_,_,rfl⟩,aq e3,aq l3,k3.trans .push⟩))))
  ·rintro ρ S3 ⟨⟨x7,x8,x9,rfl⟩,e3,l3,k3⟩;exact hK _ _ (st (k _ _ k3))
end
theorem GR {a n:Jp}{m0 m1 m2 x y z:Jy}(h0:0<=m0/\m0 < a)(h1:0<=m1/\m1 < a)(h2:0<=m2/\m2 < a)(hx:0<=x/\x < n)(hy:0<=y/\y < n)(hz:0<=z/\z < n):GoodW a n [(m0,[]),(m1,[x]),(m2,[y,z])]:=by
 refine⟨λk p h=>?_,λk p h=>?_,λk p h=>?_⟩ <;> match k,h with
 | 0,h=>cases h; first|exact h0|rfl|(intro w hw; cases hw)
 | 1,h=>cases h; first|exact h1|rfl|(intro w hw; rw[JC.mp hw]; exact hx)
 | 2,h=>cases h; first|exact h2|rfl|(intro w hw; rcases JP.mp hw with e|hw <;> first|exact e ▸ hy|(rw[JC.mp hw]; exact hz))
 | n+3,h=>simp at h
theorem EG {Φ:JG->FF}{ρ:Fm}{S:aa}{i n:Jp}{Q:QW}(hv:∀Q:W->Prop,Q (.int n)->wV ρ i Q)(hn:n<=3)(k:∀j:Jy,0<=j->j<=27->j=(n:Jy)*n*n->Q (.int j,S)):wE Φ (.op .mul (.op .mul (.v i) (.v i)) (.v i)) ρ S Q:=by
 have b1 : -(2 ^ 64) < (n:Jy):=by omega
 have b2:(n:Jy) < 2 ^ 64:=by omega
 have hc:(n:Jy)*n*n<=27/\0<=(n:Jy)*n*n:=by rcases(show n=0\/n=1\/n=2\/n=3 by omega)with h|h|h|h <;> rw[h] <;> decide
 dsimp only[wE];have em:∀m:Jy,gj .mul (.int m) (.int n) S=ba (.int (m*n),S):=λm=>rm b1 b2
 generalize gj .mul=B at em ⊢;refine hv _ ?_;refine hv _ ?_;refine ae (em _) ?_;refine hv _ ?_;refine ae (em _) ?_;have:=k _ hc.2 hc.1 rfl;exact this
theorem zJ {Φ:JG->FF}{fuel:Jp}{ρ:Fm}{S:aa}{K:Fm->aa->Prop}{Q:QO}{i0 i n:Jp}{b:Ss}(hv:∀Q:W->Prop,Q (.int n)->wV ρ i Q)(hn:n<=3)(ok:gY b=true)
  (h:∀j:Jy,0<=j->j<=27->j=(n:Jy)*n*n->∃I:Jp->Fm->aa->Prop,I 0 ρ S/\(∀(i:Jp) (ρ:Fm) (S:aa),(i:Jy) < j->I i ρ S->wI Φ fuel b (ρ.set i0 (ba (.int i))) S (I (i+1)) Q)/\∀ρ S,I j.toNat ρ S->K ρ S) :
  Wp (gn Φ fuel (.loop (.nm i0) (.rng (.cons (.op .mul (.op .mul (.v i) (.v i)) (.v i)) .nil)) b) ρ S) (sa K Q):=
 have hw:=EG (Φ:=Φ) (S:=S) (Q:=λp=>∃(j:Jy) (I:Jp->Fm->aa->Prop),p.1=.int j/\(-(2 ^ 62)<=j/\j < 2 ^ 62)/\I 0 ρ p.2/\(∀(i:Jp) (ρ:Fm) (S:aa),(i:Jy) < j->I i ρ S->wI Φ fuel b (ρ.set i0 (ba (.int i))) S (I (i+1)) Q)/\∀ρ S,I j.toNat ρ S->K ρ S) hv hn λj j0 j27 e=>let ⟨I,h0,h1,h2⟩:=h j j0 j27 e; ⟨j,I,rfl,by omega,h0,h1,h2⟩
 ja rfl ok hw
section
variable{defs:Jf (JG×Df)}{fuel d:Jp}{S:aa}{r:Jp}{Q:QW}
theorem zK (hfu:20 < fuel)(G:Gen defs)(hf:Fl S r)(k:∀w S',eN w->Fl S' r->Kp r S S'->Q (w,S')):wO (bF (ap defs fuel (d+7)) "_law_laying_rule" 1 [.ref r] S) Q:=by
 refine az G.laying_rule rfl rfl λQ' hR=>?_
 replace k:∀w S',eN w->Fl S' r->Kp r S S'->Q' (.rt w,S'):=λz S' a b c=>hR _ _ (k z S' a b c)
 clear hR;show wZ _ _ cy [ba (.ref r),gV,gV,gV,gV,gV,gV,gV,gV,gV,gV,gV,gV,gV,gV] S Q';unfold cy;refine aZ λK hK=>?_
 dsimp only[wS,wE,wA,wV,wG,Jx];refine be (d:=d+5) G.pick hf (by decide) (by decide) λv S1 v0 v7 f1 k1=>hK _ _ ?_
 clear hK K;refine aZ λK hK=>?_
 dsimp only[wS,wT,wE,wV,wG,gX,aT,wB];refine aw (Q0:=Q') (λ_ Q2 _ hr=>?_) (λ_ Q2 hn _=>cr (hn _ _ (hK _ _ ?_)))
 ·refine st ?_;dsimp only[wS,wE,wA,wV,wG];exact rG (d:=d) hfu G f1 λw S2 a b c=>hr _ _ (k w S2 a b (k1.trans c))
 clear hK K hn;refine aZ λK hK=>?_
 dsimp only[wS,wT,wE,wV,wG,gX,aT,wB];refine aw (Q0:=Q') (λ_ Q2 _ hr=>?_) (λ_ Q2 hn _=>cr (hn _ _ (hK _ _ ?_)))
 ·refine st ?_;dsimp only[wS,wE,wA,wV,wG];exact wg (d:=d) hfu G f1 λw S2 a b c=>hr _ _ (k w S2 a b (k1.trans c))
 clear hK K hn;have hr1:=f1.lt;refine aZ λK hK=>?_
 dsimp only[wS,wE,wA,wV,wG];refine mN (d:=d+4) G f1 λw2 S2 hw2 f2 k2=>?_
 obtain⟨bs0,q0,kvs0,most,rfl,hbs0,m1,m3,m6,hq0,hq0l,h40,hm0⟩:=hw2;dsimp only[wU];refine ae (show eD [2,3,4] [.tup (af bs0),.ref q0,.int most] [ba (.ref r),ba (.int v),gV,gV,gV,gV,gV,gV,gV,gV,gV,gV,gV,gV,gV]=ba [ba (.ref r),ba (.int v),ba (.tup (af bs0)),ba (.ref q0),ba (.int most),gV,gV,gV,gV,gV,gV,gV,gV,gV,gV]from rfl) (hK _ _ ?_)
 clear hK K;refine aZ λK hK=>?_
 dsimp only[wS,wE,wA,wV,wG,Jx];refine be (d:=d+5) G.pick f2 (by omega) (by omega) λv3 S3 v30 v3m f3 k3=>?_
 dsimp only[cN,aT];obtain⟨a,ea⟩ : ∃a:Jp,1+v3=a:=⟨(1+v3).toNat,by omega⟩
 rw[ea];refine hK _ _ ?_;clear hK K;refine aZ λK hK=>?_
 dsimp only[wS,wE,wA,wV,wG];refine tw (d:=d+4) G (S0:=S1) hbs0 f3 hr1 (k2.trans k3) (k3.get _ _ (by omega) hq0) hq0l h40 (hm0.kp hr1 k3) λbs q kvs S4 hb hbl hq hql hm f4 k4=>?_
 dsimp only[wU];refine ae (show eD [2,3] [.tup (af bs),.ref q] [ba (.ref r),ba (.int v),ba (.tup (af bs0)),ba (.ref q0),ba (.int most),ba (.int a),gV,gV,gV,gV,gV,gV,gV,gV,gV]=ba [ba (.ref r),ba (.int v),ba (.tup (af bs)),ba (.ref q),ba (.int most),ba (.int a),gV,gV,gV,gV,gV,gV,gV,gV,gV]from rfl) (hK _ _ ?_)
 clear hK K;rw[<- hbl]at hm m6;have hn:bs.length=2\/bs.length=3:=by rw[hbl]; exact(zE bs0 hbs0).1
 have hsz:SizeOk a bs:=⟨by omega,hb,by
  have h1:(a:Jy)*bs.length<=most*bs.length:=Int.mul_le_mul_of_nonneg_right (by omega) (by omega)
  exact_mod_cast Int.le_trans h1 m6,by omega⟩
 clear m6 hm0 hq0 hq0l h40 hbl hbs0 k2 k3 f2 f3;refine aZ λK hK=>?_
 dsimp only[wS,wE,wA,wV,wG,Jx];refine fW (d:=d+1) hfu G f4 (by omega) (by omega) λms ns S5 hml hnl hnm f5 k5=>hK _ _ ?_
 clear hK K;have kk:Kp r S S5:=k1.trans (k4.trans k5);have hrt:=f5.lt;have hq5:S5[q]?=ba (.dic kvs):=k5.get _ _ (by omega) hq
 have hm5:MustE S5 bs.length S1.length kvs:=hm.kp hr1 k5;have hqn:q < S5.length:=dv hq5;clear k1 k4 k5 f4 hm hq hql f1;refine st ?_;dsimp only[wS,wE,Jx];refine aZ λK hK=>?_
 dsimp only[wS,wE,wA,wV,wG,Jx];refine bK ?_;rw[show(af bs).length=bs.length from Ji ..]
 refine hK _ _ ?_;clear hK K;refine aZ λK hK=>?_
 refine zJ (n:=bs.length) (λQ q=>q) (by omega) rfl λj j0 j27 hj=>?_
 refine⟨(λ_ ρ S'=>(∃x9 x10 x11 x12 x13 x14,ρ=[ba (.ref r),ba (.int v),ba (.tup (af bs)),ba (.ref q),ba (.int most),ba (.int a),ba (dZ ms ns bs []),ba (.ref S5.length),ba (.int bs.length),x9,x10,x11,x12,x13,x14])/\(∃kvs fs,S'[S5.length]?=ba (.dic kvs)/\FigD (bu a bs) kvs fs)/\S'[q]?=ba (.dic kvs)/\MustE S' bs.length S1.length kvs/\Fl S' r/\Kp r S S'),⟨⟨_,_,_,_,_,_,rfl⟩,⟨[],[],aj,.nil⟩,aq hq5,hm5.ka .push,f5.ka .push,kk.trans .push⟩,?_,?_⟩
 ·rintro i ρ S6 hi ⟨⟨x9,x10,x11,x12,x13,x14,rfl⟩,⟨kvd,fs,e6,hd⟩,hq6,hm6,f6,k6⟩ Q2 hn2 _;clear hK k;have hnp:(0:Jy) < bs.length:=by omega
  have hnb:(bs.length:Jy) < 1073741824:=by omega
  have y1:0<=(i:Jy) % bs.length/\(i:Jy) % bs.length < bs.length:=⟨LU _ (by omega),LN _ hnp⟩
  have y2:0<=(i:Jy) / bs.length % bs.length/\(i:Jy) / bs.length % bs.length < bs.length:=⟨LU _ (by omega),LN _ hnp⟩
  have y3:0<=(i:Jy) / bs.length / bs.length/\(i:Jy) / bs.length / bs.length < bs.length:=by
   rcases hn with h|h <;> rw[h]at hj ⊢ <;> omega
  refine aZ λK hK=>?_
  dsimp only[wS,wE,wA,wV,wG,Jx];refine ae (i3 hnp) (ae (iA hnp hnb) (ae (i3 hnp) ?_));dsimp only[w2];refine hK _ _ ?_;clear hK K;refine aZ λK hK=>?_
  dsimp only[wS,wE,wA,wV,wG,Jx];refine ae (iA hnp hnb) (ae (iA hnp hnb) (hK _ _ ?_));clear hK K;dsimp only;generalize(i:Jy) % bs.length=z1 at y1 ⊢;generalize(i:Jy) / bs.length % bs.length=z2 at y2 ⊢;generalize(i:Jy) / bs.length / bs.length=z3 at y3 ⊢;refine aZ λK hK=>?_
  dsimp only[wS,wT,wA,wE,wV,wG];refine zI (d:=d+4) G hb y1 y2 y3 hq6 hm6 λb S7 k7=>?_
  dsimp only[gQ,aT];refine aw (Q0:=Q2) (λ_ Q3 hn3 _=>?_) (λ_ Q3 hn3 _=>cr (hn3 _ _ (hK _ _ (cr (hn2 _ _ ⟨⟨_,_,_,_,_,_,rfl⟩,⟨kvd,fs,k7.get _ _ e6,hd⟩,k7.get _ _ hq6,hm6.ka k7,f6.ka k7,k6.trans (k7.kp r)⟩)))))
  refine aZ λK3 hK3=>?_
  refine jb rfl rfl ?_;dsimp only[wE,wA,wV,wG];have h56:S5.length < S6.length:=dv e6;have h67:=k7.len;refine zA (d:=d+5) G (a:=a) (by omega) λt ts S8 e8 ht ht7 k8=>?_
  refine⟨t,ts.map pN,(λ_ ρ S'=>(∃x9 x13 x14,ρ=[ba (.ref r),ba (.int v),ba (.tup (af bs)),ba (.ref q),ba (.int most),ba (.int a),ba (dZ ms ns bs []),ba (.ref S5.length),ba (.int bs.length),x9,ba (.int z1),ba (.int z2),ba (.int z3),x13,x14])/\(∃kvs fs,S'[S5.length]?=ba (.dic kvs)/\FigD (bu a bs) kvs fs)/\S'[q]?=ba (.dic kvs)/\MustE S' bs.length S1.length kvs/\S'[t]?=ba (.lst (ts.map pN))/\Fl S' r/\Kp r S S'),rfl,⟨⟨_,_,_,rfl⟩,⟨kvd,fs,k8.get _ _ (k7.get _ _ e6),hd⟩,k8.get _ _ (k7.get _ _ hq6),(hm6.ka k7).ka k8,e8,(f6.ka k7).ka k8,k6.trans ((k7.trans k8).kp r)⟩,λi ρ S' h=>h.2.2.2.2.1,?_,?_⟩
  ·rintro j w ρ S9 hw ⟨⟨x9,x13,x14,rfl⟩,⟨kvd,fs,e9,hd⟩,hq9,hm9,ht9,f9,k9⟩;clear hK3 hn3 hK hn2;rw[Jr,Jl]at hw;obtain⟨⟨tr1,tr2,tr3⟩,htr,rfl⟩:=hw;obtain⟨t1,t2,t3⟩:=ht _ (JI htr);refine ae (show gW (.nm 13) (pN (tr1,tr2,tr3)) [ba (.ref r),ba (.int v),ba (.tup (af bs)),ba (.ref q),ba (.int most),ba (.int a),ba (dZ ms ns bs []),ba (.ref S5.length),ba (.int bs.length),x9,ba (.int z1),ba (.int z2),ba (.int z3),x13,x14] S9=ba ([ba (.ref r),ba (.int v),ba (.tup (af bs)),ba (.ref q),ba (.int most),ba (.int a),ba (dZ ms ns bs []),ba (.ref S5.length),ba (.int bs.length),x9,ba (.int z1),ba (.int z2),ba (.int z3),ba (pN (tr1,tr2,tr3)),x14],S9)from rfl) λQ4 hn4 _=>?_
   have hu:GoodW a bs.length [(tr1,[]),(tr2,[z1]),(tr3,[z2,z3])]:=GR t1 t2 t3 y1 y2 y3;refine aZ λK hK=>?_
   dsimp only[wS,wE,wA,wV,wG,Jx];refine am (by decide) rfl (am (by decide) rfl (hK _ _ ?_))
   clear hK K;refine st ?_;dsimp only[wS,wE,wA,wV,wG];refine am (by decide) rfl (ae (fQ (gv rfl)) ?_)
   refine i8 (d:=d+3) (m0:=.tup (ms.map W.str)) (b0:=.tup []) (u:=[(tr1,[]),(tr2,[z1]),(tr3,[z2,z3])]) G hb hnl hu rfl λS10 k10=>?_
   have e10:=k10.get _ _ e9;exact zx e10 hd hsz hu rfl λo ho=>cr (hn4 _ _ ⟨⟨_,_,_,rfl⟩,ho,by rw[cg (J2 ‹_›)]; exact k10.get _ _ hq9,(hm9.ka k10).set e10,by rw[cg (by omega)]; exact k10.get _ _ ht9,(f9.ka k10).own hrt,(k9.trans (k10.kp r)).late kk.len⟩)
  ·rintro ρ S9 ⟨⟨x9,x13,x14,rfl⟩,hdd,hq9,hm9,ht9,f9,k9⟩;exact hK3 _ _ (cr (hn3 _ _ (hK _ _ (cr (hn2 _ _ ⟨⟨_,_,_,_,_,_,rfl⟩,hdd,hq9,hm9,f9,k9⟩)))))
 ·rintro ρ S6 ⟨⟨x9,x10,x11,x12,x13,x14,rfl⟩,⟨kvd,fs,e6,hd⟩,hq6,hm6,f6,k6⟩;refine hK _ _ (st ?_);dsimp only[wS,wE,wA,wV,wG];exact zw (Q:=λp=>Q' (.rt p.1,p.2)) e6 hd hsz hml hnl hnm λw S8 hw k8=>k w S8 hw (f6.ka k8) (k6.trans (k8.kp r))
end
noncomputable def Tr:Jp->W->Prop
 | _,.int _=>Qc
 | _,.str _=>Qc
 | n+1,.tup xs=>xs.length<=1000/\∀x∈xs,Tr n x
 | _,_=>KN
theorem oA:∀n:Jp,iu (J8 n (.bl true))=ba (J8 n true)
 | 0=>rfl
 | n+1=>by rw[K5,iu,oA n]; rfl
theorem Cc (n:Jp):(J8 n true).all id=true:=by
 rw[JO];intro x hx;rw[(List.mem_replicate.mp hx).2]; rfl
section
variable{defs:Jf (JG×Df)}{fuel:Jp}
theorem Cd (hg:Is defs ("_law_alike" : JG) 2 2 bL):∀(n d:Jp) (w:W) (S:aa) (Q:QW),Tr n w->(∀S',Ka S S'->Q (.bl true,S'))->wO (bF (ap defs fuel (d+n+1)) "_law_alike" 2 [w,w] S) Q:=by
 intro n
 induction n with
 | zero=>
  intro d w S Q hw k;refine az hg rfl rfl λQ' hR=>?_
  replace k:=hR _ _ (k S .refl);clear hR;show wZ _ _ bL [ba w,ba w] S Q';dsimp only[bL];cases w with
  | int x=>
   refine aZ λK hK=>dD (λQ q=>q) (hK _ _ ?_)
   refine aZ λK hK=>dD (λQ q=>⟨λz=>(by cases z),λ_=>q⟩) (hK _ _ ?_)
   refine aZ λK hK=>oq (λQ q=>q) λQ2 _ hr=>st ?_
   dsimp only[wS,wE,wV,wG];refine ae (show yD S (.int x) "int" = ba true from rfl) ⟨λ_=>?_,λz=>by cases z⟩
   dsimp only[gX,aT];rw[Ko];exact hr _ _ k
  | str x=>
   refine aZ λK hK=>dD (λQ q=>q) (hK _ _ ?_)
   refine aZ λK hK=>dD (λQ q=>⟨λz=>(by cases z),λ_=>q⟩) (hK _ _ ?_)
   refine aZ λK hK=>dD (λQ q=>q) (hK _ _ ?_)
   refine aZ λK hK=>oq (λQ q=>q) λQ2 _ hr=>st ?_
   dsimp only[wS,wE,wV,wG];refine ae (show yD S (.str x) "str" = ba true from rfl) ⟨λ_=>?_,λz=>by cases z⟩
   dsimp only[CL,aT];rw[Ko];exact hr _ _ k
  | _=>exact hw.elim
 | succ n ih=>
  intro d w S Q hw k;refine az hg rfl rfl λQ' hR=>?_
  replace k:∀S',Ka S S'->Q' (.rt (.bl true),S'):=λS' a=>hR _ _ (k S' a)
  clear hR;show wZ _ _ bL [ba w,ba w] S Q';dsimp only[bL];cases w with
  | int x=>
   refine aZ λK hK=>dD (λQ q=>q) (hK _ _ ?_)
   refine aZ λK hK=>dD (λQ q=>⟨λz=>(by cases z),λ_=>q⟩) (hK _ _ ?_)
   refine aZ λK hK=>oq (λQ q=>q) λQ2 _ hr=>st ?_
   dsimp only[wS,wE,wV,wG];refine ae (show yD S (.int x) "int" = ba true from rfl) ⟨λ_=>?_,λz=>by cases z⟩
   dsimp only[gX,aT];rw[Ko];exact hr _ _ (k _ .refl)
  | str x=>
   refine aZ λK hK=>dD (λQ q=>q) (hK _ _ ?_)
   refine aZ λK hK=>dD (λQ q=>⟨λz=>(by cases z),λ_=>q⟩) (hK _ _ ?_)
   refine aZ λK hK=>dD (λQ q=>q) (hK _ _ ?_)
   refine aZ λK hK=>oq (λQ q=>q) λQ2 _ hr=>st ?_
   dsimp only[wS,wE,wV,wG];refine ae (show yD S (.str x) "str" = ba true from rfl) ⟨λ_=>?_,λz=>by cases z⟩
   dsimp only[CL,aT];rw[Ko];exact hr _ _ (k _ .refl)
  | tup xs=>
   obtain⟨hl,hx⟩:=hw;refine aZ λK hK=>dD (λQ q=>q) (hK _ _ ?_)
   refine aZ λK hK=>dD (λQ q=>⟨λz=>(by cases z),λ_=>q⟩) (hK _ _ ?_)
   refine aZ λK hK=>dD (λQ q=>q) (hK _ _ ?_)
   refine aZ λK hK=>dD (λQ q=>q) (hK _ _ ?_)
   refine aZ λK hK=>dD (λQ q=>⟨λz=>(by cases z),λ_=>q⟩) (hK _ _ ?_)
   refine st ?_;dsimp only[wS,wE,wA,wV,wG];refine bK (bK ?_);dsimp only[gX,aT,wB];rw[Ko];refine⟨λ_=>?_,λz=>by cases z⟩
   refine d8 (xs.length:Jy) (λi ys ρ2 S2=>(∃a1,ρ2=[gV,a1,ba (.tup xs),ba (.tup xs)])/\ys=J8 i (.bl true)/\Ka S S2) rfl rfl rfl (by omega) ?_ ?_ ?_
   ·dsimp only[wE,wA,wV,wG];exact bK ⟨rfl,⟨gV,rfl⟩,rfl,.refl⟩
   ·rintro i ys ρ2 S2 hi ⟨⟨a1,rfl⟩,rfl,k2⟩;have hi':i < xs.length:=by exact Li.mp ‹_›
    dsimp only[mG,wC,wE,wA,wV,wG,Jx];refine⟨λ_=>am (JD i) (by rw[JH]; exact Jw hi') (am (JD i) (by rw[JH]; exact Jw hi') (ih d _ _ _ (hx _ (Kq hi')) λS3 k3=>⟨⟨_,rfl⟩,?_,k2.trans k3⟩)),λz=>by cases z⟩
    rw[List.replicate_succ']
   ·rintro ys ρ2 S2 ⟨_,rfl,k2⟩;rw[JH];refine⟨kB (by rw[OE]; exact hl),ae (a:=(.bl true,S2++[.lst (J8 xs.length (.bl true))])) ?_ (k _ (k2.trans .push))⟩
    simp only[Bi.fn,DL,bc aj,oA,Kb,Cc]
  | _=>exact hw.elim
end
noncomputable def u5:Ss:=
 (.cons (.ite (.cmp .gt (.v 2) (.v 3)) (.cons (.ret (.ix (.ix (.ix (.v 1) (.v 2)) (.c (.int 1))) (.v 3)))
 .nil) .nil)
 (.cons (.ret (.ix (.ix (.ix (.v 0) (.c (.int 1))) (.ix (.ix (.ix (.v 1) (.v 3)) (.c (.int 1))) (.v 2))) (.c (.int 1))))
 .nil))
noncomputable def iD:Ss:=
 (.cons (.ret (.bi .tuple (.cons (.comp (.own "point_over" 4 (.cons (.v 4) (.cons (.v 5) (.cons (.sl (.v 3) .no (.yes (.v 1))) (.cons (.v 2) .nil))))) (.tp [1,2]) (.enu (.cons (.v 2) .nil)) .nil [gV,gV,gV,ba 2,ba 0,ba 1]) .nil)))
 .nil)
noncomputable def eh:Ss:=
 (.cons (.ret (.tup (.cons (.ix (.ix (.v 1) (.v 3)) (.c (.int 0))) (.cons (.bi .tuple (.cons (.comp (.own "way" 4 (.cons (.v 3) (.cons (.v 4) (.cons (.v 2) (.cons (.v 1) .nil))))) (.nm 1) (.seq (.v 2)) .nil [gV,gV,ba 3,ba 0,ba 1]) .nil)) .nil))))
 .nil)
noncomputable def cM:Ss:=
 (.cons (.set 2 (.lst (.cons (.tup .nil) .nil)))
 (.cons (.loop (.nm 3) (.rng (.cons (.v 1) .nil)) (.cons (.set 2 (.comp (.op .add (.ix (.v 3) (.op .fdiv (.v 1) (.v 2))) (.tup (.cons (.op .mod (.v 1) (.v 2)) .nil))) (.nm 1) (.rng (.cons (.op .mul (.bi .len (.cons (.v 2) .nil)) (.v 0)) .nil)) .nil [gV,gV,ba 0,ba 2]))
 .nil))
 (.cons (.ret (.v 2))
 .nil)))
noncomputable def dz:Ss:=
 (.cons (.set 2 (.lst (.cons (.tup .nil) .nil)))
 (.cons (.loop (.nm 3) (.rng (.cons (.v 1) .nil)) (.cons (.set 4 (.lst .nil))
 (.cons (.loop (.nm 5) (.rng (.cons (.bi .len (.cons (.ix (.v 0) (.c (.int 0))) .nil)) .nil)) (.cons (.ex (.me .extend (.v 4) (.cons (.comp (.tup (.cons (.v 2) (.cons (.v 1) .nil))) (.nm 1) (.seq (.own "_law_digits" 2 (.cons (.bi .len (.cons (.ix (.v 0) (.c (.int 1))) .nil)) (.cons (.v 3) .nil)))) .nil [gV,gV,ba 5]) .nil)))
 .nil))
 (.cons (.set 2 (.comp (.op .add (.ix (.v 3) (.op .fdiv (.v 1) (.bi .len (.cons (.v 2) .nil)))) (.tup (.cons (.ix (.v 2) (.op .mod (.v 1) (.bi .len (.cons (.v 2) .nil)))) .nil))) (.nm 1) (.rng (.cons (.op .mul (.bi .len (.cons (.v 2) .nil)) (.bi .len (.cons (.v 4) .nil))) .nil)) .nil [gV,gV,ba 4,ba 2]))
 .nil))))
 (.cons (.ret (.v 2))
 .nil)))
section
variable{defs:Jf (JG×Df)}{fuel d:Jp}{S:aa}{r:Jp}{Q:QW}
theorem zL {Φ:JG->FF}{m0 b0:W}{ns:Jf JG}{bs:Jf Jy}{a:Jp}{u:Wd}{i j:Jp}{Q:QO}(hb:GoodB bs)(hl:ns.length=bs.length)(hu:GoodW a bs.length u)(hi:i < u.length)(hj:j < u.length)(hij:i≠j)(k:Q (.rt (.int (eM bs u i j)),S)) :
  wZ Φ fuel u5 [ba (.tup [m0,.tup (JL bG ns bs),b0]),ba (aM u),ba (.int i),ba (.int j)] S Q:=by
 have hpi:=aD (d:=(0,[])) hi;have hpj:=aD (d:=(0,[])) hj;unfold eM at k;dsimp only[u5];refine aZ λK hK=>?_
 dsimp only[wS,wT,wE,wV,wG,Gy,wO,wB,aM];refine aw (Q0:=Q) (λh Q2 _ hr=>?_) (λh Q2 hn _=>?_)
 ·have hji:j < i:=by have:=Kn h; exact Li.mp ‹_›
  rw[JN hji]at k;have hw:j < (u.getD i (0,[])).2.length:=by rw[hu.len i _ hpi]; exact hji
  refine st ?_;dsimp only[wS,wE,wV,wG];refine am (JD i) (dY hi) (am (by decide) rfl (am (JD j) ?_ (hr _ _ k)))
  rw[JH,Jr,aD (d:=0) hw]; rfl
 ·have hji:¬ j < i:=by have:=LO h; omega
  rw[JX hji]at k;refine cr (hn _ _ (hK _ _ ?_));clear hn hK;have hw:i < (u.getD j (0,[])).2.length:=by rw[hu.len j _ hpj]; omega
  have hg:=aD (d:=0) hw;obtain⟨g1,g2⟩:=hu.way j _ hpj _ (JI hg);obtain⟨b,hb1,hb2,hb3⟩:=hb.rng ((u.getD j (0,[])).2.getD i 0).toNat (by omega)
  have hn:((u.getD j (0,[])).2.getD i 0).toNat < ns.length:=by omega
  rw[getD_some hb1]at k;refine st ?_;dsimp only[wS,wE,wV,wG];refine am (by decide) rfl (am (JD j) (dY hj) (am (by decide) rfl (am (JD i) ?_ (am g1 (pJ (Jw hn) hb1) (am (by decide) rfl k)))))
  rw[JH,Jr,hg]; rfl
structure Parts (defs:Jf (JG×Df)):Prop where
 way:Is defs ("way" : JG) 4 4 u5
 over:Is defs ("point_over" : JG) 4 4 eh
theorem GU (P:Parts defs){m0 b0:W}{ns:Jf JG}{bs:Jf Jy}{a:Jp}{u:Wd}{i j:Jp}(hb:GoodB bs)(hl:ns.length=bs.length)(hu:GoodW a bs.length u)(hi:i < u.length)(hj:j < u.length)(hij:i≠j)(k:Q (.int (eM bs u i j),S)) :
  wO (bF (ap defs fuel (d+1)) "way" 4 [.tup [m0,.tup (JL bG ns bs),b0],aM u,.int i,.int j] S) Q:=
 az P.way rfl rfl λQ' hR=>zL hb hl hu hi hj hij (hR _ _ k)
theorem EH (P:Parts defs){m0 b0:W}{ns:Jf JG}{bs:Jf Jy}{a:Jp}{u:Wd}{ps:Jf Jp}{i:Jp}(hb:GoodB bs)(hl:ns.length=bs.length)(hu:GoodW a bs.length u)(hps:∀p∈ps,p < u.length/\i≠p)(hi:i < u.length)(hsz:ps.length<=1000)(k:∀S',Ka S S'->Q (gc ((u.getD i (0,[])).1,ps.map λq=>eM bs u i q),S')) :
  wO (bF (ap defs fuel (d+2)) "point_over" 4 [.tup [m0,.tup (JL bG ns bs),b0],aM u,.tup (aE ps),.int i] S) Q:=by
 refine az P.over rfl rfl λQ' hR=>?_
 replace k:∀S',Ka S S'->Q' (.rt (gc ((u.getD i (0,[])).1,ps.map λq=>eM bs u i q)),S'):=λS' a=>hR _ _ (k S' a)
 clear hR;show wZ _ _ eh [ba (.tup [m0,.tup (JL bG ns bs),b0]),ba (aM u),ba (.tup (aE ps)),ba (.int i)] S Q';generalize hR0:W.tup [m0,.tup (JL bG ns bs),b0]=R;dsimp only[eh];refine st ?_;dsimp only[wS,wE,wA,wV,wG];refine am (JD i) (dY hi) (am (by decide) rfl ?_)
 refine uO (aE ps) (λj ys ρ2 S2=>(∃a1,ρ2=[gV,a1,ba (.int i),ba R,ba (aM u)])/\ys=(ps.take j).map (λq=>W.int (eM bs u i q))/\Ka S S2) rfl rfl rfl ⟨rfl,⟨gV,rfl⟩,rfl,.refl⟩ ?_ ?_
 ·rintro j w ys ρ2 S2 hw ⟨⟨a1,rfl⟩,rfl,k2⟩;unfold aE at hw;rw[Jr,Jl]at hw;obtain⟨q,hq,rfl⟩:=hw;obtain⟨hqu,hqi⟩:=hps q (JI hq);refine ae (show gW (.nm 1) (.int (q:Jy)) [gV,a1,ba (.int i),ba R,ba (aM u)] S2=ba ([gV,ba (.int (q:Jy)),ba (.int i),ba R,ba (aM u)],S2)from rfl) ?_
  dsimp only[mG,wC,wE,wA,wV,wG];subst hR0;refine⟨λ_=>GU (d:=d) P hb hl hu hi hqu hqi ⟨⟨_,rfl⟩,?_,k2⟩,λz=>by cases z⟩
  rw[Kf,hq];simp
 ·rintro ys ρ2 S2 ⟨_,rfl,k2⟩;rw[show(aE ps).length=ps.length from Ji ..,Kr]
  refine⟨kB (by rw[Ji]; exact hsz),ff aj ?_⟩
  have:=k _ (k2.trans (Ka.push (o:=O.lst (ps.map λq=>W.int (eM bs u i q)))))
  unfold gc at this;rw[LZ]at this;exact this
theorem GV (P:Parts defs)(hp:Is defs ("part" : JG) 3 3 iD){m0 b0:W}{ns:Jf JG}{bs:Jf Jy}{a:Jp}{u:Wd}{ps:Jf Jp}(hb:GoodB bs)(hl:ns.length=bs.length)(hu:GoodW a bs.length u)(hps:∀p∈ps,p < u.length)(hnd:ps.Nodup)(hsz:ps.length<=1000)(k:∀S',Ka S S'->Q (aM (bq bs u ps),S')) :
  wO (bF (ap defs fuel (d+3)) "part" 3 [.tup [m0,.tup (JL bG ns bs),b0],aM u,.tup (aE ps)] S) Q:=by
 refine az hp rfl rfl λQ' hR=>?_
 replace k:∀S',Ka S S'->Q' (.rt (aM (bq bs u ps)),S'):=λS' a=>hR _ _ (k S' a)
 clear hR;show wZ _ _ iD [ba (.tup [m0,.tup (JL bG ns bs),b0]),ba (aM u),ba (.tup (aE ps))] S Q';generalize hR0:W.tup [m0,.tup (JL bG ns bs),b0]=R;dsimp only[iD];refine st ?_;dsimp only[wS,wE,wA];refine BW (aE ps) (λj ys ρ2 S2=>(∃a1 a2,ρ2=[gV,a1,a2,ba (.tup (aE ps)),ba R,ba (aM u)])/\ys=((bq bs u ps).take j).map gc/\Ka S S2) rfl rfl rfl ⟨rfl,⟨gV,gV,rfl⟩,rfl,.refl⟩ ?_ ?_
 ·rintro j w ys ρ2 S2 hw ⟨⟨a1,a2,rfl⟩,rfl,k2⟩;unfold aE at hw;rw[Jr,Jl]at hw;obtain⟨q,hq,rfl⟩:=hw;have hj:j < ps.length:=(Ju.mp hq).1;have eq:q=ps[j]:=(Ju.mp hq).2.symm;refine ae (show gW (.tp [1,2]) (.tup [.int (j:Jy),.int (q:Jy)]) [gV,a1,a2,ba (.tup (aE ps)),ba R,ba (aM u)] S2=ba ([gV,ba (.int (j:Jy)),ba (.int (q:Jy)),ba (.tup (aE ps)),ba R,ba (aM u)],S2)from rfl) ?_
  dsimp only[mG,wC,wE,wA,wP,wV,wG,wN];refine⟨λ_=>ae (a:=(.tup (aE (ps.take j)),S2)) ?_ ?_,λz=>by cases z⟩
  ·simp only[p9,i7];unfold aE;rw[Pg]
  ·subst hR0;refine EH (d:=d) P hb hl hu (λp hp=>⟨hps p (Lv hp),?_⟩) (hps q (JI hq)) (by rw[Kk]; omega) λS3 k3=>⟨⟨_,_,rfl⟩,?_,k2.trans k3⟩
   ·obtain⟨m,hm,e⟩:=Ms.mp hp;rw[Kk]at hm;rw[NZ]at e;rw[eq,<- e];intro z;have:=(M8 hnd).mp z;omega
   ·have ep:(bq bs u ps)[j]?=ba ((u.getD q (0,[])).1,(ps.take j).map λq'=>eM bs u q q'):=by
     unfold bq;rw[Jr,LF hj,Kb,getD_some hq]
    rw[Kf,ep];simp
 ·rintro ys ρ2 S2 ⟨_,rfl,k2⟩;rw[show(aE ps).length=ps.length from Ji ..,<- fF bs u ps,Kr]
  exact⟨kB (by rw[Ji,fF]; exact hsz),ff aj (k _ (k2.trans .push))⟩
end
noncomputable def cC (n:Jp):Jp->Jf (Jf Jy)
 | 0=>[[]]
 | k+1=>(Kh ((cC n k).length*n)).map λi=>(cC n k).getD (i / n) []++[((i % n:Jp):Jy)]
noncomputable def cD (a n k:Jp):Jf Pt:=(Kh a).flatMap λ(m:Jp)=>(cC n k).map λds=>(((m:Jp):Jy),ds)
noncomputable def dk (a n:Jp):Jp->Jf Wd
 | 0=>[[]]
 | k+1=>(Kh ((dk a n k).length*(cD a n k).length)).map λi=>(dk a n k).getD (i / (cD a n k).length) []++[(cD a n k).getD (i % (cD a n k).length) (0,[])]
theorem Ce {n k:Jp}{ds:Jf Jy}:ds∈cC n k->ds.length<=k:=by
 induction k generalizing ds with
 | zero=>intro h; cases JC.mp h; exact Js _
 | succ k ih=>
  intro h;obtain⟨i,hi,rfl⟩:=JT.mp h;have hi:=KJ.mp hi;have hn:0 < n:=by
   rcases NM n with h|h
   ·rw[h,Oq]at hi; omega
   ·exact h
  have hlt:i / n < (cC n k).length:=Lx (by rw[Mw]; exact hi)
  have:=ih (JI (aD (d:=[]) hlt));rw[Jt,Ln]; omega
theorem CU {Φ:JG->FF}{ρ:Fm}{S:aa}{a b:E}{x y:Jy}{Q:QW}(ha:∀Q:QW,Q (.int x,S)->wE Φ a ρ S Q)(hb:∀Q:QW,Q (.int y,S)->wE Φ b ρ S Q)(h1 : -(2 ^ 64) < y)(h2:y < 2 ^ 64)(q:Q (.int (x*y),S)):wE Φ (.op .mul a b) ρ S Q:=by
 have em:gj .mul (.int x) (.int y) S=ba (.int (x*y),S):=rm h1 h2;dsimp only[wE];refine ha _ ?_;refine hb _ ?_;dsimp only;rw[em];exact q
theorem iE {n:Jp}:∀k:Jp,(cC n k).length=n ^ k
 | 0=>rfl
 | k+1=>by rw[cC,Ji,Kj,iE k,Nat.pow_succ]
theorem zM {n k:Jp}(hn:n<=3)(hk:k<=5):(cC n k).length<=243/\(k<=4->(cC n k).length<=81):=by
 rw[iE];exact⟨JF (Pb hn k) (OY (n:=3) (by decide) hk),λh=>JF (Pb hn k) (OY (n:=3) (by decide) h)⟩
section
variable{defs:Jf (JG×Df)}{fuel d:Jp}{S:aa}{r:Jp}{Q:QW}
theorem zN (hg:Is defs ("_law_digits" : JG) 2 4 cM){n k:Jp}(hn1:1<=n)(hn3:n<=3)(hk5:k<=5)(kk:∀(q:Jp) (S':aa),S'[q]?=ba (.lst ((cC n k).map λds=>.tup (af ds)))->S.length<=q->Ka S S'->Q (.ref q,S')) :
  wO (bF (ap defs fuel (d+1)) "_law_digits" 2 [.int n,.int k] S) Q:=by
 refine az hg rfl rfl λQ' hR=>?_
 replace kk:∀(q:Jp) (S':aa),S'[q]?=ba (.lst ((cC n k).map λds=>.tup (af ds)))->S.length<=q->Ka S S'->Q' (.rt (.ref q),S'):=λa b c e f=>hR _ _ (kk a b c e f)
 clear hR;show wZ _ _ cM [ba (.int n),ba (.int k),gV,gV] S Q';dsimp only[cM];refine st ?_;dsimp only[wS,wE,wA,Jx];refine aZ λK hK=>?_
 refine cJ (k:Jy) (λi ρ S'=>∃(q:Jp) (a3:Jn W),ρ=[ba (.int n),ba (.int k),ba (.ref q),a3]/\S'[q]?=ba (.lst ((cC n i).map λds=>.tup (af ds)))/\S.length<=q/\Ka S S') rfl rfl (by omega) ⟨rfl,_,_,rfl,aj,Js _,.push⟩ ?_ ?_
 ·rintro i ρ S1 hi ⟨q,a3,rfl,e1,hq,k1⟩ Q2 hn _;clear hK kk;obtain⟨b9,b3⟩:=zM (n:=n) (k:=i) hn3 (by omega)
  have b3:=b3 (by omega)
  have hP:(cC n i).length*n<=243:=Nat.mul_le_mul b3 hn3;have hPz:(((cC n i).length:Jy)*(n:Jy))=(((cC n i).length*n:Jp):Jy):=(Ov ..).symm;refine st ?_;dsimp only[wS,wE,Jx];refine d8 ((((cC n i).length*n:Jp)):Jy) (λj ys ρ2 S2=>(∃a1,ρ2=[gV,a1,ba (.int n),ba (.ref q)])/\ys=((cC n (i+1)).take j).map (λds=>.tup (af ds))/\S2=S1) rfl rfl rfl (by omega) ?_ ?_ ?_
  ·refine CU (x:=(cC n i).length) (y:=n) (λQ q=>?_) (λQ q=>q) (by omega) (by omega) ⟨by rw[hPz],⟨gV,rfl⟩,rfl,rfl⟩
   dsimp only[wE,wA,wV,wG];refine i6 e1 ?_;rw[Ji];exact q
  ·rintro j ys ρ2 S2 hj ⟨⟨a1,rfl⟩,rfl,rfl⟩;have hj':j < (cC n i).length*n:=by exact Li.mp ‹_›
   have hlt:j / n < (cC n i).length:=Lx (by rw[Mw]; exact hj')
   have hg:=aD (d:=[]) hlt;have hdl:=Ce (JI hg);dsimp only[mG,wC,wE,wA,wV,wG,Jx];refine⟨λ_=>ae (iA (by omega) (by omega)) ?_,λz=>by cases z⟩
   refine gw e1 (w:=.tup (af ((cC n i).getD (j / n) []))) (Nk (by omega) (by omega)) (by rw[show((j:Jy) / (n:Jy)).toNat=j / n from rfl,Jr,hg]; rfl) ?_
   refine ae (i3 (by omega)) (ae (fQ (kB (by rw[Jt,show(af ((cC n i).getD (j / n) [])).length=((cC n i).getD (j / n) []).length from Ji ..]; show _+1<=1000; omega))) ⟨⟨_,rfl⟩,?_,rfl⟩)
   have ed:(cC n (i+1))[j]?=ba ((cC n i).getD (j / n) []++[((j % n:Jp):Jy)]):=by
    rw[cC,Jr,LF hj']; rfl
   rw[Kf,ed];simp[af]
  ·rintro ys ρ2 S2 ⟨_,rfl,rfl⟩;have hl:(cC n (i+1)).length=(cC n i).length*n:=by rw[cC,Ji,Kj]
   rw[JH,<- hl,Kr];refine⟨kB (by rw[Ji,hl]; exact JF ‹_› (JJ rfl)),cr (hn _ _ ⟨_,_,rfl,aj,k1.len,k1.trans .push⟩)⟩
 ·rintro ρ S1 ⟨q,a3,rfl,e1,hq,k1⟩;exact hK _ _ (st (kk q S1 (by rw[JH]at e1; exact e1) hq k1))
end
theorem Cf {a n k:Jp}{u:Wd}:u∈dk a n k->u.length<=k:=by
 induction k generalizing u with
 | zero=>intro h; cases JC.mp h; exact Js _
 | succ k ih=>
  intro h;obtain⟨i,hi,rfl⟩:=JT.mp h;have hi:=KJ.mp hi;have hlt:i / (cD a n k).length < (dk a n k).length:=Lx (by rw[Mw]; exact hi)
  have:=ih (JI (aD (d:=[]) hlt));rw[Jt,Ln]; omega
theorem l4 {a n k:Jp}:(cD a n k).length=a*n ^ k:=by
 unfold cD
 induction a with
 | zero=>simp
 | succ a ih=>rw[OD,MH,Jt,ih]; simp[iE,PR]
theorem eO {a n:Jp}(k:Jp):(dk a n (k+1)).length=(dk a n k).length*(cD a n k).length:=by rw[dk,Ji,Kj]
theorem rN {a n k:Jp}(ha1:1<=a)(ha:a<=3)(hn1:1<=n)(hn:n<=3)(han:a*n<=6)(hk:k<=2):1<=(cD a n k).length/\(cD a n k).length<=27/\(dk a n k).length*(cD a n k).length<=216:=by
 have w0:(dk a n 0).length=1:=rfl;have w1:=eO (a:=a) (n:=n) 0;have w2:=eO (a:=a) (n:=n) 1;simp only[l4]at w1 w2 ⊢;rcases(show k=0\/k=1\/k=2 by omega)with rfl|rfl|rfl <;> rcases(show a=1\/a=2\/a=3 by omega)with rfl|rfl|rfl <;> rcases(show n=1\/n=2\/n=3 by omega)with rfl|rfl|rfl <;> simp_all
theorem l5 {Φ:JG->FF}{ρ:Fm}{S:aa}{elt e:E}{tg:Tg}{cs:Es}{cap:Jf (Jn Jp)}{Q:QW}(oi:ft e=true)(oe:ft elt=true)(oc:sZ cs=true)(he:wE Φ e ρ S λp=>∃(t:Jp) (xs:Jf W) (I:Jp->Jf W->Fm->aa->Prop),p.1=.ref t/\I 0 [] (gT cap ρ) p.2/\(∀i ys ρ S,I i ys ρ S->S[t]?=ba (.lst xs))/\
  (∀(i:Jp) (w:W) (ys:Jf W) (ρ:Fm) (S:aa),xs[i]?=ba w->I i ys ρ S->wO (gW tg w ρ S) λq=>mG Φ elt cs q.1 q.2 (λy=>I (i+1) (ys++[y])) (I (i+1) ys))/\
  ∀ys ρ S,I xs.length ys ρ S->ys.length<=sizeLine/\Q (.ref S.length,S++[.lst ys])):Wp (aI Φ (.comp elt tg (.seq e) cs cap) ρ S) Q:=by
 obtain⟨w,S1,e1,t,xs,I,rfl,h0,hat,hstep,hend⟩:=db oi he;exact jD (mi:=.live t) (S1:=S1) I oe oc (by simp only[mK,fZ,e1,bc (hat _ _ _ _ h0)]) (λi ys ρ S h=>by simp only[MI.at,bc (hat _ _ _ _ h)]) (by simp only[MI.len,bc (hat _ _ _ _ h0),Kb]) h0 hstep hend
section
variable{defs:Jf (JG×Df)}{fuel d:Jp}{S:aa}{r:Jp}{Q:QW}
theorem GX {t l:Jp}{xs ys:Jf W}(h:S[t]?=ba (.lst xs))(h2:S[l]?=ba (.lst ys))(hl:xs.length+ys.length<=1000)(q:Q (.non,S.set t (.lst (xs++ys)))):wO (Me.extend.fn (.ref t) [.ref l] S) Q:=by
 refine ae ?_ q;simp only[Me.fn,iP,d7 h,d7 h2];rw[JN (kB hl)]
theorem zO (hd:Is defs ("_law_digits" : JG) 2 4 cM)(hg:Is defs ("_law_worlds" : JG) 2 6 dz){a n:Jp}{M N:Jf W}{b0:W}(hM:M.length=a)(hN:N.length=n)(ha1:1<=a)(ha3:a<=3)(hn1:1<=n)(hn3:n<=3)(han:a*n<=6)
  (kk:∀(q:Jp) (S':aa),S'[q]?=ba (.lst ((dk a n 3).map aM))->S.length<=q->Ka S S'->Q (.ref q,S')) :
  wO (bF (ap defs fuel (d+2)) "_law_worlds" 2 [.tup [.tup M,.tup N,b0],.int 3] S) Q:=by
 refine az hg rfl rfl λQ' hR=>?_
 replace kk:∀(q:Jp) (S':aa),S'[q]?=ba (.lst ((dk a n 3).map aM))->S.length<=q->Ka S S'->Q' (.rt (.ref q),S'):=λa b c e f=>hR _ _ (kk a b c e f)
 clear hR;show wZ _ _ dz [ba (.tup [.tup M,.tup N,b0]),ba (.int 3),gV,gV,gV,gV] S Q';generalize hR0:W.tup [.tup M,.tup N,b0]=R;dsimp only[dz];refine st ?_;dsimp only[wS,wE,wA,Jx];refine aZ λK hK=>?_
 refine cJ 3 (λi ρ S'=>∃(q:Jp) (a3 a4 a5:Jn W),ρ=[ba R,ba (.int 3),ba (.ref q),a3,a4,a5]/\S'[q]?=ba (.lst ((dk a n i).map aM))/\S.length<=q/\Ka S S') rfl rfl (by decide) ⟨rfl,_,_,_,_,rfl,aj,Js _,.push⟩ ?_ ?_
 ·rintro i ρ S1 hi ⟨q,a3,a4,a5,rfl,e1,hq,k1⟩ Q2 hn _;clear hK kk;have hi2:i<=2:=by omega
  obtain⟨p1,p27,hP⟩:=rN (k:=i) ha1 ha3 hn1 hn3 han hi2;have hq1:=dv e1;refine st ?_;dsimp only[wS,wE,wA,Jx];refine aZ λK hK=>?_
  refine ja rfl rfl ?_;dsimp only[wE,wA,wV,wG];subst hR0;refine am (by decide) rfl (bK ?_)
  rw[hM];refine⟨(a:Jy),λm ρ S'=>∃a5,ρ=[ba (.tup [.tup M,.tup N,b0]),ba (.int 3),ba (.ref q),ba (.int i),ba (.ref S1.length),a5]/\S'[S1.length]?=ba (.lst ((cD m n i).map gc))/\S'[q]?=ba (.lst ((dk a n i).map aM))/\Ka S S',rfl,by omega,⟨a5,rfl,aj,aq e1,k1.trans .push⟩,?_,?_⟩
  ·rintro m ρ S2 hm ⟨a5,rfl,e2,e2q,k2⟩ Q3 hn3' _;clear hK hn;have hS12:=dv e2;refine st ?_;dsimp only[wS,wE,wA,wV,wG,Jx];refine⟨eG e2,?_⟩;refine l5 rfl rfl rfl ?_;dsimp only[wE,wA,wV,wG];refine am (by decide) rfl (bK ?_)
   rw[hN];refine zN (d:=d) hd hn1 hn3 (by exact JF ‹_› (JJ rfl)) λl S3 e3 hl k3=>?_
   refine⟨l,(cC n i).map λds=>.tup (af ds),λj ys ρ2 S4=>(∃a1,ρ2=[gV,a1,ba (.int m)])/\ys=((cC n i).take j).map (λds=>gc ((m:Jy),ds))/\S4=S3,rfl,⟨⟨gV,rfl⟩,rfl,rfl⟩,λj ys ρ2 S4 h=>by rw[h.2.2]; exact e3,?_,?_⟩
   ·rintro j w ys ρ2 S4 hw ⟨⟨a1,rfl⟩,rfl,rfl⟩;rw[Jr,Jl]at hw;obtain⟨ds,hds,rfl⟩:=hw;refine ae (show gW (.nm 1) (.tup (af ds)) [gV,a1,ba (.int m)] S4=ba ([gV,ba (.tup (af ds)),ba (.int m)],S4)from rfl) ?_
    refine⟨λ_=>⟨⟨_,rfl⟩,?_,rfl⟩,λz=>by cases z⟩
    rw[Kf,hds];simp[gc,af]
   ·rintro ys ρ2 S4 ⟨_,rfl,rfl⟩;rw[show((cC n i).map λds=>W.tup (af ds)).length=(cC n i).length from Ji ..,Kr]
    have hdl:=(zM (n:=n) (k:=i) hn3 (by exact JF ‹_› (JJ rfl))).1
    have e2':=aq (u:=O.lst ((cC n i).map λds=>gc ((m:Jy),ds))) (k3.get _ _ e2)
    have hpm:(cD m n i).length<=27:=by
     rw[l4]at p27 ⊢;exact JF (OZ _ (by omega)) p27
    refine⟨kB (by rw[Ji]; exact JF ‹_› (JJ rfl)),GX e2' aj (by rw[Ji,Ji]; omega) (cr (hn3' _ _ ⟨_,rfl,?_,?_,((k2.trans k3).trans .push).late k1.len⟩))⟩
    ·rw[cf e2'];unfold cD;rw[OD,MH,Kd];simp
    ·rw[cg (J2 ‹_›)]; exact aq (k3.get _ _ e2q)
  ·rintro ρ S2 ⟨a5,rfl,e2,e2q,k2⟩;rw[JH]at e2;refine hK _ _ ?_;clear hK K;have hPz:(((dk a n i).length:Jy)*((cD a n i).length:Jy))=(((dk a n i).length*(cD a n i).length:Jp):Jy):=(Ov ..).symm;refine st ?_;dsimp only[wS,wE,Jx];refine d8 (((dk a n i).length*(cD a n i).length:Jp):Jy) (λj ys ρ2 S3=>(∃a1,ρ2=[gV,a1,ba (.ref S1.length),ba (.ref q)])/\ys=((dk a n (i+1)).take j).map aM/\S3=S2) rfl rfl rfl (by omega) ?_ ?_ ?_
   ·refine CU (x:=(dk a n i).length) (y:=(cD a n i).length) (λQ q'=>?_) (λQ q'=>?_) (by omega) (by omega) ⟨by rw[hPz],⟨gV,rfl⟩,rfl,rfl⟩
    ·dsimp only[wE,wA,wV,wG];refine i6 e2q ?_;rw[Ji];exact q'
    ·dsimp only[wE,wA,wV,wG];refine i6 e2 ?_;rw[Ji];exact q'
   ·rintro j ys ρ2 S3 hj ⟨⟨a1,rfl⟩,rfl,rfl⟩;have hj':j < (dk a n i).length*(cD a n i).length:=by exact Li.mp ‹_›
    have hlt:j / (cD a n i).length < (dk a n i).length:=Lx (by rw[Mw]; exact hj')
    have hg:=aD (d:=[]) hlt;have hwl:=Cf (JI hg);have hmod:j % (cD a n i).length < (cD a n i).length:=Om _ p1;have hp:=aD (d:=(0,[])) hmod;dsimp only[mG,wC,wE,wA,wV,wG,Jx];refine⟨λ_=>i6 e2 ?_,λz=>by cases z⟩
    rw[Ji];refine ae (iA (by omega) (by omega)) ?_
    refine gw e2q (w:=aM ((dk a n i).getD (j / (cD a n i).length) [])) (Nk (by omega) (by omega)) (by rw[show((j:Jy) / ((cD a n i).length:Jy)).toNat=j / (cD a n i).length from rfl,Jr,hg]; rfl) (i6 e2 ?_)
    rw[Ji];refine ae (i3 (by omega)) (gw e2 (w:=gc ((cD a n i).getD (j % (cD a n i).length) (0,[]))) (LU _ (by omega)) (by rw[show((j:Jy) % ((cD a n i).length:Jy)).toNat=j % (cD a n i).length from rfl,Jr,hp]; rfl) ?_)
    refine ae (fQ (kB (by rw[Jt,Ji]; show _+1<=1000; omega))) ⟨⟨_,rfl⟩,?_,rfl⟩
    have ed:(dk a n (i+1))[j]?=ba ((dk a n i).getD (j / (cD a n i).length) []++[(cD a n i).getD (j % (cD a n i).length) (0,[])]):=by
     rw[dk,Jr,LF hj']; rfl
    rw[Kf,ed];simp[aM]
   ·rintro ys ρ2 S3 ⟨_,rfl,rfl⟩;rw[JH,<- eO,Kr];exact⟨kB (by rw[Ji,eO]; exact JF ‹_› (JJ rfl)),cr (hn _ _ ⟨_,_,_,_,rfl,aj,k2.len,k2.trans .push⟩)⟩
 ·rintro ρ S1 ⟨q,a3,a4,a5,rfl,e1,hq,k1⟩;exact hK _ _ (st (kk q S1 e1 hq k1))
end
noncomputable def dW (a:Jp)(bs:Jf Jy):Jf Wd:=(dk a bs.length 3).map (jG bs)
noncomputable def cF (a:Jp)(bs:Jf Jy):JW:=match ke ((dW a bs).map cL)with
 | some ks=>decide ks.Nodup && !ks.isEmpty
 | none=>false
theorem IA:cF 1 [0]=true/\cF 2 [0]=true/\cF 3 [0]=true:=by decide +kernel
theorem Hd:cF 1 [0,1]=true/\cF 2 [0,1]=true/\cF 1 [1,0]=true/\cF 2 [1,0]=true:=by decide +kernel
theorem IB:cF 1 [0,1,2]=true/\cF 1 [1,0,2]=true/\cF 1 [0,2,1]=true:=by decide +kernel
theorem IC:cF 3 [0,1]=true:=by decide +kernel
theorem ID:cF 3 [1,0]=true:=by decide +kernel
theorem IE:cF 2 [0,1,2]=true:=by decide +kernel
theorem IF:cF 2 [1,0,2]=true:=by decide +kernel
theorem IG:cF 2 [0,2,1]=true:=by decide +kernel
noncomputable def gz (n:Jp)(os:Jf (Jf Jp)):Jf (Jf Jp):=os.flatMap λo=>((Kh n).filter λp=>decide (p∉o)).map λp=>o++[p]
theorem rO {n:Jp}:∀os:Jf (Jf Jp),(gz n os).length<=os.length*n
 | []=>by simp[gz]
 | o::os=>by
  have ih:=rO (n:=n) os;unfold gz at ih ⊢;rw[P8,Jt,Ji,Ky,PR];have:=OO (λp=>decide (p∉o)) (Kh n)
  rw[Kj]at this;omega
theorem wn {n:Jp}{os:Jf (Jf Jp)}{i:Jp}:(gz n (os.take i)).length<=os.length*n:=by
 refine JF (rO _) (OZ _ ?_);rw[Kk]; omega
theorem oB {S:aa}{d:Jp}:∀xs ys:Jf Jy,io (kw S d) (xs.map W.int) (ys.map W.int)=ba (decide (xs=ys))
 | [],[]=>rfl
 | [],_::_=>rfl
 | _::_,[]=>rfl
 | x::xs,y::ys=>by
  have e:kw S d (.int x) (.int y)=ba (x==y):=by cases d <;> rfl
  simp only[KF,io,e,oB xs ys]
  by_cases h:x=y
  ·subst h; by_cases h2:xs=ys <;> simp[h2]
  ·have h':(x==y)=false:=by simpa using h
   simp[h,h']
theorem EI {S:aa}{d:Jp}(p q:Pt):kw S (d+2) (gc p) (gc q)=ba (decide (p=q)):=by
 obtain⟨m,ws⟩:=p;obtain⟨m',ws'⟩:=q;show io (kw S (d+1)) [.int m,.tup (ws.map W.int)] [.int m',.tup (ws'.map W.int)]=_;have e:kw S (d+1) (.int m) (.int m')=ba (m==m'):=rfl;have e2:kw S (d+1) (.tup (ws.map W.int)) (.tup (ws'.map W.int))=ba (decide (ws=ws')):=oB ws ws';simp only[io,e,e2]
 by_cases h:m=m'
 ·subst h; by_cases h2:ws=ws' <;> simp[h2]
 ·have h':(m==m')=false:=by simpa using h
  simp[h,h']
theorem rP {S:aa}{d:Jp}:∀u v:Wd,io (kw S (d+2)) (u.map gc) (v.map gc)=ba (decide (u=v))
 | [],[]=>rfl
 | [],_::_=>rfl
 | _::_,[]=>rfl
 | x::xs,y::ys=>by
  simp only[KF,io,EI,rP xs ys]
  by_cases h:x=y
  ·subst h; by_cases h2:xs=ys <;> simp[h2]
  ·simp[h]
theorem EJ {S:aa}{u v:Wd}:cU .eq (aM u) (aM v) S=ba (.bl (decide (u=v)),S):=by
 show(io (kw S (17+2)) (u.map gc) (v.map gc)).map _=_;rw[rP]; rfl
theorem rQ {p:Jp}:∀ps:Jf Jp,((aE ps).any λz=>xC z (.int p))=decide (p∈ps)
 | []=>rfl
 | q::ps=>by
  show((q:Jy)==(p:Jy)||(aE ps).any _)=_
  rw[rQ ps]
  by_cases h:q=p
  ·subst h; simp
  ·have h1:((q:Jy)==(p:Jy))=false:=by simp; omega
   have h2:¬ p=q:=λe=>h e.symm
   rw[h1]; simp[h2]
theorem wo (ps:Jf Jp):(aE ps).all cp=true:=by
 rw[JO];intro x hx;obtain⟨p,_,rfl⟩:=JT.mp hx;rfl
theorem zP {S:aa}{p:Jp}{ps:Jf Jp}:cU .notin (.int p) (.tup (aE ps)) S=ba (.bl (decide (p∉ps)),S):=by
 show iM .notin (.int p) (.tup (aE ps)) S=_;have hf:(cp (.int p)&&(aE ps).all cp)=true:=by rw[wo]; rfl
 simp only[iM,DI,AV,eT,hf,K6,Kb,rQ];congr 3
 by_cases h:p∈ps <;> simp[h]
theorem zQ {xs:Jf W}:jq xs gV (ba (-1))=xs.dropLast:=by
 unfold jq;rw[HT.li,OU,RF,List.dropLast_eq_take];congr 1;show(if (-1:Jy) < 0 then((-1:Jy)+(xs.length:Jy)).toNat else min (-1:Jy).toNat xs.length)=_
 rw[JN (by decide)]; omega
noncomputable def bH:Ss:=
 (.cons (.set 2 (.lst .nil))
 (.cons (.loop (.nm 3) (.seq (.v 0)) (.cons (.ex (.me .extend (.v 2) (.cons (.comp (.op .add (.v 2) (.tup (.cons (.v 1) .nil))) (.nm 1) (.rng (.cons (.v 1) .nil)) (.cons (.cmp .notin (.v 1) (.v 2)) .nil) [gV,gV,ba 3]) .nil)))
 .nil))
 (.cons (.ret (.v 2))
 .nil)))
noncomputable def cQ (os:Jf (Jf Jp)):Jf W:=os.map λo=>.tup (aE o)
section
variable{defs:Jf (JG×Df)}{fuel d:Jp}{S:aa}{Q:QW}
theorem EK {t l:Jp}{xs ys:Jf W}(h:S[t]?=ba (.lst xs))(h2:S[l]?=ba (.lst ys))(hl:xs.length+ys.length<=1000000)(q:Q (.non,S.set t (.lst (xs++ys)))):wO (Me.extend.fn (.ref t) [.ref l] S) Q:=by
 refine ae ?_ q;simp only[Me.fn,iP,d7 h,d7 h2];rw[JN (by rw[Ki]; exact JF ‹_› (JJ rfl))]
theorem rR {n:Jp}(h:n<=1000000):n<=sizeLine:=by rw[Ki]; exact JF ‹_› (JJ rfl)
theorem zR (hg:Is defs ("longer_orders" : JG) 2 4 bH){n l:Jp}{os:Jf (Jf Jp)}(e:S[l]?=ba (.lst (cQ os)))(hn:n<=100)(hol:∀o∈os,o.length<=100)(hos:os.length*n<=100000)
  (k:∀(q:Jp) (S':aa),S'[q]?=ba (.lst (cQ (gz n os)))->S.length<=q->Ka S S'->Q (.ref q,S')) :
  wO (bF (ap defs fuel (d+1)) "longer_orders" 2 [.ref l,.int n] S) Q:=by
 refine az hg rfl rfl λQ' hR=>?_
 replace k:∀(q:Jp) (S':aa),S'[q]?=ba (.lst (cQ (gz n os)))->S.length<=q->Ka S S'->Q' (.rt (.ref q),S'):=λa b c e f=>hR _ _ (k a b c e f)
 clear hR;show wZ _ _ bH [ba (.ref l),ba (.int n),gV,gV] S Q';have hlS:=dv e;dsimp only[bH];refine st ?_;dsimp only[wS,wE,wA,Jx];refine aZ λK hK=>?_
 refine uN l (cQ os) (λi ρ S'=>(∃a3,ρ=[ba (.ref l),ba (.int n),ba (.ref S.length),a3])/\S'[l]?=ba (.lst (cQ os))/\S'[S.length]?=ba (.lst (cQ (gz n (os.take i))))/\Ka S S') rfl rfl ⟨rfl,⟨gV,rfl⟩,aq e,aj,.push⟩ (λi ρ S' h=>h.2.1) ?_ ?_
 ·rintro i w ρ S1 hw ⟨⟨a3,rfl⟩,e0,e1,k1⟩;clear hK k;unfold cQ at hw;rw[Jr,Jl]at hw;obtain⟨o,ho,rfl⟩:=hw;have hol:=hol o (JI ho);refine ae (show gW (.nm 3) (.tup (aE o)) [ba (.ref l),ba (.int n),ba (.ref S.length),a3] S1=ba ([ba (.ref l),ba (.int n),ba (.ref S.length),ba (.tup (aE o))],S1)from rfl) ?_
  intro Q2 hn _;refine st ?_;dsimp only[wS,wE,wA,wV,wG];refine⟨eG e1,?_⟩;refine d8 (n:Jy) (λj ys ρ2 S2=>(∃a1,ρ2=[gV,a1,ba (.tup (aE o))])/\ys=cQ (((Kh j).filter λp=>decide (p∉o)).map λp=>o++[p])/\S2=S1) rfl rfl rfl (by omega) ⟨rfl,⟨gV,rfl⟩,rfl,rfl⟩ ?_ ?_
  ·rintro j ys ρ2 S2 hj ⟨⟨a1,rfl⟩,rfl,rfl⟩;dsimp only[mG,wC,wE,wA,wV,wG,Jx];refine ae zP ?_;dsimp only[wB];have er:(Kh (j+1)).filter (λp=>decide (p∉o))=(Kh j).filter (λp=>decide (p∉o))++(if j∉o then[j]else[]):=by
    rw[OD,List.filter_append];congr 1
    by_cases h:j∈o <;> simp[h]
   refine⟨λh=>?_,λh=>⟨⟨_,rfl⟩,?_,rfl⟩⟩
   ·have h:j∉o:=Kn h;refine ae (fQ (rR (by rw[Jt,show(aE o).length=o.length from Ji ..]; show _+1<=_; omega))) ⟨⟨_,rfl⟩,?_,rfl⟩
    rw[er,JN h,Kd];unfold cQ;rw[Kd];simp[aE]
   ·have h:¬ j∉o:=LO h;rw[er,JX h,LC]
  ·rintro ys ρ2 S2 ⟨_,rfl,rfl⟩;rw[JH];have hlen:(cQ (((Kh n).filter λp=>decide (p∉o)).map λp=>o++[p])).length<=n:=by
    unfold cQ;rw[Ji,Ji];exact JF (OO _ _) (by rw[Kj]; exact Js _)
   have e1':=aq (u:=O.lst (cQ (((Kh n).filter λp=>decide (p∉o)).map λp=>o++[p]))) e1
   have hlt:=wn (n:=n) (os:=os) (i:=i);have hlw:(cQ (gz n (os.take i))).length=(gz n (os.take i)).length:=Ji ..;refine⟨rR (by omega),EK e1' aj (by omega) (cr (hn _ _ ⟨⟨_,rfl⟩,?_,?_,(k1.trans .push).late (Js _)⟩))⟩
   ·rw[cg (J2 ‹_›)]; exact aq e0
   ·rw[cf e1'];unfold gz cQ;rw[Kf,ho];simp
 ·rintro ρ S1 ⟨⟨a3,rfl⟩,e0,e1,k1⟩;rw[show(cQ os).length=os.length from Ji ..,Kr]at e1
  exact hK _ _ (st (k _ _ e1 (Js _) k1))
end
theorem Cg {a:Jp}{bs:Jf Jy}(h:SizeOk a bs):cF a bs=true:=by
 obtain⟨h0,hb,hm,h3⟩:=h;have ha:a=1\/a=2\/a=3:=by omega
 rcases hb with rfl|rfl|rfl|rfl|rfl|rfl <;> rcases ha with rfl|rfl|rfl
 ·exact IA.1
 ·exact IA.2.1
 ·exact IA.2.2
 ·exact Hd.1
 ·exact Hd.2.1
 ·exact IC
 ·exact Hd.2.2.1
 ·exact Hd.2.2.2
 ·exact ID
 ·exact IB.1
 ·exact IE
 ·exact absurd hm (by decide)
 ·exact IB.2.1
 ·exact IF
 ·exact absurd hm (by decide)
 ·exact IB.2.2
 ·exact IG
 ·exact absurd hm (by decide)
theorem rS:∀ {us vs:Jf Wd},us.map cL=vs.map cL->us=vs
 | [],[],_=>rfl
 | [],_::_,h=>by cases h
 | _::_,[],h=>by cases h
 | x::xs,y::ys,h=>by
  simp only[KF,Sv]at h;rw[pM h.1,rS h.2]
theorem rT:∀xs:Jf Jy,dC (xs.map T.int)=true
 | []=>rfl
 | _::xs=>rT xs
theorem u6:∀u:Wd,dC (u.map pG)=true
 | []=>rfl
 | p::u=>by
  simp only[KF,dC,Jo];refine⟨?_,u6 u⟩;simp[pG,fL,dC,rT]
theorem zS (u:Wd):fL (cL u)=true:=u6 u
theorem CV:∀ {ks:Jf T} {L:Jf Wd},(∀k∈ks,k∈L.map cL)->∃us:Jf Wd,ks=us.map cL/\∀u∈us,u∈L
 | [],_,_=>⟨[],rfl,λ_ h=>nomatch h⟩
 | k::ks,L,h=>by
  obtain⟨u,hu,rfl⟩:=JT.mp (h k (.head _));obtain⟨us,rfl,h2⟩:=CV λk hk=>h k (.tail _ hk)
  exact⟨u::us,rfl,λv hv=>(JP.mp hv).elim (λe=>e ▸ hu) (h2 v)⟩
theorem km:∀ {us:Jf Wd},(us.map cL).Nodup->us.Nodup
 | [],_=>.nil
 | u::us,h=>by
  rw[KF,LD]at h;exact LD.mpr ⟨λz=>h.1 (JT.mpr ⟨u,z,rfl⟩),km h.2⟩
theorem EL {n k:Jp}{ds:Jf Jy}:ds∈cC n k->ds.length=k/\∀w∈ds,0<=w/\w < (n:Jy):=by
 induction k generalizing ds with
 | zero=>intro h; cases JC.mp h; exact⟨rfl,λw hw=>nomatch hw⟩
 | succ k ih=>
  intro h;obtain⟨i,hi,rfl⟩:=JT.mp h;have hi:=KJ.mp hi;have hn:0 < n:=by
   rcases NM n with h|h
   ·rw[h,Oq]at hi; omega
   ·exact h
  have hlt:i / n < (cC n k).length:=Lx (by rw[Mw]; exact hi)
  obtain⟨h1,h2⟩:=ih (JI (aD (d:=[]) hlt));refine⟨by rw[Jt,h1]; rfl,λw hw=>?_⟩
  rcases J9.mp hw with h|h
  ·exact h2 w h
  ·rw[JC.mp h];have:=Om i hn;omega
theorem rV {a n k:Jp}{u:Wd}:u∈dk a n k->GoodW a n u/\u.length=k:=by
 induction k generalizing u with
 | zero=>intro h; cases JC.mp h; exact⟨.nil,rfl⟩
 | succ k ih=>
  intro h;obtain⟨i,hi,rfl⟩:=JT.mp h;have hi:=KJ.mp hi;have hpos:0 < (cD a n k).length:=by
   rcases NM (cD a n k).length with h|h
   ·rw[h,Oq]at hi; omega
   ·exact h
  have hlt:i / (cD a n k).length < (dk a n k).length:=Lx (by rw[Mw]; exact hi)
  obtain⟨h1,h2⟩:=ih (JI (aD (d:=[]) hlt));have hp:=JI (aD (d:=(0,[])) (Om i hpos));obtain⟨m,hm,hp⟩:=Od.mp hp;obtain⟨ds,hds,e⟩:=JT.mp hp;obtain⟨g1,g2⟩:=EL hds;have hm:=KJ.mp hm;rw[<- e];exact⟨h1.snoc ⟨by omega,by exact Li.mpr ‹_›⟩ (by rw[g1,h2]) g2,by rw[Jt,h2]; rfl⟩
theorem Ch {a:Jp}{bs:Jf Jy}(h:SizeOk a bs):∃us:Jf Wd,ke ((dW a bs).map cL)=ba (us.map cL)/\us.Nodup/\us.length < 64/\(∀u∈us,u∈bu a bs)/\dW a bs≠[]:=by
 have p:=Cg h;unfold cF at p;split at p
 ·rename_i ks hk;simp only[Jo,JK]at p;have hm0:=ye hk;obtain⟨us,rfl,hm⟩:=CV (L:=bu a bs) λk hk=>by
   obtain⟨f,hf,rfl⟩:=JT.mp (hm0 k hk);obtain⟨u,hu,rfl⟩:=JT.mp hf;obtain⟨g1,g2⟩:=rV hu;exact JT.mpr ⟨_,uX g1 g2,rfl⟩
  have nd:=km p.1;refine⟨us,hk,nd,LP (lU us _ nd hm) (lc h),hm,λz=>?_⟩
  rw[z]at hk;have e:ba (us.map cL)=ba []:=hk.symm;rw[Kz e]at p;exact absurd p.2 (by decide)
 ·cases p
theorem rW {us:Jf Wd}(h:us.Nodup):Nice (us.map cL):=by
 refine⟨λx hx=>?_,jF us,?_⟩
 ·obtain⟨u,_,rfl⟩:=JT.mp hx;exact zS u
 ·rw[List.nodup_iff_pairwise_ne,NY];exact h.imp λhne e=>hne (pM e)
theorem jK {us:Jf Wd}:(cO us).map cL=eW (us.map cL):=by
 unfold cO eW;rw[rB (d:=[])]
theorem wp {us vs:Jf Wd}(h:us.Nodup)(hs:vs.Sublist (cO us)):cO vs=vs:=by
 apply rS;rw[jK];refine yd (rW h) ?_;rw[<- jK];exact hs.map _
noncomputable def dL:Ss:=
 (.cons (.ret (.bi .sorted (.cons (.bi .set (.cons (.comp (.own "_law_figure" 2 (.cons (.v 2) (.cons (.v 1) .nil))) (.nm 1) (.seq (.own "_law_worlds" 2 (.cons (.v 0) (.cons (.c (.int 3)) .nil)))) .nil [gV,gV,ba 0]) .nil)) .nil)))
 .nil)
noncomputable def c9:Ss:=
 (.cons (.set 1 (.own "_law_pick" 2 (.cons (.v 0) (.cons (.c (.int 4)) .nil))))
 (.cons (.ite (.cmp .eq (.v 1) (.c (.int 0))) (.cons (.ret (.own "_law_laying_rule" 1 (.cons (.v 0) .nil)))
 .nil) .nil)
 (.cons (.ite (.cmp .lt (.v 1) (.c (.int 3))) (.cons (.ret (.own "_law_any_rule" 1 (.cons (.v 0) .nil)))
 .nil) .nil)
 (.cons (.asg [2,3] (.own "_law_sizes" 1 (.cons (.v 0) .nil)))
 (.cons (.set 4 (.own "_law_rule_of" 4 (.cons (.v 0) (.cons (.v 2) (.cons (.own "_law_backs" 2 (.cons (.v 0) (.cons (.v 3) .nil))) (.cons (.tup .nil) .nil))))))
 (.cons (.ret (.tup (.cons (.ix (.v 4) (.c (.int 0))) (.cons (.ix (.v 4) (.c (.int 1))) (.cons (.bi .tuple (.cons (.comp (.v 1) (.nm 1) (.seq (.own "_law_figures" 1 (.cons (.v 4) .nil))) (.cons (.cmp .eq (.own "_law_pick" 2 (.cons (.v 2) (.cons (.c (.int 3)) .nil))) (.c (.int 0))) .nil) [gV,gV,ba 0]) .nil)) .nil)))))
 .nil))))))
section
variable{defs:Jf (JG×Df)}{fuel d:Jp}{S:aa}{r:Jp}{Q:QW}
theorem EM {l:Jp}{us ks:Jf Wd}(h:S[l]?=ba (.lst (us.map aM)))(hne:us≠[])(hk:ke (us.map cL)=ba (ks.map cL))(q:Q (.ref S.length,S++[.stt (ks.map cL)])):wO (Bi.set.fn [.ref l] S) Q:=by
 refine ae ?_ q;have e2:lF [.ref l] S=ba (.ref S.length,S++[.stt (ks.map cL)]):=by
  simp only[lF,bc h,zj];rw[JN,hk]
  ·rfl
  ·rw[JO];intro x hx;obtain⟨u,_,rfl⟩:=JT.mp hx;have:=lW u;have kl:aH=6:=rfl;simp only[yf,zS,MM,Jo,JK];exact⟨rfl,by exact JF ‹_› (JJ rfl)⟩
 exact e2
theorem Ci {l:Jp}{us:Jf Wd}(h:S[l]?=ba (.stt (us.map cL)))(h64:us.length < 64)(hnd:us.Nodup)(hne:∀u∈us,u≠[])(q:Q (.ref S.length,S++[.lst ((cO us).map aM)])):wO (Bi.sorted.fn [.ref l] S) Q:=by
 refine ae ?_ q;have hr:E3 S l=ba (us.map cL):=by simp[E3,h]
 have N:=rW hnd;have ok:lG (us.map cL)=true:=by
  simp only[lG,ir,Jo,JK,La,Ji];refine⟨⟨⟨JO.mpr N.num,N.lt⟩,N.nd⟩,⟨⟨h64,by have:=gO us; unfold c7; exact JF ‹_› (JJ rfl)⟩,.inr ⟨zn us hne,N.lt⟩⟩⟩
 have e1:du [.ref l] S=ba (.ref S.length,S++[.lst ((cO us).map aM)]):=by
  simp only[du,hr];rw[JN ok,<- jK,tf]
 show CB du fN [.ref l] S=_;unfold CB;simp only[e1]
structure Full (defs:Jf (JG×Df)):Prop where
 digits:Is defs ("_law_digits" : JG) 2 4 cM
 worlds:Is defs ("_law_worlds" : JG) 2 6 dz
 figures:Is defs ("_law_figures" : JG) 1 1 dL
 full:Is defs ("_law_full_rule" : JG) 1 5 c9
theorem wq (G:Gen defs)(F:Full defs){ms ns:Jf JG}{a:Jp}{bs:Jf Jy}{b0:W}(hs:SizeOk a bs)(hml:ms.length=a)(hnl:ns.length=bs.length)
  (k:∀(us:Jf Wd) (q:Jp) (S':aa),us.Nodup->us.length < 64->(∀u∈us,u∈bu a bs)->S'[q]?=ba (.lst ((cO us).map aM))->S.length<=q->Ka S S'->Q (.ref q,S')) :
  wO (bF (ap defs fuel (d+4)) "_law_figures" 1 [.tup [.tup (ms.map W.str),.tup (JL bG ns bs),b0]] S) Q:=by
 refine az F.figures rfl rfl λQ' hR=>?_
 replace k:∀(us:Jf Wd) (q:Jp) (S':aa),us.Nodup->us.length < 64->(∀u∈us,u∈bu a bs)->S'[q]?=ba (.lst ((cO us).map aM))->S.length<=q->Ka S S'->Q' (.rt (.ref q),S'):=λa b c e f g h i j=>hR _ _ (k a b c e f g h i j)
 clear hR;obtain⟨us,hk,hnd,h64,hmem,hne⟩:=Ch hs;have hb3:=hs.n3;have hpos:=hs.pos;have h3:=hs.a3;have hmost:=hs.most;show wZ _ _ dL [ba (.tup [.tup (ms.map W.str),.tup (JL bG ns bs),b0])] S Q';generalize hB:W.tup [.tup (ms.map W.str),.tup (JL bG ns bs),b0]=R;dsimp only[dL];refine st ?_;dsimp only[wS,wE,wA,wV,wG];refine l5 rfl rfl rfl ?_;dsimp only[wE,wA,wV,wG];subst hB;refine zO (d:=d+1) F.digits F.worlds (a:=a) (n:=bs.length) (by rw[Ji,hml]) (by rw[MG,hnl]; omega) hpos h3 hb3.1 hb3.2 hmost λl S1 e1 hl k1=>?_
 generalize hB:W.tup [.tup (ms.map W.str),.tup (JL bG ns bs),b0]=R;refine⟨l,(dk a bs.length 3).map aM,λj ys ρ2 S2=>(∃a1,ρ2=[gV,a1,ba R])/\ys=((dW a bs).take j).map aM/\S2[l]?=ba (.lst ((dk a bs.length 3).map aM))/\Ka S S2,rfl,⟨⟨gV,rfl⟩,rfl,e1,k1⟩,λj ys ρ2 S2 h=>h.2.2.1,?_,?_⟩
 ·rintro j w ys ρ2 S2 hw ⟨⟨a1,rfl⟩,rfl,e2,k2⟩;rw[Jr,Jl]at hw;obtain⟨u,hu,rfl⟩:=hw;obtain⟨gu,hu3⟩:=rV (JI hu);refine ae (show gW (.nm 1) (aM u) [gV,a1,ba R] S2=ba ([gV,ba (aM u),ba R],S2)from rfl) ?_
  dsimp only[mG,wC,wE,wA,wV,wG];subst hB;refine⟨λ_=>i8 (d:=d) G hs.good hnl gu hu3 λS3 k3=>⟨⟨_,rfl⟩,?_,k3.get _ _ e2,k2.trans k3⟩,λz=>by cases z⟩
  have:(dW a bs)[j]?=ba (jG bs u):=by unfold dW; rw[Jr,hu]; rfl
  rw[Kf,this];simp
 ·rintro ys ρ2 S2 ⟨_,rfl,e2,k2⟩;have hfl:(dW a bs).length=((dk a bs.length 3).map aM).length:=by unfold dW; rw[Ji,Ji]
  rw[<- hfl,Kr];have hl216:(dW a bs).length<=216:=by
   unfold dW;rw[Ji,eO];exact(rN (k:=2) hpos h3 hb3.1 hb3.2 hmost (by decide)).2.2
  refine⟨rR (by rw[Ji]; exact JF ‹_› (JJ rfl)),EM aj hne hk (Ci aj h64 hnd (λu hu=>rE (hmem u hu)) ?_)⟩
  have kk:=((k2.trans (Ka.push (o:=O.lst ((dW a bs).map aM)))).trans (Ka.push (o:=O.stt (us.map cL)))).trans (Ka.push (o:=O.lst ((cO us).map aM)));exact k us _ _ hnd h64 hmem aj (((k2.trans (Ka.push (o:=O.lst ((dW a bs).map aM)))).trans (Ka.push (o:=O.stt (us.map cL)))).len) kk
theorem EN (hfu:20 < fuel)(G:Gen defs)(F:Full defs)(hf:Fl S r)(k:∀w S',eN w->Fl S' r->Kp r S S'->Q (w,S')):wO (bF (ap defs fuel (d+8)) "_law_full_rule" 1 [.ref r] S) Q:=by
 refine az F.full rfl rfl λQ' hR=>?_
 replace k:∀w S',eN w->Fl S' r->Kp r S S'->Q' (.rt w,S'):=λz S' a b c=>hR _ _ (k z S' a b c)
 clear hR;show wZ _ _ c9 [ba (.ref r),gV,gV,gV,gV] S Q';dsimp only[c9];refine aZ λK hK=>?_
 dsimp only[wS,wE,wA,wV,wG,Jx];refine be (d:=d+6) G.pick hf (by decide) (by decide) λv S1 v0 v7 f1 k1=>hK _ _ ?_
 clear hK K;refine aZ λK hK=>?_
 dsimp only[wS,wT,wE,wV,wG,gX,aT,wB];refine aw (Q0:=Q') (λ_ Q2 _ hr=>?_) (λ_ Q2 hn _=>cr (hn _ _ (hK _ _ ?_)))
 ·refine st ?_;dsimp only[wS,wE,wA,wV,wG];exact zK (d:=d) hfu G f1 λw S2 hw f2 k2=>hr _ _ (k w S2 hw f2 (k1.trans k2))
 clear hK K hn;refine aZ λK hK=>?_
 dsimp only[wS,wT,wE,wV,wG,BS,aT,wB];refine aw (Q0:=Q') (λ_ Q2 _ hr=>?_) (λ_ Q2 hn _=>cr (hn _ _ (hK _ _ ?_)))
 ·refine st ?_;dsimp only[wS,wE,wA,wV,wG];exact tq (d:=d+1) hfu G f1 λw S2 hw f2 k2=>hr _ _ (k w S2 hw f2 (k1.trans k2))
 clear hK K hn;refine aZ λK hK=>?_
 dsimp only[wS,wE,wA,wV,wG];refine pK (d:=d+5) G f1 λa n S2 a1 a3 n1 n3 an f2 k2=>?_
 dsimp only[wU];refine ae (show eD [2,3] [.int a,.int n] [ba (.ref r),ba (.int v),gV,gV,gV]=ba [ba (.ref r),ba (.int v),ba (.int a),ba (.int n),gV]from rfl) (hK _ _ ?_)
 clear hK K;refine aZ λK hK=>?_
 dsimp only[wS,wE,wA,wV,wG,Jx];refine pL (d:=d+5) G f2 n1 n3 λbs S3 hb hbl f3 k3=>?_
 have hsz:SizeOk a bs:=⟨by omega,hb,by rw[hbl]; exact an,a3⟩
 refine fW (d:=d+2) hfu G f3 a3 (by omega) λms ns S4 hml hnl hnm f4 k4=>hK _ _ ?_
 clear hK K;have k14:Kp r S S4:=k1.trans (k2.trans (k3.trans k4));clear k1 k2 k3 k4;refine st ?_;dsimp only[wS,wE,wA,wV,wG];refine am (by decide) rfl (am (by decide) rfl ?_)
 refine l5 rfl rfl rfl ?_;dsimp only[wE,wA,wV,wG];refine wq (d:=d+3) G F hsz hml hnl λus q S5 hnd h64 hmem e5 hq k5=>?_
 have f5:=f4.ka k5;have hrq:r < q:=JR f4.lt hq;refine⟨q,(cO us).map aM,λj ys ρ2 S6=>(∃a1,ρ2=[gV,a1,ba (.ref r)])/\(∃vs:Jf Wd,ys=vs.map aM/\vs.Sublist ((cO us).take j))/\S6[q]?=ba (.lst ((cO us).map aM))/\Fl S6 r/\Kp r S S6,rfl,⟨⟨gV,rfl⟩,⟨[],rfl,by simp⟩,e5,f5,k14.trans (k5.kp r)⟩,λj ys ρ2 S6 h=>h.2.2.1,?_,?_⟩
 ·rintro j w ys ρ2 S6 hw ⟨⟨a1,rfl⟩,⟨vs,rfl,hsub⟩,e6,f6,k6⟩;rw[Jr,Jl]at hw;obtain⟨u,hu,rfl⟩:=hw;refine ae (show gW (.nm 1) (aM u) [gV,a1,ba (.ref r)] S6=ba ([gV,ba (aM u),ba (.ref r)],S6)from rfl) ?_
  dsimp only[mG,wC,wE,wA,wV,wG];refine be (d:=d+6) G.pick f6 (by decide) (by decide) λv S7 _ _ f7 k7=>?_
  dsimp only[gX,aT,wB];have e7:=k7.get _ _ (J2 ‹_›) e6;refine⟨λ_=>⟨⟨_,rfl⟩,⟨vs++[u],by rw[Kd]; rfl,?_⟩,e7,f7,k6.trans k7⟩,λ_=>⟨⟨_,rfl⟩,⟨vs,rfl,?_⟩,e7,f7,k6.trans k7⟩⟩
  ·rw[Kf,hu];exact hsub.append (Si _)
  ·rw[Kf];exact hsub.trans (List.sublist_append_left _ _)
 ·rintro ys ρ2 S6 ⟨_,⟨vs,rfl,hsub⟩,e6,f6,k6⟩;rw[Ji,Kr]at hsub;have pu:(cO us).Perm us:=eC;have hvl:vs.length<=us.length:=by rw[<- pu.length_eq]; exact hsub.length_le
  have hvs:=wp hnd hsub;refine⟨rR (by rw[Ji]; omega),ff aj (k _ _ ⟨a,bs,ms,ns,vs,by rw[hvs]; rfl,hsz,hml,hnl,hnm,hsub.nodup (pu.nodup_iff.mpr hnd),λg hg=>hmem g (pu.mem_iff.mp (hsub.subset hg))⟩ (f6.ka .push) (k6.trans .push))⟩
end
theorem EO {bs:Jf Jy}{a:Jp}{v:Wd}{i j:Jp}(hb:GoodB bs)(hv:GoodW a bs.length v)(hi:i < v.length)(hj:j < v.length)(hij:i≠j):0<=eM bs v i j/\eM bs v i j < (bs.length:Jy):=by
 unfold eM
 by_cases h:j < i
 ·rw[JN h];have hp:=aD (d:=(0,[])) hi;have hw:j < (v.getD i (0,[])).2.length:=by rw[hv.len i _ hp]; exact h
  exact hv.way i _ hp _ (JI (aD (d:=0) hw))
 ·rw[JX h];have hp:=aD (d:=(0,[])) hj;have hw:i < (v.getD j (0,[])).2.length:=by rw[hv.len j _ hp]; omega
  obtain⟨g1,g2⟩:=hv.way j _ hp _ (JI (aD (d:=0) hw));exact(hb.at g1 g2).2
theorem wt {bs:Jf Jy}{a:Jp}{v:Wd}{ps:Jf Jp}(hb:GoodB bs)(hv:GoodW a bs.length v)(hps:∀p∈ps,p < v.length)(hnd:ps.Nodup):GoodW a bs.length (bq bs v ps):=by
 have at':∀(k:Jp) (q:Pt),(bq bs v ps)[k]?=ba q->∃hk:k < ps.length,q=((v.getD ps[k] (0,[])).1,(ps.take k).map λj=>eM bs v ps[k] j):=λk q e=>by
  have hk:k < ps.length:=by
   have:=(Ju.mp e).1;rw[fF]at this; exact this
  refine⟨hk,?_⟩;unfold bq at e;rw[Jr,LF hk,Kb,show ps.getD k 0=ps[k] by simp[hk]]at e
  exact(Kz e).symm
 refine⟨λk q e=>?_,λk q e=>?_,λk q e=>?_⟩
 ·obtain⟨hk,rfl⟩:=at' k q e;have:=hv.mark _ _ (aD (d:=(0,[])) (hps _ (Kq hk)));exact this
 ·obtain⟨hk,rfl⟩:=at' k q e;dsimp only;rw[Ji,Kk]; omega
 ·obtain⟨hk,rfl⟩:=at' k q e;intro w hw;obtain⟨j,hj,rfl⟩:=JT.mp hw;have hjm:=Lv hj;refine EO hb hv (hps _ (Kq hk)) (hps _ hjm) λe=>?_
  obtain⟨m,hm,e2⟩:=Ms.mp hj;rw[Kk]at hm;rw[NZ]at e2;have:=(M8 hnd).mp (e.trans e2.symm);omega
section
variable{defs:Jf (JG×Df)}{fuel d:Jp}{S:aa}{Q:QW}
theorem EQ (hd:Is defs ("_law_flow" : JG) 1 1 eJ){ns:Jf Jy}{u:Jp}(hu:S[u]?=ba (.fro (ns.map W.int)))(k:∀r S',Ka S S'->Fl S' r->Q (.ref r,S')) :
  wO (bF (ap defs fuel (d+1)) "_law_flow" 1 [.ref u] S) Q:=by
 refine az hd rfl rfl λQ' hR=>?_
 show wZ _ _ eJ [ba (.ref u)] S Q';dsimp only[eJ];refine st ?_;dsimp only[wS,wE,wA,wV,wG];have e:Bi.list.fn [.ref u] S=ba (.ref S.length,S++[.lst (ns.map W.int)]):=by
  have h1:A6 S u=gV:=by simp[A6,hu]
  simp only[Bi.fn,CB,nO,h1,iN,eT,BU hu]
 refine ae e (hR _ _ (k _ _ (Ka.push.trans .push) ⟨S.length,ns,0,0,1,0,?_,?_,?_,by decide,by decide,by decide,by decide⟩))
 ·exact aj
 ·exact aq aj
 ·simp
end
noncomputable def de:Ss:=
 (.cons (.set 4 (.tup (.cons (.ix (.ix (.v 0) (.v 1)) (.c (.int 0))) (.cons (.tup .nil) .nil))))
 (.cons (.set 5 (.tup (.cons (.ix (.ix (.v 0) (.v 2)) (.c (.int 0))) (.cons (.tup (.cons (.ix (.ix (.ix (.v 0) (.v 2)) (.c (.int 1))) (.v 1)) .nil)) .nil))))
 (.cons (.ret (.tup (.cons (.v 4) (.cons (.v 5) (.cons (.tup (.cons (.ix (.ix (.v 0) (.v 3)) (.c (.int 0))) (.cons (.tup (.cons (.ix (.ix (.ix (.v 0) (.v 3)) (.c (.int 1))) (.v 1)) (.cons (.ix (.ix (.ix (.v 0) (.v 3)) (.c (.int 1))) (.v 2)) .nil))) .nil))) .nil)))))
 .nil)))
noncomputable def fX (u:Wd)(i j k:Jp):Wd:=[((u.getD i (0,[])).1,[]),((u.getD j (0,[])).1,[(u.getD j (0,[])).2.getD i 0]),((u.getD k (0,[])).1,[(u.getD k (0,[])).2.getD i 0,(u.getD k (0,[])).2.getD j 0])]
theorem tz {bs:Jf Jy}{u:Wd}{i j k:Jp}(h1:i < j)(h2:j < k):bq bs u [i,j,k]=fX u i j k:=by
 show[((u.getD i (0,[])).1,[]),((u.getD j (0,[])).1,[eM bs u j i]),((u.getD k (0,[])).1,[eM bs u k i,eM bs u k j])]=_;unfold eM fX;rw[JN h1,JN h2,JN (Oj h1 h2)]
section
variable{defs:Jf (JG×Df)}{fuel d:Jp}{S:aa}{Q:QW}
theorem Cj (hg:Is defs ("three_at" : JG) 4 6 de){a n:Jp}{u:Wd}{i j k:Jp}(hu:GoodW a n u)(h1:i < j)(h2:j < k)(h3:k < u.length)(q:Q (aM (fX u i j k),S)) :
  wO (bF (ap defs fuel (d+1)) "three_at" 4 [aM u,.int i,.int j,.int k] S) Q:=by
 refine az hg rfl rfl λQ' hR=>?_
 replace q:=hR _ _ q;clear hR;show wZ _ _ de [ba (aM u),ba (.int i),ba (.int j),ba (.int k),gV,gV] S Q';have hi:i < u.length:=by omega
 have hj:j < u.length:=by exact Oj ‹_› ‹_›
 have lj:i < (u.getD j (0,[])).2.length:=by rw[hu.len j _ (aD (d:=(0,[])) hj)]; exact h1
 have lk:j < (u.getD k (0,[])).2.length:=by rw[hu.len k _ (aD (d:=(0,[])) h3)]; exact h2
 have lki:i < (u.getD k (0,[])).2.length:=by omega
 have w:∀ {p m:Jp},m < (u.getD p (0,[])).2.length->((u.getD p (0,[])).2.map W.int)[((m:Jp):Jy).toNat]?=ba (.int ((u.getD p (0,[])).2.getD m 0)):=λ{p m} h=>by
  rw[JH,Jr,aD (d:=0) h]; rfl
 dsimp only[de];refine st ?_;dsimp only[wS,wE,wA,wV,wG,Jx];refine am (JD i) (dY hi) (am (by decide) rfl ?_)
 refine st ?_;dsimp only[wS,wE,wA,wV,wG,Jx];refine am (JD j) (dY hj) (am (by decide) rfl (am (JD j) (dY hj) (am (by decide) rfl (am (JD i) (w lj) ?_))))
 refine st ?_;dsimp only[wS,wE,wA,wV,wG,Jx];exact am (JD k) (dY h3) (am (by decide) rfl (am (JD k) (dY h3) (am (by decide) rfl (am (JD i) (w lki) (am (JD k) (dY h3) (am (by decide) rfl (am (JD j) (w lk) q)))))))
end
noncomputable def bf (i j k i' j' k':Jp):Prop:=i' < i\/(i'=i/\(j' < j\/(j'=j/\k' < k)))
noncomputable def ER (P:Jp->Jp->Jp->JW)(n i j k:Jp):Prop:=i < j/\j < k/\k < n/\P i j k=true/\∀i' j' k',i' < j'->j' < k'->k' < n->bf i j k i' j' k'->P i' j' k'=false
noncomputable def Ans (P:Jp->Jp->Jp->JW)(n:Jp)(w:W):Prop:=(w=.non/\∀i j k,i < j->j < k->k < n->P i j k=false)\/∃i j k:Jp,w=.tup [.int i,.int j,.int k]/\ER P n i j k
theorem Ans.uniq {P:Jp->Jp->Jp->JW}{n:Jp}{w w':W}(h:Ans P n w)(h':Ans P n w'):w=w':=by
 rcases h with⟨rfl,h⟩|⟨i,j,k,rfl,a1,a2,a3,a4,a5⟩
 ·rcases h' with⟨rfl,_⟩|⟨i,j,k,rfl,a1,a2,a3,a4,_⟩
  ·rfl
  ·rw[h i j k a1 a2 a3]at a4; cases a4
 ·rcases h' with⟨rfl,h⟩|⟨i',j',k',rfl,b1,b2,b3,b4,b5⟩
  ·rw[h i j k a1 a2 a3]at a4; cases a4
  ·have n1:¬ bf i j k i' j' k':=λz=>by rw[a5 i' j' k' b1 b2 b3 z]at b4; cases b4
   have n2:¬ bf i' j' k' i j k:=λz=>by rw[b5 i j k a1 a2 a3 z]at a4; cases a4
   unfold bf at n1 n2;have e1:i=i':=by omega
   have e2:j=j':=by omega
   have e3:k=k':=by omega
   rw[e1,e2,e3]
theorem Ans.congr {P P':Jp->Jp->Jp->JW}{n:Jp}{w:W}(e:∀i j k,i < j->j < k->k < n->P i j k=P' i j k)(h:Ans P n w):Ans P' n w:=by
 rcases h with⟨rfl,h⟩|⟨i,j,k,rfl,a1,a2,a3,a4,a5⟩
 ·exact .inl ⟨rfl,λi j k b1 b2 b3=>by rw[<- e i j k b1 b2 b3]; exact h i j k b1 b2 b3⟩
 ·exact .inr ⟨i,j,k,rfl,a1,a2,a3,by rw[<- e i j k a1 a2 a3]; exact a4,λi' j' k' b1 b2 b3 b4=>by rw[<- e i' j' k' b1 b2 b3]; exact a5 i' j' k' b1 b2 b3 b4⟩
noncomputable def cu:Ss:=
 (.cons (.loop (.nm 2) (.rng (.cons (.bi .len (.cons (.v 1) .nil)) .nil)) (.cons (.loop (.nm 3) (.rng2 (.cons (.op .add (.v 2) (.c (.int 1))) (.cons (.bi .len (.cons (.v 1) .nil)) .nil))) (.cons (.loop (.nm 4) (.rng2 (.cons (.op .add (.v 3) (.c (.int 1))) (.cons (.bi .len (.cons (.v 1) .nil)) .nil))) (.cons (.ite (.cmp .isin (.own "three_at" 4 (.cons (.v 1) (.cons (.v 2) (.cons (.v 3) (.cons (.v 4) .nil))))) (.v 0)) (.cons (.ret (.tup (.cons (.v 2) (.cons (.v 3) (.cons (.v 4) .nil)))))
 .nil) .nil)
 .nil))
 .nil))
 .nil))
 (.cons (.ret (.c .non))
 .nil))
noncomputable def jL (kvs:Jf (T×W))(u:Wd)(i j k:Jp):JW:=(cz kvs (cL (fX u i j k))).isSome
section
variable{defs:Jf (JG×Df)}{fuel d:Jp}{S:aa}{Q:QW}
theorem mP (h3:Is defs ("three_at" : JG) 4 6 de)(hg:Is defs ("first_three" : JG) 2 5 cu){a n q:Jp}{u:Wd}{kvs:Jf (T×W)}(hu:GoodW a n u)(hl:u.length<=1000)(e:S[q]?=ba (.dic kvs))(kk:∀w,Ans (jL kvs u) u.length w->Q (w,S)) :
  wO (bF (ap defs fuel (d+2)) "first_three" 2 [.ref q,aM u] S) Q:=by
 refine az hg rfl rfl λQ' hR=>?_
 replace kk:∀w,Ans (jL kvs u) u.length w->Q' (.rt w,S):=λw h=>hR _ _ (kk w h)
 clear hR;show wZ _ _ cu [ba (.ref q),ba (aM u),gV,gV,gV] S Q';have ul:(u.map gc).length=u.length:=Ji ..;dsimp only[cu];refine aZ λK hK=>?_
 refine cJ (u.length:Jy) (λi ρ S'=>(∃a2 a3 a4,ρ=[ba (.ref q),ba (aM u),a2,a3,a4])/\S'=S/\∀i' j' k',i' < i->i' < j'->j' < k'->k' < u.length->jL kvs u i' j' k'=false) rfl rfl (by omega) ?_ ?_ ?_
 ·dsimp only[wE,wA,wV,wG];refine bK ?_;rw[ul];exact⟨rfl,⟨_,_,_,rfl⟩,rfl,λi' _ _ z=>by omega⟩
 ·rintro i ρ S1 hi ⟨⟨a2,a3,a4,rfl⟩,rfl,no⟩ Q2 hn hr;clear hK;dsimp only[Jx];refine aZ λK hK=>?_
  refine fG ((i:Jy)+1) (u.length:Jy) (λm ρ S'=>(∃a3 a4,ρ=[ba (.ref q),ba (aM u),ba (.int i),a3,a4])/\S'=S1/\∀j' k',j' < i+1+m->i < j'->j' < k'->k' < u.length->jL kvs u i j' k'=false) rfl rfl rfl (by omega) ?_ ?_ ?_
  ·dsimp only[wE,wA,wV,wG];refine ae cN ⟨rfl,bK ?_⟩;rw[ul];exact⟨rfl,⟨_,_,rfl⟩,rfl,λj' k' z1 z2=>by omega⟩
  ·rintro m ρ S2 hm ⟨⟨a3,a4,rfl⟩,rfl,no2⟩ Q3 hn3 hr3;clear hK;have ej:(i:Jy)+1+m=((i+1+m:Jp):Jy):=by omega
   rw[ej];generalize hj:i+1+m=j at no2 hn3 ej;have hij:i < j:=by omega
   have hju:j < u.length:=by omega
   dsimp only[Jx];refine aZ λK hK=>?_
   refine fG ((j:Jy)+1) (u.length:Jy) (λl ρ S'=>(∃a4,ρ=[ba (.ref q),ba (aM u),ba (.int i),ba (.int j),a4])/\S'=S2/\∀k',k' < j+1+l->j < k'->k' < u.length->jL kvs u i j k'=false) rfl rfl rfl (by omega) ?_ ?_ ?_
   ·dsimp only[wE,wA,wV,wG];refine ae cN ⟨rfl,bK ?_⟩;rw[ul];exact⟨rfl,⟨_,rfl⟩,rfl,λk' z1 z2=>by omega⟩
   ·rintro l ρ S3 hl3 ⟨⟨a4,rfl⟩,rfl,no3⟩ Q4 hn4 hr4;clear hK;have ek:(j:Jy)+1+l=((j+1+l:Jp):Jy):=by omega
    rw[ek];generalize hk:j+1+l=k at no3 hn4 ek;have hjk:j < k:=by omega
    have hku:k < u.length:=by omega
    dsimp only[Jx];refine aZ λK hK=>?_
    dsimp only[wS,wT,wE,wA,wV,wG];refine Cj (d:=d) h3 hu hij hjk hku ?_;refine ae (show cU .isin (aM (fX u i j k)) (.ref q) S3=ba (.bl (jL kvs u i j k),S3) by simp only[cU,cH e,pH]; rfl) ?_
    dsimp only[wB];refine aw (Q0:=Q4) (λh Q5 _ hr5=>?_) (λh Q5 hn5 _=>cr (hn5 _ _ (hK _ _ (cr (hn4 _ _ ⟨⟨_,rfl⟩,rfl,λk' z1 z2 z3=>?_⟩)))))
    ·refine st ?_;dsimp only[wS,wE,wA,wV,wG];refine hr5 _ _ (hr4 _ _ (hr3 _ _ (hr _ _ (kk _ (.inr ⟨i,j,k,rfl,hij,hjk,hku,h,λi' j' k' b1 b2 b3 b4=>?_⟩)))))
     rcases b4 with b|⟨rfl,b|⟨rfl,b⟩⟩
     ·exact no i' j' k' b b1 b2 b3
     ·exact no2 j' k' b b1 b2 b3
     ·exact no3 k' b b2 b3
    ·by_cases ek2:k'=k
     ·rw[ek2]; exact h
     ·exact no3 k' (by omega) z2 z3
   ·rintro ρ S3 ⟨⟨a4,rfl⟩,rfl,no3⟩;refine hK _ _ (cr (hn3 _ _ ⟨⟨_,_,rfl⟩,rfl,λj' k' z1 z2 z3 z4=>?_⟩))
    by_cases ej2:j'=j
    ·rw[ej2]; exact no3 k' (by omega) (by omega) z4
    ·exact no2 j' k' (by omega) z2 z3 z4
  ·rintro ρ S2 ⟨⟨a3,a4,rfl⟩,rfl,no2⟩;refine hK _ _ (cr (hn _ _ ⟨⟨_,_,_,rfl⟩,rfl,λi' j' k' z1 z2 z3 z4=>?_⟩))
   by_cases ei:i'=i
   ·rw[ei]; exact no2 j' k' (by omega) (by omega) z3 z4
   ·exact no i' j' k' (by omega) z2 z3 z4
 ·rintro ρ S1 ⟨⟨a2,a3,a4,rfl⟩,rfl,no⟩;refine hK _ _ (st ?_);dsimp only[wS,wE];exact kk _ (.inl ⟨rfl,λi j k b1 b2 b3=>no i j k (by omega) b1 b2 b3⟩)
end
noncomputable def bS:Ss:=
 (.cons (.loop (.nm 3) (.rng (.cons (.bi .len (.cons (.v 2) .nil)) .nil)) (.cons (.loop (.nm 4) (.rng2 (.cons (.op .add (.v 3) (.c (.int 1))) (.cons (.bi .len (.cons (.v 2) .nil)) .nil))) (.cons (.loop (.nm 5) (.rng2 (.cons (.op .add (.v 4) (.c (.int 1))) (.cons (.bi .len (.cons (.v 2) .nil)) .nil))) (.cons (.ite (.cmp .isin (.own "_law_part" 3 (.cons (.v 1) (.cons (.v 2) (.cons (.tup (.cons (.v 3) (.cons (.v 4) (.cons (.v 5) .nil)))) .nil)))) (.v 0)) (.cons (.ret (.tup (.cons (.v 3) (.cons (.v 4) (.cons (.v 5) .nil)))))
 .nil) .nil)
 .nil))
 .nil))
 .nil))
 (.cons (.ret (.c .non))
 .nil))
section
variable{defs:Jf (JG×Df)}{fuel d:Jp}{S:aa}{Q:QW}
theorem kn (G:Gen defs)(hg:Is defs ("_law_first_barred" : JG) 3 6 bS){m0 b0:W}{ns:Jf JG}{bs:Jf Jy}{a q:Jp}{u:Wd}{kvs:Jf (T×W)}(hb:GoodB bs)(hnl:ns.length=bs.length)(hu:GoodW a bs.length u)(hl:u.length<=1000)(e:S[q]?=ba (.dic kvs))(kk:∀w S',Ans (jL kvs u) u.length w->Ka S S'->Q (w,S')) :
  wO (bF (ap defs fuel (d+3)) "_law_first_barred" 3 [.ref q,.tup [m0,.tup (JL bG ns bs),b0],aM u] S) Q:=by
 refine az hg rfl rfl λQ' hR=>?_
 replace kk:∀w S',Ans (jL kvs u) u.length w->Ka S S'->Q' (.rt w,S'):=λw S' h z=>hR _ _ (kk w S' h z)
 clear hR;show wZ _ _ bS [ba (.ref q),ba (.tup [m0,.tup (JL bG ns bs),b0]),ba (aM u),gV,gV,gV] S Q';generalize hR0:W.tup [m0,.tup (JL bG ns bs),b0]=R;have ul:(u.map gc).length=u.length:=Ji ..;dsimp only[bS];refine aZ λK hK=>?_
 refine cJ (u.length:Jy) (λi ρ S'=>(∃a2 a3 a4,ρ=[ba (.ref q),ba R,ba (aM u),a2,a3,a4])/\Ka S S'/\∀i' j' k',i' < i->i' < j'->j' < k'->k' < u.length->jL kvs u i' j' k'=false) rfl rfl (by omega) ?_ ?_ ?_
 ·dsimp only[wE,wA,wV,wG];refine bK ?_;rw[ul];exact⟨rfl,⟨_,_,_,rfl⟩,.refl,λi' _ _ z=>by omega⟩
 ·rintro i ρ S1 hi ⟨⟨a2,a3,a4,rfl⟩,k1,no⟩ Q2 hn hr;clear hK;dsimp only[Jx];refine aZ λK hK=>?_
  refine fG ((i:Jy)+1) (u.length:Jy) (λm ρ S'=>(∃a3 a4,ρ=[ba (.ref q),ba R,ba (aM u),ba (.int i),a3,a4])/\Ka S S'/\∀j' k',j' < i+1+m->i < j'->j' < k'->k' < u.length->jL kvs u i j' k'=false) rfl rfl rfl (by omega) ?_ ?_ ?_
  ·dsimp only[wE,wA,wV,wG];refine ae cN ⟨rfl,bK ?_⟩;rw[ul];exact⟨rfl,⟨_,_,rfl⟩,k1,λj' k' z1 z2=>by omega⟩
  ·rintro m ρ S2 hm ⟨⟨a3,a4,rfl⟩,k2,no2⟩ Q3 hn3 hr3;clear hK;have ej:(i:Jy)+1+m=((i+1+m:Jp):Jy):=by omega
   rw[ej];generalize hj:i+1+m=j at no2 hn3 ej;have hij:i < j:=by omega
   have hju:j < u.length:=by omega
   dsimp only[Jx];refine aZ λK hK=>?_
   refine fG ((j:Jy)+1) (u.length:Jy) (λl ρ S'=>(∃a4,ρ=[ba (.ref q),ba R,ba (aM u),ba (.int i),ba (.int j),a4])/\Ka S S'/\∀k',k' < j+1+l->j < k'->k' < u.length->jL kvs u i j k'=false) rfl rfl rfl (by omega) ?_ ?_ ?_
   ·dsimp only[wE,wA,wV,wG];refine ae cN ⟨rfl,bK ?_⟩;rw[ul];exact⟨rfl,⟨_,rfl⟩,k2,λk' z1 z2=>by omega⟩
   ·rintro l ρ S3 hl3 ⟨⟨a4,rfl⟩,k3,no3⟩ Q4 hn4 hr4;clear hK;have ek:(j:Jy)+1+l=((j+1+l:Jp):Jy):=by omega
    rw[ek];generalize hk:j+1+l=k at no3 hn4 ek;have hjk:j < k:=by omega
    have hku:k < u.length:=by omega
    dsimp only[Jx];refine aZ λK hK=>?_
    dsimp only[wS,wT,wE,wA,wV,wG];subst hR0;refine tj (d:=d) (ps:=[i,j,k]) G hb hnl hu (λp hp=>?_) ?_ (by simp) λS4 k4=>?_
    ·simp only[JP,Kl,Lu]at hp;omega
    ·simp only[LD,JP,Kl,Lu,not_false_eq_true,NK,and_true];omega
    have k14:=k3.trans k4;rw[tz hij hjk];refine ae (show cU .isin (aM (fX u i j k)) (.ref q) S4=ba (.bl (jL kvs u i j k),S4) by simp only[cU,cH (k14.get _ _ e),pH]; rfl) ?_
    dsimp only[wB];refine aw (Q0:=Q4) (λh Q5 _ hr5=>?_) (λh Q5 hn5 _=>cr (hn5 _ _ (hK _ _ (cr (hn4 _ _ ⟨⟨_,rfl⟩,k14,λk' z1 z2 z3=>?_⟩)))))
    ·refine st ?_;dsimp only[wS,wE,wA,wV,wG];refine hr5 _ _ (hr4 _ _ (hr3 _ _ (hr _ _ (kk _ _ (.inr ⟨i,j,k,rfl,hij,hjk,hku,h,λi' j' k' b1 b2 b3 b4=>?_⟩) k14))))
     rcases b4 with b|⟨rfl,b|⟨rfl,b⟩⟩
     ·exact no i' j' k' b b1 b2 b3
     ·exact no2 j' k' b b1 b2 b3
     ·exact no3 k' b b2 b3
    ·by_cases ek2:k'=k
     ·rw[ek2]; exact h
     ·exact no3 k' (by omega) z2 z3
   ·rintro ρ S3 ⟨⟨a4,rfl⟩,k3,no3⟩;refine hK _ _ (cr (hn3 _ _ ⟨⟨_,_,rfl⟩,k3,λj' k' z1 z2 z3 z4=>?_⟩))
    by_cases ej2:j'=j
    ·rw[ej2]; exact no3 k' (by omega) (by omega) z4
    ·exact no2 j' k' (by omega) z2 z3 z4
  ·rintro ρ S2 ⟨⟨a3,a4,rfl⟩,k2,no2⟩;refine hK _ _ (cr (hn _ _ ⟨⟨_,_,_,rfl⟩,k2,λi' j' k' z1 z2 z3 z4=>?_⟩))
   by_cases ei:i'=i
   ·rw[ei]; exact no2 j' k' (by omega) (by omega) z3 z4
   ·exact no i' j' k' (by omega) z2 z3 z4
 ·rintro ρ S1 ⟨⟨a2,a3,a4,rfl⟩,k1,no⟩;refine hK _ _ (st ?_);dsimp only[wS,wE];exact kk _ _ (.inl ⟨rfl,λi j k b1 b2 b3=>no i j k (by omega) b1 b2 b3⟩) k1
end
structure HasD (kvs:Jf (T×W))(L:Jf Wd):Prop where
 iff:∀t,t∈kvs.map (·.1)↔t∈L.map cL
 len:kvs.length<=L.length
theorem zU {kvs:Jf (T×W)}{t:T}:(cz kvs t).isSome=true↔t∈kvs.map (·.1):=by
 constructor
 ·intro h;obtain⟨v,hv⟩:=Km.mp h;exact JT.mpr ⟨_,lZ hv,rfl⟩
 ·intro h;obtain⟨p,hp,rfl⟩:=JT.mp h;obtain⟨v,hv⟩:=uY hp;rw[hv]; rfl
theorem HasD.get {kvs:Jf (T×W)}{L:Jf Wd}(h:HasD kvs L)(t:T):(cz kvs t).isSome=decide (t∈L.map cL):=by
 rw[QE,zU,h.iff,JK]
theorem HasD.nil:HasD [] []:=⟨λt=>by simp,Js _⟩
theorem HasD.put {kvs:Jf (T×W)}{L:Jf Wd}{f:Wd}{v:W}(h:HasD kvs L):HasD (eQ kvs (cL f) v) (L++[f]):=by
 refine⟨λt=>?_,?_⟩
 ·rw[jH,Kd,J9,<- h.iff t]
  by_cases hk:cL f∈kvs.map (·.1)
  ·rw[JN hk];constructor
   ·exact .inl
   ·rintro(z|z)
    ·exact z
    ·rw[JC.mp z]; exact hk
  ·rw[JX hk,J9]; rfl
 ·have:=dg kvs (cL f) v;have:=h.len;rw[Jt,Ln]; omega
noncomputable def fH:Ss:=
 (.cons (.set 1 .dnew)
 (.cons (.loop (.nm 2) (.seq (.ix (.v 0) (.c (.int 2)))) (.cons (.loop (.nm 3) (.seq (.own "_law_turns" 0 .nil)) (.cons (.put (.v 1) (.own "_law_part" 3 (.cons (.v 0) (.cons (.v 2) (.cons (.v 3) .nil)))) (.c (.bl true)))
 .nil))
 .nil))
 (.cons (.ret (.v 1))
 .nil)))
noncomputable def d0 (bs:Jf Jy)(gs:Jf Wd):Jf Wd:=gs.flatMap λg=>ay.map (bq bs g)
theorem l7 (bs:Jf Jy):∀gs:Jf Wd,(d0 bs gs).length=6*gs.length
 | []=>rfl
 | g::gs=>by
  have:=l7 bs gs;unfold d0 at this ⊢;rw[P8,Jt,this,Ky,Ji,show ay.length=6 from rfl]; omega
section
variable{defs:Jf (JG×Df)}{fuel d:Jp}{S:aa}{Q:QW}
theorem GY (G:Gen defs)(hg:Is defs ("_law_bad" : JG) 1 4 fH){m0:W}{ns:Jf JG}{bs:Jf Jy}{a:Jp}{gs:Jf Wd}(hb:GoodB bs)(hnl:ns.length=bs.length)(hgs:∀g∈gs,GoodW a bs.length g/\g.length=3)(h64:gs.length<=100)
  (k:∀(q:Jp) (kvs:Jf (T×W)) (S':aa),S'[q]?=ba (.dic kvs)->HasD kvs (d0 bs gs)->S.length<=q->Ka S S'->Q (.ref q,S')) :
  wO (bF (ap defs fuel (d+3)) "_law_bad" 1 [.tup [m0,.tup (JL bG ns bs),.tup (gs.map aM)]] S) Q:=by
 refine az hg rfl rfl λQ' hR=>?_
 replace k:∀(q:Jp) (kvs:Jf (T×W)) (S':aa),S'[q]?=ba (.dic kvs)->HasD kvs (d0 bs gs)->S.length<=q->Ka S S'->Q' (.rt (.ref q),S'):=λa b c e f g h=>hR _ _ (k a b c e f g h)
 clear hR;show wZ _ _ fH [ba (.tup [m0,.tup (JL bG ns bs),.tup (gs.map aM)]),gV,gV,gV] S Q';generalize hR0:W.tup [m0,.tup (JL bG ns bs),.tup (gs.map aM)]=R;dsimp only[fH];refine st ?_;dsimp only[wS,wE,Jx];refine aZ λK hK=>?_
 refine for_tup (gs.map aM) (λi ρ S'=>(∃a2 a3,ρ=[ba R,ba (.ref S.length),a2,a3])/\(∃kvs,S'[S.length]?=ba (.dic kvs)/\HasD kvs (d0 bs (gs.take i)))/\Ka S S') rfl rfl ?_ ?_ ?_
 ·dsimp only[wE,wV,wG];subst hR0;exact am (by decide) rfl ⟨rfl,⟨_,_,rfl⟩,⟨[],aj,.nil⟩,.push⟩
 ·rintro i w ρ S1 hw ⟨⟨a2,a3,rfl⟩,⟨kvs,e1,h1⟩,k1⟩;clear hK k;rw[Jr,Jl]at hw;obtain⟨g,hg1,rfl⟩:=hw;obtain⟨gg,g3⟩:=hgs g (JI hg1);have hi:i < gs.length:=(Ju.mp hg1).1;refine ae (show gW (.nm 2) (aM g) [ba R,ba (.ref S.length),a2,a3] S1=ba ([ba R,ba (.ref S.length),ba (aM g),a3],S1)from rfl) ?_
  intro Q2 hn _;refine aZ λK hK=>?_
  refine jb rfl rfl ?_;dsimp only[wE,wA];refine lb (d:=d+1) G ?_;refine⟨S1.length,ay.map (λt=>W.tup (aE t)),(λj ρ S'=>(∃a3,ρ=[ba R,ba (.ref S.length),ba (aM g),a3])/\(∃kvs,S'[S.length]?=ba (.dic kvs)/\HasD kvs (d0 bs (gs.take i)++(ay.take j).map (bq bs g)))/\S'[S1.length]?=ba (.lst (ay.map λt=>W.tup (aE t)))/\Ka S S'),rfl,⟨⟨_,rfl⟩,⟨kvs,aq e1,by rw[Q8,PU,LC]; exact h1⟩,aj,k1.trans .push⟩,λj ρ S' h=>h.2.2.1,?_,?_⟩
  ·rintro j w ρ S2 hw ⟨⟨a3,rfl⟩,⟨kvs2,e2,h2⟩,el,k2⟩;clear hK hn;rw[Jr,Jl]at hw;obtain⟨t,ht,rfl⟩:=hw;have htm:=JI ht;have tk:t.length<=3/\t.Nodup/\∀p∈t,p < 3:=by
    have:∀t∈ay,t.length<=3/\t.Nodup/\∀p∈t,p < 3:=by decide
    exact this t htm
   refine ae (show gW (.nm 3) (.tup (aE t)) [ba R,ba (.ref S.length),ba (aM g),a3] S2=ba ([ba R,ba (.ref S.length),ba (aM g),ba (.tup (aE t))],S2)from rfl) ?_
   intro Q3 hn3 _;refine st ?_;dsimp only[wS,wE,wA,wV,wG];subst hR0;refine tj (d:=d) G hb hnl gg (λp hp=>by have:=tk.2.2 p hp; omega) tk.2.1 (by omega) λS3 k3=>?_
   have e3:=k3.get _ _ e2;have hlt:kvs2.length < sizeLine:=by
    have b1:=h2.len;have b2:=l7 bs (gs.take i);rw[Jt,b2,Ji,Kk,Kk,show ay.length=6 from rfl]at b1
    rw[Ki]; omega
   refine ae (zv e3 hlt) (cr (hn3 _ _ ⟨⟨_,rfl⟩,⟨_,cf e3,?_⟩,?_,(k2.trans k3).late (Js _)⟩))
   ·rw[Kf,ht,Kd,<- Lj];exact h2.put
   ·rw[cg (by have:=k1.len; have:=dv e1; exact JM ‹_›)]; exact k3.get _ _ el
  ·rintro ρ S2 ⟨⟨a3,rfl⟩,⟨kvs2,e2,h2⟩,el,k2⟩;rw[Ji,Kr]at h2;refine hK _ _ (cr (hn _ _ ⟨⟨_,_,rfl⟩,⟨kvs2,e2,?_⟩,k2⟩));unfold d0 at h2 ⊢;rw[Kf,hg1,MH]
   simpa using h2
 ·rintro ρ S1 ⟨⟨a2,a3,rfl⟩,⟨kvs,e1,h1⟩,k1⟩;rw[Ji,Kr]at h1;exact hK _ _ (st (k _ kvs S1 e1 h1 (Js _) k1))
end
noncomputable def bX:Ss:=
 (.cons (.set 1 (.lst (.cons (.tup .nil) .nil)))
 (.cons (.whl (.cmp .lt (.bi .len (.cons (.ix (.v 1) (.c (.int 0))) .nil)) (.c (.int 3))) (.cons (.set 1 (.own "longer_orders" 2 (.cons (.v 1) (.cons (.c (.int 3)) .nil))))
 .nil))
 (.cons (.set 2 .dnew)
 (.cons (.loop (.nm 3) (.seq (.ix (.v 0) (.c (.int 2)))) (.cons (.loop (.nm 4) (.seq (.v 1)) (.cons (.put (.v 2) (.own "part" 3 (.cons (.v 0) (.cons (.v 3) (.cons (.v 4) .nil)))) (.c (.bl true)))
 .nil))
 .nil))
 (.cons (.ret (.v 2))
 .nil)))))
noncomputable def wu:Jp->Jf (Jf Jp)
 | 0=>[[]]
 | i+1=>gz 3 (wu i)
theorem ww:wu 3=ay:=by decide
theorem ES:∀i,i<=3->(∃o,(wu i)[0]?=ba o/\o.length=i)/\(wu i).length<=6/\∀o∈wu i,o.length<=3:=λi hi=>by
 rcases(show i=0\/i=1\/i=2\/i=3 by omega)with rfl|rfl|rfl|rfl
 ·exact⟨⟨[],rfl,rfl⟩,by decide,by decide⟩
 ·exact⟨⟨[0],rfl,rfl⟩,by decide,by decide⟩
 ·exact⟨⟨[0,1],rfl,rfl⟩,by decide,by decide⟩
 ·exact⟨⟨[0,1,2],rfl,rfl⟩,by decide,by decide⟩
section
variable{defs:Jf (JG×Df)}{fuel d:Jp}{S:aa}{Q:QW}
theorem zW (hfu:20 < fuel)(P:Parts defs)(hp:Is defs ("part" : JG) 3 3 iD)(hl:Is defs ("longer_orders" : JG) 2 4 bH)(hg:Is defs ("barred_threes" : JG) 1 5 bX){m0:W}{ns:Jf JG}{bs:Jf Jy}{a:Jp}{gs:Jf Wd}(hb:GoodB bs)(hnl:ns.length=bs.length)(hgs:∀g∈gs,GoodW a bs.length g/\g.length=3)(h64:gs.length<=100)
  (k:∀(q:Jp) (kvs:Jf (T×W)) (S':aa),S'[q]?=ba (.dic kvs)->HasD kvs (d0 bs gs)->S.length<=q->Ka S S'->Q (.ref q,S')) :
  wO (bF (ap defs fuel (d+4)) "barred_threes" 1 [.tup [m0,.tup (JL bG ns bs),.tup (gs.map aM)]] S) Q:=by
 refine az hg rfl rfl λQ' hR=>?_
 replace k:∀(q:Jp) (kvs:Jf (T×W)) (S':aa),S'[q]?=ba (.dic kvs)->HasD kvs (d0 bs gs)->S.length<=q->Ka S S'->Q' (.rt (.ref q),S'):=λa b c e f g h=>hR _ _ (k a b c e f g h)
 clear hR;show wZ _ _ bX [ba (.tup [m0,.tup (JL bG ns bs),.tup (gs.map aM)]),gV,gV,gV,gV] S Q';generalize hR0:W.tup [m0,.tup (JL bG ns bs),.tup (gs.map aM)]=R;dsimp only[bX];refine st ?_;dsimp only[wS,wE,wA,Jx];refine aZ λK hK=>?_
 refine CS (λm ρ S'=>∃(i q:Jp),i+m=3/\ρ=[ba R,ba (.ref q),gV,gV,gV]/\S'[q]?=ba (.lst (cQ (wu i)))/\S.length<=q/\Ka S S') 3 rfl rfl (by omega) ⟨0,S.length,rfl,rfl,aj,Js _,.push⟩ ?_
 rintro m ρ S1 ⟨i,q,him,rfl,e1,hq,k1⟩;obtain⟨⟨o,ho,hol⟩,l6,l3⟩:=ES i (by omega)
 dsimp only[wT,wE,wA,wV,wG];refine gw (w:=.tup (aE o)) e1 (by decide) (by unfold cQ; rw[Jr,show((0:Jy).toNat)=0 from rfl,ho]; rfl) (bK ?_)
 rw[show(aE o).length=o.length from Ji ..,hol]
 dsimp only[BS,aT,wB];refine⟨λh=>?_,λh=>?_⟩
 ·have h:(i:Jy) < 3:=Kn h;refine⟨m - 1,by omega,λQ2 hn _=>?_⟩
  clear hK k;refine st ?_;dsimp only[wS,wE,wA,wV,wG,Jx];refine zR (n:=3) (d:=d+2) hl e1 (by decide) (λo ho=>by have:=l3 o ho; exact JF ‹_› (JJ rfl)) (by omega) λq2 S2 e2 hq2 k2=>cr (hn _ _ ⟨i+1,q2,by omega,rfl,e2,?_,k1.trans k2⟩)
  exact JF k1.len hq2
 ·have h:¬ (i:Jy) < 3:=LO h;obtain rfl:i=3:=by omega
  rw[ww]at e1;refine hK _ _ ?_;clear hK K l6 l3 ho hol h him;refine st ?_;dsimp only[wS,wE,Jx];refine aZ λK hK=>?_
  have hq1:=dv e1;refine for_tup (gs.map aM) (λi ρ S'=>(∃a3 a4,ρ=[ba R,ba (.ref q),ba (.ref S1.length),a3,a4])/\(∃kvs,S'[S1.length]?=ba (.dic kvs)/\HasD kvs (d0 bs (gs.take i)))/\S'[q]?=ba (.lst (cQ ay))/\Ka S S') rfl rfl ?_ ?_ ?_
  ·dsimp only[wE,wV,wG];subst hR0;exact am (by decide) rfl ⟨rfl,⟨_,_,rfl⟩,⟨[],aj,.nil⟩,aq e1,k1.trans .push⟩
  ·rintro i w ρ S2 hw ⟨⟨a3,a4,rfl⟩,⟨kvs,e2,h2⟩,el2,k2⟩;clear hK k;rw[Jr,Jl]at hw;obtain⟨g,hg1,rfl⟩:=hw;obtain⟨gg,g3⟩:=hgs g (JI hg1);have hi:i < gs.length:=(Ju.mp hg1).1;refine ae (show gW (.nm 3) (aM g) [ba R,ba (.ref q),ba (.ref S1.length),a3,a4] S2=ba ([ba R,ba (.ref q),ba (.ref S1.length),ba (aM g),a4],S2)from rfl) ?_
   intro Q2 hn _;refine aZ λK hK=>?_
   refine uN q (cQ ay) (λj ρ S'=>(∃a4,ρ=[ba R,ba (.ref q),ba (.ref S1.length),ba (aM g),a4])/\(∃kvs,S'[S1.length]?=ba (.dic kvs)/\HasD kvs (d0 bs (gs.take i)++(ay.take j).map (bq bs g)))/\S'[q]?=ba (.lst (cQ ay))/\Ka S S') rfl rfl ⟨rfl,⟨_,rfl⟩,⟨kvs,e2,by rw[Q8,PU,LC]; exact h2⟩,el2,k2⟩ (λj ρ S' h=>h.2.2.1) ?_ ?_
   ·rintro j w ρ S3 hw ⟨⟨a4,rfl⟩,⟨kvs3,e3,h3⟩,el3,k3⟩;clear hK hn;unfold cQ at hw;rw[Jr,Jl]at hw;obtain⟨t,ht,rfl⟩:=hw;have tk:t.length<=3/\t.Nodup/\∀p∈t,p < 3:=by
     have:∀t∈ay,t.length<=3/\t.Nodup/\∀p∈t,p < 3:=by decide
     exact this t (JI ht)
    refine ae (show gW (.nm 4) (.tup (aE t)) [ba R,ba (.ref q),ba (.ref S1.length),ba (aM g),a4] S3=ba ([ba R,ba (.ref q),ba (.ref S1.length),ba (aM g),ba (.tup (aE t))],S3)from rfl) ?_
    intro Q3 hn3 _;refine st ?_;dsimp only[wS,wE,wA,wV,wG];subst hR0;refine GV (d:=d) P hp hb hnl gg (λp hp=>by have:=tk.2.2 p hp; omega) tk.2.1 (by omega) λS4 k4=>?_
    have e4:=k4.get _ _ e3;have hlt:kvs3.length < sizeLine:=by
     have b1:=h3.len;have b2:=l7 bs (gs.take i);rw[Jt,b2,Ji,Kk,Kk,show ay.length=6 from rfl]at b1
     rw[Ki]; omega
    refine ae (zv e4 hlt) (cr (hn3 _ _ ⟨⟨_,rfl⟩,⟨_,cf e4,?_⟩,?_,(k3.trans k4).late k1.len⟩))
    ·rw[Kf,ht,Kd,<- Lj];exact h3.put
    ·rw[cg (J2 ‹_›)]; exact k4.get _ _ el3
   ·rintro ρ S3 ⟨⟨a4,rfl⟩,⟨kvs3,e3,h3⟩,el3,k3⟩;rw[show(cQ ay).length=ay.length from Ji ..,Kr]at h3
    refine hK _ _ (cr (hn _ _ ⟨⟨_,_,rfl⟩,⟨kvs3,e3,?_⟩,el3,k3⟩));unfold d0 at h3 ⊢;rw[Kf,hg1,MH]
    simpa using h3
  ·rintro ρ S2 ⟨⟨a3,a4,rfl⟩,⟨kvs,e2,h2⟩,el2,k2⟩;rw[Ji,Kr]at h2;exact hK _ _ (st (k _ kvs S2 e2 h2 k1.len k2))
end
noncomputable def bT:Ss:=
 (.cons (.loop (.nm 6) (.rng2 (.cons (.bi .len (.cons (.v 5) .nil)) (.cons (.bi .len (.cons (.v 3) .nil)) .nil))) (.cons (.set 7 (.lst .nil))
 (.cons (.loop (.nm 8) (.rng (.cons (.bi .len (.cons (.ix (.v 1) (.c (.int 1))) .nil)) .nil)) (.cons (.set 9 (.lst .nil))
 (.cons (.loop (.nm 10) (.rng (.cons (.v 6) .nil)) (.cons (.ex (.me .append (.v 9) (.cons (.cmp .isin (.tup (.cons (.tup (.cons (.ix (.ix (.v 3) (.v 10)) (.c (.int 0))) (.cons (.tup .nil) .nil))) (.cons (.tup (.cons (.ix (.ix (.v 3) (.v 6)) (.c (.int 0))) (.cons (.tup (.cons (.ix (.ix (.ix (.v 3) (.v 6)) (.c (.int 1))) (.v 10)) .nil)) .nil))) (.cons (.tup (.cons (.v 4) (.cons (.tup (.cons (.ix (.v 5) (.v 10)) (.cons (.v 8) .nil))) .nil))) .nil)))) (.v 2)) .nil)))
 .nil))
 (.cons (.ite (.cmp .notin (.c (.bl true)) (.v 9)) (.cons (.ex (.me .append (.v 7) (.cons (.v 8) .nil)))
 .nil) .nil)
 .nil))))
 (.cons (.ite (.cmp .eq (.v 7) (.lst .nil)) (.cons (.ret (.c .non))
 .nil) .nil)
 (.cons (.set 5 (.op .add (.v 5) (.tup (.cons (.ix (.v 7) (.own "_law_pick" 2 (.cons (.v 0) (.cons (.bi .len (.cons (.v 7) .nil)) .nil)))) .nil))))
 .nil)))))
 (.cons (.ret (.v 5))
 .nil))
theorem zX {S:aa}{l:Jp}{bl:Jf JW}(h:S[l]?=ba (.lst (bl.map W.bl))):∃b,cU .notin (.bl true) (.ref l) S=ba (.bl b,S):=by
 have hf:(cp (.bl true)&&(bl.map W.bl).all cp)=true:=by
  simp only[cp,MM,JO];intro x hx;obtain⟨z,_,rfl⟩:=JT.mp hx;rfl
 refine⟨!(bl.map W.bl).any λz=>xC z (.bl true),?_⟩
 simp only[cU,la h,iM,DI,AV,eT,bc h,hf,K6,Kb]
section
variable{defs:Jf (JG×Df)}{fuel d:Jp}{S:aa}{r:Jp}{Q:QW}
theorem tB (G:Gen defs)(hg:Is defs ("_law_new_ways" : JG) 6 11 bT){m0 b0:W}{N:Jf W}{a n q:Jp}{u:Wd}{mk:Jy}{kvs:Jf (T×W)}(hN:N.length=n)(hn3:n<=3)(hu:GoodW a n u)(hl:u.length<=900)(e:S[q]?=ba (.dic kvs))(hqr:q≠r)(hf:Fl S r)
  (k:∀w S',(w=.non\/∃to:Jf Jy,w=.tup (af to)/\to.length=u.length/\∀x∈to,0<=x/\x < (n:Jy))->Fl S' r->Kp r S S'->Q (w,S')) :
  wO (bF (ap defs fuel (d+2)) "_law_new_ways" 6 [.ref r,.tup [m0,.tup N,b0],.ref q,aM u,.int mk,.tup []] S) Q:=by
 refine az hg rfl rfl λQ' hR=>?_
 replace k:∀w S',(w=.non\/∃to:Jf Jy,w=.tup (af to)/\to.length=u.length/\∀x∈to,0<=x/\x < (n:Jy))->Fl S' r->Kp r S S'->Q' (.rt w,S'):=λw S' h1 h2 h3=>hR _ _ (k w S' h1 h2 h3)
 clear hR;show wZ _ _ bT [ba (.ref r),ba (.tup [m0,.tup N,b0]),ba (.ref q),ba (aM u),ba (.int mk),ba (.tup (af [])),gV,gV,gV,gV,gV] S Q';generalize hR0:W.tup [m0,.tup N,b0]=R;have ul:(u.map gc).length=u.length:=Ji ..;have hqS:=dv e;have hrS:=hf.lt;dsimp only[bT];refine aZ λK hK=>?_
 refine fG 0 (u.length:Jy) (λm ρ S'=>∃(to:Jf Jy) (a6 a7 a8 a9 a10:Jn W),ρ=[ba (.ref r),ba R,ba (.ref q),ba (aM u),ba (.int mk),ba (.tup (af to)),a6,a7,a8,a9,a10]/\to.length=m/\(∀x∈to,0<=x/\x < (n:Jy))/\Fl S' r/\Kp r S S') rfl rfl rfl (by omega) ?_ ?_ ?_
 ·dsimp only[wE,wA,wV,wG];refine bK ⟨rfl,bK ?_⟩;rw[ul];exact⟨rfl,[],_,_,_,_,_,rfl,rfl,(λx hx=>nomatch hx),hf,.refl⟩
 ·rintro m ρ S1 hm ⟨to,a6,a7,a8,a9,a10,rfl,htl,hto,f1,k1⟩ Q2 hn2 hr2;clear hK;rw[Op];have hmu:m < u.length:=by omega
  have e1:S1[q]?=ba (.dic kvs):=k1.get _ _ hqr e;have s1:S.length<=S1.length:=k1.len;have lm:=hu.len m _ (aD (d:=(0,[])) hmu);dsimp only[Jx];refine st ?_;dsimp only[wS,wE,wA,Jx];refine aZ λK hK=>?_
  refine cJ (n:Jy) (λx ρ S'=>(∃a8 a9 a10,ρ=[ba (.ref r),ba R,ba (.ref q),ba (aM u),ba (.int mk),ba (.tup (af to)),ba (.int m),ba (.ref S1.length),a8,a9,a10])/\(∃ls:Jf Jy,S'[S1.length]?=ba (.lst (af ls))/\ls.length<=x/\∀y∈ls,0<=y/\y < (n:Jy))/\S'[q]?=ba (.dic kvs)/\Fl S' r/\Kp r S S') rfl rfl (by omega) ?_ ?_ ?_
  ·dsimp only[wE,wA,wV,wG];subst hR0;refine am (by decide) rfl (bK ?_)
   rw[hN];exact⟨rfl,⟨_,_,_,rfl⟩,⟨[],aj,Js _,(λy hy=>nomatch hy)⟩,aq e1,f1.ka .push,k1.trans .push⟩
  ·rintro x ρ S2 hx ⟨⟨a8,a9,a10,rfl⟩,⟨ls,e2,hll,hls⟩,q2,f2,k2⟩ Q3 hn3' hr3;clear hK;have l2:=dv e2;dsimp only[Jx];refine st ?_;dsimp only[wS,wE,wA,Jx];refine aZ λK hK=>?_
   refine cJ (m:Jy) (λi ρ S'=>(∃a10,ρ=[ba (.ref r),ba R,ba (.ref q),ba (aM u),ba (.int mk),ba (.tup (af to)),ba (.int m),ba (.ref S1.length),ba (.int x),ba (.ref S2.length),a10])/\(∃bl:Jf JW,S'[S2.length]?=ba (.lst (bl.map W.bl))/\bl.length=i)/\S'[S1.length]?=ba (.lst (af ls))/\S'[q]?=ba (.dic kvs)/\Fl S' r/\Kp r S S') rfl rfl (by omega) ⟨rfl,⟨_,rfl⟩,⟨[],aj,rfl⟩,aq e2,aq q2,f2.ka .push,k2.trans .push⟩ ?_ ?_
   ·rintro i ρ S3 hi ⟨⟨a10,rfl⟩,⟨bl,e3,hbl⟩,el3,q3,f3,k3⟩ Q4 hn4 _;clear hK;have hiu:i < u.length:=by omega
    have him:i < (u.getD m (0,[])).2.length:=by omega
    have hit:i < to.length:=by omega
    dsimp only[Jx];refine st ?_;dsimp only[wS,wE,wA,wV,wG];refine⟨eG e3,?_⟩;refine am (JD i) (dY hiu) (am (by decide) rfl (am (JD m) (dY hmu) (am (by decide) rfl (am (JD m) (dY hmu) (am (by decide) rfl (am (w:=.int ((u.getD m (0,[])).2.getD i 0)) (JD i) (by rw[JH,Jr,aD (d:=0) him]; rfl) (am (w:=.int (to.getD i 0)) (JD i) (by rw[JH]; unfold af; rw[Jr,aD (d:=0) hit]; rfl) ?_)))))))
    refine ae (a:=(.bl (cz kvs (cL [((u.getD i (0,[])).1,[]),((u.getD m (0,[])).1,[(u.getD m (0,[])).2.getD i 0]),(mk,[to.getD i 0,(x:Jy)])])).isSome,S3)) ?_ ?_
    ·show cU .isin (aM [((u.getD i (0,[])).1,[]),((u.getD m (0,[])).1,[(u.getD m (0,[])).2.getD i 0]),(mk,[to.getD i 0,(x:Jy)])]) (.ref q) S3=_;simp only[cU,cH q3,pH]; rfl
    refine lQ e3 (by rw[Ji]; omega) (cr (hn4 _ _ ⟨⟨_,rfl⟩,⟨bl++[(cz kvs (cL [((u.getD i (0,[])).1,[]),((u.getD m (0,[])).1,[(u.getD m (0,[])).2.getD i 0]),(mk,[to.getD i 0,(x:Jy)])])).isSome],?_,by rw[Jt,hbl]; rfl⟩,?_,?_,f3.own (by omega),k3.late (by omega)⟩))
    ·rw[cf e3,Kd]; rfl
    ·rw[cg (J2 ‹_›)]; exact el3
    ·rw[cg (by omega)]; exact q3
   ·rintro ρ S3 ⟨⟨a10,rfl⟩,⟨bl,e3,hbl⟩,el3,q3,f3,k3⟩;refine hK _ _ ?_;clear hK K;refine aZ λK hK=>?_
    dsimp only[wS,wT,wE,wA,wV,wG];obtain⟨b,eb⟩:=zX e3;refine ae eb ?_;dsimp only[wB];refine aw (Q0:=Q3) (λ_ Q5 hn5 _=>?_) (λ_ Q5 hn5 _=>cr (hn5 _ _ (hK _ _ (cr (hn3' _ _ ⟨⟨_,_,_,rfl⟩,⟨ls,el3,by exact Lz ‹_›,hls⟩,q3,f3,k3⟩)))))
    refine st ?_;dsimp only[wS,wE,wA,wV,wG];refine⟨eG el3,lQ el3 (by unfold af; rw[Ji]; omega) (cr (hn5 _ _ (hK _ _ (cr (hn3' _ _ ⟨⟨_,_,_,rfl⟩,⟨ls++[(x:Jy)],?_,by rw[Jt,Ln]; omega,λy hy=>?_⟩,?_,f3.own (JR ‹_› ‹_›),k3.late ‹_›⟩)))))⟩
    ·rw[cf el3]; unfold af; rw[Kd]; rfl
    ·rcases J9.mp hy with h|h
     ·exact hls y h
     ·rw[JC.mp h]; omega
    ·rw[cg (by omega)]; exact q3
  ·rintro ρ S2 ⟨⟨a8,a9,a10,rfl⟩,⟨ls,e2,hll,hls⟩,q2,f2,k2⟩;refine hK _ _ ?_;clear hK K;rw[JH]at hll;refine aZ λK hK=>?_
   dsimp only[wS,wT,wE,wA,wV,wG];refine ae (CT (aq e2) aj) ?_;dsimp only[wB];refine aw (Q0:=Q2) (λ_ Q5 _ hr5=>?_) (λhne Q5 hn5 _=>cr (hn5 _ _ (hK _ _ ?_)))
   ·refine st ?_;dsimp only[wS,wE];exact hr5 _ _ (hr2 _ _ (k _ _ (.inl rfl) (f2.ka .push) (k2.trans .push)))
   clear hn5 hK;have hpos:0 < ls.length:=by
    cases ls with
    | nil=>cases hne
    | cons _ _=>simp
   refine st ?_;dsimp only[wS,wE,wA,wV,wG,Jx];have e2':=aq (u:=O.lst []) e2;refine i6 e2' ?_;rw[show(af ls).length=ls.length from Ji ..]
   refine be (d:=d) G.pick (f2.ka .push) (by omega) (by omega) λv S4 v0 v1 f4 k4=>?_
   have hv:v.toNat < ls.length:=by omega
   have e4:=k4.get _ _ (by have:=dv e2; omega) e2'
   refine gw (w:=.int ls[v.toNat]) e4 v0 (by unfold af; rw[Jr,Jw hv]; rfl) ?_
   refine ae (fQ (rR (by rw[Jt,show(af to).length=to.length from Ji ..]; show _+1<=_; omega))) (cr (hn2 _ _ ⟨to++[ls[v.toNat]],ba (.int m),ba (.ref S1.length),a8,a9,a10,?_,by rw[Jt,htl]; rfl,λy hy=>?_,f4,(k2.trans .push).trans k4⟩))
   ·rw[show af to++[W.int ls[v.toNat]]=af (to++[ls[v.toNat]]) by unfold af; rw[Kd]; rfl]
   ·rcases J9.mp hy with h|h
    ·exact hto y h
    ·rw[JC.mp h]; exact hls _ (Kq hv)
 ·rintro ρ S1 ⟨to,a6,a7,a8,a9,a10,rfl,htl,hto,f1,k1⟩;refine hK _ _ (st ?_);dsimp only[wS,wE,wV,wG];exact k _ _ (.inr ⟨to,rfl,by omega,hto⟩) f1 k1
end
noncomputable def dj:Ss:=
 (.cons (.set 4 (.tup .nil))
 (.cons (.loop (.nm 5) (.rng (.cons (.v 3) .nil)) (.cons (.set 6 (.own "_law_pick" 2 (.cons (.v 0) (.cons (.bi .len (.cons (.ix (.v 1) (.c (.int 0))) .nil)) .nil))))
 (.cons (.set 7 (.own "_law_new_ways" 6 (.cons (.v 0) (.cons (.v 1) (.cons (.v 2) (.cons (.v 4) (.cons (.v 6) (.cons (.tup .nil) .nil))))))))
 (.cons (.ite (.cmp .isnot (.v 7) (.c .non)) (.cons (.set 4 (.op .add (.v 4) (.tup (.cons (.tup (.cons (.v 6) (.cons (.v 7) .nil))) .nil))))
 .nil) .nil)
 .nil))))
 (.cons (.ret (.v 4))
 .nil)))
noncomputable def cG:Ss:=
 (.cons (.ret (.own "first_three" 2 (.cons (.own "barred_threes" 1 (.cons (.v 0) .nil)) (.cons (.v 1) .nil))))
 .nil)
section
variable{defs:Jf (JG×Df)}{fuel d:Jp}{S:aa}{r:Jp}{Q:QW}
theorem Ck (G:Gen defs)(hw:Is defs ("_law_new_ways" : JG) 6 11 bT)(hg:Is defs ("_law_world" : JG) 4 8 dj){M N:Jf W}{b0:W}{a n q many:Jp}{kvs:Jf (T×W)}(hM:M.length=a)(ha1:0 < a)(ha3:a<=3)(hN:N.length=n)(hn3:n<=3)(hm:many<=900)(e:S[q]?=ba (.dic kvs))(hqr:q≠r)(hf:Fl S r)
  (k:∀(u:Wd) S',u.length<=many->GoodW a n u->Fl S' r->Kp r S S'->Q (aM u,S')) :
  wO (bF (ap defs fuel (d+3)) "_law_world" 4 [.ref r,.tup [.tup M,.tup N,b0],.ref q,.int many] S) Q:=by
 refine az hg rfl rfl λQ' hR=>?_
 replace k:∀(u:Wd) S',u.length<=many->GoodW a n u->Fl S' r->Kp r S S'->Q' (.rt (aM u),S'):=λu S' h1 h2 h3 h4=>hR _ _ (k u S' h1 h2 h3 h4)
 clear hR;show wZ _ _ dj [ba (.ref r),ba (.tup [.tup M,.tup N,b0]),ba (.ref q),ba (.int many),gV,gV,gV,gV] S Q';generalize hR0:W.tup [.tup M,.tup N,b0]=R;dsimp only[dj];refine st ?_;dsimp only[wS,wE,wA,Jx];refine aZ λK hK=>?_
 refine cJ (many:Jy) (λi ρ S'=>∃(u:Wd) (a5 a6 a7:Jn W),ρ=[ba (.ref r),ba R,ba (.ref q),ba (.int many),ba (aM u),a5,a6,a7]/\u.length<=i/\GoodW a n u/\Fl S' r/\Kp r S S') rfl rfl (by omega) ⟨rfl,[],_,_,_,rfl,Js _,.nil,hf,.refl⟩ ?_ ?_
 ·rintro i ρ S1 hi ⟨u,a5,a6,a7,rfl,hul,hu,f1,k1⟩ Q2 hn _;clear hK;have e1:=k1.get _ _ hqr e;dsimp only[Jx];refine st ?_;dsimp only[wS,wE,wA,wV,wG,Jx];subst hR0;refine am (by decide) rfl (bK ?_)
  rw[hM];refine be (d:=d+1) G.pick f1 (by omega) (by omega) λv S2 v0 v1 f2 k2=>?_
  have e2:=k2.get _ _ hqr e1;refine st ?_;dsimp only[wS,wE,wA,wV,wG,Jx];refine tB (d:=d) G hw hN hn3 hu (by omega) e2 hqr f2 λw S3 hw3 f3 k3=>?_
  refine aZ λK hK=>?_
  dsimp only[wS,wT,wE,wA,wV,wG];rcases hw3 with rfl|⟨to,rfl,htl,hto⟩
  ·refine ae (show cU .isnot .non .non S3=ba (.bl false,S3)from rfl) ?_
   dsimp only[wB];exact aw (Q0:=Q2) (λz=>by cases z) (λ_ Q5 hn5 _=>cr (hn5 _ _ (hK _ _ (cr (hn _ _ ⟨u,_,_,_,rfl,by exact Lz ‹_›,hu,f3,(k1.trans k2).trans k3⟩)))))
  ·refine ae (show cU .isnot (.tup (af to)) .non S3=ba (.bl true,S3)from rfl) ?_
   dsimp only[wB];refine aw (Q0:=Q2) (λ_ Q5 hn5 _=>?_) (λz=>by cases z)
   refine st ?_;dsimp only[wS,wE,wA,wV,wG,Jx,aM];refine ae (fQ (rR (by rw[Jt,Ji]; show _+1<=_; omega))) (cr (hn5 _ _ (hK _ _ (cr (hn _ _ ⟨u++[(v,to)],ba (.int i),ba (.int v),ba (.tup (af to)),?_,?_,hu.snoc ⟨v0,v1⟩ htl hto,f3,(k1.trans k2).trans k3⟩)))))
   ·unfold aM;rw[Kd]; rfl
   ·rw[Jt,Ln]; omega
 ·rintro ρ S1 ⟨u,a5,a6,a7,rfl,hul,hu,f1,k1⟩;rw[JH]at hul;refine hK _ _ (st ?_);dsimp only[wS,wE,wV,wG];exact k u S1 hul hu f1 k1
theorem gA (hfu:20 < fuel)(P:Parts defs)(hp:Is defs ("part" : JG) 3 3 iD)(hl:Is defs ("longer_orders" : JG) 2 4 bH)(hbt:Is defs ("barred_threes" : JG) 1 5 bX)(h3:Is defs ("three_at" : JG) 4 6 de)(hft:Is defs ("first_three" : JG) 2 5 cu)(hg:Is defs ("first_barred" : JG) 2 2 cG)
  {m0:W} {ns:Jf JG} {bs:Jf Jy} {a:Jp} {gs:Jf Wd} {u:Wd} (hb:GoodB bs) (hnl:ns.length=bs.length) (hgs:∀g∈gs,GoodW a bs.length g/\g.length=3) (h64:gs.length<=100) (hu:GoodW a bs.length u) (hul:u.length<=1000)
  (k:∀w S',Ans (λi j k=>decide (cL (fX u i j k)∈(d0 bs gs).map cL)) u.length w->Ka S S'->Q (w,S')) :
  wO (bF (ap defs fuel (d+5)) "first_barred" 2 [.tup [m0,.tup (JL bG ns bs),.tup (gs.map aM)],aM u] S) Q:=by
 refine az hg rfl rfl λQ' hR=>?_
 show wZ _ _ cG [ba (.tup [m0,.tup (JL bG ns bs),.tup (gs.map aM)]),ba (aM u)] S Q';dsimp only[cG];refine st ?_;dsimp only[wS,wE,wA,wV,wG];refine zW (d:=d) hfu P hp hl hbt hb hnl hgs h64 λq kvs S1 e1 h1 _ k1=>?_
 refine mP (d:=d+2) h3 hft hu hul e1 λw hw=>hR _ _ (k w S1 ?_ k1)
 exact hw.congr λi j k _ _ _=>h1.get _
end
theorem fI {n:Jp}{x:Jy}(h:x∈lY n):0<=x/\x < n:=by
 obtain⟨k,hk,rfl⟩:=JT.mp h;have:=KJ.mp hk;omega
theorem tD {a n:Jp}{u:Wd}(h:u∈rC a n):GoodW a n u/\u.length=3:=by
 unfold rC at h;simp only[Od,JT]at h;obtain⟨m0,h0,m1,h1,m2,h2,w1,g1,w2,g2,w3,g3,rfl⟩:=h;refine⟨?_,rfl⟩;have s1:GoodW a n ([]++[(m0,[])]):=GoodW.nil.snoc (fI h0) rfl (λw hw=>nomatch hw)
 have s2:GoodW a n ([(m0,[])]++[(m1,[w1])]):=s1.snoc (fI h1) rfl (λw hw=>by rw[JC.mp hw]; exact fI g1)
 exact s2.snoc (fI h2) rfl (λw hw=>by
  simp only[JP,Kl,Lu]at hw;rcases hw with rfl|rfl
  ·exact fI g2
  ·exact fI g3)
theorem wx {a:Jp}{bs:Jf Jy}{g:Wd}(hb:GoodB bs)(h:g∈bu a bs):GoodW a bs.length g/\g.length=3:=by
 unfold bu at h;rw[NL]at h;obtain⟨u,hu,rfl⟩:=JT.mp h;obtain⟨gu,u3⟩:=tD hu;unfold jG;have hm:o9 ((ay.map (bq bs u)).map cL) < (ay.map (bq bs u)).length:=by
  unfold o9;refine LP (fU _ _) ?_;rw[Ji,Ji]; decide
 have:=JI (aD (d:=[]) hm);obtain⟨t,ht,e⟩:=JT.mp this;rw[<- e];have tk:∀t∈ay,t.length=3/\t.Nodup/\∀p∈t,p < 3:=by decide
 obtain⟨t1,t2,t3⟩:=tk t ht;exact⟨wt hb gu (λp hp=>by have:=t3 p hp; omega) t2,by rw[fF]; exact t1⟩
theorem zY {a n at':Jp}{u:Wd}{p:Pt}(hu:GoodW a n u)(h1:0<=p.1/\p.1 < a)(h2:p.2.length=at')(h3:∀w∈p.2,0<=w/\w < (n:Jy)):GoodW a n (u.set at' p):=by
 have key:∀(k:Jp) (x:Pt),(u.set at' p)[k]?=ba x->u[k]?=ba x\/(k=at'/\x=p):=λk x e=>by
  rw[K7]at e
  by_cases hk:at'=k
  ·rw[JN hk]at e;split at e
   ·cases e; exact .inr ⟨hk.symm,rfl⟩
   ·cases e
  ·rw[JX hk]at e; exact .inl e
 refine⟨λk x e=>?_,λk x e=>?_,λk x e=>?_⟩ <;> rcases key k x e with z|⟨rfl,rfl⟩
 ·exact hu.mark k x z
 ·exact h1
 ·exact hu.len k x z
 ·exact h2
 ·exact hu.way k x z
 ·exact h3
theorem oE {a n:Jp}{u:Wd}(hu:GoodW a n u):GoodW a n u.dropLast:=by
 have key:∀(k:Jp) (x:Pt),(u.dropLast)[k]?=ba x->u[k]?=ba x:=λk x e=>by
  rw[List.getElem?_dropLast]at e;split at e
  ·exact e
  ·cases e
 exact⟨λk x e=>hu.mark k x (key k x e),λk x e=>hu.len k x (key k x e),λk x e=>hu.way k x (key k x e)⟩
noncomputable def dQ:Ss:=
 (.cons (.set 4 (.own "_law_pick" 2 (.cons (.v 0) (.cons (.c (.int 3)) .nil))))
 (.cons (.ite (.cmp .eq (.v 4) (.c (.int 0))) (.cons (.ret (.own "_law_any_world" 3 (.cons (.v 0) (.cons (.v 1) (.cons (.v 3) .nil)))))
 .nil) .nil)
 (.cons (.set 5 (.own "_law_world" 4 (.cons (.v 0) (.cons (.v 1) (.cons (.v 2) (.cons (.v 3) .nil))))))
 (.cons (.ite (.or (.cmp .eq (.v 4) (.c (.int 1))) (.cmp .eq (.v 5) (.tup .nil))) (.cons (.ret (.v 5))
 .nil) .nil)
 (.cons (.set 6 (.own "_law_pick" 2 (.cons (.v 0) (.cons (.bi .len (.cons (.v 5) .nil)) .nil))))
 (.cons (.ret (.op .add (.op .add (.sl (.v 5) .no (.yes (.v 6))) (.tup (.cons (.ix (.own "_law_any_world" 3 (.cons (.v 0) (.cons (.v 1) (.cons (.op .add (.v 6) (.c (.int 1))) .nil)))) (.v 6)) .nil))) (.sl (.v 5) (.yes (.op .add (.v 6) (.c (.int 1)))) .no)))
 .nil))))))
section
variable{defs:Jf (JG×Df)}{fuel d:Jp}{S:aa}{r:Jp}{Q:QW}
theorem wy (G:Gen defs)(hnw:Is defs ("_law_new_ways" : JG) 6 11 bT)(hwd:Is defs ("_law_world" : JG) 4 8 dj)(haw:Is defs ("_law_any_world" : JG) 3 6 bW)(hg:Is defs ("_law_drawn" : JG) 4 7 dQ){ms ns:Jf JG}{bs:Jf Jy}{b0:W}{a q many:Jp}{kvs:Jf (T×W)}(hml:ms.length=a)(ha1:0 < a)(ha3:a<=3)(hb:GoodB bs)(hnl:ns.length=bs.length)(hm:many<=100)(e:S[q]?=ba (.dic kvs))(hqr:q≠r)(hf:Fl S r)
  (k:∀(u:Wd) S',u.length<=many->GoodW a bs.length u->Fl S' r->Kp r S S'->Q (aM u,S')) :
  wO (bF (ap defs fuel (d+4)) "_law_drawn" 4 [.ref r,.tup [.tup (ms.map W.str),.tup (JL bG ns bs),b0],.ref q,.int many] S) Q:=by
 refine az hg rfl rfl λQ' hR=>?_
 replace k:∀(u:Wd) S',u.length<=many->GoodW a bs.length u->Fl S' r->Kp r S S'->Q' (.rt (aM u),S'):=λu S' h1 h2 h3 h4=>hR _ _ (k u S' h1 h2 h3 h4)
 clear hR;have hb3:bs.length<=3:=by rcases hb with rfl|rfl|rfl|rfl|rfl|rfl <;> decide
 show wZ _ _ dQ [ba (.ref r),ba (.tup [.tup (ms.map W.str),.tup (JL bG ns bs),b0]),ba (.ref q),ba (.int many),gV,gV,gV] S Q';dsimp only[dQ];refine aZ λK hK=>?_
 dsimp only[wS,wE,wA,wV,wG,Jx];refine be (d:=d+2) G.pick hf (by decide) (by decide) λv S1 _ _ f1 k1=>hK _ _ ?_
 clear hK K;refine aZ λK hK=>?_
 dsimp only[wS,wT,wE,wV,wG,gX,aT,wB];refine aw (Q0:=Q') (λ_ Q2 _ hr=>?_) (λ_ Q2 hn _=>cr (hn _ _ (hK _ _ ?_)))
 ·refine st ?_;dsimp only[wS,wE,wA,wV,wG];exact kj (d:=d+1) G haw f1 ha1 ha3 hb hml hnl (by exact JF ‹_› (JJ rfl)) λu S2 hul hu f2 k2=>hr _ _ (k u S2 (by omega) hu f2 (k1.trans k2))
 clear hK K hn;refine aZ λK hK=>?_
 dsimp only[wS,wE,wA,wV,wG,Jx];refine Ck (d:=d) G hnw hwd (M:=ms.map W.str) (N:=JL bG ns bs) (n:=bs.length) (by rw[Ji,hml]) ha1 ha3 (by rw[MG,hnl]; omega) hb3 (by exact JF ‹_› (JJ rfl)) (k1.get _ _ hqr e) hqr f1 λu S2 hul hu f2 k2=>hK _ _ ?_
 clear hK K;have k12:=k1.trans k2;refine aZ λK hK=>?_
 dsimp only[wS,wT,wE,wA,wV,wG,gX,aT,wB];have ret:∀Q2:QO,(∀w S',Q' (.rt w,S')->Q2 (.rt w,S'))->wZ (ap defs fuel (d+3)) fuel (.cons (.ret (.v 5)) .nil) [ba (.ref r),ba (.tup [.tup (ms.map W.str),.tup (JL bG ns bs),b0]),ba (.ref q),ba (.int many),ba (.int v),ba (aM u),gV] S2 Q2:=λQ2 hr=>by
  refine st ?_;dsimp only[wS,wE,wV,wG];exact hr _ _ (k u S2 hul hu f2 k12)
 refine⟨λ_=>aw (Q0:=Q') (λ_ Q2 _ hr=>ret Q2 hr) (λz=>by cases z),λ_=>?_⟩
 refine ae (EJ (u:=u) (v:=[])) ?_;dsimp only[wB];refine aw (Q0:=Q') (λ_ Q2 _ hr=>ret Q2 hr) (λhne Q2 hn _=>cr (hn _ _ (hK _ _ ?_)))
 clear hK K hn ret;have hne:u≠[]:=LO hne;have hup:0 < u.length:=List.length_pos_iff.mpr hne;have ul:(u.map gc).length=u.length:=Ji ..;refine aZ λK hK=>?_
 dsimp only[wS,wE,wA,wV,wG,Jx];refine bK ?_;rw[ul];refine be (d:=d+2) G.pick f2 (by omega) (by omega) λv2 S3 v0 v1 f3 k3=>hK _ _ ?_
 clear hK K;obtain⟨p,rfl⟩ : ∃p:Jp,v2=p:=⟨v2.toNat,by omega⟩
 refine st ?_;dsimp only[wS,wE,wA,wP,wV,wG,wN];refine ae (show p9 (aM u) gV (ba (p:Jy)) S3=ba (.tup ((u.map gc).take p),S3) by simp only[aM,p9,i7]) ?_
 dsimp only;refine ae cN ?_;dsimp only;rw[show(p:Jy)+1=((p+1:Jp):Jy) by omega]
 refine kj (d:=d+1) G haw f3 ha1 ha3 hb hml hnl (many:=p+1) (by omega) λy S4 hyl hy f4 k4=>?_
 have hpy:p < y.length:=by omega
 have gy:=aD (d:=(0,[])) hpy;refine am (JD p) (dY hpy) ?_;refine ae (fQ (rR (by rw[Jt,Kk,ul]; show _+1<=_; omega))) ?_
 dsimp only;refine ae cN ?_;dsimp only;refine ae (show p9 (aM u) (ba ((p:Jy)+1)) gV S4=ba (.tup ((u.map gc).drop (p+1)),S4) by rw[show(p:Jy)+1=((p+1:Jp):Jy) by omega]; simp only[aM,p9,rz]) ?_
 dsimp only;refine ae (fQ (rR (by rw[Jt,Jt,Kk,L7,ul]; show _+1+_<=_; omega))) ?_
 have es:(u.map gc).take p++[gc (y.getD p (0,[]))]++(u.map gc).drop (p+1)=(u.set p (y.getD p (0,[]))).map gc:=by
  rw[RG,List.set_eq_take_append_cons_drop,JN (by rw[ul]; exact Li.mp ‹_›)]
  simp
 dsimp only;rw[es];exact k (u.set p (y.getD p (0,[]))) S4 (by rw[Qw]; exact hul) (zY hu (hy.mark _ _ gy) (hy.len _ _ gy) (hy.way _ _ gy)) f4 ((k12.trans k3).trans k4)
end
noncomputable def lf:Ss:=
 (.cons (.set 1 (.own "_law_flow" 1 (.cons (.v 0) .nil)))
 (.cons (.set 2 (.own "_law_full_rule" 1 (.cons (.v 1) .nil)))
 (.cons (.set 3 (.own "_law_bad" 1 (.cons (.v 2) .nil)))
 (.cons (.set 4 (.own "_law_pick" 2 (.cons (.v 1) (.cons (.c (.int 8)) .nil))))
 (.cons (.ite (.cmp .eq (.own "_law_pick" 2 (.cons (.v 1) (.cons (.c (.int 8)) .nil))) (.c (.int 0))) (.cons (.set 4 (.own "_law_pick" 2 (.cons (.v 1) (.cons (.c (.int 12)) .nil))))
 .nil) .nil)
 (.cons (.set 5 (.own "_law_drawn" 4 (.cons (.v 1) (.cons (.v 2) (.cons (.v 3) (.cons (.v 4) .nil))))))
 (.cons (.set 6 (.own "_law_first_barred" 3 (.cons (.v 3) (.cons (.v 2) (.cons (.v 5) .nil)))))
 (.cons (.ite (.not (.own "_law_alike" 2 (.cons (.own "first_barred" 2 (.cons (.v 2) (.cons (.v 5) .nil))) (.cons (.v 6) .nil)))) (.cons (.ret (.c (.bl false)))
 .nil) .nil)
 (.cons (.ite (.not (.own "_law_alike" 2 (.cons (.own "first_barred" 2 (.cons (.v 2) (.cons (.sl (.v 5) .no (.yes (.neg (.c (.int 1))))) .nil))) (.cons (.own "_law_first_barred" 3 (.cons (.v 3) (.cons (.v 2) (.cons (.sl (.v 5) .no (.yes (.neg (.c (.int 1))))) .nil)))) .nil)))) (.cons (.ret (.c (.bl false)))
 .nil) .nil)
 (.cons (.ret (.and (.cmp .is (.own "first_barred" 2 (.cons (.op .add (.sl (.v 2) .no (.yes (.c (.int 2)))) (.tup (.cons (.tup .nil) .nil))) (.cons (.v 5) .nil))) (.c .non)) (.own "_law_alike" 2 (.cons (.own "first_barred" 2 (.cons (.v 2) (.cons (.v 5) .nil))) (.cons (.v 6) .nil)))))
 .nil))))))))))
structure Lw14 (defs:Jf (JG×Df)):Prop where
 gen:Gen defs
 full:Full defs
 parts:Parts defs
 part:Is defs ("part" : JG) 3 3 iD
 longer:Is defs ("longer_orders" : JG) 2 4 bH
 barred:Is defs ("barred_threes" : JG) 1 5 bX
 three:Is defs ("three_at" : JG) 4 6 de
 fthree:Is defs ("first_three" : JG) 2 5 cu
 fbarred:Is defs ("first_barred" : JG) 2 2 cG
 flow:Is defs ("_law_flow" : JG) 1 1 eJ
 any:Is defs ("_law_any_world" : JG) 3 6 bW
 alike:Is defs ("_law_alike" : JG) 2 2 bL
 bad:Is defs ("_law_bad" : JG) 1 4 fH
 ways:Is defs ("_law_new_ways" : JG) 6 11 bT
 world:Is defs ("_law_world" : JG) 4 8 dj
 drawn:Is defs ("_law_drawn" : JG) 4 7 dQ
 lfirst:Is defs ("_law_first_barred" : JG) 3 6 bS
 law:Is defs ("law" : JG) 1 7 lf
section
variable{defs:Jf (JG×Df)}{fuel d:Jp}
theorem jM (hg:Is defs ("_law_alike" : JG) 2 2 bL){P:Jp->Jp->Jp->JW}{n:Jp}{w:W}{S:aa}{Q:QW}(h:Ans P n w)(k:∀S',Ka S S'->Q (.bl true,S')):wO (bF (ap defs fuel (d+2)) "_law_alike" 2 [w,w] S) Q:=by
 rcases h with⟨rfl,_⟩|⟨i,j,l,rfl,_⟩
 ·refine az hg rfl rfl λQ' hR=>?_
  show wZ _ _ bL [ba .non,ba .non] S Q';dsimp only[bL];refine aZ λK hK=>oq (λQ q=>q) λQ2 _ hr=>st ?_
  dsimp only[wS,wE,wV,wG];exact ae (show cU .is .non .non S=ba (.bl true,S)from rfl) (hr _ _ (hR _ _ (k S .refl)))
 ·refine Cd hg 1 d _ S Q ⟨JJ rfl,λx hx=>?_⟩ k
  simp only[JP,Kl,Lu]at hx;rcases hx with rfl|rfl|rfl <;> trivial
theorem zZ (hfu:50 < fuel)(L:Lw14 defs){zs:Jf Jy}:∃S',ap defs fuel (d+9) "law" [.ref 0] [.fro (zs.map W.int)]=ba (.bl true,S'):=by
 suffices h:wO (bF (ap defs fuel (d+9)) "law" 1 [.ref 0] [.fro (zs.map W.int)]) (λp=>p.1=.bl true) by
  obtain⟨⟨v,S'⟩,e,q⟩:=cX h;cases(show v=.bl true from q)
  exact⟨S',e⟩
 have G:=L.gen;refine az L.law rfl rfl λQ' hR=>?_
 show wZ _ _ lf [ba (.ref 0),gV,gV,gV,gV,gV,gV] [.fro (zs.map W.int)] Q';unfold lf;refine aZ λK hK=>?_
 dsimp only[wS,wE,wA,wV,wG,Jx];refine EQ (d:=d+7) L.flow (ns:=zs) rfl λr S1 _ f1=>hK _ _ ?_
 clear hK K;refine aZ λK hK=>?_
 dsimp only[wS,wE,wA,wV,wG,Jx];refine EN (d:=d) (by omega) G L.full f1 λw S2 hw f2 _=>hK _ _ ?_
 clear hK K f1;obtain⟨a,bs,ms,ns,gs0,rfl,hr⟩:=hw;have hb:=hr.size.good;have hnl:=hr.nl;have hml:=hr.ml;have hpos:=hr.size.pos;have ha3:=hr.size.a3;have pm:(cO gs0).Perm gs0:=eC;have hgs:∀g∈cO gs0,GoodW a bs.length g/\g.length=3:=λg hg=>wx hb (hr.mem g (pm.mem_iff.mp hg))
 have h64:(cO gs0).length<=100:=by
  have h1:=lU gs0 _ hr.nd hr.mem;have h2:=lc hr.size;rw[pm.length_eq]; omega
 clear hr pm;unfold dZ;generalize cO gs0=gs at hgs h64;clear gs0;refine aZ λK hK=>?_
 dsimp only[wS,wE,wA,wV,wG,Jx];refine GY (d:=d+5) G L.bad hb hnl hgs h64 λq kvs S3 e3 h3 hq k3=>hK _ _ ?_
 clear hK K;have f3:=f2.ka k3;have hqr:q≠r:=by have:=f2.lt; omega
 have inb:∀u:Wd,∀i j k,jL kvs u i j k=decide (cL (fX u i j k)∈(d0 bs gs).map cL):=λu i j k=>h3.get _
 clear h3 k3 hq f2;refine aZ λK hK=>?_
 dsimp only[wS,wE,wA,wV,wG,Jx];refine be (d:=d+7) G.pick f3 (by decide) (by decide) λv S4 v0 v1 f4 k4=>hK _ _ ?_
 clear hK K;have e4:=k4.get _ _ hqr e3;clear e3 f3 k4;refine aZ λK hK=>?_
 have tl:∀(n:Jp) (S5:aa),n<=11->S5[q]?=ba (.dic kvs)->Fl S5 r->K [ba (.ref 0),ba (.ref r),ba (.tup [.tup (ms.map W.str),.tup (JL bG ns bs),.tup (gs.map aM)]),ba (.ref q),ba (.int (n:Jy)),gV,gV] S5:=by
  intro n S5 hn e5 f5;refine hK _ _ ?_;clear hK K e4 f4 v0 v1;refine aZ λK hK=>?_
  dsimp only[wS,wE,wA,wV,wG,Jx];refine wy (d:=d+4) G L.ways L.world L.any L.drawn hml hpos ha3 hb hnl (by exact JF ‹_› (JJ rfl)) e5 hqr f5 λu S6 hul hu f6 k6=>hK _ _ ?_
  clear hK K;have e6:=k6.get _ _ hqr e5;clear e5 f5 k6;refine aZ λK hK=>?_
  dsimp only[wS,wE,wA,wV,wG,Jx];refine kn (d:=d+5) G L.lfirst hb hnl hu (by omega) e6 λw S7 hw k7=>hK _ _ ?_
  clear hK K;replace hw:=hw.congr λi j k _ _ _=>inb u i j k
  have e7:=k7.get _ _ e6;clear e6 k7;have fb:∀(u:Wd) (S:aa) (Q:QW),GoodW a bs.length u->u.length<=1000->(∀w S',Ans (λi j k=>decide (cL (fX u i j k)∈(d0 bs gs).map cL)) u.length w->Ka S S'->Q (w,S'))->wO (bF (ap defs fuel (d+8)) "first_barred" 2 [.tup [.tup (ms.map W.str),.tup (JL bG ns bs),.tup (gs.map aM)],aM u] S) Q:=λu S Q h1 h2 h3=>gA (d:=d+3) (by omega) L.parts L.part L.longer L.barred L.three L.fthree L.fbarred hb hnl hgs h64 h1 h2 h3
  refine aZ λK hK=>?_
  dsimp only[wS,wT,wE,wA,wV,wG];refine fb u S7 _ hu (by omega) λw1 S8 hw1 k8=>?_
  obtain rfl:=hw1.uniq hw;refine jM (d:=d+6) L.alike hw λS9 k9=>?_
  refine ae (show gQ S9 (.bl true)=ba true from rfl) ?_
  refine aw (Q0:=Q') (λz=>by cases z) (λ_ Q2 hn2 _=>cr (hn2 _ _ (hK _ _ ?_)))
  clear hn2 hK K;have e9:=k9.get _ _ (k8.get _ _ e7);clear e7 k8 k9;have sl:∀S:aa,p9 (aM u) gV (ba (-1)) S=ba (aM u.dropLast,S):=λS=>by simp only[aM,p9,zQ,List.map_dropLast]
  refine aZ λK hK=>?_
  dsimp only[wS,wT,wE,wA,wP,wV,wG,wN];refine ae (sl _) ?_;dsimp only;refine fb u.dropLast S9 _ (oE hu) (by rw[O0]; omega) λw2 S10 hw2 k10=>?_
  refine ae (sl _) ?_;dsimp only;refine kn (d:=d+5) G L.lfirst hb hnl (oE hu) (by rw[O0]; omega) (k10.get _ _ e9) λw3 S11 hw3 k11=>?_
  replace hw3:=hw3.congr λi j k _ _ _=>inb u.dropLast i j k
  obtain rfl:=hw2.uniq hw3;refine jM (d:=d+6) L.alike hw3 λS12 k12=>?_
  refine ae (show gQ S12 (.bl true)=ba true from rfl) ?_
  refine aw (Q0:=Q') (λz=>by cases z) (λ_ Q2 hn2 _=>cr (hn2 _ _ (hK _ _ ?_)))
  clear hn2 hK K;refine st ?_;dsimp only[wS,wE,wA,wP,wV,wG,wN];refine ae (show p9 (.tup [.tup (ms.map W.str),.tup (JL bG ns bs),.tup (gs.map aM)]) gV (ba 2) S12=ba (.tup [.tup (ms.map W.str),.tup (JL bG ns bs)],S12)from rfl) ?_
  dsimp only;refine ae (fQ (gv rfl)) ?_;dsimp only[List.cons_append,Qy];refine gA (d:=d+3) (gs:=[]) (by omega) L.parts L.part L.longer L.barred L.three L.fthree L.fbarred hb hnl (λg hg=>nomatch hg) (by decide) hu (by omega) λw4 S13 hw4 k13=>?_
  have w0:w4=.non:=by
   rcases hw4 with⟨rfl,_⟩|⟨i,j,l,rfl,_,_,_,z,_⟩
   ·rfl
   ·exact absurd z (by simp[d0])
  subst w0;refine ae (show cU .is .non .non S13=ba (.bl true,S13)from rfl) ?_
  dsimp only[wB];refine⟨λ_=>?_,λz=>by cases z⟩
  refine fb u S13 _ hu (by omega) λw5 S14 hw5 k14=>?_
  obtain rfl:=hw5.uniq hw;exact jM (d:=d+6) L.alike hw λS15 _=>hR _ _ rfl
 dsimp only[wS,wT,wE,wA,wV,wG];refine be (d:=d+7) G.pick f4 (by decide) (by decide) λv2 S5 _ _ f5 k5=>?_
 have e5:=k5.get _ _ hqr e4;obtain⟨n,rfl⟩ : ∃n:Jp,v=n:=⟨v.toNat,by omega⟩
 dsimp only[gX,aT,wB];refine aw (Q0:=Q') (λ_ Q2 hn2 _=>?_) (λ_ Q2 hn2 _=>cr (hn2 _ _ (tl n S5 (by omega) e5 f5)))
 refine st ?_;dsimp only[wS,wE,wA,wV,wG,Jx];refine be (d:=d+7) G.pick f5 (by decide) (by decide) λv3 S6 u0 u1 f6 k6=>?_
 obtain⟨n3,rfl⟩ : ∃n:Jp,v3=n:=⟨v3.toNat,by omega⟩
 exact cr (hn2 _ _ (tl n3 S6 (by omega) (k6.get _ _ hqr e5) f6))
end
noncomputable def ah (i:Jp):L0:=PySem.Challenge.pw_layworld_k14_the_first_barred_three.main.body.getD i (.Pass ⟨0,0,0,0⟩)
noncomputable def ij:Df:=⟨["rule","world","i","j"],["rule","world","i","j"],u5⟩
noncomputable def fu:Df:=⟨["rule","world","points"],["rule","world","points"],iD⟩
noncomputable def bw:Df:=⟨["rule","world","ahead","point"],["rule","world","ahead","point"],eh⟩
noncomputable def aO:Df:=⟨["orders","size"],["orders","size","longer","order"],bH⟩
noncomputable def aP:Df:=⟨["rule"],["rule","orders","barred","figure","order"],bX⟩
noncomputable def b6:Df:=⟨["world","i","j","k"],["world","i","j","k","one","two"],de⟩
noncomputable def aU:Df:=⟨["rule","world"],["rule","world"],cG⟩
noncomputable def bh:Df:=⟨["barred","world"],["barred","world","i","j","k"],cu⟩
noncomputable def bM:Df:=⟨["_law_script"],["_law_script"],eJ⟩
noncomputable def bN:Df:=⟨["_law_flow_here","_law_many"],["_law_flow_here","_law_many","_law_cell","_law_digit"],dc⟩
noncomputable def aV:Df:=⟨["_law_flow_here","_law_many"],["_law_flow_here","_law_many"],dH⟩
noncomputable def bO:Df:=⟨["_law_flow_here","_law_stem"],["_law_flow_here","_law_stem","_law_near"],fR⟩
noncomputable def bx:Df:=⟨["_law_flow_here","_law_many"],["_law_flow_here","_law_many","_law_stem","_law_names_here","_law_k","_law_name_here","_law_spare"],di⟩
noncomputable def aW:Df:=⟨["_law_rule","_law_world_here","_law_i","_law_j"],["_law_rule","_law_world_here","_law_i","_law_j"],dI⟩
noncomputable def bP:Df:=⟨["_law_rule","_law_world_here","_law_points"],["_law_rule","_law_world_here","_law_points","_law_told","_law_k","_law_i"],fS⟩
noncomputable def bz:Df:=⟨[],[],gr⟩
noncomputable def bj:Df:=⟨["_law_rule","_law_three"],["_law_rule","_law_three"],ee⟩
noncomputable def b7:Df:=⟨["_law_rule"],["_law_rule","_law_bad_here","_law_three","_law_points"],fH⟩
noncomputable def bA:Df:=⟨["_law_flow_here","_law_many"],["_law_flow_here","_law_many","_law_menu"],eY⟩
noncomputable def aX:Df:=⟨["_law_flow_here","_law_marks","_law_backs_here","_law_barred"],["_law_flow_here","_law_marks","_law_backs_here","_law_barred","_law_names_here","_law_ways"],dJ⟩
noncomputable def aF:Df:=⟨["_law_flow_here","_law_marks","_law_ways"],["_law_flow_here","_law_marks","_law_ways","_law_told","_law_k"],cK⟩
noncomputable def bB:Df:=⟨["_law_flow_here"],["_law_flow_here","_law_menu"],eZ⟩
noncomputable def aQ:Df:=⟨["_law_flow_here"],["_law_flow_here","_law_marks","_law_ways","_law_rule","_law_barred","_law_k"],dw⟩
noncomputable def aA:Df:=⟨["_law_flow_here"],["_law_flow_here","_law_menu"],cx⟩
noncomputable def bm:Df:=⟨["_law_backs_here","_law_must","_law_to_one","_law_to_two","_law_between_here"],["_law_backs_here","_law_must","_law_to_one","_law_to_two","_law_between_here","_law_to","_law_pair","_law_x","_law_y","_law_z"],ef⟩
noncomputable def aR:Df:=⟨["_law_flow_here","_law_backs_here","_law_must"],["_law_flow_here","_law_backs_here","_law_must","_law_many","_law_menu","_law_some","_law_numbers","_law_told","_law_k","_law_other","_law_u","_law_v"],bR⟩
noncomputable def aB:Df:=⟨["_law_flow_here"],["_law_flow_here","_law_form","_law_backs_here","_law_must","_law_most","_law_marks","_law_rule","_law_barred","_law_many","_law_at","_law_one","_law_two","_law_between_here","_law_some","_law_first"],cy⟩
noncomputable def bn:Df:=⟨["_law_marks"],["_law_marks","_law_told","_law_i","_law_j"],eg⟩
noncomputable def aJ:Df:=⟨["_law_flow_here"],["_law_flow_here","_law_marks","_law_ways","_law_rule","_law_k","_law_own","_law_free","_law_barred","_law_three"],c8⟩
noncomputable def ar:Df:=⟨["_law_flow_here"],["_law_flow_here","_law_marks","_law_barred"],cm⟩
noncomputable def aK:Df:=⟨["_law_flow_here","_law_rule","_law_many"],["_law_flow_here","_law_rule","_law_many","_law_told","_law_k","_law_mark"],bW⟩
noncomputable def aS:Df:=⟨["_law_flow_here","_law_rule","_law_bad_here","_law_world_here","_law_mark","_law_to"],["_law_flow_here","_law_rule","_law_bad_here","_law_world_here","_law_mark","_law_to","_law_k","_law_left","_law_w","_law_seen","_law_i"],bT⟩
noncomputable def bC:Df:=⟨["_law_flow_here","_law_rule","_law_bad_here","_law_many"],["_law_flow_here","_law_rule","_law_bad_here","_law_many","_law_world_here","_law_k","_law_mark","_law_to"],dj⟩
noncomputable def bD:Df:=⟨["_law_found","_law_due"],["_law_found","_law_due"],bL⟩
noncomputable def bo:Df:=⟨["_law_many","_law_size"],["_law_many","_law_size","_law_told","_law_k"],cM⟩
noncomputable def bp:Df:=⟨["_law_rule","_law_size"],["_law_rule","_law_size","_law_told","_law_k","_law_points","_law_mark"],dz⟩
noncomputable def aY:Df:=⟨["_law_rule"],["_law_rule"],dL⟩
noncomputable def aL:Df:=⟨["_law_flow_here"],["_law_flow_here","_law_form","_law_marks","_law_many","_law_rule"],c9⟩
noncomputable def au:Df:=⟨["_law_bad_here","_law_rule","_law_world_here"],["_law_bad_here","_law_rule","_law_world_here","_law_i","_law_j","_law_k"],bS⟩
noncomputable def bE:Df:=⟨["_law_flow_here","_law_rule","_law_bad_here","_law_size"],["_law_flow_here","_law_rule","_law_bad_here","_law_size","_law_form","_law_world_here","_law_at"],dQ⟩
noncomputable def ik:Df:=⟨["_law_script"],["_law_script","_law_flow_here","_law_rule","_law_bad_here","_law_size","_law_world_here","_law_due"],lf⟩
noncomputable def ko:Jf (JG×Df):=[(("way" : JG),ij),(("part" : JG),fu),(("point_over" : JG),bw),(("longer_orders" : JG),aO),(("barred_threes" : JG),aP),(("three_at" : JG),b6),(("first_barred" : JG),aU),(("first_three" : JG),bh),(("_law_flow" : JG),bM),(("_law_pick" : JG),bN),(("_law_letters" : JG),aV),(("_law_name" : JG),bO),(("_law_names" : JG),bx),(("_law_between" : JG),aW),(("_law_part" : JG),bP),(("_law_turns" : JG),bz),(("_law_figure" : JG),bj),(("_law_bad" : JG),b7),(("_law_backs" : JG),bA),(("_law_rule_of" : JG),aX),(("_law_free_three" : JG),aF),(("_law_sizes" : JG),bB),(("_law_any_rule" : JG),aQ),(("_law_laying_kind" : JG),aA),(("_law_breaks" : JG),bm),(("_law_numbered" : JG),aR),(("_law_laying_rule" : JG),aB),(("_law_rising" : JG),bn),(("_law_free_rule" : JG),aJ),(("_law_one_way_rule" : JG),ar),(("_law_any_world" : JG),aK),(("_law_new_ways" : JG),aS),(("_law_world" : JG),bC),(("_law_alike" : JG),bD),(("_law_digits" : JG),bo),(("_law_worlds" : JG),bp),(("_law_figures" : JG),aY),(("_law_full_rule" : JG),aL),(("_law_first_barred" : JG),au),(("_law_drawn" : JG),bE),(("law" : JG),ik)]
noncomputable def Cm:Jf (JG×Jp):=[(("way" : JG),4),(("part" : JG),3),(("point_over" : JG),4),(("longer_orders" : JG),2),(("barred_threes" : JG),1),(("three_at" : JG),4),(("first_barred" : JG),2),(("first_three" : JG),2),(("_law_flow" : JG),1),(("_law_pick" : JG),2),(("_law_letters" : JG),2),(("_law_name" : JG),2),(("_law_names" : JG),2),(("_law_between" : JG),4),(("_law_part" : JG),3),(("_law_turns" : JG),0),(("_law_figure" : JG),2),(("_law_bad" : JG),1),(("_law_backs" : JG),2),(("_law_rule_of" : JG),4),(("_law_free_three" : JG),3),(("_law_sizes" : JG),1),(("_law_any_rule" : JG),1),(("_law_laying_kind" : JG),1),(("_law_breaks" : JG),5),(("_law_numbered" : JG),3),(("_law_laying_rule" : JG),1),(("_law_rising" : JG),1),(("_law_free_rule" : JG),1),(("_law_one_way_rule" : JG),1),(("_law_any_world" : JG),3),(("_law_new_ways" : JG),6),(("_law_world" : JG),4),(("_law_alike" : JG),2),(("_law_digits" : JG),2),(("_law_worlds" : JG),2),(("_law_figures" : JG),1),(("_law_full_rule" : JG),1),(("_law_first_barred" : JG),3),(("_law_drawn" : JG),4),(("law" : JG),1)]
noncomputable def ET:Jf JG:=["range","len","list","tuple","int","set","sorted","isinstance","bool","str","all","min","enumerate"]
noncomputable def eP:Md:=⟨Cm,ET⟩
theorem EU:bZ eP (ah 1) ij:=by rfl
theorem EV:FnScope ij.N ij.ps (ag (ah 1)):=⟨rfl,rfl,rfl,by decide +kernel,rfl,by decide +kernel,by decide +kernel⟩
theorem Cn:bZ eP (ah 3) fu:=by rfl
theorem Co:FnScope fu.N fu.ps (ag (ah 3)):=⟨rfl,rfl,rfl,by decide +kernel,rfl,by decide +kernel,by decide +kernel⟩
theorem mQ:bZ eP (ah 4) bw:=by rfl
theorem mR:FnScope bw.N bw.ps (ag (ah 4)):=⟨rfl,rfl,rfl,by decide +kernel,rfl,by decide +kernel,by decide +kernel⟩
theorem jN:bZ eP (ah 5) aO:=by rfl
theorem jO:FnScope aO.N aO.ps (ag (ah 5)):=⟨rfl,rfl,rfl,by decide +kernel,rfl,by decide +kernel,by decide +kernel⟩
theorem jP:bZ eP (ah 7) aP:=by rfl
theorem jQ:FnScope aP.N aP.ps (ag (ah 7)):=⟨rfl,rfl,rfl,by decide +kernel,rfl,by decide +kernel,by decide +kernel⟩
theorem rX:bZ eP (ah 8) b6:=by rfl
theorem rY:FnScope b6.N b6.ps (ag (ah 8)):=⟨rfl,rfl,rfl,by decide +kernel,rfl,by decide +kernel,by decide +kernel⟩
theorem kC:bZ eP (ah 9) aU:=by rfl
theorem kD:FnScope aU.N aU.ps (ag (ah 9)):=⟨rfl,rfl,rfl,by decide +kernel,rfl,by decide +kernel,by decide +kernel⟩
theorem l8:bZ eP (ah 10) bh:=by rfl
theorem l9:FnScope bh.N bh.ps (ag (ah 10)):=⟨rfl,rfl,rfl,by decide +kernel,rfl,by decide +kernel,by decide +kernel⟩
theorem pQ:bZ eP (ah 12) bM:=by rfl
theorem pR:FnScope bM.N bM.ps (ag (ah 12)):=⟨rfl,rfl,rfl,by decide +kernel,rfl,by decide +kernel,by decide +kernel⟩
theorem pS:bZ eP (ah 13) bN:=by rfl
theorem pT:FnScope bN.N bN.ps (ag (ah 13)):=⟨rfl,rfl,rfl,by decide +kernel,rfl,by decide +kernel,by decide +kernel⟩
theorem kE:bZ eP (ah 14) aV:=by rfl
theorem kF:FnScope aV.N aV.ps (ag (ah 14)):=⟨rfl,rfl,rfl,by decide +kernel,rfl,by decide +kernel,by decide +kernel⟩
theorem pU:bZ eP (ah 15) bO:=by rfl
theorem pV:FnScope bO.N bO.ps (ag (ah 15)):=⟨rfl,rfl,rfl,by decide +kernel,rfl,by decide +kernel,by decide +kernel⟩
theorem mS:bZ eP (ah 16) bx:=by rfl
theorem mT:FnScope bx.N bx.ps (ag (ah 16)):=⟨rfl,rfl,rfl,by decide +kernel,rfl,by decide +kernel,by decide +kernel⟩
theorem kG:bZ eP (ah 17) aW:=by rfl
theorem kH:FnScope aW.N aW.ps (ag (ah 17)):=⟨rfl,rfl,rfl,by decide +kernel,rfl,by decide +kernel,by decide +kernel⟩
theorem pW:bZ eP (ah 18) bP:=by rfl
theorem pX:FnScope bP.N bP.ps (ag (ah 18)):=⟨rfl,rfl,rfl,by decide +kernel,rfl,by decide +kernel,by decide +kernel⟩
theorem mU:bZ eP (ah 19) bz:=by rfl
theorem mV:FnScope bz.N bz.ps (ag (ah 19)):=⟨rfl,rfl,rfl,by decide +kernel,rfl,by decide +kernel,by decide +kernel⟩
theorem ma:bZ eP (ah 20) bj:=by rfl
theorem md:FnScope bj.N bj.ps (ag (ah 20)):=⟨rfl,rfl,rfl,by decide +kernel,rfl,by decide +kernel,by decide +kernel⟩
theorem rZ:bZ eP (ah 21) b7:=by rfl
theorem r0:FnScope b7.N b7.ps (ag (ah 21)):=⟨rfl,rfl,rfl,by decide +kernel,rfl,by decide +kernel,by decide +kernel⟩
theorem mW:bZ eP (ah 22) bA:=by rfl
theorem mX:FnScope bA.N bA.ps (ag (ah 22)):=⟨rfl,rfl,rfl,by decide +kernel,rfl,by decide +kernel,by decide +kernel⟩
theorem kI:bZ eP (ah 23) aX:=by rfl
theorem kJ:FnScope aX.N aX.ps (ag (ah 23)):=⟨rfl,rfl,rfl,by decide +kernel,rfl,by decide +kernel,by decide +kernel⟩
theorem iF:bZ eP (ah 24) aF:=by rfl
theorem iG:FnScope aF.N aF.ps (ag (ah 24)):=⟨rfl,rfl,rfl,by decide +kernel,rfl,by decide +kernel,by decide +kernel⟩
theorem mY:bZ eP (ah 25) bB:=by rfl
theorem mZ:FnScope bB.N bB.ps (ag (ah 25)):=⟨rfl,rfl,rfl,by decide +kernel,rfl,by decide +kernel,by decide +kernel⟩
theorem jR:bZ eP (ah 26) aQ:=by rfl
theorem jS:FnScope aQ.N aQ.ps (ag (ah 26)):=⟨rfl,rfl,rfl,by decide +kernel,rfl,by decide +kernel,by decide +kernel⟩
theorem gZ:bZ eP (ah 27) aA:=by rfl
theorem g7:FnScope aA.N aA.ps (ag (ah 27)):=⟨rfl,rfl,rfl,by decide +kernel,rfl,by decide +kernel,by decide +kernel⟩
theorem mf:bZ eP (ah 28) bm:=by rfl
theorem mh:FnScope bm.N bm.ps (ag (ah 28)):=⟨rfl,rfl,rfl,by decide +kernel,rfl,by decide +kernel,by decide +kernel⟩
theorem jT:bZ eP (ah 29) aR:=by rfl
theorem jU:FnScope aR.N aR.ps (ag (ah 29)):=⟨rfl,rfl,rfl,by decide +kernel,rfl,by decide +kernel,by decide +kernel⟩
theorem g8:bZ eP (ah 30) aB:=by rfl
theorem g9:FnScope aB.N aB.ps (ag (ah 30)):=⟨rfl,rfl,rfl,by decide +kernel,rfl,by decide +kernel,by decide +kernel⟩
theorem mj:bZ eP (ah 31) bn:=by rfl
theorem mn:FnScope bn.N bn.ps (ag (ah 31)):=⟨rfl,rfl,rfl,by decide +kernel,rfl,by decide +kernel,by decide +kernel⟩
theorem jd:bZ eP (ah 32) aJ:=by rfl
theorem je:FnScope aJ.N aJ.ps (ag (ah 32)):=⟨rfl,rfl,rfl,by decide +kernel,rfl,by decide +kernel,by decide +kernel⟩
theorem gB:bZ eP (ah 33) ar:=by rfl
theorem gC:FnScope ar.N ar.ps (ag (ah 33)):=⟨rfl,rfl,rfl,by decide +kernel,rfl,by decide +kernel,by decide +kernel⟩
theorem jf:bZ eP (ah 34) aK:=by rfl
theorem jg:FnScope aK.N aK.ps (ag (ah 34)):=⟨rfl,rfl,rfl,by decide +kernel,rfl,by decide +kernel,by decide +kernel⟩
theorem jV:bZ eP (ah 35) aS:=by rfl
theorem jW:FnScope aS.N aS.ps (ag (ah 35)):=⟨rfl,rfl,rfl,by decide +kernel,rfl,by decide +kernel,by decide +kernel⟩
theorem nb:bZ eP (ah 36) bC:=by rfl
theorem nh:FnScope bC.N bC.ps (ag (ah 36)):=⟨rfl,rfl,rfl,by decide +kernel,rfl,by decide +kernel,by decide +kernel⟩
theorem ni:bZ eP (ah 37) bD:=by rfl
theorem nj:FnScope bD.N bD.ps (ag (ah 37)):=⟨rfl,rfl,rfl,by decide +kernel,rfl,by decide +kernel,by decide +kernel⟩
theorem mo:bZ eP (ah 38) bo:=by rfl
theorem mq:FnScope bo.N bo.ps (ag (ah 38)):=⟨rfl,rfl,rfl,by decide +kernel,rfl,by decide +kernel,by decide +kernel⟩
theorem mr:bZ eP (ah 39) bp:=by rfl
theorem mw:FnScope bp.N bp.ps (ag (ah 39)):=⟨rfl,rfl,rfl,by decide +kernel,rfl,by decide +kernel,by decide +kernel⟩
theorem kK:bZ eP (ah 40) aY:=by rfl
theorem kL:FnScope aY.N aY.ps (ag (ah 40)):=⟨rfl,rfl,rfl,by decide +kernel,rfl,by decide +kernel,by decide +kernel⟩
theorem jh:bZ eP (ah 41) aL:=by rfl
theorem ji:FnScope aL.N aL.ps (ag (ah 41)):=⟨rfl,rfl,rfl,by decide +kernel,rfl,by decide +kernel,by decide +kernel⟩
theorem gD:bZ eP (ah 42) au:=by rfl
theorem gE:FnScope au.N au.ps (ag (ah 42)):=⟨rfl,rfl,rfl,by decide +kernel,rfl,by decide +kernel,by decide +kernel⟩
theorem nk:bZ eP (ah 43) bE:=by rfl
theorem nq:FnScope bE.N bE.ps (ag (ah 43)):=⟨rfl,rfl,rfl,by decide +kernel,rfl,by decide +kernel,by decide +kernel⟩
theorem Aa:bZ eP (ah 44) ik:=by rfl
theorem Ab:FnScope ik.N ik.ps (ag (ah 44)):=⟨rfl,rfl,rfl,by decide +kernel,rfl,by decide +kernel,by decide +kernel⟩
theorem ak {α:Type}{x y:JG}{n m:α}{L:Jf (JG×α)}(h:((y,m)::L).lookup x=ba n):(x=y/\n=m)\/L.lookup x=ba n:=by
 rw[Lg]at h;split at h
 ·rename_i e;cases h;exact .inl ⟨eq_of_beq e,rfl⟩
 ·exact .inr h
theorem GZ:Lw14 ko:=⟨⟨⟨bN,rfl,rfl,rfl,rfl⟩,⟨aV,rfl,rfl,rfl,rfl⟩,⟨bO,rfl,rfl,rfl,rfl⟩,⟨bx,rfl,rfl,rfl,rfl⟩,⟨aW,rfl,rfl,rfl,rfl⟩,⟨bP,rfl,rfl,rfl,rfl⟩,⟨bz,rfl,rfl,rfl,rfl⟩,⟨bj,rfl,rfl,rfl,rfl⟩,⟨bA,rfl,rfl,rfl,rfl⟩,⟨aX,rfl,rfl,rfl,rfl⟩,⟨aF,rfl,rfl,rfl,rfl⟩,⟨bB,rfl,rfl,rfl,rfl⟩,⟨aQ,rfl,rfl,rfl,rfl⟩,⟨aA,rfl,rfl,rfl,rfl⟩,⟨bm,rfl,rfl,rfl,rfl⟩,⟨aR,rfl,rfl,rfl,rfl⟩,⟨aB,rfl,rfl,rfl,rfl⟩,⟨bn,rfl,rfl,rfl,rfl⟩,⟨aJ,rfl,rfl,rfl,rfl⟩,⟨ar,rfl,rfl,rfl,rfl⟩⟩,⟨⟨bo,rfl,rfl,rfl,rfl⟩,⟨bp,rfl,rfl,rfl,rfl⟩,⟨aY,rfl,rfl,rfl,rfl⟩,⟨aL,rfl,rfl,rfl,rfl⟩⟩,⟨⟨ij,rfl,rfl,rfl,rfl⟩,⟨bw,rfl,rfl,rfl,rfl⟩⟩,⟨fu,rfl,rfl,rfl,rfl⟩,⟨aO,rfl,rfl,rfl,rfl⟩,⟨aP,rfl,rfl,rfl,rfl⟩,⟨b6,rfl,rfl,rfl,rfl⟩,⟨bh,rfl,rfl,rfl,rfl⟩,⟨aU,rfl,rfl,rfl,rfl⟩,⟨bM,rfl,rfl,rfl,rfl⟩,⟨aK,rfl,rfl,rfl,rfl⟩,⟨bD,rfl,rfl,rfl,rfl⟩,⟨b7,rfl,rfl,rfl,rfl⟩,⟨aS,rfl,rfl,rfl,rfl⟩,⟨bC,rfl,rfl,rfl,rfl⟩,⟨bE,rfl,rfl,rfl,rfl⟩,⟨au,rfl,rfl,rfl,rfl⟩,⟨ik,rfl,rfl,rfl,rfl⟩⟩
noncomputable def BD (x:JG)(st:L0)(df:Df):Prop:=∀(kV doc pm:Jh) (an:Jn Jq) (cdv ct:Jh) (us:Jf Jh),us.length=df.ps.length->bindArgs (Lo x x (d4 st) (dq st) (ag st) .none kV doc pm an cdv ct) ⟨us,[]⟩=pure (df.ps.zip us)
theorem Jb {us:Jf Jh}(h:us.length=0):us=[]:=match us,h with|[],_=>rfl
theorem wz {us:Jf Jh}(h:us.length=1):∃a,us=[a]:=match us,h with|[a],_=>⟨a,rfl⟩
theorem wJ {us:Jf Jh}(h:us.length=2):∃a b,us=[a,b]:=match us,h with|[a,b],_=>⟨a,b,rfl⟩
theorem E7 {us:Jf Jh}(h:us.length=3):∃a b c,us=[a,b,c]:=match us,h with|[a,b,c],_=>⟨a,b,c,rfl⟩
theorem EW {us:Jf Jh}(h:us.length=4):∃a b c d,us=[a,b,c,d]:=match us,h with|[a,b,c,d],_=>⟨a,b,c,d,rfl⟩
theorem Jc {us:Jf Jh}(h:us.length=5):∃a b c d e,us=[a,b,c,d,e]:=match us,h with|[a,b,c,d,e],_=>⟨a,b,c,d,e,rfl⟩
theorem Jd {us:Jf Jh}(h:us.length=6):∃a b c d e f,us=[a,b,c,d,e,f]:=match us,h with|[a,b,c,d,e,f],_=>⟨a,b,c,d,e,f,rfl⟩
theorem EX:BD "way" (ah 1) ij:=λ_ _ _ _ _ _ us h=>by
 obtain⟨x0,x1,x2,x3,rfl⟩:=EW h;rfl
theorem Cp:BD "part" (ah 3) fu:=λ_ _ _ _ _ _ us h=>by
 obtain⟨x0,x1,x2,rfl⟩:=E7 h;rfl
theorem nr:BD "point_over" (ah 4) bw:=λ_ _ _ _ _ _ us h=>by
 obtain⟨x0,x1,x2,x3,rfl⟩:=EW h;rfl
theorem jX:BD "longer_orders" (ah 5) aO:=λ_ _ _ _ _ _ us h=>by
 obtain⟨x0,x1,rfl⟩:=wJ h;rfl
theorem jY:BD "barred_threes" (ah 7) aP:=λ_ _ _ _ _ _ us h=>by
 obtain⟨x0,rfl⟩:=wz h;rfl
theorem r4:BD "three_at" (ah 8) b6:=λ_ _ _ _ _ _ us h=>by
 obtain⟨x0,x1,x2,x3,rfl⟩:=EW h;rfl
theorem kM:BD "first_barred" (ah 9) aU:=λ_ _ _ _ _ _ us h=>by
 obtain⟨x0,x1,rfl⟩:=wJ h;rfl
theorem mx:BD "first_three" (ah 10) bh:=λ_ _ _ _ _ _ us h=>by
 obtain⟨x0,x1,rfl⟩:=wJ h;rfl
theorem pY:BD "_law_flow" (ah 12) bM:=λ_ _ _ _ _ _ us h=>by
 obtain⟨x0,rfl⟩:=wz h;rfl
theorem pZ:BD "_law_pick" (ah 13) bN:=λ_ _ _ _ _ _ us h=>by
 obtain⟨x0,x1,rfl⟩:=wJ h;rfl
theorem kN:BD "_law_letters" (ah 14) aV:=λ_ _ _ _ _ _ us h=>by
 obtain⟨x0,x1,rfl⟩:=wJ h;rfl
theorem p4:BD "_law_name" (ah 15) bO:=λ_ _ _ _ _ _ us h=>by
 obtain⟨x0,x1,rfl⟩:=wJ h;rfl
theorem nu:BD "_law_names" (ah 16) bx:=λ_ _ _ _ _ _ us h=>by
 obtain⟨x0,x1,rfl⟩:=wJ h;rfl
theorem kO:BD "_law_between" (ah 17) aW:=λ_ _ _ _ _ _ us h=>by
 obtain⟨x0,x1,x2,x3,rfl⟩:=EW h;rfl
theorem p7:BD "_law_part" (ah 18) bP:=λ_ _ _ _ _ _ us h=>by
 obtain⟨x0,x1,x2,rfl⟩:=E7 h;rfl
theorem nv:BD "_law_turns" (ah 19) bz:=λ_ _ _ _ _ _ us h=>by
 obtain rfl:=Jb h;rfl
theorem my:BD "_law_figure" (ah 20) bj:=λ_ _ _ _ _ _ us h=>by
 obtain⟨x0,x1,rfl⟩:=wJ h;rfl
theorem r6:BD "_law_bad" (ah 21) b7:=λ_ _ _ _ _ _ us h=>by
 obtain⟨x0,rfl⟩:=wz h;rfl
theorem nw:BD "_law_backs" (ah 22) bA:=λ_ _ _ _ _ _ us h=>by
 obtain⟨x0,x1,rfl⟩:=wJ h;rfl
theorem kP:BD "_law_rule_of" (ah 23) aX:=λ_ _ _ _ _ _ us h=>by
 obtain⟨x0,x1,x2,x3,rfl⟩:=EW h;rfl
theorem iH:BD "_law_free_three" (ah 24) aF:=λ_ _ _ _ _ _ us h=>by
 obtain⟨x0,x1,x2,rfl⟩:=E7 h;rfl
theorem ny:BD "_law_sizes" (ah 25) bB:=λ_ _ _ _ _ _ us h=>by
 obtain⟨x0,rfl⟩:=wz h;rfl
theorem jZ:BD "_law_any_rule" (ah 26) aQ:=λ_ _ _ _ _ _ us h=>by
 obtain⟨x0,rfl⟩:=wz h;rfl
theorem hG:BD "_law_laying_kind" (ah 27) aA:=λ_ _ _ _ _ _ us h=>by
 obtain⟨x0,rfl⟩:=wz h;rfl
theorem mz:BD "_law_breaks" (ah 28) bm:=λ_ _ _ _ _ _ us h=>by
 obtain⟨x0,x1,x2,x3,x4,rfl⟩:=Jc h;rfl
theorem j3:BD "_law_numbered" (ah 29) aR:=λ_ _ _ _ _ _ us h=>by
 obtain⟨x0,x1,x2,rfl⟩:=E7 h;rfl
theorem hW:BD "_law_laying_rule" (ah 30) aB:=λ_ _ _ _ _ _ us h=>by
 obtain⟨x0,rfl⟩:=wz h;rfl
theorem mB:BD "_law_rising" (ah 31) bn:=λ_ _ _ _ _ _ us h=>by
 obtain⟨x0,rfl⟩:=wz h;rfl
theorem jj:BD "_law_free_rule" (ah 32) aJ:=λ_ _ _ _ _ _ us h=>by
 obtain⟨x0,rfl⟩:=wz h;rfl
theorem gF:BD "_law_one_way_rule" (ah 33) ar:=λ_ _ _ _ _ _ us h=>by
 obtain⟨x0,rfl⟩:=wz h;rfl
theorem jk:BD "_law_any_world" (ah 34) aK:=λ_ _ _ _ _ _ us h=>by
 obtain⟨x0,x1,x2,rfl⟩:=E7 h;rfl
theorem j4:BD "_law_new_ways" (ah 35) aS:=λ_ _ _ _ _ _ us h=>by
 obtain⟨x0,x1,x2,x3,x4,x5,rfl⟩:=Jd h;rfl
theorem nz:BD "_law_world" (ah 36) bC:=λ_ _ _ _ _ _ us h=>by
 obtain⟨x0,x1,x2,x3,rfl⟩:=EW h;rfl
theorem nA:BD "_law_alike" (ah 37) bD:=λ_ _ _ _ _ _ us h=>by
 obtain⟨x0,x1,rfl⟩:=wJ h;rfl
theorem mC:BD "_law_digits" (ah 38) bo:=λ_ _ _ _ _ _ us h=>by
 obtain⟨x0,x1,rfl⟩:=wJ h;rfl
theorem mD:BD "_law_worlds" (ah 39) bp:=λ_ _ _ _ _ _ us h=>by
 obtain⟨x0,x1,rfl⟩:=wJ h;rfl
theorem kQ:BD "_law_figures" (ah 40) aY:=λ_ _ _ _ _ _ us h=>by
 obtain⟨x0,rfl⟩:=wz h;rfl
theorem jl:BD "_law_full_rule" (ah 41) aL:=λ_ _ _ _ _ _ us h=>by
 obtain⟨x0,rfl⟩:=wz h;rfl
theorem gG:BD "_law_first_barred" (ah 42) au:=λ_ _ _ _ _ _ us h=>by
 obtain⟨x0,x1,x2,rfl⟩:=E7 h;rfl
theorem nB:BD "_law_drawn" (ah 43) bE:=λ_ _ _ _ _ _ us h=>by
 obtain⟨x0,x1,x2,x3,rfl⟩:=EW h;rfl
theorem EY:BD "law" (ah 44) ik:=λ_ _ _ _ _ _ us h=>by
 obtain⟨x0,rfl⟩:=wz h;rfl
section
variable{P:JY}{w:J6}{K:Jv}{mg:JG->Jn Jh}{base:Kg}
noncomputable def al (K:Jv)(mg:JG->Jn Jh)(x:JG)(st:L0)(df:Df):Prop:=∃(f:Jq) (fd:LL),Fun K x x st f fd/\mg x=ba (.ref f)/\KZ K (.ref f)=true/\Binds K fd df.ps []
theorem Ac {h:Kg}{x:JG}{st:L0}{df:Df}{f:Jq}{oc:Jh}{od an:Jn Jq}{osl:JV (Jn Jh)}{kV doc pm cdv ct:Jh}(X:K.In h)(G:h.Ns mainGlobals mg)
  (b:BD x st df)
  (a:KS K mainGlobals x=ba (ba (.ref f))) (l:K.lookup f=ba ⟨oc,od,.func (Lo x x (d4 st) (dq st) (ag st) .none kV doc pm an cdv ct),osl⟩) (c:Mq K cdv x=true) (k:KZ K (.ref f)=true):al K mg x st df:=
 have F:=xu (st:=st) l c k
 ⟨f,_,F,Rr X G a,k,F.binds b⟩
theorem Ad {fuel:Jp}(hb:MdOk w K mg eP)(D:∀x n,Cm.lookup x=ba n->∃st df,ko.lookup x=ba df/\df.ps.length=n/\FnScope df.N df.ps (ag st)/\bZ eP st df/\al K mg x st df):∀d,CF P w K mg base eP ko fuel d
 | 0=>λf n h=>by
  obtain⟨st,df,h1,h2,h3,h4,fa,fd,F,m,kp,b⟩:=D f n h;refine⟨fa,fd,df.ps,⟨λvs H Q E z=>?_,λA outer s H args us vs Q E hr he hbd hv z=>?_⟩,m,kp,b⟩
  all_goals
   obtain⟨_,_,_,_,_,_,_,_,z,_⟩:=z;cases z
 | d+1=>λf n h=>by
  obtain⟨st,df,h1,h2,h3,h4,fa,fd,F,m,kp,b⟩:=D f n h;refine⟨fa,fd,df.ps,?_,m,kp,b⟩;rw[<- h2];exact CG F h3 h1 h4 hb (Ad hb D d)
theorem G0 (D1:al K mg "way" (ah 1) ij)(D3:al K mg "part" (ah 3) fu)(D4:al K mg "point_over" (ah 4) bw)(D5:al K mg "longer_orders" (ah 5) aO)(D7:al K mg "barred_threes" (ah 7) aP)(D8:al K mg "three_at" (ah 8) b6)(D9:al K mg "first_barred" (ah 9) aU)(D10:al K mg "first_three" (ah 10) bh)(D12:al K mg "_law_flow" (ah 12) bM)(D13:al K mg "_law_pick" (ah 13) bN)(D14:al K mg "_law_letters" (ah 14) aV)(D15:al K mg "_law_name" (ah 15) bO)(D16:al K mg "_law_names" (ah 16) bx)(D17:al K mg "_law_between" (ah 17) aW)(D18:al K mg "_law_part" (ah 18) bP)(D19:al K mg "_law_turns" (ah 19) bz)(D20:al K mg "_law_figure" (ah 20) bj)(D21:al K mg "_law_bad" (ah 21) b7)(D22:al K mg "_law_backs" (ah 22) bA)(D23:al K mg "_law_rule_of" (ah 23) aX)(D24:al K mg "_law_free_three" (ah 24) aF)(D25:al K mg "_law_sizes" (ah 25) bB)(D26:al K mg "_law_any_rule" (ah 26) aQ)(D27:al K mg "_law_laying_kind" (ah 27) aA)(D28:al K mg "_law_breaks" (ah 28) bm)(D29:al K mg "_law_numbered" (ah 29) aR)(D30:al K mg "_law_laying_rule" (ah 30) aB)(D31:al K mg "_law_rising" (ah 31) bn)(D32:al K mg "_law_free_rule" (ah 32) aJ)(D33:al K mg "_law_one_way_rule" (ah 33) ar)(D34:al K mg "_law_any_world" (ah 34) aK)(D35:al K mg "_law_new_ways" (ah 35) aS)(D36:al K mg "_law_world" (ah 36) bC)(D37:al K mg "_law_alike" (ah 37) bD)(D38:al K mg "_law_digits" (ah 38) bo)(D39:al K mg "_law_worlds" (ah 39) bp)(D40:al K mg "_law_figures" (ah 40) aY)(D41:al K mg "_law_full_rule" (ah 41) aL)(D42:al K mg "_law_first_barred" (ah 42) au)(D43:al K mg "_law_drawn" (ah 43) bE)(D44:al K mg "law" (ah 44) ik):∀x n,Cm.lookup x=ba n->∃st df,ko.lookup x=ba df/\df.ps.length=n/\FnScope df.N df.ps (ag st)/\bZ eP st df/\al K mg x st df:=by
 intro x n h;unfold Cm at h;rcases ak h with⟨rfl,rfl⟩|h
 ·exact⟨ah 1,ij,by rfl,rfl,EV,EU,D1⟩
 rcases ak h with⟨rfl,rfl⟩|h
 ·exact⟨ah 3,fu,by rfl,rfl,Co,Cn,D3⟩
 rcases ak h with⟨rfl,rfl⟩|h
 ·exact⟨ah 4,bw,by rfl,rfl,mR,mQ,D4⟩
 rcases ak h with⟨rfl,rfl⟩|h
 ·exact⟨ah 5,aO,by rfl,rfl,jO,jN,D5⟩
 rcases ak h with⟨rfl,rfl⟩|h
 ·exact⟨ah 7,aP,by rfl,rfl,jQ,jP,D7⟩
 rcases ak h with⟨rfl,rfl⟩|h
 ·exact⟨ah 8,b6,by rfl,rfl,rY,rX,D8⟩
 rcases ak h with⟨rfl,rfl⟩|h
 ·exact⟨ah 9,aU,by rfl,rfl,kD,kC,D9⟩
 rcases ak h with⟨rfl,rfl⟩|h
 ·exact⟨ah 10,bh,by rfl,rfl,l9,l8,D10⟩
 rcases ak h with⟨rfl,rfl⟩|h
 ·exact⟨ah 12,bM,by rfl,rfl,pR,pQ,D12⟩
 rcases ak h with⟨rfl,rfl⟩|h
 ·exact⟨ah 13,bN,by rfl,rfl,pT,pS,D13⟩
 rcases ak h with⟨rfl,rfl⟩|h
 ·exact⟨ah 14,aV,by rfl,rfl,kF,kE,D14⟩
 rcases ak h with⟨rfl,rfl⟩|h
 ·exact⟨ah 15,bO,by rfl,rfl,pV,pU,D15⟩
 rcases ak h with⟨rfl,rfl⟩|h
 ·exact⟨ah 16,bx,by rfl,rfl,mT,mS,D16⟩
 rcases ak h with⟨rfl,rfl⟩|h
 ·exact⟨ah 17,aW,by rfl,rfl,kH,kG,D17⟩
 rcases ak h with⟨rfl,rfl⟩|h
 ·exact⟨ah 18,bP,by rfl,rfl,pX,pW,D18⟩
 rcases ak h with⟨rfl,rfl⟩|h
 ·exact⟨ah 19,bz,by rfl,rfl,mV,mU,D19⟩
 rcases ak h with⟨rfl,rfl⟩|h
 ·exact⟨ah 20,bj,by rfl,rfl,md,ma,D20⟩
 rcases ak h with⟨rfl,rfl⟩|h
 ·exact⟨ah 21,b7,by rfl,rfl,r0,rZ,D21⟩
 rcases ak h with⟨rfl,rfl⟩|h
 ·exact⟨ah 22,bA,by rfl,rfl,mX,mW,D22⟩
 rcases ak h with⟨rfl,rfl⟩|h
 ·exact⟨ah 23,aX,by rfl,rfl,kJ,kI,D23⟩
 rcases ak h with⟨rfl,rfl⟩|h
 ·exact⟨ah 24,aF,by rfl,rfl,iG,iF,D24⟩
 rcases ak h with⟨rfl,rfl⟩|h
 ·exact⟨ah 25,bB,by rfl,rfl,mZ,mY,D25⟩
 rcases ak h with⟨rfl,rfl⟩|h
 ·exact⟨ah 26,aQ,by rfl,rfl,jS,jR,D26⟩
 rcases ak h with⟨rfl,rfl⟩|h
 ·exact⟨ah 27,aA,by rfl,rfl,g7,gZ,D27⟩
 rcases ak h with⟨rfl,rfl⟩|h
 ·exact⟨ah 28,bm,by rfl,rfl,mh,mf,D28⟩
 rcases ak h with⟨rfl,rfl⟩|h
 ·exact⟨ah 29,aR,by rfl,rfl,jU,jT,D29⟩
 rcases ak h with⟨rfl,rfl⟩|h
 ·exact⟨ah 30,aB,by rfl,rfl,g9,g8,D30⟩
 rcases ak h with⟨rfl,rfl⟩|h
 ·exact⟨ah 31,bn,by rfl,rfl,mn,mj,D31⟩
 rcases ak h with⟨rfl,rfl⟩|h
 ·exact⟨ah 32,aJ,by rfl,rfl,je,jd,D32⟩
 rcases ak h with⟨rfl,rfl⟩|h
 ·exact⟨ah 33,ar,by rfl,rfl,gC,gB,D33⟩
 rcases ak h with⟨rfl,rfl⟩|h
 ·exact⟨ah 34,aK,by rfl,rfl,jg,jf,D34⟩
 rcases ak h with⟨rfl,rfl⟩|h
 ·exact⟨ah 35,aS,by rfl,rfl,jW,jV,D35⟩
 rcases ak h with⟨rfl,rfl⟩|h
 ·exact⟨ah 36,bC,by rfl,rfl,nh,nb,D36⟩
 rcases ak h with⟨rfl,rfl⟩|h
 ·exact⟨ah 37,bD,by rfl,rfl,nj,ni,D37⟩
 rcases ak h with⟨rfl,rfl⟩|h
 ·exact⟨ah 38,bo,by rfl,rfl,mq,mo,D38⟩
 rcases ak h with⟨rfl,rfl⟩|h
 ·exact⟨ah 39,bp,by rfl,rfl,mw,mr,D39⟩
 rcases ak h with⟨rfl,rfl⟩|h
 ·exact⟨ah 40,aY,by rfl,rfl,kL,kK,D40⟩
 rcases ak h with⟨rfl,rfl⟩|h
 ·exact⟨ah 41,aL,by rfl,rfl,ji,jh,D41⟩
 rcases ak h with⟨rfl,rfl⟩|h
 ·exact⟨ah 42,au,by rfl,rfl,gE,gD,D42⟩
 rcases ak h with⟨rfl,rfl⟩|h
 ·exact⟨ah 43,bE,by rfl,rfl,nq,nk,D43⟩
 rcases ak h with⟨rfl,rfl⟩|h
 ·exact⟨ah 44,ik,by rfl,rfl,Ab,Aa,D44⟩
 cases h
theorem G1 {h:Kg}(X:K.In h)(G:h.Ns mainGlobals mg)(z0:KS K mainGlobals "range" = ba gV)(z1:KS K mainGlobals "len" = ba gV)(z2:KS K mainGlobals "list" = ba gV)(z3:KS K mainGlobals "tuple" = ba gV)(z4:KS K mainGlobals "int" = ba gV)(z5:KS K mainGlobals "set" = ba gV)(z6:KS K mainGlobals "sorted" = ba gV)(z7:KS K mainGlobals "isinstance" = ba gV)(z8:KS K mainGlobals "bool" = ba gV)(z9:KS K mainGlobals "str" = ba gV)(z10:KS K mainGlobals "all" = ba gV)(z11:KS K mainGlobals "min" = ba gV)(z12:KS K mainGlobals "enumerate" = ba gV):MdOk w K mg eP:=by
 refine⟨?_⟩;show ∀y∈ET,mg y=gV;intro y hy;unfold ET at hy;simp only[JP,Kl,Lu]at hy;rcases hy with rfl|rfl|rfl|rfl|rfl|rfl|rfl|rfl|rfl|rfl|rfl|rfl|rfl
 ·exact KC X G z0
 ·exact KC X G z1
 ·exact KC X G z2
 ·exact KC X G z3
 ·exact KC X G z4
 ·exact KC X G z5
 ·exact KC X G z6
 ·exact KC X G z7
 ·exact KC X G z8
 ·exact KC X G z9
 ·exact KC X G z10
 ·exact KC X G z11
 ·exact KC X G z12
end
theorem EZ {l:Ou}{w:J6}{K:Jv}{h:Kg}{mg:JG->Jn Jh}{fa f:Jq}(X:K.In h)(G:h.Ns mainGlobals mg)(hfa:mg "law" = ba (.ref fa))(hb:MdOk w K mg eP)
  (D1:al K mg "way" (ah 1) ij) (D3:al K mg "part" (ah 3) fu) (D4:al K mg "point_over" (ah 4) bw) (D5:al K mg "longer_orders" (ah 5) aO) (D7:al K mg "barred_threes" (ah 7) aP) (D8:al K mg "three_at" (ah 8) b6) (D9:al K mg "first_barred" (ah 9) aU) (D10:al K mg "first_three" (ah 10) bh) (D12:al K mg "_law_flow" (ah 12) bM) (D13:al K mg "_law_pick" (ah 13) bN) (D14:al K mg "_law_letters" (ah 14) aV) (D15:al K mg "_law_name" (ah 15) bO) (D16:al K mg "_law_names" (ah 16) bx) (D17:al K mg "_law_between" (ah 17) aW) (D18:al K mg "_law_part" (ah 18) bP) (D19:al K mg "_law_turns" (ah 19) bz) (D20:al K mg "_law_figure" (ah 20) bj) (D21:al K mg "_law_bad" (ah 21) b7) (D22:al K mg "_law_backs" (ah 22) bA) (D23:al K mg "_law_rule_of" (ah 23) aX) (D24:al K mg "_law_free_three" (ah 24) aF) (D25:al K mg "_law_sizes" (ah 25) bB) (D26:al K mg "_law_any_rule" (ah 26) aQ) (D27:al K mg "_law_laying_kind" (ah 27) aA) (D28:al K mg "_law_breaks" (ah 28) bm) (D29:al K mg "_law_numbered" (ah 29) aR) (D30:al K mg "_law_laying_rule" (ah 30) aB) (D31:al K mg "_law_rising" (ah 31) bn) (D32:al K mg "_law_free_rule" (ah 32) aJ) (D33:al K mg "_law_one_way_rule" (ah 33) ar) (D34:al K mg "_law_any_world" (ah 34) aK) (D35:al K mg "_law_new_ways" (ah 35) aS) (D36:al K mg "_law_world" (ah 36) bC) (D37:al K mg "_law_alike" (ah 37) bD) (D38:al K mg "_law_digits" (ah 38) bo) (D39:al K mg "_law_worlds" (ah 39) bp) (D40:al K mg "_law_figures" (ah 40) aY) (D41:al K mg "_law_full_rule" (ah 41) aL) (D42:al K mg "_law_first_barred" (ah 42) au) (D43:al K mg "_law_drawn" (ah 43) bE)
  {oc:Jh} {od an:Jn Jq} {osl:JV (Jn Jh)} {kV doc pm cdv ct:Jh} (a:KS K mainGlobals "law" = ba (ba (.ref f))) (l':K.lookup f=ba ⟨oc,od,.func (Lo "law" "law" (d4 (ah 44)) (dq (ah 44)) (ag (ah 44)) .none kV doc pm an cdv ct),osl⟩) (c:Mq K cdv "law" = true) (k:KZ K (.ref f)=true) :
  ∃fd:LL,(∀(s:Jk) (v:Jh),PJ s fd ⟨[v],[]⟩ [("_law_script",v)])/\∀base:Kg,K.In base->base.Ns mainGlobals mg->FnOk l.prog w K mg base wF 9 fa fd ["_law_script"] (yw w K 1 (ap ko 100 9 "law")):=by
 have e:=hfa.symm.trans (Rr X G a);cases e;have D44:al K mg "law" (ah 44) ik:=Ac X G EY a l' c k;have F:=xu (st:=ah 44) l' c k;exact⟨Lo "law" "law" (d4 (ah 44)) (dq (ah 44)) (ag (ah 44)) .none kV doc pm an cdv ct,λs v=>.of_eq rfl,λbase _ _=>CG (df:=ik) F Ab (by rfl) Aa hb (Ad hb (G0 D1 D3 D4 D5 D7 D8 D9 D10 D12 D13 D14 D15 D16 D17 D18 D19 D20 D21 D22 D23 D24 D25 D26 D27 D28 D29 D30 D31 D32 D33 D34 D35 D36 D37 D38 D39 D40 D41 D42 D43 D44) 8)⟩
theorem IH {l:Ou}{q:JY}{loose:Jf JG}{XP:(JG->Jn Jh)->Kg->Prop}{YP:J6->Kg->Prop}{d:DefRec}{K:QR->Jv}(hn:l.most=ba 63)(hdf:d.params.defaults=[])
  (hY:∀(w:J6) (h:Kg),YP w h->(K w.params).In h)
  (F:∀(w:J6) (mg:JG->Jn Jh) (fa:Jq) (h:Kg),(K w.params).In h->h.Ns mainGlobals mg->mg d.name=ba (.ref fa)->
   ∃fd:LL,(∀(s:Jk) (u:Jh),PJ s fd ⟨[u],[]⟩ [("_law_script",u)])/\∀base:Kg,(K w.params).In base->base.Ns mainGlobals mg->FnOk l.prog w (K w.params) mg base wF 9 fa fd ["_law_script"] (yw w (K w.params) 1 (ap ko 100 9 "law"))) :
  Ri q loose XP YP l.row.toRowW d [] (λf vs=>QS f vs):=
 L2.AH (n:=63) (k:=9) (x:="_law_script") (CX:=λ_=>wF) (sp:=λw=>yw w (K w.params) 1 (ap ko 100 9 "law")) hn (by decide) hdf ⟨rfl,by decide,by decide⟩ hY F
  (λw H a ns hl hO hS=>Ej (zZ (defs:=ko) (fuel:=100) (d:=0) (by decide) GZ) hO hS) λ_ _ _ _ _ z=>z
end Mi
open PySem PySem.W PyProof.Rows L2
set_option maxHeartbeats 0
namespace Mi
section
noncomputable def pw:JY:=Nl
noncomputable def ge (P:QR)(n:JG)(t:Jp)(v:Jh):LA:=⟨PyData.keyHash P n,.str n t,v⟩
noncomputable def kd (a:Jp)(es:Jf LA)(n:Jp):Jq×K2:=(a,⟨.type "dict",gV,.dict es.toArray n,#[]⟩)
noncomputable def kt (a:Jp)(c:Jh)(vs:Jf Jh)(n:Jp):Jq×K2:=(a,⟨c,gV,.seq vs.toArray n,#[]⟩)
noncomputable def kc (a:Jp)(vs:Jf Jh):Jq×K2:=(a,⟨.type "code",gV,.fields vs.toArray,#[]⟩)
noncomputable def kf (a:Jp)(st:L0)(n:JG)(pm cd:Jh):Jq×K2:=(a,⟨.type "function",gV,.func (Lo n n (d4 st) (dq st) (ag st) .none .none .none pm gV cd .none),#[]⟩)
noncomputable def K0 (P:QR):Jv:=[kd 3 [ge P "__name__" 165 (.str "law_layworld_k14_the_first_barred_three" 263),ge P "__doc__" 166 .none,ge P "__package__" 167 .none,ge P "__loader__" 168 (.builtin "__main__.__loader__#opaque"),ge P "__spec__" 169 .none,ge P "__annotations__" 170 (.ref 6),ge P "__builtins__" 171 (.ref 4),ge P "__file__" 173 (.str "/claim/cut.py" 172),ge P "__cached__" 174 .none,ge P "way" 198 (.ref 21),ge P "part" 206 (.ref 26),ge P "point_over" 212 (.ref 31),ge P "longer_orders" 218 (.ref 36),ge P "barred_threes" 231 (.ref 43),ge P "three_at" 243 (.ref 50),ge P "first_barred" 251 (.ref 57),ge P "first_three" 262 (.ref 64),ge P "_law_flow" 271 (.ref 71),ge P "_law_pick" 281 (.ref 78),ge P "_law_letters" 287 (.ref 83),ge P "_law_name" 296 (.ref 90),ge P "_law_names" 309 (.ref 97),ge P "_law_between" 319 (.ref 104),ge P "_law_part" 325 (.ref 109),ge P "_law_turns" 331 (.ref 116),ge P "_law_figure" 337 (.ref 121),ge P "_law_bad" 347 (.ref 128),ge P "_law_backs" 356 (.ref 135),ge P "_law_rule_of" 362 (.ref 140),ge P "_law_free_three" 368 (.ref 145),ge P "_law_sizes" 376 (.ref 152),ge P "_law_any_rule" 388 (.ref 159),ge P "_law_laying_kind" 396 (.ref 166),ge P "_law_breaks" 412 (.ref 173),ge P "_law_numbered" 418 (.ref 178),ge P "_law_laying_rule" 439 (.ref 185),ge P "_law_rising" 445 (.ref 190),ge P "_law_free_rule" 451 (.ref 195),ge P "_law_one_way_rule" 457 (.ref 200),ge P "_law_any_world" 463 (.ref 205),ge P "_law_new_ways" 480 (.ref 212),ge P "_law_world" 494 (.ref 219),ge P "_law_alike" 500 (.ref 224),ge P "_law_digits" 506 (.ref 229),ge P "_law_worlds" 512 (.ref 234),ge P "_law_figures" 518 (.ref 239),ge P "_law_full_rule" 524 (.ref 244),ge P "_law_first_barred" 536 (.ref 251),ge P "_law_drawn" 549 (.ref 258),ge P "law" 562 (.ref 265)] 50,
 kc 20 [(.str "way" 189),(.str "way" 190),(.str "/claim/cut.py" 191),(.int 2 0),(.int 4 0),(.int 0 0),(.int 0 0),(.int 3 0),(.ref 15),(.bool true),(.int 181 0),(.ref 16),.none,(.ref 17),(.ref 18),(.ref 19),(.int 196 0),(.int 2 0),(.str "/claim/cut.py" 197)],
 kf 21 (ah 1) "way" (.str "layworld.worlds" 187) (.ref 20),
 kc 25 [(.str "part" 201),(.str "part" 202),(.str "/claim/cut.py" 203),(.int 7 0),(.int 3 0),(.int 0 0),(.int 0 0),(.int 3 0),(.ref 22),(.bool true),(.int 181 0),(.ref 23),.none,.none,.none,(.ref 24),(.int 204 0),(.int 7 0),(.str "/claim/cut.py" 205)],
 kf 26 (ah 3) "part" (.str "layworld.parts" 199) (.ref 25),
 kc 30 [(.str "point_over" 207),(.str "point_over" 208),(.str "/claim/cut.py" 209),(.int 9 0),(.int 4 0),(.int 0 0),(.int 0 0),(.int 3 0),(.ref 27),(.bool true),(.int 181 0),(.ref 28),.none,.none,.none,(.ref 29),(.int 210 0),(.int 9 0),(.str "/claim/cut.py" 211)],
 kf 31 (ah 4) "point_over" (.str "layworld.parts" 199) (.ref 30),
 kc 35 [(.str "longer_orders" 213),(.str "longer_orders" 214),(.str "/claim/cut.py" 215),(.int 11 0),(.int 2 0),(.int 0 0),(.int 0 0),(.int 3 0),(.ref 32),(.bool true),(.int 181 0),(.ref 33),.none,.none,.none,(.ref 34),(.int 216 0),(.int 11 0),(.str "/claim/cut.py" 217)],
 kf 36 (ah 5) "longer_orders" (.str "layworld.parts" 199) (.ref 35),
 kc 42 [(.str "barred_threes" 221),(.str "barred_threes" 222),(.str "/claim/cut.py" 223),(.int 17 0),(.int 1 0),(.int 0 0),(.int 0 0),(.int 3 0),(.ref 37),(.bool true),(.int 181 0),(.ref 38),.none,(.ref 39),(.ref 40),(.ref 41),(.int 229 0),(.int 17 0),(.str "/claim/cut.py" 230)],
 kf 43 (ah 7) "barred_threes" (.str "layworld.threes" 219) (.ref 42),
 kc 49 [(.str "three_at" 232),(.str "three_at" 233),(.str "/claim/cut.py" 234),(.int 26 0),(.int 4 0),(.int 0 0),(.int 0 0),(.int 3 0),(.ref 44),(.bool true),(.int 181 0),(.ref 45),.none,(.ref 46),(.ref 47),(.ref 48),(.int 241 0),(.int 26 0),(.str "/claim/cut.py" 242)],
 kf 50 (ah 8) "three_at" (.str "layworld.threes" 219) (.ref 49),
 kc 56 [(.str "first_barred" 244),(.str "first_barred" 245),(.str "/claim/cut.py" 246),(.int 30 0),(.int 2 0),(.int 0 0),(.int 0 0),(.int 3 0),(.ref 51),(.bool true),(.int 181 0),(.ref 52),.none,(.ref 53),(.ref 54),(.ref 55),(.int 249 0),(.int 30 0),(.str "/claim/cut.py" 250)],
 kf 57 (ah 9) "first_barred" (.str "layworld.threes" 219) (.ref 56),
 kc 63 [(.str "first_three" 252),(.str "first_three" 253),(.str "/claim/cut.py" 254),(.int 32 0),(.int 2 0),(.int 0 0),(.int 0 0),(.int 3 0),(.ref 58),(.bool true),(.int 181 0),(.ref 59),.none,(.ref 60),(.ref 61),(.ref 62),(.int 260 0),(.int 32 0),(.str "/claim/cut.py" 261)],
 kf 64 (ah 10) "first_three" (.str "layworld.threes" 219) (.ref 63),
 kc 70 [(.str "_law_flow" 265),(.str "_law_flow" 266),(.str "/claim/cut.py" 267),(.int 40 0),(.int 1 0),(.int 0 0),(.int 0 0),(.int 3 0),(.ref 65),(.bool true),(.int 181 0),(.ref 66),.none,(.ref 67),(.ref 68),(.ref 69),(.int 269 0),(.int 40 0),(.str "/claim/cut.py" 270)],
 kf 71 (ah 12) "_law_flow" (.str "law_layworld_k14_the_first_barred_three" 263) (.ref 70),
 kc 77 [(.str "_law_pick" 272),(.str "_law_pick" 273),(.str "/claim/cut.py" 274),(.int 42 0),(.int 2 0),(.int 0 0),(.int 0 0),(.int 3 0),(.ref 72),(.bool true),(.int 181 0),(.ref 73),.none,(.ref 74),(.ref 75),(.ref 76),(.int 279 0),(.int 42 0),(.str "/claim/cut.py" 280)],
 kf 78 (ah 13) "_law_pick" (.str "law_layworld_k14_the_first_barred_three" 263) (.ref 77),
 kc 82 [(.str "_law_letters" 282),(.str "_law_letters" 283),(.str "/claim/cut.py" 284),(.int 57 0),(.int 2 0),(.int 0 0),(.int 0 0),(.int 3 0),(.ref 79),(.bool true),(.int 181 0),(.ref 80),.none,.none,.none,(.ref 81),(.int 285 0),(.int 57 0),(.str "/claim/cut.py" 286)],
 kf 83 (ah 14) "_law_letters" (.str "law_layworld_k14_the_first_barred_three" 263) (.ref 82),
 kc 89 [(.str "_law_name" 288),(.str "_law_name" 289),(.str "/claim/cut.py" 290),(.int 59 0),(.int 2 0),(.int 0 0),(.int 0 0),(.int 3 0),(.ref 84),(.bool true),(.int 181 0),(.ref 85),.none,(.ref 86),(.ref 87),(.ref 88),(.int 294 0),(.int 59 0),(.str "/claim/cut.py" 295)],
 kf 90 (ah 15) "_law_name" (.str "law_layworld_k14_the_first_barred_three" 263) (.ref 89),
 kc 96 [(.str "_law_names" 297),(.str "_law_names" 298),(.str "/claim/cut.py" 299),(.int 67 0),(.int 2 0),(.int 0 0),(.int 0 0),(.int 3 0),(.ref 91),(.bool true),(.int 181 0),(.ref 92),.none,(.ref 93),(.ref 94),(.ref 95),(.int 307 0),(.int 67 0),(.str "/claim/cut.py" 308)],
 kf 97 (ah 16) "_law_names" (.str "law_layworld_k14_the_first_barred_three" 263) (.ref 96),
 kc 103 [(.str "_law_between" 310),(.str "_law_between" 311),(.str "/claim/cut.py" 312),(.int 80 0),(.int 4 0),(.int 0 0),(.int 0 0),(.int 3 0),(.ref 98),(.bool true),(.int 181 0),(.ref 99),.none,(.ref 100),(.ref 101),(.ref 102),(.int 317 0),(.int 80 0),(.str "/claim/cut.py" 318)],
 kf 104 (ah 17) "_law_between" (.str "law_layworld_k14_the_first_barred_three" 263) (.ref 103),
 kc 108 [(.str "_law_part" 320),(.str "_law_part" 321),(.str "/claim/cut.py" 322),(.int 84 0),(.int 3 0),(.int 0 0),(.int 0 0),(.int 3 0),(.ref 105),(.bool true),(.int 181 0),(.ref 106),.none,.none,.none,(.ref 107),(.int 323 0),(.int 84 0),(.str "/claim/cut.py" 324)],
 kf 109 (ah 18) "_law_part" (.str "law_layworld_k14_the_first_barred_three" 263) (.ref 108),
 kc 115 [(.str "_law_turns" 326),(.str "_law_turns" 327),(.str "/claim/cut.py" 328),(.int 90 0),(.int 0 0),(.int 0 0),(.int 0 0),(.int 3 0),(.ref 110),(.bool true),(.int 181 0),(.ref 111),.none,(.ref 112),(.ref 113),(.ref 114),(.int 329 0),(.int 90 0),(.str "/claim/cut.py" 330)],
 kf 116 (ah 19) "_law_turns" (.str "law_layworld_k14_the_first_barred_three" 263) (.ref 115),
 kc 120 [(.str "_law_figure" 332),(.str "_law_figure" 333),(.str "/claim/cut.py" 334),(.int 92 0),(.int 2 0),(.int 0 0),(.int 0 0),(.int 3 0),(.ref 117),(.bool true),(.int 181 0),(.ref 118),.none,.none,.none,(.ref 119),(.int 335 0),(.int 92 0),(.str "/claim/cut.py" 336)],
 kf 121 (ah 20) "_law_figure" (.str "law_layworld_k14_the_first_barred_three" 263) (.ref 120),
 kc 127 [(.str "_law_bad" 338),(.str "_law_bad" 339),(.str "/claim/cut.py" 340),(.int 94 0),(.int 1 0),(.int 0 0),(.int 0 0),(.int 3 0),(.ref 122),(.bool true),(.int 181 0),(.ref 123),.none,(.ref 124),(.ref 125),(.ref 126),(.int 345 0),(.int 94 0),(.str "/claim/cut.py" 346)],
 kf 128 (ah 21) "_law_bad" (.str "law_layworld_k14_the_first_barred_three" 263) (.ref 127),
 kc 134 [(.str "_law_backs" 348),(.str "_law_backs" 349),(.str "/claim/cut.py" 350),(.int 100 0),(.int 2 0),(.int 0 0),(.int 0 0),(.int 3 0),(.ref 129),(.bool true),(.int 181 0),(.ref 130),.none,(.ref 131),(.ref 132),(.ref 133),(.int 354 0),(.int 100 0),(.str "/claim/cut.py" 355)],
 kf 135 (ah 22) "_law_backs" (.str "law_layworld_k14_the_first_barred_three" 263) (.ref 134),
 kc 139 [(.str "_law_rule_of" 357),(.str "_law_rule_of" 358),(.str "/claim/cut.py" 359),(.int 103 0),(.int 4 0),(.int 0 0),(.int 0 0),(.int 3 0),(.ref 136),(.bool true),(.int 181 0),(.ref 137),.none,.none,.none,(.ref 138),(.int 360 0),(.int 103 0),(.str "/claim/cut.py" 361)],
 kf 140 (ah 23) "_law_rule_of" (.str "law_layworld_k14_the_first_barred_three" 263) (.ref 139),
 kc 144 [(.str "_law_free_three" 363),(.str "_law_free_three" 364),(.str "/claim/cut.py" 365),(.int 107 0),(.int 3 0),(.int 0 0),(.int 0 0),(.int 3 0),(.ref 141),(.bool true),(.int 181 0),(.ref 142),.none,.none,.none,(.ref 143),(.int 366 0),(.int 107 0),(.str "/claim/cut.py" 367)],
 kf 145 (ah 24) "_law_free_three" (.str "law_layworld_k14_the_first_barred_three" 263) (.ref 144),
 kc 151 [(.str "_law_sizes" 369),(.str "_law_sizes" 370),(.str "/claim/cut.py" 371),(.int 112 0),(.int 1 0),(.int 0 0),(.int 0 0),(.int 3 0),(.ref 146),(.bool true),(.int 181 0),(.ref 147),.none,(.ref 148),(.ref 149),(.ref 150),(.int 374 0),(.int 112 0),(.str "/claim/cut.py" 375)],
 kf 152 (ah 25) "_law_sizes" (.str "law_layworld_k14_the_first_barred_three" 263) (.ref 151),
 kc 158 [(.str "_law_any_rule" 377),(.str "_law_any_rule" 378),(.str "/claim/cut.py" 379),(.int 115 0),(.int 1 0),(.int 0 0),(.int 0 0),(.int 3 0),(.ref 153),(.bool true),(.int 181 0),(.ref 154),.none,(.ref 155),(.ref 156),(.ref 157),(.int 386 0),(.int 115 0),(.str "/claim/cut.py" 387)],
 kf 159 (ah 26) "_law_any_rule" (.str "law_layworld_k14_the_first_barred_three" 263) (.ref 158),
 kc 165 [(.str "_law_laying_kind" 389),(.str "_law_laying_kind" 390),(.str "/claim/cut.py" 391),(.int 122 0),(.int 1 0),(.int 0 0),(.int 0 0),(.int 3 0),(.ref 160),(.bool true),(.int 181 0),(.ref 161),.none,(.ref 162),(.ref 163),(.ref 164),(.int 394 0),(.int 122 0),(.str "/claim/cut.py" 395)],
 kf 166 (ah 27) "_law_laying_kind" (.str "law_layworld_k14_the_first_barred_three" 263) (.ref 165),
 kc 172 [(.str "_law_breaks" 397),(.str "_law_breaks" 398),(.str "/claim/cut.py" 399),(.int 131 0),(.int 5 0),(.int 0 0),(.int 0 0),(.int 3 0),(.ref 167),(.bool true),(.int 181 0),(.ref 168),.none,(.ref 169),(.ref 170),(.ref 171),(.int 410 0),(.int 131 0),(.str "/claim/cut.py" 411)],
 kf 173 (ah 28) "_law_breaks" (.str "law_layworld_k14_the_first_barred_three" 263) (.ref 172),
 kc 177 [(.str "_law_numbered" 413),(.str "_law_numbered" 414),(.str "/claim/cut.py" 415),(.int 139 0),(.int 3 0),(.int 0 0),(.int 0 0),(.int 3 0),(.ref 174),(.bool true),(.int 181 0),(.ref 175),.none,.none,.none,(.ref 176),(.int 416 0),(.int 139 0),(.str "/claim/cut.py" 417)],
 kf 178 (ah 29) "_law_numbered" (.str "law_layworld_k14_the_first_barred_three" 263) (.ref 177),
 kc 184 [(.str "_law_laying_rule" 419),(.str "_law_laying_rule" 420),(.str "/claim/cut.py" 421),(.int 154 0),(.int 1 0),(.int 0 0),(.int 0 0),(.int 3 0),(.ref 179),(.bool true),(.int 181 0),(.ref 180),.none,(.ref 181),(.ref 182),(.ref 183),(.int 437 0),(.int 154 0),(.str "/claim/cut.py" 438)],
 kf 185 (ah 30) "_law_laying_rule" (.str "law_layworld_k14_the_first_barred_three" 263) (.ref 184),
 kc 189 [(.str "_law_rising" 440),(.str "_law_rising" 441),(.str "/claim/cut.py" 442),(.int 174 0),(.int 1 0),(.int 0 0),(.int 0 0),(.int 3 0),(.ref 186),(.bool true),(.int 181 0),(.ref 187),.none,.none,.none,(.ref 188),(.int 443 0),(.int 174 0),(.str "/claim/cut.py" 444)],
 kf 190 (ah 31) "_law_rising" (.str "law_layworld_k14_the_first_barred_three" 263) (.ref 189),
 kc 194 [(.str "_law_free_rule" 446),(.str "_law_free_rule" 447),(.str "/claim/cut.py" 448),(.int 180 0),(.int 1 0),(.int 0 0),(.int 0 0),(.int 3 0),(.ref 191),(.bool true),(.int 181 0),(.ref 192),.none,.none,.none,(.ref 193),(.int 449 0),(.int 180 0),(.str "/claim/cut.py" 450)],
 kf 195 (ah 32) "_law_free_rule" (.str "law_layworld_k14_the_first_barred_three" 263) (.ref 194),
 kc 199 [(.str "_law_one_way_rule" 452),(.str "_law_one_way_rule" 453),(.str "/claim/cut.py" 454),(.int 193 0),(.int 1 0),(.int 0 0),(.int 0 0),(.int 3 0),(.ref 196),(.bool true),(.int 181 0),(.ref 197),.none,.none,.none,(.ref 198),(.int 455 0),(.int 193 0),(.str "/claim/cut.py" 456)],
 kf 200 (ah 33) "_law_one_way_rule" (.str "law_layworld_k14_the_first_barred_three" 263) (.ref 199),
 kc 204 [(.str "_law_any_world" 458),(.str "_law_any_world" 459),(.str "/claim/cut.py" 460),(.int 197 0),(.int 3 0),(.int 0 0),(.int 0 0),(.int 3 0),(.ref 201),(.bool true),(.int 181 0),(.ref 202),.none,.none,.none,(.ref 203),(.int 461 0),(.int 197 0),(.str "/claim/cut.py" 462)],
 kf 205 (ah 34) "_law_any_world" (.str "law_layworld_k14_the_first_barred_three" 263) (.ref 204),
 kc 211 [(.str "_law_new_ways" 464),(.str "_law_new_ways" 465),(.str "/claim/cut.py" 466),(.int 203 0),(.int 6 0),(.int 0 0),(.int 0 0),(.int 3 0),(.ref 206),(.bool true),(.int 181 0),(.ref 207),.none,(.ref 208),(.ref 209),(.ref 210),(.int 478 0),(.int 203 0),(.str "/claim/cut.py" 479)],
 kf 212 (ah 35) "_law_new_ways" (.str "law_layworld_k14_the_first_barred_three" 263) (.ref 211),
 kc 218 [(.str "_law_world" 481),(.str "_law_world" 482),(.str "/claim/cut.py" 483),(.int 216 0),(.int 4 0),(.int 0 0),(.int 0 0),(.int 3 0),(.ref 213),(.bool true),(.int 181 0),(.ref 214),.none,(.ref 215),(.ref 216),(.ref 217),(.int 492 0),(.int 216 0),(.str "/claim/cut.py" 493)],
 kf 219 (ah 36) "_law_world" (.str "law_layworld_k14_the_first_barred_three" 263) (.ref 218),
 kc 223 [(.str "_law_alike" 495),(.str "_law_alike" 496),(.str "/claim/cut.py" 497),(.int 224 0),(.int 2 0),(.int 0 0),(.int 0 0),(.int 3 0),(.ref 220),(.bool true),(.int 181 0),(.ref 221),.none,.none,.none,(.ref 222),(.int 498 0),(.int 224 0),(.str "/claim/cut.py" 499)],
 kf 224 (ah 37) "_law_alike" (.str "law_layworld_k14_the_first_barred_three" 263) (.ref 223),
 kc 228 [(.str "_law_digits" 501),(.str "_law_digits" 502),(.str "/claim/cut.py" 503),(.int 236 0),(.int 2 0),(.int 0 0),(.int 0 0),(.int 3 0),(.ref 225),(.bool true),(.int 181 0),(.ref 226),.none,.none,.none,(.ref 227),(.int 504 0),(.int 236 0),(.str "/claim/cut.py" 505)],
 kf 229 (ah 38) "_law_digits" (.str "law_layworld_k14_the_first_barred_three" 263) (.ref 228),
 kc 233 [(.str "_law_worlds" 507),(.str "_law_worlds" 508),(.str "/claim/cut.py" 509),(.int 241 0),(.int 2 0),(.int 0 0),(.int 0 0),(.int 3 0),(.ref 230),(.bool true),(.int 181 0),(.ref 231),.none,.none,.none,(.ref 232),(.int 510 0),(.int 241 0),(.str "/claim/cut.py" 511)],
 kf 234 (ah 39) "_law_worlds" (.str "law_layworld_k14_the_first_barred_three" 263) (.ref 233),
 kc 238 [(.str "_law_figures" 513),(.str "_law_figures" 514),(.str "/claim/cut.py" 515),(.int 249 0),(.int 1 0),(.int 0 0),(.int 0 0),(.int 3 0),(.ref 235),(.bool true),(.int 181 0),(.ref 236),.none,.none,.none,(.ref 237),(.int 516 0),(.int 249 0),(.str "/claim/cut.py" 517)],
 kf 239 (ah 40) "_law_figures" (.str "law_layworld_k14_the_first_barred_three" 263) (.ref 238),
 kc 243 [(.str "_law_full_rule" 519),(.str "_law_full_rule" 520),(.str "/claim/cut.py" 521),(.int 251 0),(.int 1 0),(.int 0 0),(.int 0 0),(.int 3 0),(.ref 240),(.bool true),(.int 181 0),(.ref 241),.none,.none,.none,(.ref 242),(.int 522 0),(.int 251 0),(.str "/claim/cut.py" 523)],
 kf 244 (ah 41) "_law_full_rule" (.str "law_layworld_k14_the_first_barred_three" 263) (.ref 243),
 kc 250 [(.str "_law_first_barred" 525),(.str "_law_first_barred" 526),(.str "/claim/cut.py" 527),(.int 260 0),(.int 3 0),(.int 0 0),(.int 0 0),(.int 3 0),(.ref 245),(.bool true),(.int 181 0),(.ref 246),.none,(.ref 247),(.ref 248),(.ref 249),(.int 534 0),(.int 260 0),(.str "/claim/cut.py" 535)],
 kf 251 (ah 42) "_law_first_barred" (.str "law_layworld_k14_the_first_barred_three" 263) (.ref 250),
 kc 257 [(.str "_law_drawn" 537),(.str "_law_drawn" 538),(.str "/claim/cut.py" 539),(.int 267 0),(.int 4 0),(.int 0 0),(.int 0 0),(.int 3 0),(.ref 252),(.bool true),(.int 181 0),(.ref 253),.none,(.ref 254),(.ref 255),(.ref 256),(.int 547 0),(.int 267 0),(.str "/claim/cut.py" 548)],
 kf 258 (ah 43) "_law_drawn" (.str "law_layworld_k14_the_first_barred_three" 263) (.ref 257),
 kc 264 [(.str "law" 550),(.str "law" 551),(.str "/claim/cut.py" 552),(.int 276 0),(.int 1 0),(.int 0 0),(.int 0 0),(.int 3 0),(.ref 259),(.bool true),(.int 181 0),(.ref 260),.none,(.ref 261),(.ref 262),(.ref 263),(.int 560 0),(.int 276 0),(.str "/claim/cut.py" 561)],
 kf 265 (ah 44) "law" (.str "law_layworld_k14_the_first_barred_three" 263) (.ref 264)]
noncomputable def IR:Jf Jp:=[3,20,21,25,26,30,31,35,36,42,43,49,50,56,57,63,64,70,71,77,78,82,83,89,90,96,97,103,104,108,109,115,116,120,121,127,128,134,135,139,140,144,145,151,152,158,159,165,166,172,173,177,178,184,185,189,190,194,195,199,200,204,205,211,212,218,219,223,224,228,229,233,234,238,239,243,244,250,251,257,258,264,265]
noncomputable def vq:JY:={ pw with main:={ pw.main with body:=[ah 44] } }
noncomputable def lo:Jf JG:=[("way" : JG),("part" : JG),("point_over" : JG),("longer_orders" : JG),("barred_threes" : JG),("three_at" : JG),("first_barred" : JG),("first_three" : JG),("_law_flow" : JG),("_law_pick" : JG),("_law_letters" : JG),("_law_name" : JG),("_law_names" : JG),("_law_between" : JG),("_law_part" : JG),("_law_turns" : JG),("_law_figure" : JG),("_law_bad" : JG),("_law_backs" : JG),("_law_rule_of" : JG),("_law_free_three" : JG),("_law_sizes" : JG),("_law_any_rule" : JG),("_law_laying_kind" : JG),("_law_breaks" : JG),("_law_numbered" : JG),("_law_laying_rule" : JG),("_law_rising" : JG),("_law_free_rule" : JG),("_law_one_way_rule" : JG),("_law_any_world" : JG),("_law_new_ways" : JG),("_law_world" : JG),("_law_alike" : JG),("_law_digits" : JG),("_law_worlds" : JG),("_law_figures" : JG),("_law_full_rule" : JG),("_law_first_barred" : JG),("_law_drawn" : JG)]
theorem aG {K:Jv}{h:Kg}{mg:JG->Jn Jh}{x:JG}{st:L0}{df:Df}(a:Jp)(pm cd:Jh)(X:K.In h)(G:h.Ns mainGlobals mg)
  (b:BD x st df)
  (e:KS K mainGlobals x=ba (ba (.ref a))) (l:K.lookup a=ba (kf a st x pm cd).2) (c:Mq K cd x=true) (k:KZ K (.ref a)=true):al K mg x st df:=Ac X G b e l c k
theorem eK:∀P,IR=(K0 P).map (·.1):=λ_=>by kernel_rfl
noncomputable def hk:PySem.W.Hook:=PySem.W.kHook K0 IR eK
theorem hl:PySem.W.LeftO pw vq lo (λs=>RH vq [] s&&Rs [] s) hk.obs hk.val 2666:=λw=>by kernel_rfl
end
end Mi
end ZZ.Lean
open ZZ.Lean
theorem PySem.Challenge.cw_layworld_k14_the_first_barred_three_holds : PySem.Challenge.rw_layworld_k14_the_first_barred_three.Holds := by
 w_on
 refine PySem.W.holds_law (by kernel_rfl) (λsaid=>?_)
 refine PySem.W.holds_open (q:=Mi.vq) (loose:=Mi.lo) (Xt:=λs=>RH Mi.vq [] s&&Rs [] s) (XP:=PySem.W.XL Mi.vq []) (Yf:=Mi.hk.obs) (Ya:=Mi.hk.val) (YP:=Mi.hk.says) (N:=2666) Mi.hl Mi.hk.of Mi.hk.keeps (λs e=>PySem.W.xl_of s (O1.mp e).1) So (by rfl) (by rfl) (by rfl) (λs e=>PySem.W.recFacts_of (O1.mp e).2) (by rfl) said (by decide +kernel) ⟨rfl,rfl,rfl,rfl,rfl,by decide +kernel⟩ ?hw ?hc
 case hw=>w_witness2
 case hc=>
 refine Mi.IH (l:=Nm) (K:=Mi.K0) rfl rfl (λw h Y=>PySem.W.kIn_of Y) ?F
 case F=>
  intro w mg fa h KX G hmg;exact Mi.EZ KX G hmg (Mi.G1 KX G (by kernel_rfl) (by kernel_rfl) (by kernel_rfl) (by kernel_rfl) (by kernel_rfl) (by kernel_rfl) (by kernel_rfl) (by kernel_rfl) (by kernel_rfl) (by kernel_rfl) (by kernel_rfl) (by kernel_rfl) (by kernel_rfl))
   (Mi.aG 21 (.str "layworld.worlds" 187) (.ref 20) (x:="way") (st:=Mi.ah 1) (df:=Mi.ij) KX G Mi.EX (by kernel_rfl) (by kernel_rfl) (by kernel_rfl) (by kernel_rfl))
   (Mi.aG 26 (.str "layworld.parts" 199) (.ref 25) (x:="part") (st:=Mi.ah 3) (df:=Mi.fu) KX G Mi.Cp (by kernel_rfl) (by kernel_rfl) (by kernel_rfl) (by kernel_rfl))
   (Mi.aG 31 (.str "layworld.parts" 199) (.ref 30) (x:="point_over") (st:=Mi.ah 4) (df:=Mi.bw) KX G Mi.nr (by kernel_rfl) (by kernel_rfl) (by kernel_rfl) (by kernel_rfl))
   (Mi.aG 36 (.str "layworld.parts" 199) (.ref 35) (x:="longer_orders") (st:=Mi.ah 5) (df:=Mi.aO) KX G Mi.jX (by kernel_rfl) (by kernel_rfl) (by kernel_rfl) (by kernel_rfl))
   (Mi.aG 43 (.str "layworld.threes" 219) (.ref 42) (x:="barred_threes") (st:=Mi.ah 7) (df:=Mi.aP) KX G Mi.jY (by kernel_rfl) (by kernel_rfl) (by kernel_rfl) (by kernel_rfl))
   (Mi.aG 50 (.str "layworld.threes" 219) (.ref 49) (x:="three_at") (st:=Mi.ah 8) (df:=Mi.b6) KX G Mi.r4 (by kernel_rfl) (by kernel_rfl) (by kernel_rfl) (by kernel_rfl))
   (Mi.aG 57 (.str "layworld.threes" 219) (.ref 56) (x:="first_barred") (st:=Mi.ah 9) (df:=Mi.aU) KX G Mi.kM (by kernel_rfl) (by kernel_rfl) (by kernel_rfl) (by kernel_rfl))
   (Mi.aG 64 (.str "layworld.threes" 219) (.ref 63) (x:="first_three") (st:=Mi.ah 10) (df:=Mi.bh) KX G Mi.mx (by kernel_rfl) (by kernel_rfl) (by kernel_rfl) (by kernel_rfl))
   (Mi.aG 71 (.str "law_layworld_k14_the_first_barred_three" 263) (.ref 70) (x:="_law_flow") (st:=Mi.ah 12) (df:=Mi.bM) KX G Mi.pY (by kernel_rfl) (by kernel_rfl) (by kernel_rfl) (by kernel_rfl))
   (Mi.aG 78 (.str "law_layworld_k14_the_first_barred_three" 263) (.ref 77) (x:="_law_pick") (st:=Mi.ah 13) (df:=Mi.bN) KX G Mi.pZ (by kernel_rfl) (by kernel_rfl) (by kernel_rfl) (by kernel_rfl))
   (Mi.aG 83 (.str "law_layworld_k14_the_first_barred_three" 263) (.ref 82) (x:="_law_letters") (st:=Mi.ah 14) (df:=Mi.aV) KX G Mi.kN (by kernel_rfl) (by kernel_rfl) (by kernel_rfl) (by kernel_rfl))
   (Mi.aG 90 (.str "law_layworld_k14_the_first_barred_three" 263) (.ref 89) (x:="_law_name") (st:=Mi.ah 15) (df:=Mi.bO) KX G Mi.p4 (by kernel_rfl) (by kernel_rfl) (by kernel_rfl) (by kernel_rfl))
   (Mi.aG 97 (.str "law_layworld_k14_the_first_barred_three" 263) (.ref 96) (x:="_law_names") (st:=Mi.ah 16) (df:=Mi.bx) KX G Mi.nu (by kernel_rfl) (by kernel_rfl) (by kernel_rfl) (by kernel_rfl))
   (Mi.aG 104 (.str "law_layworld_k14_the_first_barred_three" 263) (.ref 103) (x:="_law_between") (st:=Mi.ah 17) (df:=Mi.aW) KX G Mi.kO (by kernel_rfl) (by kernel_rfl) (by kernel_rfl) (by kernel_rfl))
   (Mi.aG 109 (.str "law_layworld_k14_the_first_barred_three" 263) (.ref 108) (x:="_law_part") (st:=Mi.ah 18) (df:=Mi.bP) KX G Mi.p7 (by kernel_rfl) (by kernel_rfl) (by kernel_rfl) (by kernel_rfl))
   (Mi.aG 116 (.str "law_layworld_k14_the_first_barred_three" 263) (.ref 115) (x:="_law_turns") (st:=Mi.ah 19) (df:=Mi.bz) KX G Mi.nv (by kernel_rfl) (by kernel_rfl) (by kernel_rfl) (by kernel_rfl))
   (Mi.aG 121 (.str "law_layworld_k14_the_first_barred_three" 263) (.ref 120) (x:="_law_figure") (st:=Mi.ah 20) (df:=Mi.bj) KX G Mi.my (by kernel_rfl) (by kernel_rfl) (by kernel_rfl) (by kernel_rfl))
   (Mi.aG 128 (.str "law_layworld_k14_the_first_barred_three" 263) (.ref 127) (x:="_law_bad") (st:=Mi.ah 21) (df:=Mi.b7) KX G Mi.r6 (by kernel_rfl) (by kernel_rfl) (by kernel_rfl) (by kernel_rfl))
   (Mi.aG 135 (.str "law_layworld_k14_the_first_barred_three" 263) (.ref 134) (x:="_law_backs") (st:=Mi.ah 22) (df:=Mi.bA) KX G Mi.nw (by kernel_rfl) (by kernel_rfl) (by kernel_rfl) (by kernel_rfl))
   (Mi.aG 140 (.str "law_layworld_k14_the_first_barred_three" 263) (.ref 139) (x:="_law_rule_of") (st:=Mi.ah 23) (df:=Mi.aX) KX G Mi.kP (by kernel_rfl) (by kernel_rfl) (by kernel_rfl) (by kernel_rfl))
   (Mi.aG 145 (.str "law_layworld_k14_the_first_barred_three" 263) (.ref 144) (x:="_law_free_three") (st:=Mi.ah 24) (df:=Mi.aF) KX G Mi.iH (by kernel_rfl) (by kernel_rfl) (by kernel_rfl) (by kernel_rfl))
   (Mi.aG 152 (.str "law_layworld_k14_the_first_barred_three" 263) (.ref 151) (x:="_law_sizes") (st:=Mi.ah 25) (df:=Mi.bB) KX G Mi.ny (by kernel_rfl) (by kernel_rfl) (by kernel_rfl) (by kernel_rfl))
   (Mi.aG 159 (.str "law_layworld_k14_the_first_barred_three" 263) (.ref 158) (x:="_law_any_rule") (st:=Mi.ah 26) (df:=Mi.aQ) KX G Mi.jZ (by kernel_rfl) (by kernel_rfl) (by kernel_rfl) (by kernel_rfl))
   (Mi.aG 166 (.str "law_layworld_k14_the_first_barred_three" 263) (.ref 165) (x:="_law_laying_kind") (st:=Mi.ah 27) (df:=Mi.aA) KX G Mi.hG (by kernel_rfl) (by kernel_rfl) (by kernel_rfl) (by kernel_rfl))
   (Mi.aG 173 (.str "law_layworld_k14_the_first_barred_three" 263) (.ref 172) (x:="_law_breaks") (st:=Mi.ah 28) (df:=Mi.bm) KX G Mi.mz (by kernel_rfl) (by kernel_rfl) (by kernel_rfl) (by kernel_rfl))
   (Mi.aG 178 (.str "law_layworld_k14_the_first_barred_three" 263) (.ref 177) (x:="_law_numbered") (st:=Mi.ah 29) (df:=Mi.aR) KX G Mi.j3 (by kernel_rfl) (by kernel_rfl) (by kernel_rfl) (by kernel_rfl))
   (Mi.aG 185 (.str "law_layworld_k14_the_first_barred_three" 263) (.ref 184) (x:="_law_laying_rule") (st:=Mi.ah 30) (df:=Mi.aB) KX G Mi.hW (by kernel_rfl) (by kernel_rfl) (by kernel_rfl) (by kernel_rfl))
   (Mi.aG 190 (.str "law_layworld_k14_the_first_barred_three" 263) (.ref 189) (x:="_law_rising") (st:=Mi.ah 31) (df:=Mi.bn) KX G Mi.mB (by kernel_rfl) (by kernel_rfl) (by kernel_rfl) (by kernel_rfl))
   (Mi.aG 195 (.str "law_layworld_k14_the_first_barred_three" 263) (.ref 194) (x:="_law_free_rule") (st:=Mi.ah 32) (df:=Mi.aJ) KX G Mi.jj (by kernel_rfl) (by kernel_rfl) (by kernel_rfl) (by kernel_rfl))
   (Mi.aG 200 (.str "law_layworld_k14_the_first_barred_three" 263) (.ref 199) (x:="_law_one_way_rule") (st:=Mi.ah 33) (df:=Mi.ar) KX G Mi.gF (by kernel_rfl) (by kernel_rfl) (by kernel_rfl) (by kernel_rfl))
   (Mi.aG 205 (.str "law_layworld_k14_the_first_barred_three" 263) (.ref 204) (x:="_law_any_world") (st:=Mi.ah 34) (df:=Mi.aK) KX G Mi.jk (by kernel_rfl) (by kernel_rfl) (by kernel_rfl) (by kernel_rfl))
   (Mi.aG 212 (.str "law_layworld_k14_the_first_barred_three" 263) (.ref 211) (x:="_law_new_ways") (st:=Mi.ah 35) (df:=Mi.aS) KX G Mi.j4 (by kernel_rfl) (by kernel_rfl) (by kernel_rfl) (by kernel_rfl))
   (Mi.aG 219 (.str "law_layworld_k14_the_first_barred_three" 263) (.ref 218) (x:="_law_world") (st:=Mi.ah 36) (df:=Mi.bC) KX G Mi.nz (by kernel_rfl) (by kernel_rfl) (by kernel_rfl) (by kernel_rfl))
   (Mi.aG 224 (.str "law_layworld_k14_the_first_barred_three" 263) (.ref 223) (x:="_law_alike") (st:=Mi.ah 37) (df:=Mi.bD) KX G Mi.nA (by kernel_rfl) (by kernel_rfl) (by kernel_rfl) (by kernel_rfl))
   (Mi.aG 229 (.str "law_layworld_k14_the_first_barred_three" 263) (.ref 228) (x:="_law_digits") (st:=Mi.ah 38) (df:=Mi.bo) KX G Mi.mC (by kernel_rfl) (by kernel_rfl) (by kernel_rfl) (by kernel_rfl))
   (Mi.aG 234 (.str "law_layworld_k14_the_first_barred_three" 263) (.ref 233) (x:="_law_worlds") (st:=Mi.ah 39) (df:=Mi.bp) KX G Mi.mD (by kernel_rfl) (by kernel_rfl) (by kernel_rfl) (by kernel_rfl))
   (Mi.aG 239 (.str "law_layworld_k14_the_first_barred_three" 263) (.ref 238) (x:="_law_figures") (st:=Mi.ah 40) (df:=Mi.aY) KX G Mi.kQ (by kernel_rfl) (by kernel_rfl) (by kernel_rfl) (by kernel_rfl))
   (Mi.aG 244 (.str "law_layworld_k14_the_first_barred_three" 263) (.ref 243) (x:="_law_full_rule") (st:=Mi.ah 41) (df:=Mi.aL) KX G Mi.jl (by kernel_rfl) (by kernel_rfl) (by kernel_rfl) (by kernel_rfl))
   (Mi.aG 251 (.str "law_layworld_k14_the_first_barred_three" 263) (.ref 250) (x:="_law_first_barred") (st:=Mi.ah 42) (df:=Mi.au) KX G Mi.gG (by kernel_rfl) (by kernel_rfl) (by kernel_rfl) (by kernel_rfl))
   (Mi.aG 258 (.str "law_layworld_k14_the_first_barred_three" 263) (.ref 257) (x:="_law_drawn") (st:=Mi.ah 43) (df:=Mi.bE) KX G Mi.nB (by kernel_rfl) (by kernel_rfl) (by kernel_rfl) (by kernel_rfl))
   (f:=265) (oc:=.type "function") (od:=gV) (an:=gV) (osl:=#[]) (kV:=.none) (doc:=.none) (pm:=(.str "law_layworld_k14_the_first_barred_three" 263)) (cdv:=(.ref 264)) (ct:=.none) (by kernel_rfl) (by kernel_rfl) (by kernel_rfl) (by kernel_rfl)
